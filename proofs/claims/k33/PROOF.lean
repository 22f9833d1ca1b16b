import PyProof.Rows.All
import Wide.All
import OpenK.AllK
import Wide.FinOn
import PyProof.TypeEq
import HandS.ForMost
import HandS.Evl
import HandS.Wide
import HandS.WideBits
import HandS.Gcd
import HandS.Codes
import HandS.Conv
import HandS.IsInst
import HandS.More
import HandS.Walk
import HandS.Style
import PyProof.InstEq
import HandS.Sort
import KE.DataMinMax
import PyProof.ReprLen
import PyProof.Rows.RegStrFacts
import KE.KMathGC
import HandS.RevRange
import HandS.Deep
import KE.GoesEnum
import KE.GoesMore
import HandS.DictTup
import HandS.DictSubView
import KE.KDictWalk
import KE.KDictDisplayH
import KE.GoesZip
import HandS.TupAny
import PySem.Challenge.RW_newtables_k33_growth_guest_by_guest
set_option Elab.async false
set_option linter.all false
set_option maxRecDepth 100000
set_option maxHeartbeats 4000000
namespace Kit
open PySem PySem.Spec PyProof.Rows L2 Evl
/-! rules that the layer lacks -/
section
variable {X : Cx} {a b c d : Expr} {ta tb tc td : TE} {pos : Pos}
def CPowX (i j : Int) : Prop := 0 ≤ j ∧ (Builtin.Int.intBits i : Int) * j ≤ 2 ^ 27
theorem op_powX : OpR X (binaryOp .Pow) (rI CPowX fun i j => .int (i ^ j.toNat)) := opI fun _ _ _ _ _ _ _ hc q => pow_int hc.1 hc.2 q
/-- the types that are compared by == -/
def Meta (n : String) : Prop := ∀ s : Shared, s.TypeIs (.type n) "type"
def rEqTy : R2 := fun x y H Q => ∃ m n, x = .ty m ∧ y = .ty n ∧ Meta m ∧ Meta n ∧ Q (.bl (decide (m = n))) H
theorem op_eqTy : OpR X (compareOp .Eq) rEqTy := by
  intro pins s σ H x y v u Q I rx ry h
  obtain ⟨m, n, rfl, rfl, hm, hn, q⟩ := h
  cases (show v = Value.type m from rx)
  cases (show u = Value.type n from ry)
  by_cases e : m = n
  · subst e
    exact PySem.TypeEq.eq_type_same hm ⟨.bl true, H, I, rfl, by simpa using q⟩
  · exact PySem.TypeEq.eq_type_other hm hn (by rw [beq_eq_false_iff_ne]; exact fun z => e (Value.type.inj z)) ⟨.bl false, H, I, rfl, by simpa [e] using q⟩
/-- a op b op c op d -/
def tChain3 (r r' r'' : R2) (ta tb tc td : TE) : TE := fun σ H Q => ta σ H fun x H1 => tb σ H1 fun y H2 => r x y H2 fun z H3 => ∃ k, z = .bl k ∧
  (if k = true then tc σ H3 fun w' H4 => r' y w' H4 fun z' H5 => ∃ k', z' = .bl k' ∧ (if k' = true then td σ H5 fun w'' H6 => r'' w' w'' H6 Q else Q (.bl false) H5) else Q (.bl false) H3)
theorem pe_chain3 {op op' op'' : CmpOp} {r r' r'' : R2} (ho : OpR X (compareOp op) r) (ho' : OpR X (compareOp op') r') (ho'' : OpR X (compareOp op'') r'') (ha : PE X a ta) (hb : PE X b tb) (hc : PE X c tc) (hd : PE X d td)
    (hm : lastMarks [op, op', op''] [b, c, d] = false := by with_unfolding_all rfl) : PE X (.Compare a [op, op', op''] [b, c, d] pos) (tChain3 r r' r'' ta tb tc td) := by
  refine ⟨fun pins s σ H Q I h => ?_⟩
  refine Compare_chain (thn (ha.run pins s σ H _ I h) fun v s1 ⟨x, H1, I1, r1, q1⟩ => chain_link (thn (hb.run pins s1 σ H1 _ I1 q1) fun u s2 ⟨y, H2, I2, r2, q2⟩ =>
    thn (ho pins s2 σ H2 x y v u _ I2 r1 r2 q2) fun d s3 ⟨z, H3, I3, r3, k, e, q3⟩ => ?_)) hm
  subst e
  cases r3
  refine wpAny_truthy_bool ?_
  cases k with
  | false => exact ite_ff ⟨.bl false, H3, I3, rfl, q3⟩
  | true =>
    refine ite_tt (chain_link (thn (hc.run pins s3 σ H3 _ I3 q3) fun w' s4 ⟨z', H4, I4, r4, q4⟩ => thn (ho' pins s4 σ H4 y z' u w' _ I4 r2 r4 q4) fun d' s5 ⟨z5, H5, I5, r5, k5, e5, q5⟩ => ?_))
    subst e5
    cases r5
    refine wpAny_truthy_bool ?_
    cases k5 with
    | false => exact ite_ff ⟨.bl false, H5, I5, rfl, q5⟩
    | true => exact ite_tt (chain_last (thn (hd.run pins s5 σ H5 _ I5 q5) fun w6 s6 ⟨z6, H6, I6, r6, q6⟩ => ho'' pins s6 σ H6 z' z6 w' w6 Q I6 r4 r6 q6))
theorem pt_chain3 {op op' op'' : CmpOp} {r r' r'' : R2} (ho : OpR X (compareOp op) r) (ho' : OpR X (compareOp op') r') (ho'' : OpR X (compareOp op'') r'') (ha : PE X a ta) (hb : PE X b tb) (hc : PE X c tc) (hd : PE X d td)
    (hm : lastMarks [op, op', op''] [b, c, d] = false := by with_unfolding_all rfl) : PT X (.Compare a [op, op', op''] [b, c, d] pos) (tTest (tChain3 r r' r'' ta tb tc td)) := by
  refine ⟨fun pins s σ H Q I h => ?_⟩
  refine isTrue_chain (thn (ha.run pins s σ H _ I h) fun v s1 ⟨x, H1, I1, r1, q1⟩ => test_link (thn (hb.run pins s1 σ H1 _ I1 q1) fun u s2 ⟨y, H2, I2, r2, q2⟩ =>
    thn (ho pins s2 σ H2 x y v u _ I2 r1 r2 q2) fun d s3 ⟨z, H3, I3, r3, k, e, q3⟩ => ?_)) hm
  subst e
  cases r3
  refine wpAny_truthy_bool ?_
  cases k with
  | false =>
    obtain ⟨k', e', q'⟩ := q3
    cases e'
    exact ite_ff ⟨H3, I3, q'⟩
  | true =>
    refine ite_tt (test_link (thn (hc.run pins s3 σ H3 _ I3 q3) fun w' s4 ⟨z', H4, I4, r4, q4⟩ => thn (ho' pins s4 σ H4 y z' u w' _ I4 r2 r4 q4) fun d' s5 ⟨z5, H5, I5, r5, k5, e5, q5⟩ => ?_))
    subst e5
    cases r5
    refine wpAny_truthy_bool ?_
    cases k5 with
    | false =>
      obtain ⟨k', e', q'⟩ := q5
      cases e'
      exact ite_ff ⟨H5, I5, q'⟩
    | true =>
      refine ite_tt (test_last (thn (hd.run pins s5 σ H5 _ I5 q5) fun w6 s6 ⟨z6, H6, I6, r6, q6⟩ => thn (ho'' pins s6 σ H6 z' z6 w' w6 _ I6 r4 r6 q6) fun d7 s7 ⟨z7, H7, I7, r7, k7, e7, q7⟩ => ?_))
      subst e7
      cases r7
      exact wpAny_truthy_bool ⟨H7, I7, q7⟩
end
/-! f(k = v, ..): keywords alone -/
section
variable {X : Cx} {CX : CXT} {k : Nat} {f C : Addr} {fd : FuncData} {ps ks : List Str} {sp : Sp} {E : XK} {x m : Str} {p pos apos kpos : Pos} {kws : List Keyword} {tk : TA}
variable {g : List Value → List Value → List Value} {gV : List V → List V → List V}
theorem pe_callK0 (F : FnOk X.prog X.w X.K X.mg X.base CX k f fd ps sp) (hr : Room k X.A) (hg : Gl X x) (hm : X.mg x = some (.ref f)) (hk : PySem.W.keepIn X.K (.ref f) = true) (hb : KBinds X.K fd ps ks g gV) (hx : Passes CX X E)
    (hkw : PK X kws tk) (hall : (backToKw pos (keywordEach kws X.env)).all (·.1.isSome) = true := by rfl) (hks : (backToKw pos (keywordEach kws X.env)).filterMap (·.1) = ks := by rfl)
    (hdb : (x == ("__debug__" : Str)) = false := by decide)
    (hpl : ((backTo pos (starEach [] X.env)).any (·.1) || (backToKw pos (keywordEach kws X.env)).any (·.1.isNone)) = false := by rfl) :
    PE X (.Call (.Name x p) [] kws pos) (tCallK sp gV E tNil tk) := by
  refine ⟨fun pins s σ H Q I h => ?_⟩
  refine wpAny_Call_Name_kw (ld_glob I hg hm ?_ hdb)
  refine PySem.W.callWith_KW0 (h₀ := X.base) I.ok.mod.kin hk hall ?_ hpl
  refine thn (hkw.run pos pins s σ H _ I h) fun ws s2 ⟨zs, H2, I2, rz, q2⟩ => ⟨I2.kIn, ?_⟩
  rw [hks]
  exact run_fnk F hr hb hx I2 (us := []) (vs := []) .nil rz q2
end
theorem pe_gc {X : Cx} {x : Str} {pos : Pos} {v : V} (hg : Gl X x) (h : ∃ u, X.mg x = some u ∧ RelV v u) (hd : (x == ("__debug__" : Str)) = false := by decide) : PE X (.Name x pos) (tC v) := by
  obtain ⟨u, hm, r⟩ := h
  exact pe_glob hg hm r hd
/-! built-ins by name, with readings that have names -/
section
variable {X : Cx}
def rAbs : List V → Hp → VK → Prop := fun xs H Q => ∃ i, xs = [.int i] ∧ Q (.int (if i < 0 then -i else i)) H
def rMin2 : List V → Hp → VK → Prop := fun xs H Q => ∃ i j, xs = [.int i, .int j] ∧ Q (.int (if j < i then j else i)) H
def rIntI : List V → Hp → VK → Prop := fun xs H Q => ∃ i, xs = [.int i] ∧ Q (.int i) H
def rIntB : List V → Hp → VK → Prop := fun xs H Q => ∃ b, xs = [.bl b] ∧ Q (.int (if b then 1 else 0)) H
theorem call_absR : CallR X (.builtin "abs") rAbs := call_abs
theorem call_maxR (hc : X.calm = true) : CallR X (.builtin "max") rMax2 := call_max2 hc
theorem call_minR (hc : X.calm = true) : CallR X (.builtin "min") rMin2 := call_min2 hc
theorem call_intI : CallR X (.type "int") rIntI := by
  intro pins s σ H xs us Q I r h
  obtain ⟨i, e, q⟩ := h
  exact call_int1 pins s σ H xs us Q I r (.inl ⟨i, e, q⟩)
theorem call_intB : CallR X (.type "int") rIntB := by
  intro pins s σ H xs us Q I r h
  obtain ⟨i, e, q⟩ := h
  exact call_int1 pins s σ H xs us Q I r (.inr ⟨i, e, q⟩)
theorem call_lenR : CallR X (.builtin "len") (rLenS X.K) := call_len_seq
theorem call_listR : CallR X (.type "list") (rListS X.K) := call_list_of
def rTupS (K : PySem.W.Frag) : List V → Hp → VK → Prop := fun xs H Q => ∃ p ys, xs = [.ref p] ∧ SqL K H p ys ∧ ∀ l, H l = none → Q (.ref l) (upd H l (.tup ys))
theorem call_tupR : CallR X (.type "tuple") (rTupS X.K) := by
  intro pins s σ H xs us Q I r h
  obtain ⟨p, ys, e, hs, q⟩ := h
  exact call_tuple_of pins s σ H xs us Q I r ⟨p, ys, e, .inl ⟨hs, q⟩⟩
def rIsN1 : R2 := fun x y H Q => y = .non ∧ Q (.bl (decide (x = .non))) H
def rNotN1 : R2 := fun x y H Q => y = .non ∧ Q (.bl (!decide (x = .non))) H
theorem op_isNR : OpR X (compareOp .Is) rIsN1 := op_isN
theorem op_notNR : OpR X (compareOp .IsNot) rNotN1 := op_notN
end
/-! evaluations of these -/
section
variable {K : PySem.W.Frag} {σ : L2.St} {H H' : Hp} {ta tb tc td te : TE} {x y z v : V} {r : R2} {i j : Int}
theorem ev_abs (h : Ev ta σ H (.int i)) : Ev (tCB rAbs (tCons ta tNil)) σ H (.int (if i < 0 then -i else i)) := fun H1 e Q q => h H1 e _ fun H2 e2 => ⟨i, rfl, q H2 e2⟩
theorem ev_min2 (ha : Ev ta σ H (.int i)) (hb : Ev tb σ H (.int j)) : Ev (tCB rMin2 (tCons ta (tCons tb tNil))) σ H (.int (if j < i then j else i)) := fun H1 e Q q =>
  ha H1 e _ fun H2 e2 => hb H2 (e.trans e2) _ fun H3 e3 => ⟨i, j, rfl, q H3 (e2.trans e3)⟩
theorem ev_intI (h : Ev ta σ H (.int i)) : Ev (tCB rIntI (tCons ta tNil)) σ H (.int i) := fun H1 e Q q => h H1 e _ fun H2 e2 => ⟨i, rfl, q H2 e2⟩
theorem ev_intB {b : Bool} (h : Ev ta σ H (.bl b)) : Ev (tCB rIntB (tCons ta tNil)) σ H (.int (if b then 1 else 0)) := fun H1 e Q q => h H1 e _ fun H2 e2 => ⟨b, rfl, q H2 e2⟩
theorem rv_isN : RV rIsN1 x .non H (.bl (decide (x = .non))) := fun H1 _ _ q => ⟨rfl, q H1 (Ex.refl H1)⟩
theorem rv_notN : RV rNotN1 x .non H (.bl (!decide (x = .non))) := fun H1 _ _ q => ⟨rfl, q H1 (Ex.refl H1)⟩
theorem ev_chain {r r' : R2} {k : Bool} {k' : Bool} (ha : Ev ta σ H x) (hb : Ev tb σ H y) (hr : RV r x y H (.bl k)) (hc : k = true → ∃ z, Ev tc σ H z ∧ RV r' y z H (.bl k')) : Ev (tChain r r' ta tb tc) σ H (.bl (k && k')) := fun H1 e Q q =>
  ha H1 e _ fun H2 e2 => hb H2 (e.trans e2) _ fun H3 e3 => hr H3 ((e.trans e2).trans e3) _ fun H4 e4 => ⟨k, rfl, by
    cases k with
    | true =>
      obtain ⟨z, h1, h2⟩ := hc rfl
      exact h1 H4 (((e.trans e2).trans e3).trans e4) _ fun H5 e5 => h2 H5 ((((e.trans e2).trans e3).trans e4).trans e5) _ fun H6 e6 => q H6 ((((e2.trans e3).trans e4).trans e5).trans e6)
    | false => exact q H4 ((e2.trans e3).trans e4)⟩
theorem ev_chainI {C C' : Int → Int → Bool} {i j l : Int} (ha : Ev ta σ H (.int i)) (hb : Ev tb σ H (.int j)) (hc : Ev tc σ H (.int l)) :
    Ev (tChain (rI0 fun i j => .bl (C i j)) (rI0 fun i j => .bl (C' i j)) ta tb tc) σ H (.bl (C i j && C' j l)) := ev_chain ha hb rv_I0 fun _ => ⟨_, hc, rv_I0⟩
theorem ev_chain3I {C C' C'' : Int → Int → Bool} {i j l m : Int} (ha : Ev ta σ H (.int i)) (hb : Ev tb σ H (.int j)) (hc : Ev tc σ H (.int l)) (hd : Ev td σ H (.int m)) :
    Ev (tChain3 (rI0 fun i j => .bl (C i j)) (rI0 fun i j => .bl (C' i j)) (rI0 fun i j => .bl (C'' i j)) ta tb tc td) σ H (.bl (C i j && (C' j l && C'' l m))) := fun H1 e Q q =>
  ha H1 e _ fun H2 e2 => hb H2 (e.trans e2) _ fun H3 e3 => ⟨i, j, rfl, rfl, C i j, rfl, by
    have e23 := e2.trans e3
    generalize C i j = k1 at q ⊢
    cases k1 with
    | false => exact q H3 e23
    | true =>
      refine hc H3 (e.trans e23) _ fun H4 e4 => ⟨j, l, rfl, rfl, C' j l, rfl, ?_⟩
      generalize C' j l = k2 at q ⊢
      cases k2 with
      | false => exact q H4 (e23.trans e4)
      | true => exact hd H4 ((e.trans e23).trans e4) _ fun H5 e5 => ⟨l, m, rfl, rfl, q H5 ((e23.trans e4).trans e5)⟩⟩
theorem rv_eqTy {m n : String} (hm : Meta m) (hn : Meta n) : RV rEqTy (.ty m) (.ty n) H (.bl (decide (m = n))) := fun H1 _ _ q => ⟨m, n, rfl, rfl, hm, hn, q H1 (Ex.refl H1)⟩
theorem ev_typeI (h : Ev ta σ H (.int i)) : Ev (tThenZ ta kTyp) σ H (.ty "int") := fun H1 e Q q => h H1 e _ fun H2 e2 => ⟨"int", rfl, q H2 e2⟩
/-- a tuple that was made is read as two names -/
theorem s_tup2 {D : Ends} {i j : Nat} {p : Addr} (ha : Ev ta σ H (.ref p)) (hp : SqT K H p [x, y]) (k : ∀ H1, Ex H H1 → D.nx ((σ.set i (some x)).set j (some y)) H1) : tAsg ta (gTup K 2 (gCons (gName i) (gCons (gName j) gNil))) D σ H :=
  ha H (Ex.refl H) _ fun H1 e => ⟨p, [x, y], rfl, ex_t e hp, rfl, x, [y], rfl, y, [], rfl, rfl, k H1 e⟩
end
/-- a new tuple that is handed back -/
def RetU (xs : List V) (H : Hp) (Q : VK) : Prop := ∀ p H2, H p = none → Ex H H2 → H2 p = some (.tup xs) → Q (.ref p) H2
def SpU (sp : Sp) (vs : List V) (H : Hp) (xs : List V) : Prop := ∀ H1, Ex H H1 → ∀ Q : VK, (∀ p H2, H1 p = none → Ex H1 H2 → H2 p = some (.tup xs) → Q (.ref p) H2) → ∀ E : XK, sp vs H1 Q E
section
variable {K : PySem.W.Frag} {σ : L2.St} {H : Hp}
theorem eu_call {sp : Sp} {dvs vs xs : List V} {E : XK} {ta : TA} (h : EvA ta σ H vs) (hs : SpU sp (vs ++ dvs) H xs) : EvU (tCall sp dvs E ta) σ H xs := fun H1 e Q q =>
  h H1 e _ fun H2 e2 => hs H2 (e.trans e2) Q (fun p H3 hp e3 h3 => q p H3 (fresh_back e2 hp) (e2.trans e3) h3) E
/-- a, b = f(..), f's answer a new tuple -/
theorem s_tup2U {te : TE} {D : Ends} {i j : Nat} {x y : V} (ha : EvU te σ H [x, y]) (k : ∀ H1, Ex H H1 → D.nx ((σ.set i (some x)).set j (some y)) H1) : tAsg te (gTup K 2 (gCons (gName i) (gCons (gName j) gNil))) D σ H :=
  ha H (Ex.refl H) _ fun p H1 _ e h1 => ⟨p, [x, y], rfl, st_of h1, rfl, x, [y], rfl, y, [], rfl, rfl, k H1 e⟩
theorem q_tup2U {te : TE} {tz : TS} {D : Ends} {i j : Nat} {x y : V} (ha : EvU te σ H [x, y]) (k : ∀ H1, Ex H H1 → tz D ((σ.set i (some x)).set j (some y)) H1) : tSeq (tAsg te (gTup K 2 (gCons (gName i) (gCons (gName j) gNil)))) tz D σ H := s_tup2U (D := { D with nx := tz D }) ha k
theorem q_tup2 {ta : TE} {tz : TS} {D : Ends} {i j : Nat} {p : Addr} {x y : V} (ha : Ev ta σ H (.ref p)) (hp : SqT K H p [x, y]) (k : ∀ H1, Ex H H1 → tz D ((σ.set i (some x)).set j (some y)) H1) : tSeq (tAsg ta (gTup K 2 (gCons (gName i) (gCons (gName j) gNil)))) tz D σ H := s_tup2 (D := { D with nx := tz D }) ha hp k
/-- a, b = x, y -/
theorem s_par {ta : TA} {D : Ends} {i j : Nat} {x y : V} (ha : EvA ta σ H [x, y]) (k : ∀ H1, Ex H H1 → D.nx ((σ.set i (some x)).set j (some y)) H1) : tPar i j ta D σ H := ha H (Ex.refl H) _ fun H1 e => ⟨x, y, rfl, k H1 e⟩
theorem q_par {ta : TA} {tz : TS} {D : Ends} {i j : Nat} {x y : V} (ha : EvA ta σ H [x, y]) (k : ∀ H1, Ex H H1 → tz D ((σ.set i (some x)).set j (some y)) H1) : tSeq (tPar i j ta) tz D σ H := s_par (D := { D with nx := tz D }) ha k
end
theorem natAbs_pow_le {b : Int} {k : Nat} (h : b.natAbs < 2 ^ k) (n : Nat) : (b ^ n).natAbs ≤ 2 ^ (k * n) := by
  rw [Int.natAbs_pow, Nat.pow_mul]
  exact Nat.pow_le_pow_left (Nat.le_of_lt h) n
theorem lt_of_le2 {x k : Nat} (h : x ≤ 2 ^ k) : x < 2 ^ (k + 1) := Nat.lt_of_le_of_lt h (Nat.pow_lt_pow_right (by decide) (Nat.lt_succ_self k))
theorem lt2_mono {x k m : Nat} (h : x < 2 ^ k) (e : k ≤ m) : x < 2 ^ m := Nat.lt_of_lt_of_le h (Nat.pow_le_pow_right (by decide) e)
theorem natAbs_mul_lt {a b : Int} {k m : Nat} (ha : a.natAbs < 2 ^ k) (hb : b.natAbs < 2 ^ m) : (a * b).natAbs < 2 ^ (k + m) := wide_lt ha hb
/-! comprehensions -/
section
variable {K : PySem.W.Frag} {σ : L2.St} {H : Hp} {te tl : TE} {t : TT}
theorem et_yes : EvT tYes σ H true := fun H1 _ _ q => q H1 (Ex.refl H1)
theorem given_map {xs : List V} {F : V → V} : given xs.length (fun _ => true) (fun i => F (xs.getD i .non)) = xs.map F := by
  unfold given
  rw [List.filter_eq_self.mpr (fun _ _ => rfl)]
  refine List.ext_getElem (by simp) fun i h1 h2 => ?_
  simp at h1
  simp [h1]
/-- [e for x in xs] -/
theorem el_map {a : Addr} {xs : List V} {j : Nat} {vs : List Nat} (F : V → V) (h : Ev tl σ H (.ref a)) (hx : SqL K H a xs) (hz : xs.length ≤ 40000) (hw : ∀ x, wipe ((wipe σ vs).set j (some x)) vs = wipe σ vs)
    (he : ∀ (i : Nat) (x : V) H1, Ex H H1 → xs[i]? = some x → Ev te ((wipe σ vs).set j (some x)) H1 (F x)) : EvL (tLc (iList K tl) (gName j) tYes te vs) σ H (xs.map F) := by
  rw [← given_map]
  refine el_lcL _ _ h hx hz hw (fun _ _ _ _ _ => et_yes) fun i x H1 e hi _ => ?_
  have q := he i x H1 e hi
  have g : xs.getD i .non = x := by rw [List.getD_eq_getElem?_getD, hi] <;> rfl
  show Ev _ _ _ (F (xs.getD i .non))
  rw [g]
  exact q
theorem el_mapN {xs : List V} {j : Nat} {vs : List Nat} (F : V → V) (h : EvL tl σ H xs) (hz : xs.length ≤ 40000) (hw : ∀ x, wipe ((wipe σ vs).set j (some x)) vs = wipe σ vs)
    (he : ∀ (i : Nat) (x : V) H1, Ex H H1 → xs[i]? = some x → Ev te ((wipe σ vs).set j (some x)) H1 (F x)) : EvL (tLc (iList K tl) (gName j) tYes te vs) σ H (xs.map F) := by
  rw [← given_map]
  refine el_lcNL _ _ h hz hw (fun _ _ _ _ _ => et_yes) fun i x H1 e hi _ => ?_
  have q := he i x H1 e hi
  have g : xs.getD i .non = x := by rw [List.getD_eq_getElem?_getD, hi] <;> rfl
  show Ev _ _ _ (F (xs.getD i .non))
  rw [g]
  exact q
/-- [e for x in range(lo, hi) if t] -/
theorem el_lcR2 {ta : TA} {j : Nat} {vs : List Nat} {lo n : Int} (f : Nat → Bool) (v : Nat → V) (h : EvA ta σ H [.int lo, .int n]) (hn : 0 ≤ lo ∧ lo ≤ 40000 ∧ -40000 ≤ n ∧ n ≤ 40000) (hw : ∀ x, wipe ((wipe σ vs).set j (some x)) vs = wipe σ vs)
    (ht : ∀ (i : Nat) H1, Ex H H1 → lo + (i : Int) < n → EvT t ((wipe σ vs).set j (some (.int (lo + (i : Int))))) H1 (f i)) (he : ∀ (i : Nat) H1, Ex H H1 → lo + (i : Int) < n → f i = true → Ev te ((wipe σ vs).set j (some (.int (lo + (i : Int))))) H1 (v i)) :
    EvL (tLc (iRng2 ta) (gName j) t te vs) σ H (given (n - lo).toNat f v) := fun H0 e Q q => h H0 e _ fun H1 e1 => ⟨lo, n, rfl, ⟨by omega, by omega, by omega, by omega⟩, fun Dl hD =>
  lc_range (lo := lo) (n := (n - lo).toNat) (Cw H1 f v Dl) ⟨hD, Ex.new hD, upd_same⟩ (fun i H' hi p =>
    ⟨hw _, cw_turn p (by omega) (ht i H1 (e.trans e1) (by omega)) (fun hf => he i H1 (e.trans e1) (by omega) hf)⟩) (fun H' p => q Dl H' (fresh_back e1 p.1) (e1.trans p.2.1) p.2.2)⟩
theorem given_none {n : Nat} {f : Nat → Bool} {v : Nat → V} (h : ∀ i, i < n → f i = false) : given n f v = [] := by
  unfold given
  rw [List.filter_eq_nil_iff.mpr (fun i hi => by simp [h i (List.mem_range.mp hi)])]
  rfl
/-- xs + ys, both new -/
theorem el_cat {ta tb : TE} {xs ys : List V} (ha : EvL ta σ H xs) (hb : EvL tb σ H ys) (hl : xs.length + ys.length ≤ 100000) : EvL (tOp rCat ta tb) σ H (xs ++ ys) := fun H1 e Q q =>
  ha H1 e _ fun p H2 hp e2 h2 => hb H2 (e.trans e2) _ fun p' H3 hp' e3 h3 =>
    ⟨p, p', xs, ys, rfl, rfl, e3 p _ h2, h3, sz_of hl, fun l hl' => q l _ (fresh_back (e2.trans e3) hl') ((e2.trans e3).trans (Ex.new hl')) upd_same⟩
/-- [e for x, y in zip(xs, ys)] -/
theorem el_zip {ta : TA} {i j : Nat} {vs : List Nat} {a b : Addr} {xs ys : List V} (F : V → V → V) (h : EvA ta σ H [.ref a, .ref b]) (hx : SqL K H a xs) (hy : SqL K H b ys) (hl : xs.length = ys.length) (hz : xs.length ≤ 40000)
    (hw : ∀ x y, wipe (((wipe σ vs).set i (some x)).set j (some y)) vs = wipe σ vs)
    (he : ∀ (n : Nat) x y H1, Ex H H1 → xs[n]? = some x → ys[n]? = some y → Ev te (((wipe σ vs).set i (some x)).set j (some y)) H1 (F x y)) :
    EvL (tLc (iZip K ta) (gTup K 2 (gCons (gName i) (gCons (gName j) gNil))) tYes te vs) σ H (List.zipWith F xs ys) := fun H0 e Q q => h H0 e _ fun H1 e1 => ⟨a, b, xs, ys, rfl, ex_l (e.trans e1) hx, ex_l (e.trans e1) hy, fun Dl hD => by
  refine lc_it (walk_zip (n := xs.length) (by omega)) (fun n H' => Ex H1 H' ∧ H' Dl = some (.lst ((List.zipWith F xs ys).take n))) ⟨Ex.new hD, upd_same⟩ (fun n H' _ p => ⟨ex_l ((e.trans e1).trans p.1) hx, ex_l ((e.trans e1).trans p.1) hy⟩) ?_ fun H' p => ?_
  · rintro n v Hh H' hn ⟨p1, p2⟩ ⟨T, x, y, rfl, nT, rfl, g1, g2⟩
    have eT : Ex Hh (upd Hh T (.tup [x, y])) := Ex.new nT
    refine ⟨T, [x, y], rfl, st_of upd_same, rfl, x, [y], rfl, y, [], rfl, rfl, hw x y, ?_⟩
    show te _ _ _
    refine he n x y H1 (e.trans e1) g1 g2 _ (p1.trans eT) _ fun H4 e4 => ?_
    have k2 := e4 Dl _ (eT Dl _ p2)
    refine ⟨_, k2, sz_lt (by rw [List.length_take]; omega), Ex.mut (p1.trans (eT.trans e4)) hD, ?_⟩
    rw [upd_same]
    have gz : (List.zipWith F xs ys)[n]? = some (F x y) := by
      rw [List.getElem?_zipWith, show xs[n]? = some x from g1, show ys[n]? = some y from g2]
    rw [List.take_add_one, gz]
    rfl
  · obtain ⟨p1, p2⟩ := p
    rw [List.take_of_length_le (by rw [List.length_zipWith]; omega)] at p2
    exact q Dl H' (fresh_back e1 hD) (e1.trans p1) p2⟩
theorem ev_gcd {ta tb : TE} {a b : Int} (ha : Ev ta σ H (.int a)) (hb : Ev tb σ H (.int b)) : Ev (tCB rGcd (tCons ta (tCons tb tNil))) σ H (.int ((Nat.gcd a.natAbs b.natAbs : Nat) : Int)) := fun H1 e Q q =>
  ha H1 e _ fun H2 e2 => hb H2 (e.trans e2) _ fun H3 e3 => ⟨a, b, rfl, q H3 (e2.trans e3)⟩
end
/-! data, compared by == -/
section
variable {K : PySem.W.Frag} {σ : L2.St} {H H' : Hp}
mutual
theorem Dp.ex (e : Ex H H') : ∀ (d : PyData) (v : V), Dp K H v d → Dp K H' v d
  | .none, _, h => by cases h; exact .non
  | .bool _, _, h => by cases h; exact .bl _
  | .int _, _, h => by cases h; exact .int _
  | .str _, _, h => by cases h; exact .str _
  | .list ds, _, h => by
    cases h with
    | lst hs ha => exact .lst (ex_l e hs) (DpAll.ex e ds _ ha)
  | .tuple ds, _, h => by
    cases h with
    | tup hs ha => exact .tup (ex_t e hs) (DpAll.ex e ds _ ha)
  | .dict _, _, h => by cases h
theorem DpAll.ex (e : Ex H H') : ∀ (ds : List PyData) (vs : List V), DpAll K H vs ds → DpAll K H' vs ds
  | [], _, h => by cases h; exact .nil
  | d :: ds, _, h => by
    cases h with
    | cons h1 h2 => exact .cons (Dp.ex e d _ h1) (DpAll.ex e ds _ h2)
end
theorem DpAll.len : ∀ {ds : List PyData} {vs : List V}, DpAll K H vs ds → vs.length = ds.length
  | [], _, h => by cases h; rfl
  | d :: ds, _, h => by
    cases h with
    | cons h1 h2 => simp [DpAll.len h2]
def EvD (K : PySem.W.Frag) (te : TE) (σ : L2.St) (H : Hp) (d : PyData) : Prop := ∀ H1, Ex H H1 → ∀ Q : VK, (∀ v H2, Ex H1 H2 → Dp K H2 v d → Q v H2) → te σ H1 Q
def EvDA (K : PySem.W.Frag) (ta : TA) (σ : L2.St) (H : Hp) (ds : List PyData) : Prop := ∀ H1, Ex H H1 → ∀ Q : List V → Hp → Prop, (∀ vs H2, Ex H1 H2 → DpAll K H2 vs ds → Q vs H2) → ta σ H1 Q
variable {te ta tb : TE} {d e : PyData} {ds : List PyData}
theorem ed_of {v : V} (h : Ev te σ H v) (k : Dp K H v d) : EvD K te σ H d := fun H1 e1 Q q => h H1 e1 Q fun H2 e2 => q v H2 e2 (Dp.ex (e1.trans e2) d v k)
theorem ed_int {i : Int} (h : Ev te σ H (.int i)) : EvD K te σ H (.int i) := ed_of h (.int i)
theorem ed_bl {i : Bool} (h : Ev te σ H (.bl i)) : EvD K te σ H (.bool i) := ed_of h (.bl i)
theorem ed_non (h : Ev te σ H .non) : EvD K te σ H .none := ed_of h .non
theorem ed_str {i : Str} (h : Ev te σ H (.str i)) : EvD K te σ H (.str i) := ed_of h (.str i)
theorem eda_nil : EvDA K tNil σ H [] := fun H1 _ _ q => q [] H1 (Ex.refl H1) .nil
theorem eda_cons {tr : TA} (h : EvD K te σ H d) (hr : EvDA K tr σ H ds) : EvDA K (tCons te tr) σ H (d :: ds) := fun H1 e _ q =>
  h H1 e _ fun v H2 e2 dv => hr H2 (e.trans e2) _ fun vs H3 e3 dvs => q (v :: vs) H3 (e2.trans e3) (.cons (Dp.ex e3 d v dv) dvs)
theorem ed_lst {t : TA} (h : EvDA K t σ H ds) (hl : ds.length ≤ 100000) : EvD K (tLst t) σ H (.list ds) := fun H1 e _ q =>
  h H1 e _ fun vs H2 e2 dv => ⟨sz_of (by rw [DpAll.len dv]; exact hl), fun p hp => q _ _ (e2.trans (Ex.new hp)) (.lst (sq_of upd_same) (DpAll.ex (Ex.new hp) ds vs dv))⟩
theorem ed_tup {t : TA} (h : EvDA K t σ H ds) (hl : ds.length ≤ 100000) : EvD K (tTup t) σ H (.tuple ds) := fun H1 e _ q =>
  h H1 e _ fun vs H2 e2 dv => ⟨sz_of (by rw [DpAll.len dv]; exact hl), fun p hp => q _ _ (e2.trans (Ex.new hp)) (.tup (st_of upd_same) (DpAll.ex (Ex.new hp) ds vs dv))⟩
theorem ed_ofL {xs : List V} (h : EvL te σ H xs) (k : DpAll K H xs ds) : EvD K te σ H (.list ds) := fun H1 e1 Q q => h H1 e1 Q fun p H2 _ e2 h2 => q _ H2 e2 (.lst (sq_of h2) (DpAll.ex (e1.trans e2) ds xs k))
theorem ed_ofU {xs : List V} (h : EvU te σ H xs) (k : DpAll K H xs ds) : EvD K te σ H (.tuple ds) := fun H1 e1 Q q => h H1 e1 Q fun p H2 _ e2 h2 => q _ H2 e2 (.tup (st_of h2) (DpAll.ex (e1.trans e2) ds xs k))
theorem dpa_ints : ∀ ns : List Int, DpAll K H (ns.map V.int) (ns.map PyData.int)
  | [] => .nil
  | n :: r => .cons (.int n) (dpa_ints r)
theorem ev_eqD (ha : EvD K ta σ H d) (hb : EvD K tb σ H e) (sd : SeqAt.shaped d = true) (se : SeqAt.shaped e = true) : Ev (tOp (rEqD K) ta tb) σ H (.bl (PyData.eqv d e)) := fun H1 e1 Q q =>
  ha H1 e1 _ fun v H2 e2 dv => hb H2 (e1.trans e2) _ fun u H3 e3 du => ⟨d, e, Dp.ex e3 d v dv, du, sd, se, q H3 (e2.trans e3)⟩
theorem ev_neD (ha : EvD K ta σ H d) (hb : EvD K tb σ H e) (sd : SeqAt.shaped d = true) (se : SeqAt.shaped e = true) : Ev (tOp (rNeD K) ta tb) σ H (.bl (!PyData.eqv d e)) := fun H1 e1 Q q =>
  ha H1 e1 _ fun v H2 e2 dv => hb H2 (e1.trans e2) _ fun u H3 e3 du => ⟨d, e, Dp.ex e3 d v dv, du, sd, se, q H3 (e2.trans e3)⟩
theorem shaped_ints : ∀ ns : List Int, SeqAt.shaped (.list (ns.map PyData.int)) = true := fun ns => by
  have h1 : ∀ ms : List Int, PyData.canLayAll0 (ms.map PyData.int) = true := fun ms => by
    induction ms with
    | nil => rfl
    | cons m r ih => simp [PyData.canLayAll0, PyData.canLay0, ih]
  have h2 : ∀ ms : List Int, PyData.depthAll (ms.map PyData.int) = 0 := fun ms => by
    induction ms with
    | nil => rfl
    | cons m r ih => simp [PyData.depthAll, PyData.depth, ih]
  simp [SeqAt.shaped, PyData.canLay0, h1, PyData.depth, h2]
theorem eqv_same {d : PyData} (h : SeqAt.shaped d = true) : PyData.eqv d d = true := by
  have h1 : PyData.canLay0 d = true := (Bool.and_eq_true_iff.mp h).1
  first
    | exact PySem.P3.eqv_refl d h1
    | exact PyData.eqv_refl d h1
    | exact PySem.SeqAt.eqv_refl d h1
/-- f(k = v): a new tuple back -/
theorem eu_callK {sp : Sp} {gV : List V → List V → List V} {E : XK} {t tk : TA} {vs zs xs : List V} (h : EvA t σ H vs) (hk : EvA tk σ H zs) (hs : SpU sp (gV vs zs) H xs) : EvU (tCallK sp gV E t tk) σ H xs := fun H1 e Q q =>
  h H1 e _ fun H2 e2 => hk H2 (e.trans e2) _ fun H3 e3 => hs H3 ((e.trans e2).trans e3) Q (fun p H4 hp e4 h4 => q p H4 (fresh_back (e2.trans e3) hp) ((e2.trans e3).trans e4) h4) E
theorem ev_callK {sp : Sp} {gV : List V → List V → List V} {E : XK} {t tk : TA} {vs zs : List V} {z : V} (h : EvA t σ H vs) (hk : EvA tk σ H zs) (hs : SpV sp (gV vs zs) H z) : Ev (tCallK sp gV E t tk) σ H z := fun H1 e Q q =>
  h H1 e _ fun H2 e2 => hk H2 (e.trans e2) _ fun H3 e3 => hs H3 ((e.trans e2).trans e3) Q (fun H4 e4 => q H4 ((e2.trans e3).trans e4)) E
/-- isinstance(x, tuple) of a tuple; len of a tuple -/
theorem ev_isT {p : Addr} {xs : List V} {n : String} {b : Bool} (h : Ev ta σ H (.ref p)) (hp : H p = some (.tup xs)) (hk : PySem.W.kitOne K (.type "tuple") (.type n) = some b) : Ev (tCB (rIsi K) (tCons ta (tCons (tC (.ty n)) tNil))) σ H (.bl b) := fun H1 e Q q =>
  h H1 e _ fun H2 e2 => ⟨.ref p, .ty n, .type "tuple", .type n, b, rfl, .ty n, .base (.tup (e2 p _ (e p _ hp))), hk, q H2 e2⟩
theorem ev_lenT {p : Addr} {xs : List V} (ha : Ev ta σ H (.ref p)) (h : SqT K H p xs) : Ev (tCB (rLenS K) (tCons ta tNil)) σ H (.int (xs.length : Int)) := fun H1 e Q q =>
  ha H1 e _ fun H2 e2 => ⟨p, xs, rfl, Or.inr (ex_t (e.trans e2) h), q H2 e2⟩
/-- list(range(a, b)) -/
theorem el_rg2 {a b : Int} (ha : Ev ta σ H (.int a)) (hb : Ev tb σ H (.int b)) (h : RgOk a b) : EvL (tLstRg (tRg2 ta tb)) σ H (rgV a b) := fun H1 e Q q =>
  ha H1 e _ fun H2 e2 => hb H2 (e.trans e2) _ fun H3 e3 => ⟨a, b, rfl, rfl, h, fun p hp => q p _ (fresh_back (e2.trans e3) hp) ((e2.trans e3).trans (Ex.new hp)) upd_same⟩
theorem el_rg1 {b : Int} (hb : Ev tb σ H (.int b)) (h : RgOk 0 b) : EvL (tLstRg (tRg1 tb)) σ H (rgV 0 b) := fun H1 e Q q =>
  hb H1 e _ fun H3 e3 => ⟨b, rfl, h, fun p hp => q p _ (fresh_back e3 hp) (e3.trans (Ex.new hp)) upd_same⟩
end
/-! more statements -/
section
variable {K : PySem.W.Frag} {σ : L2.St} {H H' : Hp} {te tl : TE} {t : TT} {D : Ends} {tu tz : TS} {g : TG}
/-- a comprehension over range(lo, n) that keeps nothing -/
theorem el_noneR2 {ta : TA} {j : Nat} {vs : List Nat} {lo n : Int} (h : EvA ta σ H [.int lo, .int n]) (hn : 0 ≤ lo ∧ lo ≤ 40000 ∧ -40000 ≤ n ∧ n ≤ 40000) (hw : ∀ x, wipe ((wipe σ vs).set j (some x)) vs = wipe σ vs)
    (ht : ∀ (i : Nat) H1, Ex H H1 → lo + (i : Int) < n → EvT t ((wipe σ vs).set j (some (.int (lo + (i : Int))))) H1 false) : EvL (tLc (iRng2 ta) (gName j) t te vs) σ H [] := by
  have q := el_lcR2 (te := te) (fun _ => false) (fun _ => .non) h hn hw ht (fun _ _ _ _ hf => Bool.noConfusion hf)
  rw [given_none (fun _ _ => rfl)] at q
  exact q
/-- a for over a new tuple -/
theorem s_forNU {xs : List V} (h : EvU tl σ H xs) (Pv : Addr → Nat → L2.St → Hp → Prop) (h0 : ∀ p H1, H p = none → Ex H H1 → H1 p = some (.tup xs) → Pv p 0 σ H1) (hl : ∀ p i σ' H', i ≤ xs.length → Pv p i σ' H' → SqT K H' p xs)
    (hs : ∀ p i x σ' H', xs[i]? = some x → Pv p i σ' H' → g x σ' H' fun σ2 H2 => tu { D with nx := Pv p (i + 1), ct := Pv p (i + 1), bk := D.nx } σ2 H2) (hd : ∀ p σ' H', Pv p xs.length σ' H' → D.nx σ' H') : tFor (iTup K tl) g tu D σ H :=
  h H (Ex.refl H) _ fun p H1 hp e h1 => ⟨p, rfl, ⟨xs, st_of h1⟩, for_tup (Pv p) (h0 p H1 hp e h1) (hl p) (hs p) (hd p)⟩
theorem q_forNU {xs : List V} (h : EvU tl σ H xs) (Pv : Addr → Nat → L2.St → Hp → Prop) (h0 : ∀ p H1, H p = none → Ex H H1 → H1 p = some (.tup xs) → Pv p 0 σ H1) (hl : ∀ p i σ' H', i ≤ xs.length → Pv p i σ' H' → SqT K H' p xs)
    (hs : ∀ p i x σ' H', xs[i]? = some x → Pv p i σ' H' → g x σ' H' fun σ2 H2 => tu { D with nx := Pv p (i + 1), ct := Pv p (i + 1), bk := tz D } σ2 H2) (hd : ∀ p σ' H', Pv p xs.length σ' H' → tz D σ' H') : tSeq (tFor (iTup K tl) g tu) tz D σ H :=
  s_forNU (D := { D with nx := tz D }) h Pv h0 hl hs hd
theorem s_asgD {i : Nat} {d : PyData} (h : EvD K te σ H d) (k : ∀ v H1, Ex H H1 → Dp K H1 v d → D.nx (σ.set i (some v)) H1) : tAsg te (gName i) D σ H := h H (Ex.refl H) _ fun v H1 e dv => k v H1 e dv
theorem q_asgD {i : Nat} {d : PyData} (h : EvD K te σ H d) (k : ∀ v H1, Ex H H1 → Dp K H1 v d → tz D (σ.set i (some v)) H1) : tSeq (tAsg te (gName i)) tz D σ H := s_asgD (D := { D with nx := tz D }) h k
end
end Kit
set_option Elab.async false
set_option linter.all false
set_option maxRecDepth 100000
set_option maxHeartbeats 4000000
namespace Kit
open PySem PySem.Spec PyProof.Rows L2 Evl
theorem slot_type_ne : Slot "type" (cmpInfo .NotEq).2.1 "object.__ne__" :=
  .of (owner := "object") (n := "__ne__") (by rw [typeLookup_type, builtinLookup_eq_fast]; kernel_rfl) (by decide +kernel) (by decide +kernel) (by decide +kernel)
    (by first | exact .inl (by decide +kernel) | exact .inr (by decide +kernel)) (by rw [isSubtype_type]; kernel_rfl)
theorem slot_type_eqN : Slot "type" "__eq__" "object.__eq__" :=
  .of (owner := "object") (n := "__eq__") (by rw [typeLookup_type, builtinLookup_eq_fast]; kernel_rfl) (by decide +kernel) (by decide +kernel) (by decide +kernel)
    (by first | exact .inl (by decide +kernel) | exact .inr (by decide +kernel)) (by rw [isSubtype_type]; kernel_rfl)
section
variable {prog : Program} {w : World} {A : Around} {E : Value → Shared → Prop} {s : Shared} {Q : Value → Shared → Prop}
theorem ne_type_same {X : String} (hX : ∀ s' : Shared, s'.TypeIs (.type X) "type") (hu : A.units + 1 < cLine) (h : Q (.bool false) s) : wpAny (model prog w) A (compareOp .NotEq (.type X) (.type X)) Q E s := by
  show wpAny _ A (richCompare .NotEq _ _) Q E s
  refine wpAny_richCompare_same (T := "type") (hX s) (hX s) slot_type_ne ?_
  refine wpAny_call_entry slot_type_ne (hX s) PySem.F.cmpEntry_ne ?_ (PySem.F.cmpArgs_ne _ _)
  unfold Builtin.«object.__ne__»
  have key : wpAny (model prog w) A.in1 (call (.builtin "object.__eq__") [.type X, .type X]) (fun v s' => v = .bool true ∧ s' = s) E s :=
    call_gives slot_type_eqN (hX s) F.entry_object_eq (F.args_object_eq_2 _ _) (PySem.TypeEq.object_eq_same rfl (by simp)) ⟨rfl, rfl⟩
  repeat (first
    | with_reducible refine wpAny_cRoomFor (by show A.units + 1 < cLine; exact hu) ?_
    | (refine wpAny_bind (m := callSpecialIfBound? (.type X) (Str.ofString "__eq__") [.type X])
        (wpAny_callSpecialIfBound?_slot (hX _) slot_type_eqN (wpAny_mono key (fun r s' hr => by
          obtain ⟨rfl, rfl⟩ := hr
          have hq : Q (.bool false) s' := h
          repeat (first | exact ⟨_, rfl, (by intro e; cases e), hq⟩ | exact wpAny_pure ⟨_, rfl, (by intro e; cases e), hq⟩ | (refine wpAny_bind (m := truthy (.bool _)) (wpAny_truthy_bool ?_)) | wp_step)) fun _ _ e => e)))
    | wp_step)
end
end Kit
set_option Elab.async false
set_option linter.all false
set_option maxRecDepth 100000
set_option maxHeartbeats 4000000
namespace Kit
open PySem PySem.Spec PyProof.Rows L2 Evl
section
variable {X : Cx}
def rNeTyS : R2 := fun x y H Q => ∃ m, x = .ty m ∧ y = .ty m ∧ Meta m ∧ Q (.bl false) H
theorem op_neTyS (hu : X.A.units + 1 < cLine) : OpR X (compareOp .NotEq) rNeTyS := by
  intro pins s σ H x y v u Q I rx ry h
  obtain ⟨m, rfl, rfl, hm, q⟩ := h
  cases (show v = Value.type m from rx)
  cases (show u = Value.type m from ry)
  exact ne_type_same hm hu ⟨.bl false, H, I, rfl, q⟩
/-- min of a tuple of ints -/
def rMinT (K : PySem.W.Frag) : List V → Hp → VK → Prop := fun vs H Q => ∃ (a : Addr) (n : Int) (ns : List Int), vs = [V.ref a] ∧ SqT K H a ((n :: ns).map V.int) ∧ Q (.int (ns.foldl min n)) H
theorem alike_ints (ns : List Int) : PySem.W.AlikeAll (ns.map PyData.int) := by
  refine ⟨fun x hx y hy => ?_, fun x hx => ?_⟩
  · obtain ⟨a, _, rfl⟩ := List.mem_map.mp hx
    obtain ⟨b, _, rfl⟩ := List.mem_map.mp hy
    rfl
  · obtain ⟨a, _, rfl⟩ := List.mem_map.mp hx
    exact fun z => by cases z
theorem depth_ints : ∀ ms : List Int, PyData.depthAll (ms.map PyData.int) = 0
  | [] => rfl
  | m :: r => by simp [PyData.depthAll, PyData.depth, depth_ints r]
theorem cr_minT (hc : X.calm = true) (hu : X.A.units + 1 < cLine) : CallR X (.builtin "min") (rMinT X.K) := by
  intro pins s σ H vs us Q I r h
  obtain ⟨a, n, ns, rfl, hs, q⟩ := h
  obtain ⟨its, rv, hl, _⟩ := I.tuple hs
  rw [Vals.ref1 r]
  obtain ⟨as, rd⟩ := Dp.readsAll I (PyData.int n :: ns.map PyData.int) _ its (dpa_ints (n :: ns)) rv
  refine PySem.W.min_tuple_data (I.ok.hd hc) (show s.heap.IsTuple a its.toArray from hl) (by simpa using rd) (alike_ints (n :: ns)) ?_ fun i v h' tk bs hv hr hk => ?_
  · have := depth_ints (n :: ns)
    rw [List.map_cons] at this
    rw [this]
    exact hu
  · rw [PySem.W.minD_ints] at hr
    cases hr with
    | int _ t => exact ⟨.int (ns.foldl min n), H, I.kept (t' := tk) hk, ⟨_, rfl⟩, q⟩
theorem foldl_min_spec : ∀ (ns : List Int) (n : Int), ns.foldl min n ∈ n :: ns ∧ ∀ y ∈ n :: ns, ns.foldl min n ≤ y
  | [], n => ⟨by simp, by simp⟩
  | k :: r, n => by
    obtain ⟨h1, h2⟩ := foldl_min_spec r (min n k)
    refine ⟨?_, fun y hy => ?_⟩
    · rcases List.mem_cons.mp h1 with e | e
      · rw [List.foldl_cons, e]
        rcases Int.le_total n k with h | h
        · rw [Int.min_eq_left h]; simp
        · rw [Int.min_eq_right h]; simp
      · simp [List.foldl_cons, e]
    · have h3 := h2 (min n k) (by simp)
      rw [List.foldl_cons]
      rcases List.mem_cons.mp hy with e | hy
      · omega
      · rcases List.mem_cons.mp hy with e | hy
        · omega
        · exact h2 y (by simp [hy])
end
/-! readings of these -/
section
variable {K : PySem.W.Frag} {σ : L2.St} {H H' : Hp} {ta tb te tl : TE} {D : Ends} {tu tz : TS} {t : TT}
theorem ev_typeL {p : Addr} {xs : List V} (h : Ev ta σ H (.ref p)) (hp : H p = some (.lst xs)) : Ev (tThenZ ta kTyp) σ H (.ty "list") := fun H1 e Q q => h H1 e _ fun H2 e2 => ⟨"list", by
  have := e2 p _ (e p _ hp)
  simp [zTyV, this], q H2 e2⟩
theorem ev_typeT {p : Addr} {xs : List V} (h : Ev ta σ H (.ref p)) (hp : H p = some (.tup xs)) : Ev (tThenZ ta kTyp) σ H (.ty "tuple") := fun H1 e Q q => h H1 e _ fun H2 e2 => ⟨"tuple", by
  have := e2 p _ (e p _ hp)
  simp [zTyV, this], q H2 e2⟩
theorem rv_neTyS {m : String} (hm : Meta m) : RV rNeTyS (.ty m) (.ty m) H (.bl false) := fun H1 _ _ q => ⟨m, rfl, rfl, hm, q H1 (Ex.refl H1)⟩
theorem ev_sumN {ns : List Int} (h : EvL ta σ H (ns.map V.int)) : Ev (tCB (rSum K) (tCons ta tNil)) σ H (.int ns.sum) := fun H1 e Q q => h H1 e _ fun p H2 _ e2 h2 => ⟨p, ns, rfl, sq_of h2, q H2 e2⟩
theorem ev_allN {bs : List Bool} (h : EvL ta σ H (bs.map V.bl)) : Ev (tCB (rAll K) (tCons ta tNil)) σ H (.bl (bs.all id)) := fun H1 e Q q => h H1 e _ fun p H2 _ e2 h2 => ⟨p, bs, rfl, sq_of h2, q H2 e2⟩
theorem ev_minT {p : Addr} {n : Int} {ns : List Int} (h : Ev ta σ H (.ref p)) (hp : SqT K H p ((n :: ns).map V.int)) : Ev (tCB (rMinT K) (tCons ta tNil)) σ H (.int (ns.foldl min n)) := fun H1 e Q q => h H1 e _ fun H2 e2 => ⟨p, n, ns, rfl, ex_t (e.trans e2) hp, q H2 e2⟩
/-- sorted(xs), told by what it is -/
theorem ed_sorted {p : Addr} {ns ms : List Int} (h : Ev ta σ H (.ref p)) (hp : SqL K H p (ns.map V.int)) (hl : ns.length < 64) (hm : ms.Perm ns) (hs : ms.Pairwise (· ≤ ·)) : EvD K (tCB (rSorted K) (tCons ta tNil)) σ H (.list (ms.map PyData.int)) := fun H1 e Q q => h H1 e _ fun H2 e2 =>
  ⟨p, ns, rfl, ex_l (e.trans e2) hp, hl, fun ns' l pm so new => by
    have eq : ns' = ms := by
      exact List.Perm.eq_of_pairwise (le := fun a b : Int => a ≤ b) (fun a b _ _ h1 h2 => Int.le_antisymm h1 h2) so hs (pm.trans hm.symm)
    subst eq
    exact q _ _ (e2.trans (Ex.new new)) (.lst (sq_of upd_same) (dpa_ints _))⟩
/-- a new tuple of a list's items -/
theorem eu_tupOf {p : Addr} {xs : List V} (h : Ev ta σ H (.ref p)) (hp : SqL K H p xs) : EvU (tCB (rTupS K) (tCons ta tNil)) σ H xs := fun H1 e Q q => h H1 e _ fun H2 e2 =>
  ⟨p, xs, rfl, ex_l (e.trans e2) hp, fun l hl => q l _ (fresh_back e2 hl) (e2.trans (Ex.new hl)) upd_same⟩
/-- [0] * n -/
theorem el_rep {xs : List V} {k : Int} (ha : EvL ta σ H xs) (hb : Ev tb σ H (.int k)) (h0 : 0 ≤ k) (h1 : k ≤ 1000) (hx : xs.length ≤ 50) : EvL (tOp rRep ta tb) σ H (List.replicate k.toNat xs).flatten := fun H1 e Q q =>
  ha H1 e _ fun p H2 hp e2 h2 => hb H2 (e.trans e2) _ fun H3 e3 => ⟨p, k, xs, rfl, rfl, e3 p _ h2, by omega, by omega, sz_of (by
    have : xs.length * k.toNat ≤ 50 * 1000 := Nat.mul_le_mul hx (by omega)
    omega), fun l hl => q l _ (fresh_back (e2.trans e3) hl) ((e2.trans e3).trans (Ex.new hl)) upd_same⟩
/-- xs[::-1] -/
theorem el_rev {p : Addr} {xs : List V} (h : Ev ta σ H (.ref p)) (hp : SqL K H p xs) : EvL (tRevL K ta) σ H xs.reverse := fun H1 e Q q => h H1 e _ fun H2 e2 =>
  ⟨p, xs, rfl, ex_l (e.trans e2) hp, fun l hl => q l _ (fresh_back e2 hl) (e2.trans (Ex.new hl)) upd_same⟩
theorem el_revN {xs : List V} (h : EvL ta σ H xs) : EvL (tRevL K ta) σ H xs.reverse := fun H1 e Q q => h H1 e _ fun p H2 _ e2 h2 =>
  ⟨p, xs, rfl, sq_of h2, fun l hl => q l _ (fresh_back e2 hl) (e2.trans (Ex.new hl)) upd_same⟩
/-- for i, x in enumerate(xs): the pair is a new tuple -/
theorem s_forEn {ta : TA} {i j : Nat} {a : Addr} {xs : List V} (h : EvA ta σ H [.ref a]) (hx : SqL K H a xs) (Pv : Nat → L2.St → Hp → Prop) (h0 : ∀ H1, Ex H H1 → Pv 0 σ H1) (hl : ∀ n σ' H', n ≤ xs.length → Pv n σ' H' → SqL K H' a xs)
    (hs : ∀ n x σ' H' H2, xs[n]? = some x → Pv n σ' H' → Ex H' H2 → tu { D with nx := Pv (n + 1), ct := Pv (n + 1), bk := D.nx } ((σ'.set i (some (.int (n : Int)))).set j (some x)) H2) (hd : ∀ σ' H', Pv xs.length σ' H' → D.nx σ' H') :
    tFor (iEnum K ta) (gTup K 2 (gCons (gName i) (gCons (gName j) gNil))) tu D σ H := h H (Ex.refl H) _ fun H1 e => ⟨a, xs, rfl, ex_l e hx, by
  refine for_it walk_enum Pv (h0 H1 e) (fun n σ' H' hn p => hl n σ' H' hn p) ?_ hd
  rintro n v σ' Hh H2 hn p ⟨T, x, y, rfl, nT, rfl, g1, g2⟩
  have ex : V.int (n : Nat) = x := Option.some.inj g1
  subst ex
  exact ⟨T, [.int (n : Nat), y], rfl, st_of upd_same, rfl, _, [y], rfl, y, [], rfl, rfl, hs n y σ' Hh _ g2 p (Ex.new nT)⟩⟩
theorem q_forEn {ta : TA} {i j : Nat} {a : Addr} {xs : List V} (h : EvA ta σ H [.ref a]) (hx : SqL K H a xs) (Pv : Nat → L2.St → Hp → Prop) (h0 : ∀ H1, Ex H H1 → Pv 0 σ H1) (hl : ∀ n σ' H', n ≤ xs.length → Pv n σ' H' → SqL K H' a xs)
    (hs : ∀ n x σ' H' H2, xs[n]? = some x → Pv n σ' H' → Ex H' H2 → tu { D with nx := Pv (n + 1), ct := Pv (n + 1), bk := tz D } ((σ'.set i (some (.int (n : Int)))).set j (some x)) H2) (hd : ∀ σ' H', Pv xs.length σ' H' → tz D σ' H') :
    tSeq (tFor (iEnum K ta) (gTup K 2 (gCons (gName i) (gCons (gName j) gNil))) tu) tz D σ H := s_forEn (D := { D with nx := tz D }) h hx Pv h0 hl hs hd
end
end Kit
set_option Elab.async false
set_option linter.all false
set_option maxRecDepth 100000
set_option maxHeartbeats 4000000
namespace Kit
open PySem PySem.Spec PyProof.Rows L2 Evl
/-! ### new lists of new tuples -/
def TL (H : Hp) (vs : List V) (rs : List (List V)) : Prop := Paired (fun v r => ∃ a, v = .ref a ∧ H a = some (.tup r)) vs rs
theorem TL.imp {H H' : Hp} (f : ∀ a r, H a = some (.tup r) → H' a = some (.tup r)) : ∀ {vs : List V} {rs : List (List V)}, TL H vs rs → TL H' vs rs
  | _, _, .nil => .nil
  | _, _, .cons ⟨a, e, h⟩ t => .cons ⟨a, e, f a _ h⟩ (TL.imp f t)
theorem TL.ex {H H' : Hp} {vs : List V} {rs : List (List V)} (e : Ex H H') (h : TL H vs rs) : TL H' vs rs := h.imp fun a r x => e a _ x
theorem TL.upd {H : Hp} {l : Addr} {xs : List V} {o : HO} {vs : List V} {rs : List (List V)} (hl : H l = some (.lst xs)) (h : TL H vs rs) : TL (upd H l o) vs rs := h.imp fun a r x => by
  rw [upd_ne (ne_of x hl (by intro z; cases z))]
  exact x
theorem TL.len {H : Hp} : ∀ {vs : List V} {rs : List (List V)}, TL H vs rs → vs.length = rs.length
  | _, _, .nil => rfl
  | _, _, .cons _ t => by rw [List.length_cons, List.length_cons, TL.len t]
theorem TL.app {H : Hp} {v : V} {r : List V} (hv : ∃ a, v = .ref a ∧ H a = some (.tup r)) : ∀ {vs : List V} {rs : List (List V)}, TL H vs rs → TL H (vs ++ [v]) (rs ++ [r])
  | _, _, .nil => .cons hv .nil
  | _, _, .cons q t => .cons q (TL.app hv t)
theorem TL.get {H : Hp} : ∀ {vs : List V} {rs : List (List V)} {i : Nat} {v : V}, TL H vs rs → vs[i]? = some v → ∃ a r, v = .ref a ∧ H a = some (.tup r) ∧ rs[i]? = some r
  | _, _, 0, v, .cons ⟨a, e, h⟩ t, hv => ⟨a, _, (Option.some.inj (by simpa using hv)).symm.trans e, h, rfl⟩
  | _, _, i + 1, v, .cons _ t, hv => by
    obtain ⟨a, r, h1, h2, h3⟩ := TL.get (i := i) t (by simpa using hv)
    exact ⟨a, r, h1, h2, by simpa using h3⟩
  | _, _, 0, v, .nil, hv => by simp at hv
  | _, _, i + 1, v, .nil, hv => by simp at hv
theorem TL.rev {H : Hp} : ∀ {vs : List V} {rs : List (List V)}, TL H vs rs → TL H vs.reverse rs.reverse
  | _, _, .nil => .nil
  | _, _, .cons q t => by
    rw [List.reverse_cons, List.reverse_cons]
    exact TL.app q (TL.rev t)
def EvLT (te : TE) (σ : L2.St) (H : Hp) (rs : List (List V)) : Prop := ∀ H1, Ex H H1 → ∀ Q : VK, (∀ p vs H2, H1 p = none → Ex H1 H2 → H2 p = some (.lst vs) → TL H2 vs rs → Q (.ref p) H2) → te σ H1 Q
section
variable {K : PySem.W.Frag} {σ : L2.St} {H H' : Hp} {te tl : TE} {D : Ends} {tz : TS} {t : TT}
/-- [a new tuple for i in range(n)] -/
theorem elt_R1 {ta : TA} {j : Nat} {vs : List Nat} {n : Int} (f : Nat → List V) (h : EvA ta σ H [.int n]) (hn : 0 ≤ n ∧ n ≤ 40000) (hw : ∀ x, wipe ((wipe σ vs).set j (some x)) vs = wipe σ vs)
    (he : ∀ (i : Nat) H1, Ex H H1 → (i : Int) < n → EvU te ((wipe σ vs).set j (some (.int (i : Int)))) H1 (f i)) : EvLT (tLc (iRng1 ta) (gName j) tYes te vs) σ H ((List.range n.toNat).map f) := fun H0 e Q q => h H0 e _ fun H1 e1 => ⟨n, rfl, by omega, by omega, fun Dl hD =>
  lc_range (lo := 0) (n := n.toNat) (fun i H' => Ex H1 H' ∧ ∃ ws, H' Dl = some (.lst ws) ∧ TL H' ws ((List.range i).map f)) ⟨Ex.new hD, [], upd_same, .nil⟩ (fun i H' hi p => by
    obtain ⟨p1, ws, p2, p3⟩ := p
    have e0 : (0 : Int) + (i : Int) = (i : Int) := Int.zero_add _
    show wipe ((wipe σ vs).set j (some (.int ((0 : Int) + (i : Int))))) vs = wipe σ vs ∧ te ((wipe σ vs).set j (some (.int ((0 : Int) + (i : Int))))) H' fun y H4 => ∃ acc, H4 Dl = some (.lst acc) ∧ acc.length < sizeLine ∧ _
    rw [e0]
    refine ⟨hw _, he i H1 (e.trans e1) (by omega) H' p1 _ fun p H4 hp e4 h4 => ⟨ws, e4 Dl _ p2, sz_lt (by
      have := p3.len
      simp at this
      omega), Ex.mut (p1.trans e4) hD, ws ++ [.ref p], upd_same, ?_⟩⟩
    rw [List.range_succ, List.map_append]
    exact ((p3.ex e4).app ⟨p, rfl, h4⟩).upd (e4 Dl _ p2)) (fun H' p => by
      obtain ⟨p1, ws, p2, p3⟩ := p
      exact q Dl ws H' (fresh_back e1 hD) (e1.trans p1) p2 p3)⟩
/-- [a new tuple for x in xs] -/
theorem elt_map {a : Addr} {xs : List V} {j : Nat} {vs : List Nat} (f : Nat → List V) (h : Ev tl σ H (.ref a)) (hx : SqL K H a xs) (hz : xs.length ≤ 40000) (hw : ∀ x, wipe ((wipe σ vs).set j (some x)) vs = wipe σ vs)
    (he : ∀ (i : Nat) (x : V) H1, Ex H H1 → xs[i]? = some x → EvU te ((wipe σ vs).set j (some x)) H1 (f i)) : EvLT (tLc (iList K tl) (gName j) tYes te vs) σ H ((List.range xs.length).map f) := fun H0 e Q q => h H0 e _ fun H1 e1 => ⟨a, rfl, ⟨xs, ex_l (e.trans e1) hx⟩, fun Dl hD =>
  lc_list (xs := xs) (fun i H' => Ex H1 H' ∧ ∃ ws, H' Dl = some (.lst ws) ∧ TL H' ws ((List.range i).map f)) ⟨Ex.new hD, [], upd_same, .nil⟩ (fun i H' _ p => ex_l ((e.trans e1).trans p.1) hx) (fun i x H' hi p => by
    obtain ⟨p1, ws, p2, p3⟩ := p
    show wipe ((wipe σ vs).set j (some x)) vs = wipe σ vs ∧ te ((wipe σ vs).set j (some x)) H' fun y H4 => ∃ acc, H4 Dl = some (.lst acc) ∧ acc.length < sizeLine ∧ _
    refine ⟨hw _, he i x H1 (e.trans e1) hi H' p1 _ fun p H4 hp e4 h4 => ⟨ws, e4 Dl _ p2, sz_lt (by
      have := p3.len
      have := (List.getElem?_eq_some_iff.mp hi).1
      simp at *
      omega), Ex.mut (p1.trans e4) hD, ws ++ [.ref p], upd_same, ?_⟩⟩
    rw [List.range_succ, List.map_append]
    exact ((p3.ex e4).app ⟨p, rfl, h4⟩).upd (e4 Dl _ p2)) (fun H' p => by
      obtain ⟨p1, ws, p2, p3⟩ := p
      exact q Dl ws H' (fresh_back e1 hD) (e1.trans p1) p2 p3)⟩
theorem range_get {α : Type} (rs : List α) (d : α) : rs = (List.range rs.length).map fun i => rs.getD i d := by
  refine List.ext_getElem (by simp) fun i h1 h2 => ?_
  simp [h1]
theorem paired_map {α β γ : Type} {F : β → γ → Prop} (f : α → β) (g : α → γ) : ∀ l : List α, (∀ x ∈ l, F (f x) (g x)) → Paired F (l.map f) (l.map g)
  | [], _ => .nil
  | x :: r, h => .cons (h x (by simp)) (paired_map f g r fun y hy => h y (by simp [hy]))
/-- [x for x in xs if test(x)], xs a list of tuples, the test P of the tuple's items -/
theorem elt_filter {a : Addr} {xs : List V} {rs : List (List V)} {j : Nat} {vs : List Nat} (P : List V → Bool) (h : Ev tl σ H (.ref a)) (hx : SqL K H a xs) (ht : TL H xs rs) (hz : xs.length ≤ 40000) (hw : ∀ x, wipe ((wipe σ vs).set j (some x)) vs = wipe σ vs) (hj : ∀ x, ((wipe σ vs).set j (some x))[j]? = some (some x))
    (he : ∀ (b : Addr) (r : List V) H1, Ex H H1 → r ∈ rs → H1 b = some (.tup r) → EvT t ((wipe σ vs).set j (some (.ref b))) H1 (P r)) : EvLT (tLc (iList K tl) (gName j) t (tVar j) vs) σ H (rs.filter P) := fun H0 e Q q => by
  refine el_lcL (K := K) (f := fun i => P (rs.getD i [])) (v := fun i => xs.getD i .non) h hx hz hw (fun i x H1 e1 hi => ?_) (fun i x H1 e1 hi hf => ?_) H0 e Q fun p H2 hp e2 h2 => ?_
  · obtain ⟨b, r, rfl, hb, hr⟩ := ht.get hi
    have g : rs.getD i [] = r := by rw [List.getD_eq_getElem?_getD, hr] <;> rfl
    show EvT _ _ _ (P (rs.getD i []))
    rw [g]
    exact he b r H1 e1 (List.mem_of_getElem? hr) (e1 b _ hb)
  · have g : xs.getD i .non = x := by rw [List.getD_eq_getElem?_getD, hi] <;> rfl
    show Ev _ _ _ (xs.getD i .non)
    rw [g]
    exact ev_var (hj x)
  · refine q p _ H2 hp e2 h2 ?_
    have e3 : rs.filter P = ((List.range rs.length).filter fun i => P (rs.getD i [])).map fun i => rs.getD i [] := by
      conv => lhs; rw [range_get rs [], List.filter_map]
      rfl
    unfold given
    rw [e3, ht.len]
    refine paired_map _ _ _ fun i hi => ?_
    have hi := List.mem_range.mp (List.mem_filter.mp hi).1
    have hlx : i < xs.length := by rw [ht.len]; exact hi
    obtain ⟨b, r, h1, h2', h3⟩ := ht.get (List.getElem?_eq_getElem hlx)
    refine ⟨b, ?_, ?_⟩
    · rw [List.getD_eq_getElem?_getD, List.getElem?_eq_getElem hlx, h1]
      rfl
    · rw [List.getD_eq_getElem?_getD, h3]
      exact (e.trans e2) b _ h2'
theorem q_asgLT {i : Nat} {rs : List (List V)} (h : EvLT te σ H rs) (k : ∀ p vs H1, H p = none → Ex H H1 → H1 p = some (.lst vs) → TL H1 vs rs → tz D (σ.set i (some (.ref p))) H1) : tSeq (tAsg te (gName i)) tz D σ H := h H (Ex.refl H) _ fun p vs H1 hp e h1 h2 => k p vs H1 hp e h1 h2
theorem s_retLT {rs : List (List V)} (h : EvLT te σ H rs) (k : ∀ p vs H1, H p = none → Ex H H1 → H1 p = some (.lst vs) → TL H1 vs rs → D.rt (.ref p) H1) : tRet te D σ H := h H (Ex.refl H) _ k
end
end Kit
set_option Elab.async false
set_option linter.all false
set_option maxRecDepth 100000
set_option maxHeartbeats 4000000
namespace Kit
open PySem PySem.Spec PyProof.Rows L2 Evl
/-! ### a promise of a def that shows data (repr): no repr may be under way around it -/
structure FnOkG (P : Program) (w : World) (K : PySem.W.Frag) (mg : Str → Option Value) (base : Heap) (n : Nat) (f : Addr) (fd : FuncData) (names : List Str) (want : Sp) : Prop where
  many : ∀ xs H Q E, want xs H Q E → xs.length = names.length
  go : ∀ (A : Around) (frames : List Env) (st : Shared) (H : Hp) (given : Args) (us : List Value) (xs : List V) (Q : VK) (E : XK), A.guards = some [] → Room n A → Env0 P w K mg base A frames st H →
    BindsTo st fd given (names.zip us) → Vals xs us → want xs H Q E → codeAny (model P w) A (.call (.ref f) given) (CR CX0 frames P w H st Q E) st
section
variable {P : Program} {w : World} {K : PySem.W.Frag} {mg : Str → Option Value} {base : Heap}
theorem FnOkG.mono {j n : Nat} {f : Addr} {fd : FuncData} {names : List Str} {want : Sp} (F : FnOkG P w K mg base j f fd names want) (h : j ≤ n) : FnOkG P w K mg base n f fd names want :=
  ⟨F.many, fun A fr st H g us xs Q E hg r => F.go A fr st H g us xs Q E hg (r.mono h)⟩
/-- the rule for such a def -/
theorem funG {x qual : Str} {d : Stmt} {f : Addr} {fd : FuncData} {N names : List Str} {n : Nat} {want : Sp} (F : Fun K x qual d f fd) (S : FnScope N names (defScope d)) (many : ∀ xs H Q E, want xs H Q E → xs.length = names.length)
    (body : ∀ (cv : Value) (A : Around) (frames : List Env) (st : Shared) (H : Hp) (xs : List V) (Q : VK) (E : XK), A.guards = some [] → Room n (A.deeper (envOfC qual (defScope d) st.heap.objs.size f cv)) → want xs H Q E →
      ∃ t, PSs (cxOf CX0 P w K mg base N qual (defScope d) f cv A frames st H E).nox (defBody d) t ∧ t { nx := fun _ H' => Q .non H', rt := Q } (start N xs) H) : FnOkG P w K mg base (n + 1) f fd names want := by
  obtain ⟨o1, o2, v1, v2, v3, an, cv, ct, sl, rfl, look, code⟩ := F.ex
  refine ⟨many, fun A frames st H given us xs Q E hg room en bind vals hw => ?_⟩
  have size := many _ _ _ _ hw
  have inK : K.In st.heap := en.mod.kin.keeps fun b o q => (en.bs b o q).1
  have noLim : st.heap.NoLimit := en.mod.nolimit.keeps fun b o q => (en.bs b o q).1
  have kinds : ∀ y ∈ names.zip us, (defScope d).names.lookup y.1 = some .local ∨ ((defScope d).names.lookup y.1 = some .cell ∧ ((cellsFrom (st.heap.objs.size + 1) (defScope d).names []).lookup y.1).isSome = true) := by
    rintro ⟨a, b⟩ hy
    exact (S.par a (List.of_mem_zip hy).1).elim .inl fun q => .inr ⟨q, PySem.W.cellsFrom_some _ _ _ (.inl q)⟩
  refine codeAny_call_function room.depth (inK _ _ look) rfl S.co S.gen rfl (PySem.W.codeRec_of inK code) (bind _ _ _ _ (wpAny_newFunctionEnv_cells S.kind kinds fun env eq st1 made => ?_))
  cases eq
  refine ⟨noLim.keeps made.toInCall.keep, codeAny_func ?_⟩
  obtain ⟨t, rule, done⟩ := body cv A frames st H xs Q E hg (room.deeper _) hw
  have J : Inv (cxOf CX0 P w K mg base N qual (defScope d) f cv A frames st H E) [] (start N xs) H st1 := inv_start S room.hd en size vals made
  have back : ∀ {σ' : L2.St} {H' : Hp} {v : V} {u : Value} {st2 : Shared}, Inv (cxOf CX0 P w K mg base N qual (defScope d) f cv A frames st H E) [] σ' H' st2 → RelV v u → Q v H' → CE frames P w H st Q u st2 := fun J2 rv q => ⟨_, _, J2.os, J2.bare, J2.base, J2.hok, rv, q⟩
  refine wpAny_mono (rule.nox.run [] st1 (start N xs) H _ J done) (fun r st2 hs => ?_) fun _ _ hs => hs
  match r, hs with
  | .ret u, ⟨v, σ2, H2, J2, rv, q⟩ => exact back J2 rv q
  | .next, ⟨σ2, H2, J2, q⟩ => exact back (v := V.non) (u := Value.none) J2 rfl q
  | .brk, ⟨_, _, _, q⟩ => exact False.elim q
  | .cont, ⟨_, _, _, q⟩ => exact False.elim q
end
/-- such a def is called -/
theorem pe_callG {X : Cx} {n : Nat} {f : Addr} {fd : FuncData} {names : List Str} {want : Sp} {x : Str} {p pos : Pos} {e : Expr} {es : List Expr} {t : TA} (F : FnOkG X.prog X.w X.K X.mg X.base n f fd names want) (hg : X.A.guards = some []) (room : Room n X.A) (gl : Gl X x)
    (at_ : X.mg x = some (.ref f)) (keep : PySem.W.keepIn X.K (.ref f) = true) (bind : Binds X.K fd names []) (ha : PA X (e :: es) t) (nd : (x == ("__debug__" : Str)) = false := by decide)
    (one : starEach (e :: es) X.env = (false, eval e X.env) :: starEach es X.env := by rfl) (plain : (backTo pos (starEach es X.env)).any (·.1) = false := by rfl) : PE X (.Call (.Name x p) (e :: es) [] pos) (tCall want [] E0 t) := by
  refine ⟨fun pins st σ H Q J h => wpAny_Call_Name_kw (ld_glob J gl at_ ?_ nd)⟩
  refine PySem.W.callWith_K (h₀ := X.base) J.ok.mod.kin keep (thn (ha.run pos pins st σ H _ J h) fun us st1 ⟨vs, H1, J1, r, q⟩ => ⟨J1.kIn, ?_⟩) one plain
  have q : want vs H1 Q E0 := by
    have q' : want (vs ++ []) H1 Q E0 := q
    rwa [List.append_nil] at q'
  have size : us.length = names.length := r.length.symm.trans (F.many _ _ _ _ q)
  have bd := bind st1 us J1.kIn (by rw [List.append_nil]; exact size)
  rw [List.append_nil] at bd
  refine wpAny_call (codeAny_mono (F.go X.A X.stack st1 H1 ⟨us, []⟩ us vs Q E0 hg room J1.env0 bd r q) fun res st2 hq => ?_)
  match res, hq with
  | .error _, hq => exact False.elim hq
  | .ok (.ret _), hq => exact J1.after hq
  | .ok .next, hq => exact False.elim hq
  | .ok .brk, hq => exact False.elim hq
  | .ok .cont, hq => exact False.elim hq
/-- the law's promise, at the heap behind the top -/
theorem headG {P : Program} {w : World} {K : PySem.W.Frag} {mg mb : Str → Option Value} {n : Nat} {fa a : Addr} {fd : FuncData} {x : Str} {want : Sp} {st : Shared} {us : List Value} {ns : List Int}
    (inK : K.In st.heap) (glob : st.heap.Ns mainGlobals mg) (blt : st.heap.Ns builtinsNs mb) (boot : ∀ x : Str, x ≠ "__name__" → mb x = bootBuiltins x) (noLim : st.heap.NoLimit) (gens : st.gens = #[])
    (obj : st.heap.get? a = some { cls := .type "list", data := .seq us.toArray }) (allInt : IntsAre us ns) (short : ns.length ≤ sizeLine) (room : Room n callerA)
    (F : ∀ base : Heap, K.In base → base.Ns mainGlobals mg → FnOkG P w K mg base n fa fd [x] want) (bind : ∀ (s : Shared) (u : Value), BindsTo s fd ⟨[u], []⟩ [(x, u)])
    (ask : ∀ H : Hp, Only H → SqL K H a (ns.map V.int) → want [.ref a] H (fun v _ => v = .bl true) fun _ _ _ => False) :
    codeAny (model P w) callerA (.call (.ref fa) ⟨[.ref a], []⟩) (fun r s' => r = .ok (.ret (.bool true)) ∧ OldK st.heap s'.heap ∧ s'.os = st.os ∧ AllBare s'.gens) st := by
  have vals := vals_ints allInt
  have size := allInt.length
  have main : ∀ H : Hp, Only H → SqL K H a (ns.map V.int) → HOk P w H st.heap → (∀ b, H b ≠ none → b = a) → (H a ≠ none → K.lookup a = none) →
      codeAny (model P w) callerA (.call (.ref fa) ⟨[.ref a], []⟩) (fun r s' => r = .ok (.ret (.bool true)) ∧ OldK st.heap s'.heap ∧ s'.os = st.os ∧ AllBare s'.gens) st := by
    intro H only sq ok one not
    have stay : ∀ {b : Addr} {o : Obj}, st.heap.get? b = some o → H b = none → (hidT st.heap H).get? b = some o := fun q z => hidT_get q z
    have free : ∀ {b : Addr}, (b = a → False) → H b = none := fun {b} ne => by
      cases q : H b with
      | none => rfl
      | some u => exact (ne (one b (by rw [q]; exact Option.some_ne_none u))).elim
    have space : ∀ {b : Addr} {m : Str → Option Value}, st.heap.Ns b m → (hidT st.heap H).Ns b m := fun {b m} ⟨o, es, ep, q, d, r⟩ => ⟨o, es, ep, stay q (free fun z => by
      subst z
      rw [obj] at q
      cases q
      exact Data.noConfusion (show Data.seq us.toArray _ = Data.dict es ep from d)), d, r⟩
    have kin : K.In (hidT st.heap H) := fun b o q => stay (inK b o q) (by
      cases z : H b with
      | none => rfl
      | some u =>
        have ne : H b ≠ none := by rw [z]; exact Option.some_ne_none u
        have ba := one b ne
        subst ba
        rw [not ne] at q
        cases q)
    obtain ⟨mc, l1, l2⟩ := noLim
    have md : Mod K mg (hidT st.heap H) := ⟨kin, space glob, ⟨mb, space blt, boot⟩, ⟨mc, space l1, l2⟩⟩
    have en : Env0 P w K mg (hidT st.heap H) callerA [] st H := ⟨rfl, md, fun b o q => of_hidT q, Nat.le_of_eq (hidT_size _ _), trivial, fun b hb => absurd (show b ∈ ([] : List Addr) from hb) (by simp), ok, .of_eq gens⟩
    refine codeAny_mono ((F _ kin (space glob)).go callerA [] st H ⟨[.ref a], []⟩ [.ref a] [.ref a] _ _ rfl room en (bind st (.ref a)) (.cons rfl .nil) (ask H only sq)) fun r s' h => ?_
    match r, h with
    | .error _, h => exact False.elim h
    | .ok .next, h => exact False.elim h
    | .ok .brk, h => exact False.elim h
    | .ok .cont, h => exact False.elim h
    | .ok (.ret u), ⟨v, H', os, bare, un, ok', rel, q⟩ =>
      have q2 : v = .bl true := q
      cases q2
      have r2 : u = Value.bool true := rel
      cases r2
      refine ⟨rfl, OldK.of_keep fun b o e => ?_, os, bare⟩
      rcases only b with z | ⟨ob, xs, z⟩
      · exact un.keep b o e z (fun t => absurd (show b ∈ ([] : List Addr) from t) (by simp)) (by simp)
      · have z2 := un.frzs b ob _ z
        obtain ⟨g1, _⟩ := ok b _ z
        obtain ⟨g2, _⟩ := ok' b _ z2
        rw [e] at g1
        cases g1
        exact g2
  cases own : K.lookup a with
  | some o =>
    have e := inK a o own
    rw [obj] at e
    cases e
    exact main (fun _ => none) (fun _ => .inl rfl) (.inr ⟨_, us.toArray, _, own, rfl, rfl, rfl, by rw [List.size_toArray, size]; exact short, by simpa using vals⟩) (fun b u z => by have y : (none : Option HO) = some u := z; cases y) (fun b z => absurd rfl z) fun z => absurd rfl z
  | none =>
    have yes : (fun b => if b = a then some (HO.frz { cls := .type "list", data := .seq us.toArray } (.lst (ns.map V.int))) else none) a = some (HO.frz { cls := .type "list", data := .seq us.toArray } (.lst (ns.map V.int))) := if_pos rfl
    have no : ∀ b, b ≠ a → (fun b => if b = a then some (HO.frz { cls := .type "list", data := .seq us.toArray } (.lst (ns.map V.int))) else none) b = none := fun b ne => if_neg ne
    generalize (fun b => if b = a then some (HO.frz { cls := .type "list", data := .seq us.toArray } (.lst (ns.map V.int))) else none) = G at yes no
    refine main G (fun b => ?_) (.inl (.inr ⟨_, yes⟩)) (fun b u z => ?_) (fun b z => ?_) fun _ => own
    · by_cases hb : b = a
      · subst hb
        exact .inr ⟨_, _, yes⟩
      · exact .inl (no b hb)
    · by_cases hb : b = a
      · subst hb
        rw [yes] at z
        cases z
        exact ⟨obj, by rw [List.length_map]; exact short, us, _, vals, obj⟩
      · rw [no b hb] at z
        cases z
    · by_cases hb : b = a
      · exact hb
      · exact absurd (no b hb) z
theorem walk_G {l : PySem.W.OpenLaw} {m n : Nat} {q : Program} {loose : List Str} {XP : (Str → Option Value) → Heap → Prop} {YP : World → Heap → Prop} {d : DefRec} {K : Params → PySem.W.Frag} {want : World → Sp} {x : Str}
    (most : l.most = some m) (most2 : m ≤ sizeLine) (noDef : d.params.defaults = []) (room : Room n callerA) (inK : ∀ (w : World) (h : Heap), YP w h → (K w.params).In h)
    (F : ∀ (w : World) (mg : Str → Option Value) (fa : Addr) (h : Heap), (K w.params).In h → h.Ns mainGlobals mg → mg d.name = some (.ref fa) →
      ∃ fd : FuncData, (∀ (s : Shared) (u : Value), BindsTo s fd ⟨[u], []⟩ [(x, u)]) ∧ ∀ base : Heap, (K w.params).In base → base.Ns mainGlobals mg → FnOkG l.prog w (K w.params) mg base n fa fd [x] (want w))
    (ask : ∀ (w : World) (H : Hp) (a : Addr) (ns : List Int), ns.length ≤ m → Only H → SqL (K w.params) H a (ns.map V.int) → want w [.ref a] H (fun v _ => v = .bl true) fun _ _ _ => False) :
    PySem.W.WalkO q loose XP YP l.row.toRowW d [] (fun f vs => PySem.call f vs) :=
  Att.attach_call most noDef fun w s₀ st mg mb fa o pm cd doc a us ns G Y ho hd hcd named obj allInt short gens => by
    have kin := inK w _ Y
    obtain ⟨fd, bind, FF⟩ := F w mg fa _ kin G.T.g named
    exact headG kin G.T.g G.T.b G.T.builtins G.T.nolimit gens obj allInt (Nat.le_trans short most2) room FF bind fun H only sq => ask w H a ns short only sq
/-! ### repr of data -/
def rRepr (K : PySem.W.Frag) : List V → Hp → VK → Prop := fun xs H Q => ∃ p d, xs = [.ref p] ∧ Dp K H (.ref p) d ∧ d.showable = true ∧ d.hasDict = false ∧ d.depth ≤ 50 ∧ d.shown.length ≤ sizeLine ∧ Q (.str d.shown) H
theorem call_reprD {X : Cx} (hg : X.A.guards = some []) (hu : X.A.units + 64 < cLine) : CallR X (.builtin "repr") (rRepr X.K) := by
  intro pins st σ H xs us Q J r h
  obtain ⟨p, d, rfl, dp, hs, hd, hdp, hz, q⟩ := h
  obtain ⟨u, rfl, hu2⟩ : ∃ u, us = [u] ∧ RelV (.ref p) u := by
    cases r with
    | cons a b =>
      cases b
      exact ⟨_, rfl, a⟩
  have e : u = Value.ref p := hu2
  subst e
  obtain ⟨as, rd⟩ := Dp.reads J d _ _ dp hu2
  refine repr_of_reads' rd hs (fun z => by rw [hd] at z; cases z) hg (by omega) (fun _ _ e => e) (fun h' u tk keep => ?_) hz
  exact ⟨.str d.shown, H, J.turnedL (ch := []) (fun b o _ e => keep b o e) (fun b hb => absurd hb (by simp)), ⟨_, rfl⟩, q⟩
section
variable {K : PySem.W.Frag} {σ : L2.St} {H : Hp} {te : TE}
theorem ev_repr {d : PyData} (h : EvD K te σ H d) (hl : isDisplay d = true) (hs : d.showable = true) (hd : d.hasDict = false) (hdp : d.depth ≤ 50) (hz : d.shown.length ≤ sizeLine) : Ev (tCB (rRepr K) (tCons te tNil)) σ H (.str d.shown) := fun H1 e Q q =>
  h H1 e _ fun v H2 e2 dv => by
    have hp : ∃ p, v = .ref p := by
      cases dv with
      | lst _ _ => exact ⟨_, rfl⟩
      | tup _ _ => exact ⟨_, rfl⟩
      | non => cases hl
      | bl _ => cases hl
      | int _ => cases hl
      | str _ => cases hl
    obtain ⟨p, rfl⟩ := hp
    exact ⟨p, d, rfl, dv, hs, hd, hdp, hz, q H2 e2⟩
end
end Kit
set_option Elab.async false
set_option linter.all false
set_option maxRecDepth 100000
set_option maxHeartbeats 4000000
namespace Kit
open PySem PySem.Spec PyProof.Rows L2 Evl
/-! ### data that repr shows, with long ints: at most n signs -/
structure ShN (d : PyData) (n : Nat) : Prop where
  shw : d.showable = true
  nod : d.hasDict = false
  len : d.shown.length ≤ n
  dep : d.depth ≤ 20
theorem shn_int {i : Int} (h : i.natAbs.log2 < 1920) : ShN (.int i) 1921 := ⟨decide_eq_true h, rfl, int_text_len_1921 h, Nat.zero_le _⟩
theorem shn_int2 {i : Int} (h : i.natAbs < 2 ^ 1900) : ShN (.int i) 1921 := shn_int (by
  by_cases z : i.natAbs = 0
  · rw [z]
    decide
  · exact Nat.lt_of_lt_of_le ((Nat.log2_lt z).mpr h) (by decide))
theorem shn_all {n : Nat} : ∀ {ds : List PyData}, (∀ d ∈ ds, ShN d n ∧ d.depth ≤ 19) → PyData.showableAll ds = true ∧ PyData.hasDictAll ds = false ∧ ((PyData.shownAll ds).map (·.length)).sum ≤ n * ds.length ∧ (PyData.shownAll ds).length = ds.length ∧ PyData.depthAll ds ≤ 19
  | [], _ => ⟨rfl, rfl, Nat.zero_le _, rfl, Nat.zero_le _⟩
  | d :: r, h => by
    obtain ⟨a, b, c, e, f⟩ := shn_all fun x hx => h x (List.mem_cons_of_mem _ hx)
    obtain ⟨⟨p, q, s, _⟩, t⟩ := h d List.mem_cons_self
    refine ⟨by simp [PyData.showableAll, a, p], by simp [PyData.hasDictAll, b, q], ?_, by simp [PyData.shownAll, e], by simp only [PyData.depthAll]; omega⟩
    simp only [PyData.shownAll, List.map_cons, List.sum_cons, List.length_cons, Nat.mul_succ]
    omega
theorem shn_list {ds : List PyData} {n : Nat} (h : ∀ d ∈ ds, ShN d n ∧ d.depth ≤ 19) : ShN (.list ds) ((n + 2) * ds.length + 3) := by
  obtain ⟨a, b, c, e, f⟩ := shn_all h
  refine ⟨by simpa [PyData.showable] using a, by simpa [PyData.hasDict] using b, ?_, by simp only [PyData.depth]; omega⟩
  have := listText_len_le (PyData.shownAll ds)
  show (listText (PyData.shownAll ds)).length ≤ _
  rw [e] at this
  rw [Nat.add_mul]
  omega
theorem shn_tup {ds : List PyData} {n : Nat} (h : ∀ d ∈ ds, ShN d n ∧ d.depth ≤ 19) : ShN (.tuple ds) ((n + 2) * ds.length + 3) := by
  obtain ⟨a, b, c, e, f⟩ := shn_all h
  refine ⟨by simpa [PyData.showable] using a, by simpa [PyData.hasDict] using b, ?_, by simp only [PyData.depth]; omega⟩
  have := tupleText_len_le (PyData.shownAll ds)
  show (tupleText (PyData.shownAll ds)).length ≤ _
  rw [e] at this
  rw [Nat.add_mul]
  omega
section
variable {K : PySem.W.Frag} {σ : L2.St} {H : Hp} {te : TE}
theorem ev_reprN {d : PyData} {n : Nat} (h : EvD K te σ H d) (hl : isDisplay d = true) (s : ShN d n) (hn : n ≤ 1000000) : Ev (tCB (rRepr K) (tCons te tNil)) σ H (.str d.shown) :=
  ev_repr h hl s.shw s.nod (by have := s.dep; omega) (Nat.le_trans s.len (Nat.le_trans hn (by rw [sizeLine_eq]; decide)))
end
end Kit
set_option Elab.async false
set_option linter.all false
set_option maxRecDepth 100000
set_option maxHeartbeats 4000000
namespace Kit
open PySem PySem.Spec PyProof.Rows L2 Evl
section
variable {K : PySem.W.Frag} {σ : L2.St} {H : Hp} {ta tb te : TE} {t : TT}
/-- max(xs), told by what it is -/
theorem ev_maxV {a : Addr} {ns : List Int} {m : Int} (h : Ev ta σ H (.ref a)) (ha : SqL K H a (ns.map V.int)) (hm : m ∈ ns) (hl : ∀ y ∈ ns, y ≤ m) : Ev (tCB (rMax K) (tCons ta tNil)) σ H (.int m) := fun H1 e Q q =>
  h H1 e _ fun H2 e2 => ⟨a, ns, rfl, ex_l (e.trans e2) ha, List.length_pos_of_mem hm, fun m' hm' hl' => by
    have h1 := hl m' hm'
    have h2 := hl' m hm
    have : m' = m := by omega
    rw [this]
    exact q H2 e2⟩
/-- [e for i, x in enumerate(xs) if t] -/
theorem el_en {ta : TA} {i j : Nat} {vs : List Nat} {a : Addr} {xs : List V} (f : Nat → Bool) (v : Nat → V) (h : EvA ta σ H [.ref a]) (hx : SqL K H a xs) (hz : xs.length ≤ 40000) (hw : ∀ x y, wipe (((wipe σ vs).set i (some x)).set j (some y)) vs = wipe σ vs)
    (ht : ∀ (n : Nat) x H1, Ex H H1 → xs[n]? = some x → EvT t (((wipe σ vs).set i (some (.int (n : Int)))).set j (some x)) H1 (f n))
    (he : ∀ (n : Nat) x H1, Ex H H1 → xs[n]? = some x → f n = true → Ev te (((wipe σ vs).set i (some (.int (n : Int)))).set j (some x)) H1 (v n)) :
    EvL (tLc (iEnum K ta) (gTup K 2 (gCons (gName i) (gCons (gName j) gNil))) t te vs) σ H (given xs.length f v) := fun H0 e Q q => h H0 e _ fun H1 e1 => ⟨a, xs, rfl, ex_l (e.trans e1) hx, fun Dl hD => by
  refine lc_it walk_enum (Cw H1 f v Dl) ⟨hD, Ex.new hD, upd_same⟩ (fun n H' _ p => ex_l ((e.trans e1).trans p.2.1) hx) ?_ fun H' p => q Dl H' (fresh_back e1 p.1) (e1.trans p.2.1) p.2.2
  rintro n w Hh H' hn p ⟨T, x, y, rfl, nT, rfl, g1, g2⟩
  have ex : V.int (n : Nat) = x := Option.some.inj g1
  subst ex
  have eT : Ex Hh (upd Hh T (.tup [.int (n : Nat), y])) := Ex.new nT
  refine ⟨T, [.int (n : Nat), y], rfl, st_of upd_same, rfl, _, [y], rfl, y, [], rfl, rfl, hw _ y, ?_⟩
  exact cw_turn (H := H1) ⟨p.1, p.2.1.trans eT, eT Dl _ p.2.2⟩ (by omega) (ht n y H1 (e.trans e1) g2) fun hf => he n y H1 (e.trans e1) g2 hf⟩
/-- [e for x, y in zip(xs, ys)], both new lists -/
theorem el_zipN {i j : Nat} {vs : List Nat} {xs ys : List V} (F : V → V → V) (h : EvL ta σ H xs) (h2 : EvL tb σ H ys) (hl : xs.length = ys.length) (hz : xs.length ≤ 40000) (hw : ∀ x y, wipe (((wipe σ vs).set i (some x)).set j (some y)) vs = wipe σ vs)
    (he : ∀ (n : Nat) x y H1, Ex H H1 → xs[n]? = some x → ys[n]? = some y → Ev te (((wipe σ vs).set i (some x)).set j (some y)) H1 (F x y)) :
    EvL (tLc (iZip K (tCons ta (tCons tb tNil))) (gTup K 2 (gCons (gName i) (gCons (gName j) gNil))) tYes te vs) σ H (List.zipWith F xs ys) := fun H0 e Q q =>
  h H0 e _ fun a H1 na e1 ha => h2 H1 (e.trans e1) _ fun b H2 nb e2 hb => by
    have := el_zip (K := K) (H := H2) (ta := fun _ H' R => R [.ref a, .ref b] H') (te := te) (vs := vs) F (fun H3 _ Q q => q H3 (Ex.refl _)) (sq_of (e2 a _ ha)) (sq_of hb) hl hz hw fun n x y H3 e3 g1 g2 => he n x y H3 (e.trans (e1.trans (e2.trans e3))) g1 g2
    exact this H2 (Ex.refl _) Q fun p H3 hp e3 h3 => q p H3 (fresh_back (e1.trans e2) hp) (e1.trans (e2.trans e3)) h3
/-- xs + y, y an old list; x + ys, x an old list -/
theorem el_catR {a : Addr} {xs ys : List V} (h : EvL ta σ H xs) (h2 : Ev tb σ H (.ref a)) (ha : H a = some (.lst ys)) (hz : xs.length + ys.length ≤ 1000) : EvL (tOp rCat ta tb) σ H (xs ++ ys) := fun H1 e Q q =>
  h H1 e _ fun p H2 _ e2 h3 => h2 H2 (e.trans e2) _ fun H3 e3 => ⟨p, a, xs, ys, rfl, rfl, e3 p _ h3, e3 a _ (e2 a _ (e a _ ha)), sz_of (by omega), fun l hl => q l _ (fresh_back (e2.trans e3) hl) ((e2.trans e3).trans (Ex.new hl)) upd_same⟩
theorem el_catL {a : Addr} {xs ys : List V} (h : Ev ta σ H (.ref a)) (ha : H a = some (.lst xs)) (h2 : EvL tb σ H ys) (hz : xs.length + ys.length ≤ 1000) : EvL (tOp rCat ta tb) σ H (xs ++ ys) := fun H1 e Q q =>
  h H1 e _ fun H2 e2 => h2 H2 (e.trans e2) _ fun p H3 _ e3 h3 => ⟨a, p, xs, ys, rfl, rfl, e3 a _ (e2 a _ (e a _ ha)), h3, sz_of (by omega), fun l hl => q l _ (fresh_back (e2.trans e3) hl) ((e2.trans e3).trans (Ex.new hl)) upd_same⟩
end
end Kit
set_option Elab.async false
set_option linter.all false
set_option maxRecDepth 100000
namespace Kit
open PySem PySem.Spec PyProof.Rows L2 Evl
def fac (n : Nat) : Nat := Builtin.Math.factorialNat n
theorem fac_succ (n : Nat) : fac (n + 1) = fac n * (n + 1) := PySem.W.mc_fac_succ n
theorem fac_pos (n : Nat) : 1 ≤ fac n := PySem.W.mc_fac_pos n
theorem fac_mono : ∀ {m n : Nat}, m ≤ n → fac m ≤ fac n := fun {m n} h => by
  induction h with
  | refl => exact Nat.le_refl _
  | step _ ih =>
    rw [Nat.succ_eq_add_one, fac_succ]
    exact Nat.le_trans ih (Nat.le_mul_of_pos_right _ (Nat.succ_pos _))
theorem fac20 : fac 20 < 2 ^ 64 := by decide +kernel
def rFac : List V → Hp → VK → Prop := fun vs H Q => ∃ n : Nat, vs = [.int (n : Int)] ∧ n ≤ 20000 ∧ Q (.int ((fac n : Nat) : Int)) H
section
variable {X : Cx}
theorem cr_factorial : CallR X (.builtin "math.factorial") rFac := by
  intro pins s σ H vs us Q I r h
  obtain ⟨n, rfl, hn, q⟩ := h
  cases r with
  | cons ru rt =>
    cases rt
    obtain ⟨t, rfl⟩ := ru
    refine PySem.W.mc_factorial (Int.natCast_nonneg n) (by omega) fun _ => ?_
    rw [Int.toNat_natCast]
    exact ⟨.int _, H, I.tok _, ⟨_, rfl⟩, q⟩
def rDivmod : List V → Hp → VK → Prop := fun xs H Q => ∃ i j, xs = [.int i, .int j] ∧ CDivP i j ∧ ∀ p, H p = none → Q (.ref p) (upd H p (.tup [.int (i / j), .int (i % j)]))
theorem call_divmodR : CallR X (.builtin "divmod") rDivmod := call_divmodW
end
section
variable {K : PySem.W.Frag} {σ : L2.St} {H : Hp} {ta tb te tl : TE} {D : Ends} {tu tz : TS}
theorem ev_fac {n : Nat} (h : Ev ta σ H (.int (n : Int))) (hn : n ≤ 20000) : Ev (tCB rFac (tCons ta tNil)) σ H (.int ((fac n : Nat) : Int)) := fun H1 e Q q => h H1 e _ fun H2 e2 => ⟨n, rfl, hn, q H2 e2⟩
theorem divp_small {i j : Int} (h : 0 < j) (hj : j.natAbs < 2 ^ 8000) : CDivP i j := ⟨h, PyProof.noPylong_of_log2 (by
  have h2 := (Nat.log2_lt (n := j.natAbs) (k := 8000) (by omega)).mpr hj
  omega)⟩
theorem eu_divmod {a b : Nat} (h : Ev ta σ H (.int (a : Int))) (h2 : Ev tb σ H (.int (b : Int))) (hb : 0 < b) (hb2 : b < 2 ^ 8000) : EvU (tCB rDivmod (tCons ta (tCons tb tNil))) σ H [.int ((a / b : Nat) : Int), .int ((a % b : Nat) : Int)] := fun H1 e Q q =>
  h H1 e _ fun H2 e2 => h2 H2 (e.trans e2) _ fun H3 e3 => ⟨a, b, rfl, divp_small (by omega) (by rw [Int.natAbs_natCast]; exact hb2), fun p hp => q p _ (fresh_back (e2.trans e3) hp) ((e2.trans e3).trans (Ex.new hp)) (by rw [upd_same, Int.natCast_ediv, Int.natCast_emod])⟩
end
end Kit
set_option Elab.async false
set_option linter.all false
set_option maxRecDepth 100000
set_option maxHeartbeats 4000000
namespace Kit
open PySem PySem.Spec PyProof.Rows L2 Evl
section
variable {K : PySem.W.Frag} {σ : L2.St} {H : Hp} {ta tb te tl : TE} {D : Ends} {tu tz : TS} {t : TT}
/-- for i in reversed(range(n)) -/
theorem s_forRev {j n : Nat} (h : Ev ta σ H (.int (n : Int))) (hn : n ≤ 40000) (Pv : Nat → L2.St → Hp → Prop) (h0 : ∀ H1, Ex H H1 → Pv 0 σ H1)
    (hs : ∀ (i : Nat) σ' H', i < n → Pv i σ' H' → tu { D with nx := Pv (i + 1), ct := Pv (i + 1), bk := D.nx } (σ'.set j (some (.int ((n - 1 - i : Nat) : Int)))) H') (hd : ∀ σ' H', Pv n σ' H' → D.nx σ' H') : tFor (iRevR (tRg1 ta)) (gName j) tu D σ H :=
  h H (Ex.refl H) _ fun H1 e => ⟨n, rfl, by
    have e0 : ((n : Int) - 0).toNat = n := by omega
    refine ⟨by omega, by omega, by omega, by omega, ?_⟩
    rw [e0]
    exact for_rangeC Pv (h0 H1 e) (fun i σ' H' hi p => by
      have e1 : (0 : Int) + (n : Int) - 1 + (i : Nat) * (-1) = ((n - 1 - i : Nat) : Int) := by omega
      rw [e1]
      exact hs i σ' H' hi p) hd⟩
theorem q_forRev {j n : Nat} (h : Ev ta σ H (.int (n : Int))) (hn : n ≤ 40000) (Pv : Nat → L2.St → Hp → Prop) (h0 : ∀ H1, Ex H H1 → Pv 0 σ H1)
    (hs : ∀ (i : Nat) σ' H', i < n → Pv i σ' H' → tu { D with nx := Pv (i + 1), ct := Pv (i + 1), bk := tz D } (σ'.set j (some (.int ((n - 1 - i : Nat) : Int)))) H') (hd : ∀ σ' H', Pv n σ' H' → tz D σ' H') : tSeq (tFor (iRevR (tRg1 ta)) (gName j) tu) tz D σ H := s_forRev (D := { D with nx := tz D }) h hn Pv h0 hs hd
/-- [a new tuple for i in range(lo, n)] -/
theorem elt_R2 {ta : TA} {j : Nat} {vs : List Nat} {lo n : Int} (f : Nat → List V) (h : EvA ta σ H [.int lo, .int n]) (hn : 0 ≤ lo ∧ lo ≤ 40000 ∧ -40000 ≤ n ∧ n ≤ 40000) (hw : ∀ x, wipe ((wipe σ vs).set j (some x)) vs = wipe σ vs)
    (he : ∀ (i : Nat) H1, Ex H H1 → lo + (i : Int) < n → EvU te ((wipe σ vs).set j (some (.int (lo + (i : Int))))) H1 (f i)) : EvLT (tLc (iRng2 ta) (gName j) tYes te vs) σ H ((List.range (n - lo).toNat).map f) := fun H0 e Q q => h H0 e _ fun H1 e1 => ⟨lo, n, rfl, ⟨by omega, by omega, by omega, by omega⟩, fun Dl hD =>
  lc_range (lo := lo) (n := (n - lo).toNat) (fun i H' => Ex H1 H' ∧ ∃ ws, H' Dl = some (.lst ws) ∧ TL H' ws ((List.range i).map f)) ⟨Ex.new hD, [], upd_same, .nil⟩ (fun i H' hi p => by
    obtain ⟨p1, ws, p2, p3⟩ := p
    show wipe ((wipe σ vs).set j (some (.int (lo + (i : Int))))) vs = wipe σ vs ∧ te ((wipe σ vs).set j (some (.int (lo + (i : Int))))) H' fun y H4 => ∃ acc, H4 Dl = some (.lst acc) ∧ acc.length < sizeLine ∧ _
    refine ⟨hw _, he i H1 (e.trans e1) (by omega) H' p1 _ fun p H4 hp e4 h4 => ⟨ws, e4 Dl _ p2, sz_lt (by
      have := p3.len
      simp at this
      omega), Ex.mut (p1.trans e4) hD, ws ++ [.ref p], upd_same, ?_⟩⟩
    rw [List.range_succ, List.map_append]
    exact ((p3.ex e4).app ⟨p, rfl, h4⟩).upd (e4 Dl _ p2)) (fun H' p => by
      obtain ⟨p1, ws, p2, p3⟩ := p
      exact q Dl ws H' (fresh_back e1 hD) (e1.trans p1) p2 p3)⟩
end
end Kit
set_option Elab.async false
set_option linter.all false
set_option maxRecDepth 100000
set_option maxHeartbeats 4000000
namespace Kit
open PySem PySem.Spec PyProof.Rows L2 Evl
/-! ### choosing -/
def cho : Nat → Nat → Nat
  | _, 0 => 1
  | 0, _ + 1 => 0
  | n + 1, k + 1 => cho n k + cho n (k + 1)
theorem fac_zero : fac 0 = 1 := rfl
theorem cho_zero (n : Nat) : cho n 0 = 1 := by cases n <;> rfl
theorem cho_gt : ∀ {n k : Nat}, n < k → cho n k = 0
  | 0, _ + 1, _ => rfl
  | n + 1, k + 1, h => by
    show cho n k + cho n (k + 1) = 0
    rw [cho_gt (by omega : n < k), cho_gt (by omega : n < k + 1)]
theorem cho_self : ∀ n : Nat, cho n n = 1
  | 0 => rfl
  | n + 1 => by
    show cho n n + cho n (n + 1) = 1
    rw [cho_self n, cho_gt (Nat.lt_succ_self n)]
theorem cho_next : ∀ n k : Nat, cho n (k + 1) * (k + 1) = cho n k * (n - k)
  | 0, k => by
    rw [Nat.zero_sub, Nat.mul_zero]
    show 0 * (k + 1) = 0
    rw [Nat.zero_mul]
  | n + 1, 0 => by
    have a := cho_next n 0
    show (cho n 0 + cho n 1) * (0 + 1) = cho (n + 1) 0 * (n + 1 - 0)
    rw [cho_zero, cho_zero] at *
    simp only [Nat.zero_add, Nat.mul_one, Nat.sub_zero, Nat.one_mul] at *
    omega
  | n + 1, k + 1 => by
    have a := cho_next n (k + 1)
    have b := cho_next n k
    show (cho n (k + 1) + cho n (k + 2)) * (k + 1 + 1) = (cho n k + cho n (k + 1)) * (n + 1 - (k + 1))
    rcases Nat.lt_or_ge k n with h | h
    · obtain ⟨d, rfl⟩ : ∃ d, n = k + 1 + d := ⟨n - (k + 1), by omega⟩
      rw [show k + 1 + d - (k + 1) = d by omega] at a
      rw [show k + 1 + d - k = d + 1 by omega] at b
      rw [show k + 1 + d + 1 - (k + 1) = d + 1 by omega]
      generalize cho (k + 1 + d) (k + 1) = x at *
      generalize cho (k + 1 + d) k = y at *
      generalize cho (k + 1 + d) (k + 1 + 1) = z at *
      grind
    · rw [show n + 1 - (k + 1) = 0 by omega, cho_gt (by omega : n < k + 1), cho_gt (by omega : n < k + 2)]
      simp
/-- k of n: n! = C(n, k) k! (n - k)! -/
theorem cho_fac : ∀ {n k : Nat}, k ≤ n → cho n k * (fac k * fac (n - k)) = fac n
  | n, 0, _ => by
    rw [cho_zero, Nat.sub_zero]
    rw [fac_zero]
    omega
  | n, k + 1, h => by
    have ih := cho_fac (n := n) (k := k) (by omega)
    have a := cho_next n k
    rw [show n - k = (n - (k + 1)) + 1 by omega, fac_succ] at ih
    rw [show n - k = n - (k + 1) + 1 by omega] at a
    rw [fac_succ]
    generalize fac (n - (k + 1)) = y at *
    generalize fac n = v at *
    generalize cho n (k + 1) = z at *
    generalize cho n k = x at *
    generalize fac k = u at *
    generalize n - (k + 1) = d at *
    have e : z * (u * (k + 1) * y) = z * (k + 1) * (u * y) := by grind
    rw [e, a, ← ih]
    grind
theorem cho_pos {n k : Nat} (h : k ≤ n) : 1 ≤ cho n k := by
  have a := cho_fac h
  have b := fac_pos n
  rcases Nat.eq_zero_or_pos (cho n k) with z | z
  · rw [z, Nat.zero_mul] at a
    omega
  · exact z
theorem cho_le : ∀ n k : Nat, cho n k ≤ 2 ^ n
  | n, 0 => by rw [cho_zero]; exact Nat.one_le_two_pow
  | 0, _ + 1 => Nat.zero_le _
  | n + 1, k + 1 => by
    have a := cho_le n k
    have b := cho_le n (k + 1)
    rw [Nat.pow_succ]
    show cho n k + cho n (k + 1) ≤ _
    omega
theorem fp_fac (n : Nat) : ∀ k : Nat, k ≤ n → Builtin.Math.fallingProduct (n : Int) k * (fac (n - k) : Int) = (fac n : Int)
  | 0, _ => by
    rw [PySem.W.mc_fp_zero, Nat.sub_zero, Int.one_mul]
  | k + 1, h => by
    have ih := fp_fac n k (by omega)
    rw [show n - k = n - (k + 1) + 1 by omega, fac_succ] at ih
    rw [PySem.W.mc_fp_succ, ← ih, show (n : Int) - (k : Int) = ((n - (k + 1) + 1 : Nat) : Int) by omega]
    push_cast
    generalize (fac (n - (k + 1)) : Int) = x
    generalize Builtin.Math.fallingProduct (n : Int) k = y
    grind
theorem fp_self (n : Nat) : Builtin.Math.fallingProduct (n : Int) n = (fac n : Int) := by
  have := fp_fac n n (Nat.le_refl _)
  rw [Nat.sub_self, fac_zero] at this
  simpa using this
theorem cho_sym {n k : Nat} (h : k ≤ n) : cho n k = cho n (n - k) := by
  have a := cho_fac h
  have b := cho_fac (n := n) (k := n - k) (by omega)
  rw [show n - (n - k) = k by omega, Nat.mul_comm (fac (n - k))] at b
  have p : 0 < fac k * fac (n - k) := Nat.mul_pos (fac_pos _) (fac_pos _)
  exact Nat.eq_of_mul_eq_mul_right p (a.trans b.symm)
theorem comb_cho (n k : Nat) : PySem.W.mcComb (n : Int) (k : Int) = (cho n k : Int) := by
  by_cases h : k ≤ n
  · have key : ∀ m : Nat, m ≤ n → Builtin.Math.fallingProduct (n : Int) m / Builtin.Math.fallingProduct (m : Int) m = (cho n m : Int) := fun m hm => by
      have a := fp_fac n m hm
      have b := cho_fac hm
      have f := fac_pos m
      have g := fac_pos (n - m)
      rw [fp_self]
      have e : Builtin.Math.fallingProduct (n : Int) m = (cho n m : Int) * (fac m : Int) := by
        refine Int.eq_of_mul_eq_mul_right (a := (fac (n - m) : Int)) (by omega) ?_
        rw [a, ← b]
        push_cast
        grind
      rw [e]
      exact Int.mul_ediv_cancel _ (by omega)
    rw [PySem.W.mcComb_at (m := ((min k (n - k) : Nat) : Int)) (by omega) (by omega) (by omega), Int.toNat_natCast, key _ (by omega)]
    rcases Nat.le_total k (n - k) with q | q
    · rw [Nat.min_eq_left q]
    · rw [Nat.min_eq_right q, ← cho_sym h]
  · rw [PySem.W.mcComb_above (by omega), cho_gt (by omega)]
    rfl
def prm (n k : Nat) : Int := PySem.W.mcPerm (n : Int) (k : Int)
theorem prm_fac {n k : Nat} (h : k ≤ n) : prm n k * (fac (n - k) : Int) = (fac n : Int) := by
  unfold prm
  rw [PySem.W.mcPerm_at (by omega), Int.toNat_natCast]
  exact fp_fac n k h
theorem prm_pos {n k : Nat} (h : k ≤ n) : 1 ≤ prm n k := PySem.W.mcPerm_pos (by omega) (by omega)
def rComb : List V → Hp → VK → Prop := fun vs H Q => ∃ n k : Nat, vs = [.int (n : Int), .int (k : Int)] ∧ n ≤ 10000 ∧ Q (.int (cho n k : Int)) H
def rPerm : List V → Hp → VK → Prop := fun vs H Q => ∃ n k : Nat, vs = [.int (n : Int), .int (k : Int)] ∧ n ≤ 10000 ∧ k ≤ 10000 ∧ Q (.int (prm n k)) H
section
variable {X : Cx}
theorem cr_comb : CallR X (.builtin "math.comb") rComb := by
  intro pins s σ H vs us Q I r h
  obtain ⟨n, k, rfl, hn, q⟩ := h
  cases r with
  | cons ru r2 =>
    cases r2 with
    | cons rv rt =>
      cases rt
      obtain ⟨t, rfl⟩ := ru
      obtain ⟨u, rfl⟩ := rv
      refine PySem.W.mc_comb_v (Int.natCast_nonneg n) (Int.natCast_nonneg k) (by omega) (by omega) (comb_cho n k) ?_
      exact ⟨.int _, H, I.tok _, ⟨_, rfl⟩, q⟩
theorem cr_perm : CallR X (.builtin "math.perm") rPerm := by
  intro pins s σ H vs us Q I r h
  obtain ⟨n, k, rfl, hn, hk, q⟩ := h
  cases r with
  | cons ru r2 =>
    cases r2 with
    | cons rv rt =>
      cases rt
      obtain ⟨t, rfl⟩ := ru
      obtain ⟨u, rfl⟩ := rv
      refine PySem.W.mc_perm_v (Int.natCast_nonneg n) (Int.natCast_nonneg k) (by omega) (by omega) rfl ?_
      exact ⟨.int _, H, I.tok _, ⟨_, rfl⟩, q⟩
end
section
variable {K : PySem.W.Frag} {σ : L2.St} {H : Hp} {ta tb te tl : TE} {D : Ends} {tu tz : TS}
theorem ev_comb {n k : Nat} (h : Ev ta σ H (.int (n : Int))) (h2 : Ev tb σ H (.int (k : Int))) (hn : n ≤ 10000) : Ev (tCB rComb (tCons ta (tCons tb tNil))) σ H (.int (cho n k : Int)) := fun H1 e Q q => h H1 e _ fun H2 e2 => h2 H2 (e.trans e2) _ fun H3 e3 => ⟨n, k, rfl, hn, q H3 (e2.trans e3)⟩
theorem ev_perm {n k : Nat} (h : Ev ta σ H (.int (n : Int))) (h2 : Ev tb σ H (.int (k : Int))) (hn : n ≤ 10000) (hk : k ≤ 10000) : Ev (tCB rPerm (tCons ta (tCons tb tNil))) σ H (.int (prm n k)) := fun H1 e Q q => h H1 e _ fun H2 e2 => h2 H2 (e.trans e2) _ fun H3 e3 => ⟨n, k, rfl, hn, hk, q H3 (e2.trans e3)⟩
/-- for x, y in zip(xs, ys): the pair is a new tuple -/
theorem s_forZip {ta : TA} {i j n : Nat} {a b : Addr} {xs ys : List V} (h : EvA ta σ H [.ref a, .ref b]) (hx : SqL K H a xs) (hy : SqL K H b ys) (hn : n = min xs.length ys.length) (Pv : Nat → L2.St → Hp → Prop) (h0 : ∀ H1, Ex H H1 → Pv 0 σ H1) (hl : ∀ k σ' H', k ≤ n → Pv k σ' H' → SqL K H' a xs ∧ SqL K H' b ys)
    (hs : ∀ k x y σ' H' H2, xs[k]? = some x → ys[k]? = some y → Pv k σ' H' → Ex H' H2 → tu { D with nx := Pv (k + 1), ct := Pv (k + 1), bk := D.nx } ((σ'.set i (some x)).set j (some y)) H2) (hd : ∀ σ' H', Pv n σ' H' → D.nx σ' H') :
    tFor (iZip K ta) (gTup K 2 (gCons (gName i) (gCons (gName j) gNil))) tu D σ H := h H (Ex.refl H) _ fun H1 e => ⟨a, b, xs, ys, rfl, ex_l e hx, ex_l e hy, by
  refine for_it (walk_zip (n := n) hn) Pv (h0 H1 e) (fun k σ' H' hk p => hl k σ' H' hk p) ?_ hd
  rintro k v σ' Hh H2 hk p ⟨T, x, y, rfl, nT, rfl, g1, g2⟩
  exact ⟨T, [x, y], rfl, st_of upd_same, rfl, x, [y], rfl, y, [], rfl, rfl, hs k x y σ' Hh _ g1 g2 p (Ex.new nT)⟩⟩
theorem q_forZip {ta : TA} {i j n : Nat} {a b : Addr} {xs ys : List V} (h : EvA ta σ H [.ref a, .ref b]) (hx : SqL K H a xs) (hy : SqL K H b ys) (hn : n = min xs.length ys.length) (Pv : Nat → L2.St → Hp → Prop) (h0 : ∀ H1, Ex H H1 → Pv 0 σ H1) (hl : ∀ k σ' H', k ≤ n → Pv k σ' H' → SqL K H' a xs ∧ SqL K H' b ys)
    (hs : ∀ k x y σ' H' H2, xs[k]? = some x → ys[k]? = some y → Pv k σ' H' → Ex H' H2 → tu { D with nx := Pv (k + 1), ct := Pv (k + 1), bk := tz D } ((σ'.set i (some x)).set j (some y)) H2) (hd : ∀ σ' H', Pv n σ' H' → tz D σ' H') :
    tSeq (tFor (iZip K ta) (gTup K 2 (gCons (gName i) (gCons (gName j) gNil))) tu) tz D σ H := s_forZip (D := { D with nx := tz D }) h hx hy hn Pv h0 hl hs hd
/-- [e for x, y in zip(xs, ys)], xs an old list, ys a new one -/
theorem el_zipO {i j : Nat} {vs : List Nat} {a : Addr} {xs ys : List V} (F : V → V → V) (h : Ev ta σ H (.ref a)) (hx : SqL K H a xs) (h2 : EvL tb σ H ys) (hl : xs.length = ys.length) (hz : xs.length ≤ 40000) (hw : ∀ x y, wipe (((wipe σ vs).set i (some x)).set j (some y)) vs = wipe σ vs)
    (he : ∀ (n : Nat) x y H1, Ex H H1 → xs[n]? = some x → ys[n]? = some y → Ev te (((wipe σ vs).set i (some x)).set j (some y)) H1 (F x y)) :
    EvL (tLc (iZip K (tCons ta (tCons tb tNil))) (gTup K 2 (gCons (gName i) (gCons (gName j) gNil))) tYes te vs) σ H (List.zipWith F xs ys) := fun H0 e Q q =>
  h H0 e _ fun H1 e1 => h2 H1 (e.trans e1) _ fun b H2 nb e2 hb => by
    have := el_zip (K := K) (H := H2) (ta := fun _ H' R => R [.ref a, .ref b] H') (te := te) (vs := vs) F (fun H3 _ Q q => q H3 (Ex.refl _)) (ex_l (e.trans (e1.trans e2)) hx) (sq_of hb) hl hz hw fun n x y H3 e3 g1 g2 => he n x y H3 (e.trans (e1.trans (e2.trans e3))) g1 g2
    exact this H2 (Ex.refl _) Q fun p H3 hp e3 h3 => q p H3 (fresh_back (e1.trans e2) hp) (e1.trans (e2.trans e3)) h3
end
end Kit
set_option Elab.async false
set_option linter.all false
set_option maxRecDepth 100000
set_option maxHeartbeats 4000000
namespace Kit
open PySem PySem.Spec PyProof.Rows L2 Evl
theorem meets_enum_new1 {v : Value} {o : Obj} {H : Heap → Prop} (B : Begins v o H) :
    Meets (Builtin.«enumerate.__new__» ⟨[.type "enumerate", v], []⟩) (fun _ R s => H s.heap ∧
      R (.ok (.ret (.ref (s.heap.push o).objs.size))) { s with heap := (s.heap.push o).push { cls := .type "enumerate", data := .fields #[.none, .bool false, .ref s.heap.objs.size, rawInt 0, .none, .none] } }) :=
  .of_wp fun prog w A R s h => by
    obtain ⟨hp, g, d, tk, os⟩ := s; obtain ⟨h1, h⟩ := h
    have hsub := sub_enumerate
    have q1 : ∀ {A' : Around} {E : Value → Shared → Prop} {Q : Value → Shared → Prop}, Q (.ref hp.objs.size) ⟨hp.push o, g, d, tk, os⟩ → wpAny (model prog w) A' (pyIter v) Q E ⟨hp, g, d, tk, os⟩ :=
      fun q => B.iter prog w _ _ ⟨hp, g, d, tk, os⟩ _ h1 q
    wp_walk using q1
    refine wpAny_stack_any fun st => wpAny_pure ?_
    split
    · rename_i c _ _ _ _ _
      cases (c == Value.type "enumerate")
      · wp_walk using q1
        exact ⟨_, rfl, h⟩
      · wp_walk using q1
        exact ⟨_, rfl, h⟩
    · wp_walk using q1
      exact ⟨_, rfl, h⟩
section
variable {prog : Program} {w : World} {A : Around} {E : Value → Shared → Prop} {s : Shared}
theorem enum_begins1 {v : Value} {o : Obj} {H : Heap → Prop} {Q : Value → Shared → Prop} (B : Begins v o H) (h1 : H s.heap)
    (h : ∀ h', IsEnum h' (s.heap.objs.size + 1) s.heap.objs.size 0 .none → h'.get? s.heap.objs.size = some o → h'.objs.size = s.heap.objs.size + 2 →
      (∀ b o, s.heap.get? b = some o → h'.get? b = some o) → Q (.ref (s.heap.objs.size + 1)) { s with heap := h' }) :
    wpAny (model prog w) A (call (.type "enumerate") [v]) Q E s := by
  refine callType_new F.called_enumerate (by decide) (F.typeCall_enumerate_1 _) (F.newCall_enumerate_1 _) (fun obj => F.args_object_init_2 obj _) F.entry_enumerate_new
    (meets_enum_new1 B) ⟨h1, ?_⟩
  have hz : (s.heap.push o).objs.size = s.heap.objs.size + 1 := Heap.size_push ..
  show _ ∧ _
  rw [hz]
  have he : IsEnum ((s.heap.push o).push { cls := .type "enumerate", data := .fields #[.none, .bool false, .ref s.heap.objs.size, rawInt 0, .none, .none] }) (s.heap.objs.size + 1) s.heap.objs.size 0 .none := by
    have := Heap.get?_push_size (s.heap.push o) (o := { cls := .type "enumerate", data := .fields #[.none, .bool false, .ref s.heap.objs.size, rawInt 0, .none, .none] }) rfl
    rw [hz] at this; exact this
  refine ⟨⟨_, he, rfl⟩, h _ he (Heap.get?_push_of_some _ (Heap.get?_push_size _ B.free)) (by rw [Heap.size_push, hz]) fun b o x => Heap.get?_push_of_some _ (Heap.get?_push_of_some _ x)⟩
end
end Kit
set_option Elab.async false
set_option linter.all false
set_option maxRecDepth 100000
set_option maxHeartbeats 4000000
namespace Kit
open PySem PySem.Spec PyProof.Rows L2 Evl
/-- the tuple at a, each item in a new pair -/
def IteT (K : PySem.W.Frag) (a : Addr) : It :=
  ⟨fun i H => ∃ (xs : List V) (x : V), SqT K H a xs ∧ xs[i]? = some x, fun i H v H' => ∃ T x, v = .ref T ∧ H T = none ∧ H' = upd H T (.tup [.int (i : Nat), x]) ∧ ∀ xs, SqT K H a xs → xs[i]? = some x, fun i H => ∃ xs : List V, SqT K H a xs ∧ xs.length = i⟩
theorem enum_ne {h : Heap} {e it t : Addr} {i : Int} {old : Value} {vs : Array Value} (he : IsEnum h e it i old) (ht : h.IsTuple t vs) : e ≠ t := fun z => by
  subst z
  obtain ⟨o, ho, hc, _⟩ := ht
  have he' : h.get? e = _ := he
  rw [he'] at ho
  cases ho
  exact absurd hc (by show ¬ (Value.type "enumerate" = Value.type "tuple"); decide +kernel)
theorem turn_enumT {P : Program} {w : World} {K : PySem.W.Frag} {elts : List Expr} {kk : Nat} {tpos : Pos} (a e it : Addr) :
    Turn P w K (.Tuple elts kk tpos) (IteT K a) [e, it] e (fun i h => (∃ old, IsEnum h e it ((i : Nat) : Int) old) ∧ h.IsTupleIter it a i ∧ e ≠ it) where
  mem := by simp
  obj := fun i h st b hb => by
    obtain ⟨⟨old, he⟩, ⟨o, ho, hc, hd⟩, _⟩ := st
    have e' : b = e ∨ b = it := by simpa using hb
    rcases e' with z | z
    · rw [z]; exact ⟨_, he, fun v q => nomatch q⟩
    · rw [z]; exact ⟨o, ho, fun v q => by rw [hd] at q; cases q⟩
  keep := fun i h h' st k => by
    obtain ⟨⟨old, he⟩, ⟨o, ho, hr⟩, hne⟩ := st
    exact ⟨⟨old, k e (by simp) _ he⟩, ⟨o, k it (by simp) o ho, hr⟩, hne⟩
  item := by
    intro X hP hw hK hc i pins s σ H E I hf st hg
    subst hP hw hK
    obtain ⟨⟨old, he⟩, hit, hne⟩ := st
    obtain ⟨xs, x, hq, hx⟩ := hg
    obtain ⟨its, rv, p, hz⟩ := I.tuple hq
    obtain ⟨u, hu, ru⟩ := rv.get hx
    have hel : e < s.heap.objs.size := Heap.lt_size he
    have hil : it < s.heap.objs.size := by obtain ⟨_, q, _⟩ := hit; exact Heap.lt_size q
    have pT : s.heap.IsTuple a its.toArray := p
    have nea : e ≠ a := enum_ne he pT
    have nit : a ≠ it := fun z => by
      subst z
      obtain ⟨o, ho, hc', _⟩ := pT
      obtain ⟨o', ho', hc'', _⟩ := hit
      rw [ho] at ho'
      cases ho'
      rw [hc'] at hc''
      exact absurd hc'' (by decide +kernel)
    have hlt : i < its.toArray.size := by
      have := (List.getElem?_eq_some_iff.mp hu).1
      simpa using this
    refine wpAny_pyNext_enum_itemD (Draws.tuple (by exact I.ok.hd hc) it a nit its.toArray) he ⟨hit, pT⟩ hlt hne (by simp [hne, nea]) fun x' h' tk hx' ho hst' hT hsz hk => ?_
    have eu : u = x' := by
      have : its[i]? = some x' := by simpa using hx'
      rw [hu] at this
      exact Option.some.inj this
    subst eu
    refine ⟨_, rfl, wpAny_letOwnedTupleGo_enum (s := { s with heap := h', toks := tk + 1 }) ho fun h'' he' sb => ?_⟩
    have hT2 : h''.get? s.heap.objs.size = some { cls := .type "tuple", data := .seq #[.int i tk, u] } := (sb.2 _ (Nat.ne_of_gt hel)).trans hT
    have new : ObjOk X.prog X.w (upd H s.heap.objs.size (.tup [.int (i : Nat), x])) h'' s.heap.objs.size (.tup [.int (i : Nat), x]) :=
      ⟨by show 2 ≤ sizeLine; decide, [.int i tk, u], .cons ⟨_, rfl⟩ (.cons ru .nil), ⟨_, hT2, rfl, _, rfl⟩⟩
    have I1 : Inv X pins σ (upd H s.heap.objs.size (.tup [.int (i : Nat), x])) { s with heap := h'', toks := tk + 1 } :=
      I.turnedNew (ch := [e, it]) (fun b ob hb q => (sb.2 b (fun z => hb (by simp [z]))).trans (hk b ob (fun z => hb (by simp [z])) (fun z => hb (by simp [z])) q)) hf (Nat.le_refl _) new
    refine ⟨.ref s.heap.objs.size, _, I1, rfl, ⟨_, x, rfl, I.hok.fresh (Nat.le_refl _), rfl, fun ys hy => by rw [I.tuple_inj hy hq]; exact hx⟩, ⟨⟨u, ?_⟩, ?_, hne⟩, fun b hb => ?_⟩
    · have e1 : ((i + 1 : Nat) : Int) = (i : Int) + 1 := by omega
      rw [e1]; exact he'
    · obtain ⟨o, q, r⟩ := hst'.1
      exact ⟨o, (sb.2 it (Ne.symm hne)).trans q, r⟩
    · have hb' : b < s.heap.objs.size := by
        have e' : b = e ∨ b = it := by simpa using hb
        rcases e' with z | z
        · rw [z]; exact hel
        · rw [z]; exact hil
      rw [upd_ne (Nat.ne_of_lt hb')]
      exact (hf b hb).1
  done := by
    intro X hP hw hK hc i pins s σ H E I hf st hg
    subst hP hw hK
    obtain ⟨⟨old, he⟩, hit, hne⟩ := st
    obtain ⟨xs, hq, hx⟩ := hg
    obtain ⟨its, rv, p, hz⟩ := I.tuple hq
    obtain ⟨f0, f1, f2, f3, f4, f5⟩ := hf it (by simp)
    have hl := rv.length
    have pT : s.heap.IsTuple a its.toArray := p
    have nit : a ≠ it := fun z => by
      subst z
      obtain ⟨o, ho, hc', _⟩ := pT
      obtain ⟨o', ho', hc'', _⟩ := hit
      rw [ho] at ho'
      cases ho'
      rw [hc'] at hc''
      exact absurd hc'' (by decide +kernel)
    have hn : its.toArray.size = i := by
      rw [← hx, hl]
      simp
    subst hn
    exact wpAny_pyNext_enum_endD (Draws.tuple (by exact I.ok.hd hc) it a nit its.toArray) he ⟨hit, pT⟩ fun h' eb => ⟨rfl, I.turned (t' := s.toks) (fun b o hb q => eb b o hb q) f0 f1 f3 f4 f5⟩
  self := fun A i s Q E st h => let ⟨⟨_, he⟩, _⟩ := st; wpAny_pyIter_enum he h
def iEnumS (K : PySem.W.Frag) (ta : TA) : TI := fun σ H R => ta σ H fun vs H1 => ∃ a xs, vs = [.ref a] ∧ ((SqL K H1 a xs ∧ R (Ite K a) H1) ∨ (SqT K H1 a xs ∧ R (IteT K a) H1))
theorem pi_enumS {X : Cx} {e : Expr} {ta : TA} {p pos tpos : Pos} {elts : List Expr} {kk : Nat} (hg : Gl X "enumerate") (hm : X.mg "enumerate" = none) (ha : PA X [e] ta) (hs : starEach [e] X.env = [(false, eval e X.env)] := by rfl) :
    PI X (.Tuple elts kk tpos) (.Call (.Name "enumerate" p) [e] [] pos) (iEnumS X.K ta) := by
  refine ⟨fun pins s σ H R I h => ?_⟩
  refine Call_ (ld_blt I hg hm boot_enumerate (PyProof.Rows.callWith_type1 (thn (ha.run pos pins s σ H _ I h) fun us s1 ⟨vs, H1, I1, r1, q1⟩ => ?_) hs rfl))
  obtain ⟨a, xs, ex, q1⟩ := q1
  subst ex
  cases r1 with
  | cons r rr =>
    cases rr
    cases r
    have fin : ∀ (h' : Heap) (itx : Addr), itx = s1.heap.objs.size → (∀ b o, s1.heap.get? b = some o → h'.get? b = some o) → ∀ b ∈ [s1.heap.objs.size + 1, itx], FpOk X pins H1 b := fun h' itx ei hk b hb => by
      have hle : s1.heap.objs.size ≤ b := by
        have e' : b = s1.heap.objs.size + 1 ∨ b = itx := by simpa using hb
        rcases e' with z | z
        · rw [z]; exact Nat.le_add_right _ _
        · rw [z, ei]; exact Nat.le_refl _
      exact I1.fpOk hle (I1.hok.fresh hle)
    rcases q1 with ⟨hq, q⟩ | ⟨hq, q⟩
    · obtain ⟨its, rv, p', hz⟩ := I1.list hq
      refine call_enumerate_list p'.isList fun h' he hit hsz hk => wpAny_pyIter_enum he ?_
      have I2 : Inv X pins σ H1 { s1 with heap := h' } := I1.kept (t' := s1.toks) hk
      exact ⟨s1.heap.objs.size + 1, [s1.heap.objs.size + 1, s1.heap.objs.size], _, _, H1, rfl, I2, turn_enum a (s1.heap.objs.size + 1) s1.heap.objs.size, ⟨⟨.none, he⟩, hit, Nat.succ_ne_self _⟩, fin h' _ rfl hk, q⟩
    · obtain ⟨its, rv, p', hz⟩ := I1.tuple hq
      refine enum_begins1 (begins_tuple a its.toArray) (show s1.heap.IsTuple a its.toArray from p') fun h' he hit hsz hk => wpAny_pyIter_enum he ?_
      have I2 : Inv X pins σ H1 { s1 with heap := h' } := I1.kept (t' := s1.toks) hk
      exact ⟨s1.heap.objs.size + 1, [s1.heap.objs.size + 1, s1.heap.objs.size], _, _, H1, rfl, I2, turn_enumT a (s1.heap.objs.size + 1) s1.heap.objs.size, ⟨⟨.none, he⟩, ⟨_, hit, rfl, rfl⟩, Nat.succ_ne_self _⟩, fin h' _ rfl hk, q⟩
theorem walk_enumT {K : PySem.W.Frag} {a : Addr} {xs : List V} : Walk (IteT K a) xs.length (fun H => SqT K H a xs) (YPair (fun i => some (.int (i : Nat))) (fun i => xs[i]?)) := by
  refine ⟨fun i _ hi q => ⟨xs, xs[i], q, by simp [hi]⟩, fun _ q => ⟨xs, q, rfl⟩, fun i H v H' _ q y => ?_⟩
  obtain ⟨T, x, h1, h2, h3, h4⟩ := y
  exact ⟨T, .int (i : Nat), x, h1, h2, h3, rfl, h4 xs q⟩
section
variable {K : PySem.W.Frag} {σ : L2.St} {H H' : Hp} {D : Ends} {tu tz : TS}
/-- for i, x in enumerate(xs), xs a list or a tuple -/
theorem s_forEnS {ta : TA} {i j : Nat} {a : Addr} {xs : List V} (h : EvA ta σ H [.ref a]) (G : Hp → Prop) (hG : (∀ H, G H → SqL K H a xs) ∨ (∀ H, G H → SqT K H a xs)) (hx : ∀ H1, Ex H H1 → G H1) (Pv : Nat → L2.St → Hp → Prop) (h0 : ∀ H1, Ex H H1 → Pv 0 σ H1) (hl : ∀ n σ' H', n ≤ xs.length → Pv n σ' H' → G H')
    (hs : ∀ n x σ' H' H2, xs[n]? = some x → Pv n σ' H' → Ex H' H2 → tu { D with nx := Pv (n + 1), ct := Pv (n + 1), bk := D.nx } ((σ'.set i (some (.int (n : Int)))).set j (some x)) H2) (hd : ∀ σ' H', Pv xs.length σ' H' → D.nx σ' H') :
    tFor (iEnumS K ta) (gTup K 2 (gCons (gName i) (gCons (gName j) gNil))) tu D σ H := h H (Ex.refl H) _ fun H1 e => by
  have turn : ∀ n v σ' Hh H2, n < xs.length → Pv n σ' Hh → YPair (fun i => some (.int (i : Nat))) (fun i => xs[i]?) n Hh v H2 → gTup K 2 (gCons (gName i) (gCons (gName j) gNil)) v σ' H2 fun σ2 H3 => tu { D with nx := Pv (n + 1), ct := Pv (n + 1), bk := D.nx } σ2 H3 := by
    rintro n v σ' Hh H2 hn p ⟨T, x, y, rfl, nT, rfl, g1, g2⟩
    have ex : V.int (n : Nat) = x := Option.some.inj g1
    subst ex
    exact ⟨T, [.int (n : Nat), y], rfl, st_of upd_same, rfl, _, [y], rfl, y, [], rfl, rfl, hs n y σ' Hh _ g2 p (Ex.new nT)⟩
  rcases hG with hG | hG
  · exact ⟨a, xs, rfl, .inl ⟨hG _ (hx H1 e), for_it walk_enum Pv (h0 H1 e) (fun n σ' H' hn p => hG _ (hl n σ' H' hn p)) (fun n v σ' Hh H2 => turn n v σ' Hh H2) hd⟩⟩
  · exact ⟨a, xs, rfl, .inr ⟨hG _ (hx H1 e), for_it walk_enumT Pv (h0 H1 e) (fun n σ' H' hn p => hG _ (hl n σ' H' hn p)) (fun n v σ' Hh H2 => turn n v σ' Hh H2) hd⟩⟩
end
end Kit
set_option Elab.async false
set_option linter.all false
set_option maxRecDepth 100000
set_option maxHeartbeats 4000000
namespace Kit
open PySem PySem.Spec PyProof.Rows L2 Evl
/-! ### dicts of tuple keys: for k, v in d.items(), sum(d.values()), a display -/
theorem frzT2 {X : Cx} {pins : List (Addr × Obj)} {σ : L2.St} {H : Hp} {s : Shared} {d : Addr} {o : Obj} {kvs : List (List L2.Key × V)} (I : Inv X pins σ H s) (h : H d = some (.frz o (.dT kvs))) :
    (d == sysModules) = false ∧ s.heap.get? d = some o ∧ o.ExactDict ∧ ∃ (es : Array DictEntry) (ep : Nat), o.data = .dict es ep ∧ es.size = kvs.length ∧
      ∀ (i : Nat) (k : List L2.Key) (v : V), kvs[i]? = some (k, v) → ∃ (en : DictEntry) (q : Addr), es[i]? = some en ∧ en.key = .ref q ∧ H q = some (.tup (k.map kV)) ∧ RelV v en.val := by
  obtain ⟨hd, z, hs, xs, pr, o', es, ep, ho, hx, hdt, he, _⟩ := I.hok d _ h
  rw [hd] at ho
  cases ho
  refine ⟨hs, hd, hx, es, ep, hdt, ?_, fun i k v e => ?_⟩
  · have l1 : es.size = xs.length := size_of_entries he
    have l2 : kvs.length = xs.length := Paired.length pr
    omega
  · obtain ⟨b, hb, e1, e2, e3⟩ := paired_get pr e
    have q := entry_at he i
    rw [hb] at q
    exact ⟨_, b.2.1, q, rfl, e2, e3⟩
/-- the pairs of a dict of tuple keys, each a new tuple of the key's own tuple and the value -/
def ItiT (d : Addr) (o : Obj) (kvs : List (List L2.Key × V)) : It :=
  ⟨fun i H => H d = some (.frz o (.dT kvs)) ∧ i < kvs.length, fun i H x H' => ∃ T k v q, kvs[i]? = some (k, v) ∧ H q = some (.tup (k.map kV)) ∧ x = .ref T ∧ H T = none ∧ H' = upd H T (.tup [.ref q, v]), fun i H => H d = some (.frz o (.dT kvs)) ∧ kvs.length ≤ i⟩
theorem turn_itemsT {P : Program} {w : World} {K : PySem.W.Frag} {d : Addr} {o : Obj} {es : Array DictEntry} {ep : Nat} {kvs : List (List L2.Key × V)} {elts : List Expr} {kk : Nat} {tpos : Pos} (it : Addr) (hod : o.data = .dict es ep) (hsz0 : es.size = kvs.length) (hxd : o.ExactDict) :
    Turn P w K (.Tuple elts kk tpos) (ItiT d o kvs) [it] it (fun i h => ∃ ok ov, IsItemIter h it d i es.size ep ok ov) where
  mem := by simp
  obj := fun i h st b hb => by
    have e : b = it := by simpa using hb
    subst e
    obtain ⟨ok, ov, e⟩ := st
    exact ⟨_, e, fun v z => nomatch z⟩
  keep := fun i h h' st k => let ⟨ok, ov, e⟩ := st; ⟨ok, ov, k it (by simp) _ e⟩
  item := by
    intro X hP hw hK hc i pins s σ H E I hf st hg
    subst hP hw hK
    obtain ⟨hd, hi⟩ := hg
    obtain ⟨hs, hgd, hx, es', ep', hdt, hsz, ent⟩ := frzT2 I hd
    obtain ⟨rfl, rfl⟩ := dict_ep hod hdt
    obtain ⟨⟨k, v⟩, hkv⟩ : ∃ p, kvs[i]? = some p := ⟨kvs[i], List.getElem?_eq_getElem hi⟩
    obtain ⟨en, q, hen, hkey, hq, rv⟩ := ent i k v hkv
    have hlt0 : i < es'.size := by omega
    have een : es'[i] = en := by
      rw [Array.getElem?_eq_getElem hlt0] at hen
      exact Option.some.inj hen
    obtain ⟨ok, ov, he⟩ := st
    have hlt : it < s.heap.objs.size := Heap.lt_size he
    refine wpAny_pyNext_items_item_raw he ⟨o, hgd, hx, hdt⟩ hlt0 fun h' ho hT hz hk => ?_
    refine ⟨_, rfl, wpAny_letOwnedTupleGo_items (s := { s with heap := h' }) ho fun h'' he' sb => ?_⟩
    rw [een] at hT
    have hT2 : h''.get? s.heap.objs.size = some { cls := .type "tuple", data := .seq #[en.key, en.val] } := (sb.2 _ (Nat.ne_of_gt hlt)).trans hT
    have new : ObjOk X.prog X.w (upd H s.heap.objs.size (.tup [.ref q, v])) h'' s.heap.objs.size (.tup [.ref q, v]) :=
      ⟨by show 2 ≤ sizeLine; decide, [en.key, en.val], .cons hkey (.cons rv .nil), ⟨_, hT2, rfl, _, rfl⟩⟩
    have I1 : Inv X pins σ (upd H s.heap.objs.size (.tup [.ref q, v])) { s with heap := h'' } :=
      I.turnedNew (t' := s.toks) (ch := [it]) (fun b ob hb e => (sb.2 b (by simpa using hb)).trans (hk b ob (by simpa using hb) e)) hf (Nat.le_refl _) new
    refine ⟨.ref s.heap.objs.size, _, I1, rfl, ⟨_, k, v, q, hkv, hq, rfl, I.hok.fresh (Nat.le_refl _), rfl⟩, ⟨_, _, he'⟩, fun b hb => ?_⟩
    have e : b = it := by simpa using hb
    rw [e, upd_ne (Nat.ne_of_lt hlt)]
    exact (hf it (by simp)).1
  done := by
    intro X hP hw hK hc i pins s σ H E I hf st hg
    subst hP hw hK
    obtain ⟨hd, hi⟩ := hg
    obtain ⟨f0, f1, f2, f3, f4, f5⟩ := hf it (by simp)
    obtain ⟨hs, hgd, hx, es', ep', hdt, hsz, ent⟩ := frzT2 I hd
    obtain ⟨rfl, rfl⟩ := dict_ep hod hdt
    obtain ⟨ok, ov, he⟩ := st
    exact wpAny_pyNext_items_end_raw (I.ok.hd hc) he ⟨o, hgd, hx, hdt⟩ (by omega) fun h' eb => ⟨rfl, I.turned (t' := s.toks) (fun b ob hb e => eb b ob hb e) f0 f1 f3 f4 f5⟩
  self := fun A i s Q E st h => let ⟨_, _, e⟩ := st; PySem.W.kcp_self e h
def iItemsT (td : TE) : TI := fun σ H R => td σ H fun x H1 => ∃ d o kvs, x = .ref d ∧ H1 d = some (.frz o (.dT kvs)) ∧ R (ItiT d o kvs) H1
theorem pi_itemsT {X : Cx} {e : Expr} {td : TE} {apos cpos : Pos} {elts : List Expr} {kk : Nat} {tpos : Pos} (he : PE X e td) (hbase : attributeBase e "items" X.env (eval e X.env) = eval e X.env := by rfl) (hline : (apos.endLine == cpos.line) = true := by rfl) :
    PI X (.Tuple elts kk tpos) (.Call (.Attribute e "items" apos) [] [] cpos) (iItemsT td) := by
  refine ⟨fun pins s σ H R I h => ?_⟩
  refine wpAny_Call_method (T := "dict") (id := "dict.items") hbase rfl hline F.plainAttrs_dict F.slot_dict_items F.type_dict_items (thn (he.run pins s σ H _ I h) fun u s1 ⟨x, H1, I1, rx, d, o, kvs, ex, hd, q⟩ => ?_)
  subst ex
  obtain rfl : u = Value.ref d := rx
  obtain ⟨hs, hgd, hx, es, ep, hdt, hsz, ent⟩ := frzT2 I1 hd
  have raw : s1.heap.DictRaw d es ep := ⟨o, hgd, hx, hdt⟩
  refine ⟨raw.typeIs, fun a ea => ?_, ?_⟩
  · cases ea
    exact ⟨o, hgd, hx.2.1⟩
  have I2 : Inv X pins σ H1 { s1 with heap := s1.heap.push { cls := .type "dict_items", data := .fields #[.ref d] } } := I1.kept (t' := s1.toks) fun b ob q => Heap.get?_push_of_some _ q
  have fin : wpAny (model X.prog X.w) X.A (pyIter (.ref s1.heap.objs.size)) (PIE X pins σ (.Tuple elts kk tpos) R) X.xe { s1 with heap := s1.heap.push { cls := .type "dict_items", data := .fields #[.ref d] } } := by
    refine wpAny_pyIter_items_raw (d := d) ⟨_, Heap.get?_push_size _ rfl, rfl, rfl⟩ (raw.at fun o e => Heap.get?_push_of_some _ e) (pi_one (tk := s1.toks) I2 _ (turn_itemsT _ hdt hsz hx) ⟨.none, .none, ?_⟩ q)
    exact Heap.get?_push_size _ rfl
  show wpAny _ _ (callWith cpos (.builtin "dict.items") [.ref d] [] []) _ X.xe s1
  exact method_meetsIn F.slot_dict_items F.entry_dict_items rfl (PySem.evalArgs_none ⟨rfl, raw.typeIs, F.args_dict_items_1 _, _, meets_dict_items_raw d hs, ⟨es, ep, raw⟩, fin⟩)
theorem walk_itemsT {d : Addr} {o : Obj} {kvs : List (List L2.Key × V)} : Walk (ItiT d o kvs) kvs.length (fun H => H d = some (.frz o (.dT kvs))) (fun i H x H' => ∃ T k v q, kvs[i]? = some (k, v) ∧ H q = some (.tup (k.map kV)) ∧ x = .ref T ∧ H T = none ∧ H' = upd H T (.tup [.ref q, v])) :=
  ⟨fun _ _ hi q => ⟨q, hi⟩, fun _ q => ⟨q, Nat.le_refl _⟩, fun _ _ _ _ _ _ y => y⟩
end Kit
namespace Kit
open PySem PySem.Spec PyProof.Rows L2 Evl
theorem preSum_take (ns : List Int) : ∀ n, n ≤ ns.length → preSum (fun i => ns.getD i 0) n = (ns.take n).sum
  | 0, _ => rfl
  | n + 1, h => by
    have hx : ns[n]? = some ns[n] := List.getElem?_eq_getElem h
    show preSum (fun i => ns.getD i 0) n + ns.getD n 0 = _
    rw [preSum_take ns n (Nat.le_of_succ_le h), List.take_succ, hx, List.sum_append, List.getD_eq_getElem?_getD, hx]
    simp
/-- the view d.values() at p -/
def valsO (p d : Addr) : HO := .ext fun h => h.IsValuesView p d
theorem valsO_ok {P : Program} {w : World} {H : Hp} {h : Heap} {p d : Addr} (e : h.get? p = some { cls := .type "dict_values", data := .fields #[.ref d] }) : ObjOk P w H h p (valsO p d) :=
  ⟨⟨_, e, rfl, rfl⟩, ⟨_, e⟩, fun h1 h2 x k => let ⟨o, ho, r⟩ := x; ⟨o, k o ho, r⟩⟩
section
variable {X : Cx}
def rValsT : V → List V → Hp → VK → Prop := fun x xs H Q => ∃ (a : Addr) (kvs : List (List L2.Key × V)), x = .ref a ∧ xs = [] ∧ H a = some (.dT kvs) ∧ ∀ p, H p = none → Q (.ref p) (upd H p (valsO p a))
theorem mt_valsT : MtR X "dict.values" rValsT := by
  intro pins s σ H x xs v us Q I rx rxs h
  obtain ⟨a, kvs, rfl, rfl, ha, q⟩ := h
  cases rx
  cases rxs
  obtain ⟨z, hd, xs', rel, o, es, ep, ho, hx, hdat, _⟩ := dt_of I.hok ha
  have raw : s.heap.DictRaw a es ep := ⟨o, ho, hx, hdat⟩
  have hf : H s.heap.objs.size = none := I.hok.fresh (Nat.le_refl _)
  refine call_meetsIn PySem.F.slot_dict_values raw.typeIs PySem.F.entry_dict_values (PySem.F.args_dict_values_1 _) (meets_dict_values_raw a hd) ⟨⟨es, ep, raw⟩, ?_⟩
  exact ⟨.ref s.heap.objs.size, upd H s.heap.objs.size (valsO s.heap.objs.size a), I.laid (t' := s.toks) (fun b u e => Heap.get?_push_of_some _ e) (Nat.le_refl _) (valsO_ok (Heap.get?_push_size _ rfl)), rfl, q _ hf⟩
def rSumVT : List V → Hp → VK → Prop := fun xs H Q => ∃ (p a : Addr) (kvs : List (List L2.Key × V)) (ns : List Int), xs = [.ref p] ∧ H p = some (valsO p a) ∧ H a = some (.dT kvs) ∧ kvs.map Prod.snd = ns.map V.int ∧ Q (.int ns.sum) H
theorem cr_sumVT (hc : X.calm = true) : CallR X (.builtin "sum") rSumVT := by
  intro pins s σ H xs us Q I rx h
  obtain ⟨p, a, kvs, ns, rfl, hp, ha, hns, q⟩ := h
  rw [Vals.ref1 rx]
  obtain ⟨z, hd, xs', rel, o, es, ep, ho, hx, hdat, he, _⟩ := dt_of I.hok ha
  have raw : s.heap.DictRaw a es ep := ⟨o, ho, hx, hdat⟩
  have hv : s.heap.IsValuesView p a := (show ObjOk X.prog X.w H s.heap p (valsO p a) from I.hok p _ hp).1
  have hkn : kvs.length = ns.length := by
    have e := congrArg List.length hns
    rw [List.length_map, List.length_map] at e
    exact e
  have l1 : es.size = xs'.length := size_of_entries he
  have l2 : kvs.length = xs'.length := Paired.length rel
  have hsz : es.size = ns.length := by omega
  have hP : ∀ (i : Nat) (v : Value), (∃ hi : i < es.size, v = es[i].val) → ∃ t, v = .int (ns.getD i 0) t := fun i v ⟨hi, e⟩ => by
    have hi2 : i < kvs.length := by omega
    have hi3 : i < ns.length := by omega
    obtain ⟨b, hb, e1, e2, e3⟩ := paired_get rel (List.getElem?_eq_getElem hi2)
    have q := entry_at he i
    rw [hb, Array.getElem?_eq_getElem hi] at q
    have e4 : es[i] = entryOfKey (tupleKind (mixKind X.prog X.w)) b := Option.some.inj q
    have e5 : kvs[i].2 = V.int ns[i] := by
      have z : (kvs.map Prod.snd)[i]? = (ns.map V.int)[i]? := by rw [hns]
      rw [List.getElem?_map, List.getElem?_map, List.getElem?_eq_getElem hi2, List.getElem?_eq_getElem hi3] at z
      exact Option.some.inj z
    have e6 : ns.getD i 0 = ns[i] := by rw [List.getD_eq_getElem?_getD, List.getElem?_eq_getElem hi3] <;> rfl
    rw [e5] at e3
    rw [e, e4, e6]
    exact e3
  have la : a < s.heap.objs.size := Heap.lt_size ho
  refine call_sum_walkAnyS (wpAny_pyIter_values_raw hv raw ?_)
  refine ⟨_, _, _, _, _, _, _, fun i => ns.getD i 0, rfl, (Walks.rawValues (prog := X.prog) (w := X.w) (A := X.A.in1) (show X.A.in1.handled = none from I.ok.hd hc) s.heap.objs.size a (Nat.ne_of_lt la) es ep).toS, ⟨⟨_, Heap.get?_push_size _ rfl, rfl, rfl⟩, raw.at fun o e => Heap.get?_push_of_some _ e⟩, fun b hb => ?_, hP, fun s' t' hm => ?_⟩
  · show b < (s.heap.push _).objs.size
    rw [size_push']
    rcases List.mem_cons.mp hb with z | z
    · rw [z]
      exact Nat.lt_succ_self _
    · rw [List.mem_singleton.mp z]
      exact Nat.lt_succ_of_lt la
  · have e : preSum (fun i => ns.getD i 0) es.size = ns.sum := by
      rw [hsz, preSum_take ns ns.length (Nat.le_refl _), List.take_length]
    rw [e, Moved.eq_with hm]
    exact ⟨.int ns.sum, H, I.kept (t' := s'.toks) fun b o e => hm.heap b o (fun hmem => Nat.ne_of_lt (Heap.lt_size e) (List.mem_singleton.mp hmem)) (Heap.get?_push_of_some _ e), ⟨_, rfl⟩, q⟩
end
end Kit

namespace Kit
open PySem PySem.Spec PyProof.Rows L2 Evl
/-! ### {key: value}, the key a tuple -/
def tDisp1 (tk tv : TE) : TE := fun σ H Q => ∀ p, H p = none → tk σ (upd H p (.dT [])) fun x H1 => tv σ H1 fun y H2 => H2 p = some (.dT []) ∧ ∃ (b : Addr) (k : List L2.Key), x = .ref b ∧ H2 b = some (.tup (k.map kV)) ∧ Q (.ref p) (upd H2 p (.dT [(k, y)]))
theorem pe_disp1T {X : Cx} {pos : Pos} {k v : Expr} {tk tv : TE} (hu : X.A.units < cLine) (hk : PE X k tk) (hv : PE X v tv) : PE X (.Dict [some k] [v] pos) (tDisp1 tk tv) := by
  refine ⟨fun pins s σ H Q I q => ?_⟩
  have hn := I.hok.fresh (Nat.le_refl s.heap.objs.size)
  have I1 := I.laid (a := s.heap.objs.size) (o := .dT []) (h' := s.heap.push { cls := .type "dict", data := .dict #[] }) (t' := s.toks) (fun _ _ q => Heap.get?_push_of_some _ q) (Nat.le_refl _) (dt_empty s.heap I.big)
  have hp : PPs X pos [some k] [v] [(tk, tv)] := pps_cons hk hv pps_nil
  rw [arm_eval_Dict, zip_pairTrees [some k] [v] X.env pos rfl rfl, dictDisplay_pairs (pairTrees [some k] [v] X.env pos) (by intro z; cases z) (by rw [pairTrees_length [some k] [v] X.env pos rfl rfl]; show 1 < 17; decide)]
  refine wpAny_bind (wpAny_standAt (wpAny_bind (wpAny_subDictH (knd := tupleKind (mixKind X.prog X.w)) hu (by rw [pairTrees_length [some k] [v] X.env pos rfl rfl]; show 1 ≤ 15; decide) ?_)))
  refine thn (hp.run pins _ σ _ (fun ps H2 => match ps with
    | [(x, y)] => H2 s.heap.objs.size = some (.dT []) ∧ ∃ (b : Addr) (k : List L2.Key), x = .ref b ∧ H2 b = some (.tup (k.map kV)) ∧ Q (.ref s.heap.objs.size) (upd H2 s.heap.objs.size (.dT [(k, y)]))
    | _ => False) I1 (q _ hn)) fun ws s2 ⟨ps, H2, I2, rel, z⟩ => ?_
  match ps, z with
  | [(x, y)], ⟨e, b, kk, ex, hb, q2⟩ =>
    subst ex
    cases rel with
    | @cons a b2 as bs h t =>
      cases t
      obtain ⟨b21, b22⟩ := b2
      obtain ⟨h1, h2⟩ := h
      obtain rfl : b21 = Value.ref b := h1
      obtain ⟨z, hd, xs0, r0, dd⟩ := dt_of I2.hok e
      cases r0
      refine ⟨[(kk, b, b22)], ⟨rfl, rfl, key_of I2.hok hb, True.intro⟩, dd, fun h' tk dd' hs => wpAny_pure ⟨.ref s.heap.objs.size, _, ?_, rfl, q2⟩⟩
      obtain ⟨o, es, ep, hq, h2', h3, h4, _, h5⟩ := dd'
      refine d_write I2 (by rw [e]; exact True.intro) hs ⟨o, hq⟩ ⟨by show 1 ≤ sizeLine; decide, hd, [(kk, b, b22)], .cons ⟨rfl, ?_, h2⟩ .nil, o, es, ep, hq, h2', h3, h4, h5⟩
      rw [upd_ne (ne_of hb e (fun z => nomatch z))]
      exact hb
/-! ### for k, v in d.items(), the keys tuples -/
section
variable {K : PySem.W.Frag} {σ : L2.St} {H : Hp} {D : Ends} {tu : TS} {tz : TS} {td : TE}
theorem s_forItT {i j : Nat} {d : Addr} {kvs : List (List L2.Key × V)} (h : ∀ H1, Ev td σ H1 (.ref d)) (hd : H d = some (.dT kvs)) (Pv : Obj → Nat → L2.St → Hp → Prop) (h0 : ∀ o H1, Ex (upd H d (.frz o (.dT kvs))) H1 → Pv o 0 σ H1) (hl : ∀ o k σ' H', k ≤ kvs.length → Pv o k σ' H' → H' d = some (.frz o (.dT kvs)))
    (hs : ∀ o k key v q σ' H' H2, kvs[k]? = some (key, v) → H' q = some (.tup (key.map kV)) → Pv o k σ' H' → Ex H' H2 → tu { nx := Pv o (k + 1), ct := Pv o (k + 1), bk := fun σ' H' => H' d = some (.frz o (.dT kvs)) ∧ D.nx σ' (upd H' d (.dT kvs)), rt := fun v H' => H' d = some (.frz o (.dT kvs)) ∧ D.rt v (upd H' d (.dT kvs)) } ((σ'.set i (some (.ref q))).set j (some v)) H2) (he : ∀ o σ' H', Pv o kvs.length σ' H' → D.nx σ' (upd H' d (.dT kvs))) :
    tLock (tFor (iItemsT td) (gTup K 2 (gCons (gName i) (gCons (gName j) gNil))) tu) D σ H := ⟨d, .dT kvs, hd, True.intro, fun o => h _ _ (Ex.refl _) _ fun H1 e => ⟨d, o, kvs, rfl, e d _ upd_same, by
  refine for_it (walk_itemsT) (Pv o) (h0 o H1 e) (fun k σ' H' hk p => hl o k σ' H' hk p) ?_ (fun σ' H' p => ⟨hl o _ σ' H' (Nat.le_refl _) p, he o σ' H' p⟩)
  rintro k v σ' Hh H2 hk p ⟨T, key, x, q, g1, g2, rfl, nT, rfl⟩
  exact ⟨T, [.ref q, x], rfl, st_of upd_same, rfl, .ref q, [x], rfl, x, [], rfl, rfl, hs o k key x q σ' Hh _ g1 g2 p (Ex.new nT)⟩⟩⟩
end
end Kit

namespace Kit
open PySem PySem.Spec PyProof.Rows L2 Evl
section
variable {K : PySem.W.Frag} {σ : L2.St} {H : Hp} {ta tb te tx : TE} {D : Ends} {tz : TS}
theorem ev_dget2T {a b : Addr} {kvs : List (List L2.Key × V)} {k : List L2.Key} {v : V} (h : Ev ta σ H (.ref a)) (hx : Ev tb σ H (.ref b)) (hv : Ev tx σ H v) (ha : H a = some (.dT kvs)) (hb : H b = some (.tup (k.map kV))) : Ev (tDGet2 ta tb tx) σ H ((valV kvs k).getD v) := fun H1 e Q q =>
  h H1 e _ fun H2 e2 => ⟨a, rfl, .inr ⟨kvs, .inl (e2 a _ (e a _ ha))⟩, hx H2 (e.trans e2) _ fun H3 e3 => hv H3 (e.trans (e2.trans e3)) _ fun H4 e4 => ⟨_, DGet.t (e4 a _ (e3 a _ (e2 a _ (e a _ ha)))) (e4 b _ (e3 b _ (e2 b _ (e b _ hb)))), q H4 (e2.trans (e3.trans e4))⟩⟩
theorem s_dputT {a b : Addr} {kvs : List (List L2.Key × V)} {k : List L2.Key} {v : V} (h : Ev ta σ H (.ref a)) (hx : Ev tb σ H (.ref b)) (hv : Ev te σ H v) (ha : H a = some (.dT kvs)) (hb : H b = some (.tup (k.map kV))) (hl : kvs.length < 100000) (kk : ∀ H1, Ex H H1 → D.nx σ (upd H1 a (.dT (putK kvs k v)))) : sDPut ta tb te D σ H :=
  hv H (Ex.refl _) _ fun H1 e1 => h H1 e1 _ fun H2 e2 => hx H2 (e1.trans e2) _ fun H3 e3 => ⟨a, _, rfl, DPut.t (k := k) (e3 a _ (e2 a _ (e1 a _ ha))) (e3 b _ (e2 b _ (e1 b _ hb))) (sz_lt hl), kk H3 (e1.trans (e2.trans e3))⟩
theorem q_dnewT {i : Nat} (k : ∀ p H1, H p = none → Ex H H1 → H1 p = some (.dT []) → tz D (σ.set i (some (.ref p))) H1) : tSeq (tAsg tDNewT (gName i)) tz D σ H := fun p hp => k p _ hp (Ex.new hp) upd_same
/-- {key: value}: the key a new tuple -/
theorem q_disp1 {i : Nat} {k : List L2.Key} {v : V} (hk : EvU ta σ H (k.map kV)) (hv : Ev tb σ H v) (kk : ∀ p H1, H p = none → Ex H H1 → H1 p = some (.dT [(k, v)]) → tz D (σ.set i (some (.ref p))) H1) : tSeq (tAsg (tDisp1 ta tb) (gName i)) tz D σ H := fun p hp =>
  hk _ (Ex.new hp) _ fun b H2 nb e2 hb => hv H2 ((Ex.new hp).trans e2) _ fun H3 e3 => ⟨e3 p _ (e2 p _ upd_same), b, k, rfl, e3 b _ hb, kk p _ hp (fun c o ec => by
    by_cases z : c = p
    · subst z
      rw [hp] at ec
      cases ec
    · rw [upd_ne z]
      exact e3 c _ (e2 c _ (Ex.new hp c _ ec))) upd_same⟩
theorem s_retE : True := trivial
end
end Kit
set_option Elab.async false
set_option linter.all false
set_option maxRecDepth 100000
set_option maxHeartbeats 4000000
namespace Kit
open PySem PySem.Spec PyProof.Rows L2 Evl
/-! ### zip of a list and a tuple -/
def ItzM (K : PySem.W.Frag) (a b : Addr) (n : Nat) : It :=
  ⟨fun i H => i < n ∧ ∃ xs ys : List V, SqL K H a xs ∧ SqT K H b ys ∧ n = min xs.length ys.length,
    fun i H v H' => ∃ T x y, v = .ref T ∧ H T = none ∧ H' = upd H T (.tup [x, y]) ∧ (∀ xs, SqL K H a xs → xs[i]? = some x) ∧ ∀ ys, SqT K H b ys → ys[i]? = some y,
    fun i H => i = n ∧ ∃ xs ys : List V, SqL K H a xs ∧ SqT K H b ys ∧ n = min xs.length ys.length⟩
theorem turn_zipM {P : Program} {w : World} {K : PySem.W.Frag} {elts : List Expr} {kk n : Nat} {tpos : Pos} {a b z TI TO i1 i2 : Addr} (D : ZipApart z TI TO i1 i2 a b) (e12 : i1 ≠ b) (e21 : i2 ≠ a) (e11 : a ≠ i1) (e22 : b ≠ i2) :
    Turn P w K (.Tuple elts kk tpos) (ItzM K a b n) [z, TI, TO, i1, i2] z (fun i h => IsZip h z TI TO .none ∧ IsTupOf2 h TI (.ref i1) (.ref i2) ∧ (∃ x y, IsTupOf2 h TO x y) ∧ h.IsListIter i1 a i ∧ h.IsTupleIter i2 b i) where
  mem := by simp
  obj := fun i h st c hc => by
    obtain ⟨hz, hTI, ⟨x, y, hTO⟩, ⟨o1, e1, _, d1⟩, ⟨o2, e2, _, d2⟩⟩ := st
    have e' : c = z ∨ c = TI ∨ c = TO ∨ c = i1 ∨ c = i2 := by simpa using hc
    rcases e' with q | q | q | q | q
    · rw [q]; exact ⟨_, hz, fun v q => nomatch q⟩
    · rw [q]; exact ⟨_, hTI, fun v q => nomatch q⟩
    · rw [q]; exact ⟨_, hTO, fun v q => nomatch q⟩
    · rw [q]; exact ⟨o1, e1, fun v q => by rw [d1] at q; cases q⟩
    · rw [q]; exact ⟨o2, e2, fun v q => by rw [d2] at q; cases q⟩
  keep := fun i h h' st k => by
    obtain ⟨hz, hTI, ⟨x, y, hTO⟩, h1, h2⟩ := st
    exact ⟨k z (by simp) _ hz, k TI (by simp) _ hTI, ⟨x, y, k TO (by simp) _ hTO⟩, h1.at fun o q => k i1 (by simp) o q, h2.at fun o q => k i2 (by simp) o q⟩
  item := by
    intro X hP hw hK hc i pins s σ H E I hf st hg
    subst hP hw hK
    obtain ⟨hz, hTI, ⟨x0, y0, hTO⟩, h1, h2⟩ := st
    obtain ⟨hlt, xs, ys, hqx, hqy, hn⟩ := hg
    obtain ⟨its, rv, p, _⟩ := I.list hqx
    obtain ⟨its2, rv2, p2, _⟩ := I.tuple hqy
    have l1 := rv.length
    have l2 := rv2.length
    have hi1 : i < xs.length := by omega
    have hi2 : i < ys.length := by omega
    obtain ⟨u, hu, ru⟩ := rv.get (List.getElem?_eq_getElem hi1)
    obtain ⟨u2, hu2, ru2⟩ := rv2.get (List.getElem?_eq_getElem hi2)
    have hzl : z < s.heap.objs.size := Heap.lt_size hz
    have hh : X.A.in1.handled = none := I.ok.hd hc
    have S : ZipSep2 z TI TO i1 i2 [i1, a] [i2, b] := ⟨D.TIz, D.TOz, D.TITO, D.TIi1, by simp, by simp [D.i1z.symm, D.l1z.symm], by simp [D.TOi1, D.l1TO.symm], D.TIi2, by simp, by simp [D.i2z.symm, D.l2z.symm], by simp [D.TOi2, D.l2TO.symm], by simp [D.i12, e12], by simp [D.i12.symm, e21]⟩
    refine wpAny_pyNext_zipD2_item S (Draws.list hh i1 a e11 its.toArray) (Draws.tuple hh i2 b e22 its2.toArray) hz hTI hTO ⟨h1, p.isList⟩ ⟨h2, p2⟩ (by simp; omega) (by simp; omega) fun x1 x2 h' tk y1 y2 z' TO' st1 st2 hT hsz hk => ?_
    have ex1 : x1 = u := by
      rw [List.getElem?_toArray] at y1
      exact Option.some.inj (y1.symm.trans hu)
    have ex2 : x2 = u2 := by
      rw [List.getElem?_toArray] at y2
      exact Option.some.inj (y2.symm.trans hu2)
    subst ex1 ex2
    refine ⟨_, rfl, wpAny_letOwnedTupleGo_zip (s := { s with heap := h', toks := tk }) z' fun h'' z'' sb => ?_⟩
    have hT2 : h''.get? s.heap.objs.size = some { cls := .type "tuple", data := .seq #[x1, x2] } := (sb.2 _ (Nat.ne_of_gt hzl)).trans hT
    have new : ObjOk X.prog X.w (upd H s.heap.objs.size (.tup [xs[i], ys[i]])) h'' s.heap.objs.size (.tup [xs[i], ys[i]]) :=
      ⟨by show 2 ≤ sizeLine; decide, [x1, x2], .cons ru (.cons ru2 .nil), ⟨_, hT2, rfl, _, rfl⟩⟩
    have I1 : Inv X pins σ (upd H s.heap.objs.size (.tup [xs[i], ys[i]])) { s with heap := h'', toks := tk } :=
      I.turnedNew (t' := tk) (ch := [z, TI, TO, i1, i2]) (fun c o hb q => (sb.2 c (fun q' => hb (by simp [q']))).trans (hk c o (fun q' => hb (by simp [q'])) (fun q' => hb (by simp [q'])) (fun q' => hb (by simp [q'])) (fun q' => hb (by simp [q'])) q)) hf (Nat.le_refl _) new
    refine ⟨.ref s.heap.objs.size, _, I1, rfl, ⟨_, xs[i], ys[i], rfl, I.hok.fresh (Nat.le_refl _), rfl, fun l hl => by rw [I.list_inj hl hqx]; exact List.getElem?_eq_getElem hi1, fun l hl => by rw [I.tuple_inj hl hqy]; exact List.getElem?_eq_getElem hi2⟩, ⟨z'', ?_, ⟨x1, x2, ?_⟩, ?_, ?_⟩, fun c hcm => ?_⟩
    · exact (sb.2 _ D.TIz).trans (hk _ _ D.TIz D.TITO D.TIi1 D.TIi2 hTI)
    · exact (sb.2 _ D.TOz).trans TO'
    · exact st1.1.at fun o q => (sb.2 _ D.i1z).trans q
    · exact st2.1.at fun o q => (sb.2 _ D.i2z).trans q
    · have hlt : c < s.heap.objs.size := by
        have e' : c = z ∨ c = TI ∨ c = TO ∨ c = i1 ∨ c = i2 := by simpa using hcm
        rcases e' with q | q | q | q | q
        · rw [q]; exact hzl
        · rw [q]; exact Heap.lt_size hTI
        · rw [q]; exact Heap.lt_size hTO
        · rw [q]; obtain ⟨_, e1, _⟩ := h1; exact Heap.lt_size e1
        · rw [q]; obtain ⟨_, e2, _⟩ := h2; exact Heap.lt_size e2
      rw [upd_ne (Nat.ne_of_lt hlt)]
      exact (hf c hcm).1
  done := by
    intro X hP hw hK hc i pins s σ H E I hf st hg
    subst hP hw hK
    obtain ⟨hz, hTI, ⟨x0, y0, hTO⟩, h1, h2⟩ := st
    obtain ⟨hlt, xs, ys, hqx, hqy, hn⟩ := hg
    obtain ⟨its, rv, p, _⟩ := I.list hqx
    obtain ⟨its2, rv2, p2, _⟩ := I.tuple hqy
    have l1 := rv.length
    have l2 := rv2.length
    have hh : X.A.in1.handled = none := I.ok.hd hc
    have S : ZipSep2 z TI TO i1 i2 [i1, a] [i2, b] := ⟨D.TIz, D.TOz, D.TITO, D.TIi1, by simp, by simp [D.i1z.symm, D.l1z.symm], by simp [D.TOi1, D.l1TO.symm], D.TIi2, by simp, by simp [D.i2z.symm, D.l2z.symm], by simp [D.TOi2, D.l2TO.symm], by simp [D.i12, e12], by simp [D.i12.symm, e21]⟩
    refine wpAny_pyNext_zipD2_end S (Draws.list hh i1 a e11 its.toArray) (Draws.tuple hh i2 b e22 its2.toArray) hz hTI hTO ⟨h1, p.isList⟩ ⟨h2, p2⟩ (by simp; omega) (by simp; omega) (by simp; omega) fun h' tk hk => ⟨rfl, I.turnedL (t' := tk) (ch := [z, TI, TO, i1, i2]) (fun c o hb q =>
      hk c o (fun q' => hb (by simp [q'])) (fun q' => hb (by simp [q'])) (fun q' => hb (by simp [q'])) (fun q' => hb (by simp [q'])) q) hf⟩
  self := fun A i s Q E st h => wpAny_pyIter_zip st.1 h
def iZipM (K : PySem.W.Frag) (ta : TA) : TI := fun σ H R => ta σ H fun vs H1 => ∃ a b xs ys, vs = [.ref a, .ref b] ∧ SqL K H1 a xs ∧ SqT K H1 b ys ∧ R (ItzM K a b (min xs.length ys.length)) H1
theorem pi_zipM {X : Cx} {e e2 : Expr} {ta : TA} {p pos tpos : Pos} {elts : List Expr} {kk : Nat} (hg : Gl X "zip") (hm : X.mg "zip" = none) (ha : PA X [e, e2] ta)
    (hs : starEach [e, e2] X.env = (false, eval e X.env) :: starEach [e2] X.env := by rfl) (hpl : (backTo pos (starEach [e2] X.env)).any (·.1) = false := by rfl) :
    PI X (.Tuple elts kk tpos) (.Call (.Name "zip" p) [e, e2] [] pos) (iZipM X.K ta) := by
  refine ⟨fun pins s σ H R I h => ?_⟩
  refine Call_ (ld_blt I hg hm PyProof.Rows.boot_zip (PyProof.Rows.callWith_type1 (thn (ha.run pos pins s σ H _ I h) fun us s1 ⟨vs, H1, I1, r1, q1⟩ => ?_) hs hpl))
  obtain ⟨a, b, xs, ys, ex, hqx, hqy, q⟩ := q1
  subst ex
  cases r1 with
  | cons r rr =>
    cases rr with
    | cons r' rr =>
      cases rr
      cases r
      cases r'
      have fresh5 : ∀ c, c ∈ [s1.heap.objs.size + 4, s1.heap.objs.size + 2, s1.heap.objs.size + 3, s1.heap.objs.size, s1.heap.objs.size + 1] → FpOk X pins H1 c := fun c hcm => by
        have hle : s1.heap.objs.size ≤ c := by
          simp only [List.mem_cons, List.not_mem_nil, or_false] at hcm
          rcases hcm with z | z | z | z | z
          · rw [z]; exact Nat.le_add_right _ _
          · rw [z]; exact Nat.le_add_right _ _
          · rw [z]; exact Nat.le_add_right _ _
          · rw [z]; exact Nat.le_refl _
          · rw [z]; exact Nat.le_add_right _ _
        exact I1.fpOk hle (I1.hok.fresh hle)
      obtain ⟨its, rv, p1, _⟩ := I1.list hqx
      obtain ⟨its2, rv2, p2, _⟩ := I1.tuple hqy
      obtain ⟨o2, ho2, _⟩ := id p2
      have la : a < s1.heap.objs.size := p1.lt
      have lb : b < s1.heap.objs.size := Heap.lt_size ho2
      refine zip_begins2 (begins_list a its.toArray) (begins_tuple b its2.toArray) p1.isList (show s1.heap.IsTuple b its2.toArray from p2) fun h' hz hTI hTO h1 h2 hsz hk => wpAny_pyIter_zip hz ?_
      have I2 : Inv X pins σ H1 { s1 with heap := h' } := I1.kept (t' := s1.toks) hk
      exact ⟨s1.heap.objs.size + 4, [s1.heap.objs.size + 4, s1.heap.objs.size + 2, s1.heap.objs.size + 3, s1.heap.objs.size, s1.heap.objs.size + 1], _, _, H1, rfl, I2, turn_zipM (PySem.W.ktu_apart s1.heap.objs.size a b la lb) (Nat.ne_of_gt lb) (Nat.ne_of_gt (Nat.lt_succ_of_lt la)) (Nat.ne_of_lt la) (Nat.ne_of_lt (Nat.lt_succ_of_lt lb)), ⟨hz, hTI, ⟨_, _, hTO⟩, ⟨_, h1, rfl, rfl⟩, ⟨_, h2, rfl, rfl⟩⟩, fresh5, q⟩
theorem walk_zipM {K : PySem.W.Frag} {a b : Addr} {xs ys : List V} {n : Nat} (hn : n = min xs.length ys.length) : Walk (ItzM K a b n) n (fun H => SqL K H a xs ∧ SqT K H b ys) (YPair (fun i => xs[i]?) (fun i => ys[i]?)) :=
  ⟨fun i _ hi q => ⟨hi, xs, ys, q.1, q.2, hn⟩, fun _ q => ⟨rfl, xs, ys, q.1, q.2, hn⟩, fun i H v H' _ q y => by
    obtain ⟨T, x, z, h1, h2, h3, h4, h5⟩ := y
    exact ⟨T, x, z, h1, h2, h3, h4 xs q.1, h5 ys q.2⟩⟩
end Kit
set_option Elab.async false
set_option linter.all false
set_option maxRecDepth 100000
set_option maxHeartbeats 4000000
namespace Kit
open PySem PySem.Spec PyProof.Rows L2 Evl
/-! ### tuples, old or new, by what they hold -/
def EvS (te : TE) (σ : L2.St) (H : Hp) (xs : List V) : Prop := ∀ H1, Ex H H1 → ∀ Q : VK, (∀ b H2, Ex H1 H2 → H2 b = some (.tup xs) → Q (.ref b) H2) → te σ H1 Q
section
variable {K : PySem.W.Frag} {σ : L2.St} {H : Hp} {D : Ends} {ta tb te : TE} {tl th : TO} {tu tz : TS}
theorem es_ofU {xs : List V} (h : EvU te σ H xs) : EvS te σ H xs := fun H1 e Q q => h H1 e _ fun b H2 _ e2 h2 => q b H2 e2 h2
theorem es_of {b : Addr} {xs : List V} (h : Ev te σ H (.ref b)) (hb : H b = some (.tup xs)) : EvS te σ H xs := fun H1 e Q q => h H1 e _ fun H2 e2 => q b H2 e2 (e2 b _ (e b _ hb))
theorem cut_to (xs : List V) {k : Nat} (h : k ≤ xs.length) : cutV xs none (some (k : Int)) = xs.take k := by
  unfold cutV
  rw [HT.sIx_none, HT.sIx_nat, List.drop_zero, Nat.min_eq_left h, Nat.sub_zero]
theorem cut_from (xs : List V) {k : Nat} (h : k ≤ xs.length) : cutV xs (some (k : Int)) none = xs.drop k := by
  unfold cutV
  rw [HT.sIx_none, HT.sIx_nat, Nat.min_eq_left h]
  exact List.take_of_length_le (by rw [List.length_drop]; omega)
theorem es_to {b : Addr} {xs : List V} {k : Nat} (h : Ev ta σ H (.ref b)) (hk : Ev tb σ H (.int (k : Int))) (hb : H b = some (.tup xs)) (hl : k ≤ xs.length) : EvS (tSl (rSlA K) ta tNoPart (tPart tb)) σ H (xs.take k) := fun H1 e Q q =>
  h H1 e _ fun H2 e2 => hk H2 (e.trans e2) _ fun H3 e3 => ⟨(k : Int), rfl, by
    have hb3 := e3 b _ (e2 b _ (e b _ hb))
    refine ⟨b, xs, rfl, st_of hb3, fun w => q b H3 (e2.trans e3) ?_, fun w p hp => q p _ ((e2.trans e3).trans (Ex.new hp)) ?_⟩
    · rw [HT.sIx_none, HT.sIx_nat, Nat.min_eq_left hl] at w
      rw [w.2, List.take_length]
      exact hb3
    · rw [upd_same, cut_to xs hl]⟩
theorem es_from {b : Addr} {xs : List V} {k : Nat} (h : Ev ta σ H (.ref b)) (hk : Ev tb σ H (.int (k : Int))) (hb : H b = some (.tup xs)) (hl : k ≤ xs.length) : EvS (tSl (rSlA K) ta (tPart tb) tNoPart) σ H (xs.drop k) := fun H1 e Q q =>
  h H1 e _ fun H2 e2 => hk H2 (e.trans e2) _ fun H3 e3 => ⟨(k : Int), rfl, by
    have hb3 := e3 b _ (e2 b _ (e b _ hb))
    refine ⟨b, xs, rfl, st_of hb3, fun w => q b H3 (e2.trans e3) ?_, fun w p hp => q p _ ((e2.trans e3).trans (Ex.new hp)) ?_⟩
    · rw [HT.sIx_none, HT.sIx_nat, Nat.min_eq_left hl] at w
      rw [w.1, List.drop_zero]
      exact hb3
    · rw [upd_same, cut_from xs hl]⟩
theorem es_cat {xs ys : List V} (h1 : EvS ta σ H xs) (h2 : EvS tb σ H ys) (hz : xs.length + ys.length ≤ 100000) : EvS (tOp (rCatA K) ta tb) σ H (xs ++ ys) := fun H1 e Q q =>
  h1 H1 e _ fun a H2 e2 ha => h2 H2 (e.trans e2) _ fun b H3 e3 hb => by
    refine ⟨a, b, xs, ys, rfl, rfl, st_of (e3 a _ ha), st_of hb, sz_of hz, fun z => ?_, fun _ z => ?_, fun _ _ p hp => ?_⟩
    · subst z
      exact q b H3 (e2.trans e3) hb
    · subst z
      exact q a H3 (e2.trans e3) (by rw [List.append_nil]; exact e3 a _ ha)
    · exact q p _ ((e2.trans e3).trans (Ex.new hp)) upd_same
theorem q_asgS {i : Nat} {xs : List V} (h : EvS te σ H xs) (k : ∀ b H1, Ex H H1 → H1 b = some (.tup xs) → tz D (σ.set i (some (.ref b))) H1) : tSeq (tAsg te (gName i)) tz D σ H := h H (Ex.refl H) _ fun b H1 e hb => k b H1 e hb
/-- {key: value} -/
theorem q_disp1S {i : Nat} {k : List L2.Key} {v : V} (hk : EvS ta σ H (k.map kV)) (hv : Ev tb σ H v) (kk : ∀ p H1, H p = none → Ex H H1 → H1 p = some (.dT [(k, v)]) → tz D (σ.set i (some (.ref p))) H1) : tSeq (tAsg (tDisp1 ta tb) (gName i)) tz D σ H := fun p hp =>
  hk _ (Ex.new hp) _ fun b H2 e2 hb => hv H2 ((Ex.new hp).trans e2) _ fun H3 e3 => ⟨e3 p _ (e2 p _ upd_same), b, k, rfl, e3 b _ hb, kk p _ hp (fun c o ec => by
    by_cases z : c = p
    · subst z
      rw [hp] at ec
      cases ec
    · rw [upd_ne z]
      exact e3 c _ (e2 c _ (Ex.new hp c _ ec))) upd_same⟩
/-- for i, x in enumerate(a tuple) -/
theorem s_forEnT {ta : TA} {i j : Nat} {a : Addr} {xs : List V} (h : EvA ta σ H [.ref a]) (hx : SqT K H a xs) (Pv : Nat → L2.St → Hp → Prop) (h0 : ∀ H1, Ex H H1 → Pv 0 σ H1) (hl : ∀ k σ' H', k ≤ xs.length → Pv k σ' H' → SqT K H' a xs)
    (hs : ∀ k x σ' H' H2, xs[k]? = some x → Pv k σ' H' → Ex H' H2 → tu { D with nx := Pv (k + 1), ct := Pv (k + 1), bk := D.nx } ((σ'.set i (some (.int (k : Nat)))).set j (some x)) H2) (hd : ∀ σ' H', Pv xs.length σ' H' → D.nx σ' H') :
    tFor (iEnumS K ta) (gTup K 2 (gCons (gName i) (gCons (gName j) gNil))) tu D σ H := h H (Ex.refl H) _ fun H1 e => ⟨a, xs, rfl, .inr ⟨ex_t e hx, by
  refine for_it walk_enumT Pv (h0 H1 e) (fun k σ' H' hk p => hl k σ' H' hk p) ?_ hd
  rintro k v σ' Hh H2 hk p ⟨T, x, y, rfl, nT, rfl, g1, g2⟩
  cases g1
  exact ⟨T, [.int (k : Nat), y], rfl, st_of upd_same, rfl, _, [y], rfl, y, [], rfl, rfl, hs k y σ' Hh _ g2 p (Ex.new nT)⟩⟩⟩
/-- [e for x, y in zip(xs, ys)], xs a list, ys a tuple -/
theorem el_zipM {ta : TA} {i j n : Nat} {vs : List Nat} {a b : Addr} {xs ys : List V} (F : V → V → V) (h : EvA ta σ H [.ref a, .ref b]) (hx : SqL K H a xs) (hy : SqT K H b ys) (hl : n = min xs.length ys.length) (hz : n ≤ 40000)
    (hw : ∀ x y, wipe (((wipe σ vs).set i (some x)).set j (some y)) vs = wipe σ vs)
    (he : ∀ (n : Nat) x y H1, Ex H H1 → xs[n]? = some x → ys[n]? = some y → Ev te (((wipe σ vs).set i (some x)).set j (some y)) H1 (F x y)) :
    EvL (tLc (iZipM K ta) (gTup K 2 (gCons (gName i) (gCons (gName j) gNil))) tYes te vs) σ H (List.zipWith F xs ys) := fun H0 e Q q => h H0 e _ fun H1 e1 => ⟨a, b, xs, ys, rfl, ex_l (e.trans e1) hx, ex_t (e.trans e1) hy, fun Dl hD => by
  subst hl
  refine lc_it (walk_zipM (n := min xs.length ys.length) rfl) (fun n H' => Ex H1 H' ∧ H' Dl = some (.lst ((List.zipWith F xs ys).take n))) ⟨Ex.new hD, upd_same⟩ (fun n H' _ p => ⟨ex_l ((e.trans e1).trans p.1) hx, ex_t ((e.trans e1).trans p.1) hy⟩) ?_ fun H' p => ?_
  · rintro n v Hh H' hn ⟨p1, p2⟩ ⟨T, x, y, rfl, nT, rfl, g1, g2⟩
    have eT : Ex Hh (upd Hh T (.tup [x, y])) := Ex.new nT
    refine ⟨T, [x, y], rfl, st_of upd_same, rfl, x, [y], rfl, y, [], rfl, rfl, hw x y, ?_⟩
    show te _ _ _
    refine he n x y H1 (e.trans e1) g1 g2 _ (p1.trans eT) _ fun H4 e4 => ?_
    have k2 := e4 Dl _ (eT Dl _ p2)
    refine ⟨_, k2, sz_lt (by rw [List.length_take]; omega), Ex.mut (p1.trans (eT.trans e4)) hD, ?_⟩
    rw [upd_same]
    have gz : (List.zipWith F xs ys)[n]? = some (F x y) := by
      rw [List.getElem?_zipWith, show xs[n]? = some x from g1, show ys[n]? = some y from g2]
    rw [List.take_succ, gz]
    rfl
  · obtain ⟨p1, p2⟩ := p
    rw [List.take_of_length_le (by rw [List.length_zipWith]; omega)] at p2
    exact q Dl _ (fresh_back e1 hD) (e1.trans p1) p2⟩
end
end Kit
namespace K33
open PySem PySem.Spec PyProof.Rows L2 Evl Kit
/-! ### rising products -/
def rise (w : Int) : Nat → Int
  | 0 => 1
  | n + 1 => rise w n * (w + n)
theorem rise_pos {w : Int} (h : 1 ≤ w) : ∀ n, 0 < rise w n
  | 0 => by
    show (0 : Int) < 1
    decide
  | n + 1 => Int.mul_pos (rise_pos h n) (by omega)

/-! ### all ways to grow, one newcomer after another -/
/-- x more ways to the state a -/
def addTo : List (List Nat × Int) → List Nat → Int → List (List Nat × Int)
  | [], a, x => [(a, x)]
  | (b, y) :: r, a, x => if b = a then (b, y + x) :: r else (b, y) :: addTo r a x
/-- how many ways lead to the state a -/
def atW (L : List (List Nat × Int)) (a : List Nat) : Int := ((L.find? fun p => decide (p.1 = a)).map (·.2)).getD 0
/-- the sum over the states -/
def EE (g : List Nat → Int) : List (List Nat × Int) → Int
  | [] => 0
  | (s, p) :: r => p * g s + EE g r
theorem EE_add (g : List Nat → Int) : ∀ (L : List (List Nat × Int)) (a : List Nat) (x : Int), EE g (addTo L a x) = EE g L + x * g a
  | [], a, x => by
    show x * g a + 0 = 0 + x * g a
    omega
  | (b, y) :: r, a, x => by
    unfold addTo
    split
    · rename_i e
      subst e
      show (y + x) * g b + EE g r = y * g b + EE g r + x * g b
      rw [Int.add_mul]
      omega
    · show y * g b + EE g (addTo r a x) = y * g b + EE g r + x * g a
      rw [EE_add g r a x]
      omega
theorem addTo_keys : ∀ (L : List (List Nat × Int)) (a : List Nat) (x : Int) (b : List Nat), b ∈ (addTo L a x).map (·.1) ↔ b = a ∨ b ∈ L.map (·.1)
  | [], a, x, b => by simp [addTo]
  | (c, y) :: r, a, x, b => by
    unfold addTo
    split
    · rename_i e
      subst e
      simp
    · have := addTo_keys r a x b
      simp only [List.map_cons, List.mem_cons]
      rw [this]
      constructor
      · rintro (h | h | h)
        · exact .inr (.inl h)
        · exact .inl h
        · exact .inr (.inr h)
      · rintro (h | h | h)
        · exact .inr (.inl h)
        · exact .inl h
        · exact .inr (.inr h)
theorem addTo_nd : ∀ {L : List (List Nat × Int)} {a : List Nat} {x : Int}, (L.map (·.1)).Nodup → ((addTo L a x).map (·.1)).Nodup
  | [], a, x, _ => by simp [addTo]
  | (c, y) :: r, a, x, h => by
    unfold addTo
    rw [List.map_cons, List.nodup_cons] at h
    split
    · rw [List.map_cons, List.nodup_cons]
      exact h
    · rename_i ne
      rw [List.map_cons, List.nodup_cons]
      refine ⟨fun z => ?_, addTo_nd h.2⟩
      rcases (addTo_keys r a x c).mp z with e | e
      · exact ne e
      · exact h.1 e
theorem addTo_len : ∀ (L : List (List Nat × Int)) (a : List Nat) (x : Int), (addTo L a x).length ≤ L.length + 1
  | [], a, x => Nat.le_refl _
  | (c, y) :: r, a, x => by
    unfold addTo
    have := addTo_len r a x
    split
    · simp only [List.length_cons]; omega
    · simp only [List.length_cons]; omega
theorem atW_cons (b : List Nat) (y : Int) (r : List (List Nat × Int)) (a : List Nat) : atW ((b, y) :: r) a = if b = a then y else atW r a := by
  unfold atW
  rw [List.find?_cons]
  by_cases e : b = a
  · simp [e]
  · simp [e]
theorem EE_at : ∀ {L : List (List Nat × Int)} {a : List Nat}, (L.map (·.1)).Nodup → EE (fun s => if s = a then 1 else 0) L = atW L a
  | [], a, _ => rfl
  | (b, y) :: r, a, h => by
    rw [List.map_cons, List.nodup_cons] at h
    have ih := EE_at (a := a) h.2
    show y * (if b = a then 1 else 0) + EE _ r = _
    rw [ih, atW_cons]
    by_cases e : b = a
    · have z : atW r a = 0 := by
        rw [← ih]
        have : ∀ {q : List (List Nat × Int)}, a ∉ q.map (·.1) → EE (fun s => if s = a then 1 else 0) q = 0 := by
          intro q
          induction q with
          | nil => intro _; rfl
          | cons p q iq =>
            intro hq
            rw [List.map_cons, List.mem_cons] at hq
            show p.2 * (if p.1 = a then 1 else 0) + EE _ q = 0
            rw [if_neg (fun z => hq (.inl z.symm)), iq (fun z => hq (.inr z))]
            omega
        exact this (e ▸ h.1)
      rw [if_pos e, if_pos e, z]
      omega
    · rw [if_neg e, if_neg e]
      omega
theorem EE_mono {g f : List Nat → Int} : ∀ {L : List (List Nat × Int)}, (∀ p ∈ L, g p.1 = f p.1) → EE g L = EE f L
  | [], _ => rfl
  | (s, p) :: r, h => by
    show p * g s + EE g r = p * f s + EE f r
    rw [h (s, p) (by simp), EE_mono fun q hq => h q (by simp [hq])]
theorem EE_cmul (c : Int) (g : List Nat → Int) : ∀ L : List (List Nat × Int), EE (fun s => c * g s) L = c * EE g L
  | [] => by simp [EE]
  | (s, p) :: r => by
    show p * (c * g s) + EE (fun s => c * g s) r = c * (p * g s + EE g r)
    rw [EE_cmul c g r, Int.mul_add, ← Int.mul_assoc, ← Int.mul_assoc, Int.mul_comm p c]
theorem EE_sum (g f : List Nat → Int) : ∀ L : List (List Nat × Int), EE (fun s => g s + f s) L = EE g L + EE f L
  | [] => rfl
  | (s, p) :: r => by
    show p * (g s + f s) + EE (fun s => g s + f s) r = p * g s + EE g r + (p * f s + EE f r)
    rw [EE_sum g f r, Int.mul_add]
    omega
/-- where a newcomer goes: the state then, in how many ways -/
def bumps (h : Int) : List Nat → List (List Nat × Int)
  | [] => []
  | [x] => [([x + 1], (x : Int) + h)]
  | x :: y :: r => ((x + 1) :: y :: r, (x : Int)) :: (bumps h (y :: r)).map fun p => (x :: p.1, p.2)
theorem bumps_len (h : Int) : ∀ s : List Nat, (bumps h s).length = s.length
  | [] => rfl
  | [x] => rfl
  | x :: y :: r => by
    show ((bumps h (y :: r)).map _).length + 1 = _
    rw [List.length_map, bumps_len h (y :: r)]
    rfl
theorem bumps_at (h : Int) : ∀ (s : List Nat) (i x : Nat), s[i]? = some x → (bumps h s)[i]? = some (s.set i (x + 1), if i + 1 = s.length then (x : Int) + h else (x : Int))
  | [], _, _, e => by cases e
  | [y], 0, x, e => by
    cases e
    rfl
  | [y], i + 1, x, e => by cases e
  | y :: z :: r, 0, x, e => by
    cases e
    show some _ = some _
    rw [if_neg (by simp)]
    rfl
  | y :: z :: r, i + 1, x, e => by
    have ih := bumps_at h (z :: r) i x (by simpa using e)
    show ((bumps h (z :: r)).map fun p => (y :: p.1, p.2))[i]? = _
    rw [List.getElem?_map, ih]
    simp
/-- from where a state comes -/
def pres (h : Int) : List Nat → List (List Nat × Int)
  | [] => []
  | [x] => if 1 ≤ x then [([x - 1], ((x - 1 : Nat) : Int) + h)] else []
  | x :: y :: r => (if 1 ≤ x then [((x - 1) :: y :: r, ((x - 1 : Nat) : Int))] else []) ++ (pres h (y :: r)).map fun p => (x :: p.1, p.2)
theorem EE_map (x : Nat) (g : List Nat → Int) : ∀ L : List (List Nat × Int), EE g (L.map fun p => (x :: p.1, p.2)) = EE (fun s => g (x :: s)) L
  | [] => rfl
  | (s, p) :: r => by
    show p * g (x :: s) + EE g (r.map _) = p * g (x :: s) + EE _ r
    rw [EE_map x g r]
theorem EE_app (g : List Nat → Int) : ∀ L M : List (List Nat × Int), EE g (L ++ M) = EE g L + EE g M
  | [], M => by
    show EE g M = 0 + EE g M
    omega
  | (s, p) :: r, M => by
    show p * g s + EE g (r ++ M) = p * g s + EE g r + EE g M
    rw [EE_app g r M]
    omega
theorem EE_zero {g : List Nat → Int} : ∀ {L : List (List Nat × Int)}, (∀ p ∈ L, g p.1 = 0) → EE g L = 0
  | [], _ => rfl
  | (s, p) :: r, h => by
    show p * g s + EE g r = 0
    rw [h (s, p) (by simp), EE_zero fun q hq => h q (by simp [hq])]
    omega
/-- a step forth to a is a step back from a -/
theorem bump_pre (h : Int) : ∀ s a : List Nat, EE (fun b => if b = a then 1 else 0) (bumps h s) = EE (fun c => if s = c then 1 else 0) (pres h a)
  | [], [] => rfl
  | [], [x] => by
    unfold pres
    split <;> simp [EE, bumps]
  | [], x :: y :: r => by
    refine Eq.symm (EE_zero fun p hp => ?_)
    unfold pres at hp
    rw [List.mem_append, List.mem_map] at hp
    rcases hp with hp | ⟨q, _, e⟩
    · split at hp
      · rw [List.mem_singleton.mp hp]; simp
      · exact nomatch hp
    · rw [← e]; simp
  | [x], [] => by simp [EE, bumps, pres]
  | [x], [y] => by
    unfold pres
    by_cases e : x + 1 = y
    · subst e
      simp [EE, bumps]
    · rw [show EE (fun b => if b = [y] then (1 : Int) else 0) (bumps h [x]) = 0 by simp [EE, bumps, e]]
      split
      · show (0 : Int) = ((y - 1 : Nat) + h) * (if [x] = [y - 1] then 1 else 0) + 0
        rw [if_neg (fun z => by
          have := (List.cons.inj z).1
          omega)]
        omega
      · rfl
  | [x], y :: z :: r => by
    rw [show EE (fun b => if b = y :: z :: r then (1 : Int) else 0) (bumps h [x]) = 0 by simp [EE, bumps]]
    refine Eq.symm (EE_zero fun p hp => ?_)
    unfold pres at hp
    rw [List.mem_append, List.mem_map] at hp
    rcases hp with hp | ⟨q, hq, e⟩
    · split at hp
      · rw [List.mem_singleton.mp hp]; simp
      · exact nomatch hp
    · have : q.1 ≠ [] := by
        cases r with
        | nil =>
          unfold pres at hq
          split at hq
          · rw [List.mem_singleton.mp hq]; simp
          · exact nomatch hq
        | cons u r =>
          unfold pres at hq
          rw [List.mem_append, List.mem_map] at hq
          rcases hq with hq | ⟨q', _, e'⟩
          · split at hq
            · rw [List.mem_singleton.mp hq]; simp
            · exact nomatch hq
          · rw [← e']; simp
      rw [← e]
      simp [this.symm]
  | x :: y :: r, [] => by
    rw [show pres h [] = [] from rfl]
    refine EE_zero fun p hp => ?_
    unfold bumps at hp
    rw [List.mem_cons, List.mem_map] at hp
    rcases hp with rfl | ⟨q, _, e⟩
    · simp
    · rw [← e]; simp
  | x :: y :: r, [z] => by
    have a1 : EE (fun b => if b = [z] then (1 : Int) else 0) (bumps h (x :: y :: r)) = 0 := by
      refine EE_zero fun p hp => ?_
      unfold bumps at hp
      rw [List.mem_cons, List.mem_map] at hp
      rcases hp with rfl | ⟨q, hq, e⟩
      · simp
      · have : q.1 ≠ [] := by
          cases r with
          | nil => rw [List.mem_singleton.mp hq]; simp
          | cons u r =>
            unfold bumps at hq
            rw [List.mem_cons, List.mem_map] at hq
            rcases hq with rfl | ⟨q', _, e'⟩
            · simp
            · rw [← e']; simp
        rw [← e]; simp [this]
    rw [a1]
    unfold pres
    split
    · simp [EE]
    · rfl
  | x :: y :: r, z :: u :: q => by
    have ih := bump_pre h (y :: r) (u :: q)
    unfold bumps pres
    rw [EE_app, EE_map]
    show (x : Int) * (if (x + 1) :: y :: r = z :: u :: q then 1 else 0) + EE _ ((bumps h (y :: r)).map fun p => (x :: p.1, p.2)) = _
    rw [EE_map]
    have e1 : EE (fun s => if x :: s = z :: u :: q then (1 : Int) else 0) (bumps h (y :: r)) = if x = z then EE (fun b => if b = u :: q then 1 else 0) (bumps h (y :: r)) else 0 := by
      by_cases e : x = z
      · rw [if_pos e]
        refine EE_mono fun p _ => ?_
        simp [e]
      · rw [if_neg e]
        refine EE_zero fun p _ => ?_
        simp [e]
    have e2 : EE (fun c => if x :: y :: r = z :: c then (1 : Int) else 0) (pres h (u :: q)) = if x = z then EE (fun c => if y :: r = c then 1 else 0) (pres h (u :: q)) else 0 := by
      by_cases e : x = z
      · rw [if_pos e]
        refine EE_mono fun p _ => ?_
        simp [e]
      · rw [if_neg e]
        refine EE_zero fun p _ => ?_
        simp [e]
    rw [e1, e2, ih]
    congr 1
    by_cases e : x + 1 = z
    · subst e
      rw [if_pos (show 1 ≤ x + 1 by omega)]
      show (x : Int) * _ = ((x + 1 - 1 : Nat) : Int) * _ + 0
      rw [Nat.add_sub_cancel]
      have : ((x + 1) :: y :: r = (x + 1) :: u :: q) ↔ (x :: y :: r = x :: u :: q) := by simp
      simp only [this]
      omega
    · rw [if_neg (fun z' => e (List.cons.inj z').1)]
      split
      · show (x : Int) * 0 = ((z - 1 : Nat) : Int) * (if x :: y :: r = (z - 1) :: u :: q then 1 else 0) + 0
        rw [if_neg (fun z' => by
          have := (List.cons.inj z').1
          omega)]
        omega
      · show (x : Int) * 0 = 0
        omega

/-! ### the sums over all states, newcomer after newcomer -/
def lastN (s : List Nat) : Nat := s.getLast?.getD 0
theorem lastN_cons (x y : Nat) (r : List Nat) : lastN (x :: y :: r) = lastN (y :: r) := by
  unfold lastN
  rw [List.getLast?_cons_cons]
def inn (p : Int) (M : List (List Nat × Int)) (B : List (List Nat × Int)) : List (List Nat × Int) := B.foldl (fun M q => addTo M q.1 (p * q.2)) M
def outw (h : Int) (M : List (List Nat × Int)) (L : List (List Nat × Int)) : List (List Nat × Int) := L.foldl (fun M p => inn p.2 M (bumps h p.1)) M
def waysL (h : Int) (w : List Nat) : Nat → List (List Nat × Int)
  | 0 => [(w ++ [0], 1)]
  | t + 1 => outw h [] (waysL h w t)
theorem EE_inn (g : List Nat → Int) (p : Int) : ∀ (B M : List (List Nat × Int)), EE g (inn p M B) = EE g M + p * EE g B
  | [], M => by
    show EE g M = EE g M + p * 0
    omega
  | (b, u) :: r, M => by
    show EE g (inn p (addTo M b (p * u)) r) = EE g M + p * (u * g b + EE g r)
    rw [EE_inn g p r, EE_add, Int.mul_add, Int.mul_assoc]
    omega
theorem EE_out (g : List Nat → Int) (h : Int) : ∀ (L M : List (List Nat × Int)), EE g (outw h M L) = EE g M + EE (fun s => EE g (bumps h s)) L
  | [], M => by
    show EE g M = EE g M + 0
    omega
  | (s, p) :: r, M => by
    show EE g (outw h (inn p M (bumps h s)) r) = EE g M + (p * EE g (bumps h s) + EE _ r)
    rw [EE_out g h r, EE_inn]
    omega
theorem inn_keys (p : Int) : ∀ (B M : List (List Nat × Int)) (b : List Nat), b ∈ (inn p M B).map (·.1) → b ∈ M.map (·.1) ∨ b ∈ B.map (·.1)
  | [], M, b, h => .inl h
  | (c, u) :: r, M, b, h => by
    rcases inn_keys p r (addTo M c (p * u)) b h with z | z
    · rcases (addTo_keys M c (p * u) b).mp z with e | e
      · exact .inr (by simp [e])
      · exact .inl e
    · exact .inr (by
        rw [List.map_cons, List.mem_cons]
        exact .inr z)
theorem out_keys (h : Int) : ∀ (L M : List (List Nat × Int)) (b : List Nat), b ∈ (outw h M L).map (·.1) → b ∈ M.map (·.1) ∨ ∃ q ∈ L, b ∈ (bumps h q.1).map (·.1)
  | [], M, b, hb => .inl hb
  | (s, p) :: r, M, b, hb => by
    rcases out_keys h r (inn p M (bumps h s)) b hb with z | ⟨q, hq, z⟩
    · rcases inn_keys p _ M b z with e | e
      · exact .inl e
      · exact .inr ⟨(s, p), by simp, e⟩
    · exact .inr ⟨q, by simp [hq], z⟩
theorem inn_nd (p : Int) : ∀ (B M : List (List Nat × Int)), (M.map (·.1)).Nodup → ((inn p M B).map (·.1)).Nodup
  | [], M, h => h
  | (c, u) :: r, M, h => inn_nd p r _ (addTo_nd h)
theorem out_nd (h : Int) : ∀ (L M : List (List Nat × Int)), (M.map (·.1)).Nodup → ((outw h M L).map (·.1)).Nodup
  | [], M, hm => hm
  | (s, p) :: r, M, hm => out_nd h r _ (inn_nd p _ M hm)
theorem inn_len (p : Int) : ∀ (B M : List (List Nat × Int)), (inn p M B).length ≤ M.length + B.length
  | [], M => Nat.le_refl _
  | (c, u) :: r, M => by
    have a := inn_len p r (addTo M c (p * u))
    have b := addTo_len M c (p * u)
    show (inn p (addTo M c (p * u)) r).length ≤ M.length + (r.length + 1)
    omega
theorem out_len (h : Int) (m : Nat) : ∀ (L M : List (List Nat × Int)), (∀ q ∈ L, q.1.length ≤ m) → (outw h M L).length ≤ M.length + m * L.length
  | [], M, _ => by
    show M.length ≤ M.length + m * 0
    omega
  | (s, p) :: r, M, hl => by
    have a := out_len h m r (inn p M (bumps h s)) fun q hq => hl q (by simp [hq])
    have b := inn_len p (bumps h s) M
    have c := bumps_len h s
    have d := hl (s, p) (by simp)
    show (outw h (inn p M (bumps h s)) r).length ≤ M.length + m * (r.length + 1)
    rw [Nat.mul_add, Nat.mul_one]
    simp only at d
    omega
theorem bumps_mem {h : Int} {s b : List Nat} (hb : b ∈ (bumps h s).map (·.1)) : ∃ i x, s[i]? = some x ∧ b = s.set i (x + 1) := by
  obtain ⟨q, hq, rfl⟩ := List.mem_map.mp hb
  obtain ⟨i, hi⟩ := List.mem_iff_getElem?.mp hq
  have hl := (List.getElem?_eq_some_iff.mp hi).1
  rw [bumps_len] at hl
  have hx : s[i]? = some s[i] := List.getElem?_eq_getElem hl
  have e := bumps_at h s i s[i] hx
  rw [hi] at e
  exact ⟨i, s[i], hx, by rw [Option.some.inj e]⟩
theorem bumps_one (h : Int) : ∀ {s : List Nat}, s ≠ [] → EE (fun _ => 1) (bumps h s) = (s.sum : Int) + h
  | [], hs => absurd rfl hs
  | [x], _ => by
    show ((x : Int) + h) * 1 + 0 = _
    simp
  | x :: y :: r, _ => by
    have ih := bumps_one h (s := y :: r) (by simp)
    show (x : Int) * 1 + EE _ ((bumps h (y :: r)).map fun p => (x :: p.1, p.2)) = _
    rw [EE_map, ih, List.sum_cons (a := x)]
    push_cast
    omega
theorem bumps_size (h : Int) : ∀ (s : List Nat) (i : Nat), i + 1 < s.length → EE (fun c => (c.getD i 0 : Int)) (bumps h s) = ((s.sum : Int) + h) * (s.getD i 0 : Int) + (s.getD i 0 : Int)
  | [], i, hi => by simp at hi
  | [x], i, hi => by simp at hi
  | x :: y :: r, 0, _ => by
    show (x : Int) * ((x + 1 : Nat) : Int) + EE _ ((bumps h (y :: r)).map fun p => (x :: p.1, p.2)) = _
    rw [EE_map]
    have e : EE (fun s => (((x :: s).getD 0 0 : Nat) : Int)) (bumps h (y :: r)) = EE (fun s => (x : Int) * 1) (bumps h (y :: r)) := EE_mono fun p _ => by simp
    rw [e, EE_cmul, bumps_one h (s := y :: r) (by simp), List.sum_cons (a := x)]
    show _ = ((x + (y :: r).sum : Nat) + h) * (x : Int) + (x : Int)
    push_cast
    grind
  | x :: y :: r, i + 1, hi => by
    have ih := bumps_size h (y :: r) i (by simpa using hi)
    show (x : Int) * (((y :: r).getD i 0 : Nat) : Int) + EE _ ((bumps h (y :: r)).map fun p => (x :: p.1, p.2)) = ((x :: y :: r).sum + h) * (((y :: r).getD i 0 : Nat) : Int) + (((y :: r).getD i 0 : Nat) : Int)
    rw [EE_map]
    have e : EE (fun s => (((x :: s).getD (i + 1) 0 : Nat) : Int)) (bumps h (y :: r)) = EE (fun s => ((s.getD i 0 : Nat) : Int)) (bumps h (y :: r)) := EE_mono fun p _ => by simp
    rw [e, ih, List.sum_cons (a := x)]
    push_cast
    grind
theorem bumps_ne {h : Int} {s : List Nat} {p : List Nat × Int} (hp : p ∈ bumps h s) : p.1 ≠ [] := by
  obtain ⟨i, x, hx, e⟩ := bumps_mem (List.mem_map.mpr ⟨p, hp, rfl⟩)
  rw [e]
  intro z
  have hl := (List.getElem?_eq_some_iff.mp hx).1
  have t : (s.set i (x + 1)).length = 0 := by rw [z]; rfl
  rw [List.length_set] at t
  omega
theorem bumps_last (h : Int) (j : Nat) : ∀ {s : List Nat}, s ≠ [] → EE (fun c => if lastN c = j then 1 else 0) (bumps h s) = ((s.sum : Int) - (lastN s : Int)) * (if lastN s = j then 1 else 0) + ((lastN s : Int) + h) * (if lastN s + 1 = j then 1 else 0)
  | [], hs => absurd rfl hs
  | [x], _ => by
    show ((x : Int) + h) * (if x + 1 = j then 1 else 0) + 0 = (((x + 0 : Nat) : Int) - (x : Int)) * (if x = j then 1 else 0) + ((x : Int) + h) * (if x + 1 = j then 1 else 0)
    rw [show ((x + 0 : Nat) : Int) - (x : Int) = 0 by omega]
    omega
  | x :: y :: r, _ => by
    have ih := bumps_last h j (s := y :: r) (by simp)
    show (x : Int) * (if lastN ((x + 1) :: y :: r) = j then 1 else 0) + EE _ ((bumps h (y :: r)).map fun p => (x :: p.1, p.2)) = _
    rw [EE_map, lastN_cons, lastN_cons, List.sum_cons (a := x)]
    have e : EE (fun s => if lastN (x :: s) = j then (1 : Int) else 0) (bumps h (y :: r)) = EE (fun s => if lastN s = j then (1 : Int) else 0) (bumps h (y :: r)) := EE_mono fun p hp => by
      obtain ⟨a, t, e⟩ := List.exists_cons_of_ne_nil (bumps_ne hp)
      rw [e, lastN_cons]
    rw [e, ih]
    push_cast
    grind
/-- the state's ways by tables: K of the last entry -/
def GG : List Nat → (Nat → Int) → List Nat → Int
  | [], K, [f] => K f
  | v :: w, K, x :: r => if v ≤ x then (cho (x - 1) (v - 1) : Int) * GG w K r else 0
  | _, _, _ => 0
def DD : List Nat → List Nat → Int
  | v :: w, x :: r => ((x : Int) - (v : Int)) + DD w r
  | _, _ => 0
theorem cho_down {x v : Nat} (hv : 1 ≤ v) (h : v ≤ x) : ((x - 1 : Nat) : Int) * (if v ≤ x - 1 then (cho (x - 1 - 1) (v - 1) : Int) else 0) = ((x : Int) - (v : Int)) * (cho (x - 1) (v - 1) : Int) := by
  by_cases e : v = x
  · subst e
    rw [if_neg (by omega), Int.sub_self, Int.zero_mul, Int.mul_zero]
  · rw [if_pos (by omega)]
    obtain ⟨d, rfl⟩ : ∃ d, x = v + (d + 1) := ⟨x - v - 1, by omega⟩
    obtain ⟨k, rfl⟩ : ∃ k, v = k + 1 := ⟨v - 1, by omega⟩
    rw [show k + 1 + (d + 1) - 1 = k + d + 1 by omega, show k + d + 1 - 1 = k + d by omega, show k + 1 - 1 = k by omega, show ((k + 1 + (d + 1) : Nat) : Int) - ((k + 1 : Nat) : Int) = ((d + 1 : Nat) : Int) by omega]
    have a := cho_fac (n := k + d) (k := k) (by omega)
    have b := cho_fac (n := k + d + 1) (k := k) (by omega)
    rw [show k + d - k = d by omega] at a
    rw [show k + d + 1 - k = d + 1 by omega, fac_succ d, fac_succ (k + d)] at b
    have p1 := fac_pos k
    have p2 := fac_pos d
    rw [← a] at b
    have key : (k + d + 1) * cho (k + d) k = (d + 1) * cho (k + d + 1) k := by
      refine Nat.eq_of_mul_eq_mul_right (Nat.mul_pos p1 p2) ?_
      generalize cho (k + d + 1) k = A at *
      generalize cho (k + d) k = B at *
      generalize fac k = F at *
      generalize fac d = G at *
      grind
    exact_mod_cast key
theorem pres_GG (h : Int) (K : Nat → Int) : ∀ (w a : List Nat), (∀ x ∈ w, 1 ≤ x) → a.length = w.length + 1 → EE (fun c => GG w K c) (pres h a) = DD w a * GG w K a + GG w (fun f => if 1 ≤ f then (((f - 1 : Nat) : Int) + h) * K (f - 1) else 0) a
  | [], [], _, hl => by simp at hl
  | [], [f], _, _ => by
    unfold pres
    split
    · rename_i e
      show (((f - 1 : Nat) : Int) + h) * K (f - 1) + 0 = 0 * K f + (if 1 ≤ f then (((f - 1 : Nat) : Int) + h) * K (f - 1) else 0)
      rw [if_pos e]
      omega
    · rename_i e
      show (0 : Int) = 0 * K f + (if 1 ≤ f then (((f - 1 : Nat) : Int) + h) * K (f - 1) else 0)
      rw [if_neg e]
      omega
  | [], _ :: _ :: _, _, hl => by simp at hl
  | _ :: _, [], _, hl => by simp at hl
  | _ :: _, [x], _, hl => by simp at hl
  | v :: w, x :: y :: r, hw, hl => by
    have ih := pres_GG h K w (y :: r) (fun z hz => hw z (by simp [hz])) (by simpa using hl)
    have hv := hw v (by simp)
    unfold pres
    rw [EE_app, EE_map]
    have e1 : EE (fun s => GG (v :: w) K (x :: s)) (pres h (y :: r)) = (if v ≤ x then (cho (x - 1) (v - 1) : Int) else 0) * EE (fun s => GG w K s) (pres h (y :: r)) := by
      rw [← EE_cmul]
      refine EE_mono fun p _ => ?_
      show (if v ≤ x then _ else _) = _
      split <;> simp
    rw [e1, ih]
    have e2 : EE (fun c => GG (v :: w) K c) (if 1 ≤ x then [((x - 1) :: y :: r, ((x - 1 : Nat) : Int))] else []) = ((x - 1 : Nat) : Int) * (if v ≤ x - 1 then (cho (x - 1 - 1) (v - 1) : Int) else 0) * GG w K (y :: r) := by
      split
      · show ((x - 1 : Nat) : Int) * (if v ≤ x - 1 then (cho (x - 1 - 1) (v - 1) : Int) * GG w K (y :: r) else 0) + 0 = _
        split <;> simp [Int.mul_assoc]
      · rename_i e
        have : x = 0 := by omega
        subst this
        simp [EE]
    rw [e2]
    show _ = (((x : Int) - v) + DD w (y :: r)) * (if v ≤ x then (cho (x - 1) (v - 1) : Int) * GG w K (y :: r) else 0) + (if v ≤ x then (cho (x - 1) (v - 1) : Int) * GG w _ (y :: r) else 0)
    by_cases e : v ≤ x
    · rw [cho_down hv e, if_pos e, if_pos e, if_pos e]
      generalize GG w K (y :: r) = A
      generalize DD w (y :: r) = B
      generalize (cho (x - 1) (v - 1) : Int) = C
      generalize GG w _ (y :: r) = F
      grind
    · rw [if_neg (by omega : ¬ v ≤ x - 1), if_neg e, if_neg e, if_neg e]
      simp

def topS (i : Nat) : Stmt := PySem.Challenge.pw_newtables_k33_growth_guest_by_guest.main.body.getD i (.Pass ⟨0, 0, 0, 0⟩)
abbrev s_is_whole : Stmt := topS 9
abbrev n_is_whole : List Str := ["thing"]
theorem sc_is_whole : FnScope n_is_whole ["thing"] (defScope s_is_whole) := ⟨rfl, rfl, rfl, by decide +kernel, rfl, by decide +kernel, by decide +kernel⟩
abbrev s_is_within : Stmt := topS 10
abbrev n_is_within : List Str := ["thing", "least", "most"]
theorem sc_is_within : FnScope n_is_within ["thing", "least", "most"] (defScope s_is_within) := ⟨rfl, rfl, rfl, by decide +kernel, rfl, by decide +kernel, by decide +kernel⟩
abbrev s_check_weight : Stmt := topS 11
abbrev n_check_weight : List Str := ["weight"]
theorem sc_check_weight : FnScope n_check_weight ["weight"] (defScope s_check_weight) := ⟨rfl, rfl, rfl, by decide +kernel, rfl, by decide +kernel, by decide +kernel⟩
abbrev s_check_number : Stmt := topS 12
abbrev n_check_number : List Str := ["number", "least", "most"]
theorem sc_check_number : FnScope n_check_number ["number", "least", "most"] (defScope s_check_number) := ⟨rfl, rfl, rfl, by decide +kernel, rfl, by decide +kernel, by decide +kernel⟩
abbrev s_rising : Stmt := topS 13
abbrev n_rising : List Str := ["weight", "guests", "total", "guest"]
theorem sc_rising : FnScope n_rising ["weight", "guests"] (defScope s_rising) := ⟨rfl, rfl, rfl, by decide +kernel, rfl, by decide +kernel, by decide +kernel⟩
abbrev s_fraction : Stmt := topS 14
abbrev n_fraction : List Str := ["top", "bottom", "common"]
theorem sc_fraction : FnScope n_fraction ["top", "bottom"] (defScope s_fraction) := ⟨rfl, rfl, rfl, by decide +kernel, rfl, by decide +kernel, by decide +kernel⟩
abbrev s_check_sizes : Stmt := topS 16
abbrev n_check_sizes : List Str := ["sizes"]
theorem sc_check_sizes : FnScope n_check_sizes ["sizes"] (defScope s_check_sizes) := ⟨rfl, rfl, rfl, by decide +kernel, rfl, by decide +kernel, by decide +kernel⟩
abbrev s_are_sizes : Stmt := topS 17
abbrev n_are_sizes : List Str := ["thing", "item"]
theorem sc_are_sizes : FnScope n_are_sizes ["thing"] (defScope s_are_sizes) := ⟨rfl, rfl, rfl, by decide +kernel, rfl, by decide +kernel, by decide +kernel⟩
abbrev s_grow_share : Stmt := topS 21
abbrev n_grow_share : List Str := ["sizes", "weight", "later", "more", "fresh", "top", "size", "now"]
theorem sc_grow_share : FnScope n_grow_share ["sizes", "weight", "later"] (defScope s_grow_share) := ⟨rfl, rfl, rfl, by decide +kernel, rfl, by decide +kernel, by decide +kernel⟩
abbrev s_mean_later : Stmt := topS 22
abbrev n_mean_later : List Str := ["sizes", "weight", "number", "now", "size"]
theorem sc_mean_later : FnScope n_mean_later ["sizes", "weight", "number"] (defScope s_mean_later) := ⟨rfl, rfl, rfl, by decide +kernel, rfl, by decide +kernel, by decide +kernel⟩
abbrev s_new_shares : Stmt := topS 23
abbrev n_new_shares : List Str := ["sizes", "weight", "number", "guests", "total", "shares", "fresh", "ways"]
theorem sc_new_shares : FnScope n_new_shares ["sizes", "weight", "number"] (defScope s_new_shares) := ⟨rfl, rfl, rfl, by decide +kernel, rfl, by decide +kernel, by decide +kernel⟩
abbrev s_check_later : Stmt := topS 24
abbrev n_check_later : List Str := ["later", "sizes"]
theorem sc_check_later : FnScope n_check_later ["later", "sizes"] (defScope s_check_later) := ⟨rfl, rfl, rfl, by decide +kernel, rfl, by decide +kernel, by decide +kernel⟩
abbrev s_are_later : Stmt := topS 25
abbrev n_are_later : List Str := ["thing", "sizes", "item", "now", "size"]
theorem sc_are_later : FnScope n_are_later ["thing", "sizes"] (defScope s_are_later) := ⟨rfl, rfl, rfl, by decide +kernel, rfl, by decide +kernel, by decide +kernel⟩
abbrev s_law_store : Stmt := topS 27
abbrev n_law_store : List Str := ["script", "k", "cell"]
theorem sc_law_store : FnScope n_law_store ["script", "k"] (defScope s_law_store) := ⟨rfl, rfl, rfl, by decide +kernel, rfl, by decide +kernel, by decide +kernel⟩
abbrev s_law_pick : Stmt := topS 28
abbrev n_law_pick : List Str := ["store", "bound", "digit", "mixed"]
theorem sc_law_pick : FnScope n_law_pick ["store", "bound"] (defScope s_law_pick) := ⟨rfl, rfl, rfl, by decide +kernel, rfl, by decide +kernel, by decide +kernel⟩
abbrev s_law_lowest : Stmt := topS 29
abbrev n_law_lowest : List Str := ["top", "bottom", "one", "two"]
theorem sc_law_lowest : FnScope n_law_lowest ["top", "bottom"] (defScope s_law_lowest) := ⟨rfl, rfl, rfl, by decide +kernel, rfl, by decide +kernel, by decide +kernel⟩
abbrev s_law_rising : Stmt := topS 30
abbrev n_law_rising : List Str := ["base", "many_here", "found", "turn"]
theorem sc_law_rising : FnScope n_law_rising ["base", "many_here"] (defScope s_law_rising) := ⟨rfl, rfl, rfl, by decide +kernel, rfl, by decide +kernel, by decide +kernel⟩
abbrev s_law_heavy : Stmt := topS 31
abbrev n_law_heavy : List Str := ["store"]
theorem sc_law_heavy : FnScope n_law_heavy ["store"] (defScope s_law_heavy) := ⟨rfl, rfl, rfl, by decide +kernel, rfl, by decide +kernel, by decide +kernel⟩
abbrev s_law_ways : Stmt := topS 33
abbrev n_law_ways : List Str := ["heavy", "wide", "many_more", "found", "turn", "later_here", "state", "part", "place", "far", "ways", "after"]
theorem sc_law_ways : FnScope n_law_ways ["heavy", "wide", "many_more"] (defScope s_law_ways) := ⟨rfl, rfl, rfl, by decide +kernel, rfl, by decide +kernel, by decide +kernel⟩
abbrev s_law_right : Stmt := topS 34
abbrev n_law_right : List Str := ["heavy", "wide", "many_more", "kept", "every", "whole", "fresh", "tops", "state", "part", "told", "top", "far", "due"]
theorem sc_law_right : FnScope n_law_right ["heavy", "wide", "many_more"] (defScope s_law_right) := ⟨rfl, rfl, rfl, by decide +kernel, rfl, by decide +kernel, by decide +kernel⟩
abbrev s_law : Stmt := topS 35
abbrev n_law : List Str := ["script", "k", "store", "turn", "table", "wide", "told"]
theorem sc_law : FnScope n_law ["script"] (defScope s_law) := ⟨rfl, rfl, rfl, by decide +kernel, rfl, by decide +kernel, by decide +kernel⟩
def g_K33_kb_new_shares_0_sizes_weight_number : List Value → List Value → List Value := fun us ws => match us, ws with
  | [], [b0, b1, b2] => [b0, b1, b2]
  | _, _ => []
def v_K33_kb_new_shares_0_sizes_weight_number : List V → List V → List V := fun us ws => match us, ws with
  | [], [b0, b1, b2] => [b0, b1, b2]
  | _, _ => []
def g_K33_kb_mean_later_0_sizes_weight_number : List Value → List Value → List Value := fun us ws => match us, ws with
  | [], [b0, b1, b2] => [b0, b1, b2]
  | _, _ => []
def v_K33_kb_mean_later_0_sizes_weight_number : List V → List V → List V := fun us ws => match us, ws with
  | [], [b0, b1, b2] => [b0, b1, b2]
  | _, _ => []
def g_K33_kb_grow_share_0_sizes_weight_later : List Value → List Value → List Value := fun us ws => match us, ws with
  | [], [b0, b1, b2] => [b0, b1, b2]
  | _, _ => []
def v_K33_kb_grow_share_0_sizes_weight_later : List V → List V → List V := fun us ws => match us, ws with
  | [], [b0, b1, b2] => [b0, b1, b2]
  | _, _ => []
/-! what the top has written -/
structure Tx (K : PySem.W.Frag) (mg : Str → Option Value) where
  f_is_whole : Addr
  d_is_whole : FuncData
  F_is_whole : Fun K "is_whole" "is_whole" s_is_whole f_is_whole d_is_whole
  g_is_whole : mg "is_whole" = some (.ref f_is_whole)
  b_is_whole : Binds K d_is_whole ["thing"] []
  f_is_within : Addr
  d_is_within : FuncData
  F_is_within : Fun K "is_within" "is_within" s_is_within f_is_within d_is_within
  g_is_within : mg "is_within" = some (.ref f_is_within)
  b_is_within : Binds K d_is_within ["thing", "least", "most"] []
  f_check_weight : Addr
  d_check_weight : FuncData
  F_check_weight : Fun K "check_weight" "check_weight" s_check_weight f_check_weight d_check_weight
  g_check_weight : mg "check_weight" = some (.ref f_check_weight)
  b_check_weight : Binds K d_check_weight ["weight"] []
  f_check_number : Addr
  d_check_number : FuncData
  F_check_number : Fun K "check_number" "check_number" s_check_number f_check_number d_check_number
  g_check_number : mg "check_number" = some (.ref f_check_number)
  b_check_number : Binds K d_check_number ["number", "least", "most"] []
  f_rising : Addr
  d_rising : FuncData
  F_rising : Fun K "rising" "rising" s_rising f_rising d_rising
  g_rising : mg "rising" = some (.ref f_rising)
  b_rising : Binds K d_rising ["weight", "guests"] []
  f_fraction : Addr
  d_fraction : FuncData
  F_fraction : Fun K "fraction" "fraction" s_fraction f_fraction d_fraction
  g_fraction : mg "fraction" = some (.ref f_fraction)
  b_fraction : Binds K d_fraction ["top", "bottom"] []
  f_check_sizes : Addr
  d_check_sizes : FuncData
  F_check_sizes : Fun K "check_sizes" "check_sizes" s_check_sizes f_check_sizes d_check_sizes
  g_check_sizes : mg "check_sizes" = some (.ref f_check_sizes)
  b_check_sizes : Binds K d_check_sizes ["sizes"] []
  f_are_sizes : Addr
  d_are_sizes : FuncData
  F_are_sizes : Fun K "are_sizes" "are_sizes" s_are_sizes f_are_sizes d_are_sizes
  g_are_sizes : mg "are_sizes" = some (.ref f_are_sizes)
  b_are_sizes : Binds K d_are_sizes ["thing"] []
  f_grow_share : Addr
  d_grow_share : FuncData
  F_grow_share : Fun K "grow_share" "grow_share" s_grow_share f_grow_share d_grow_share
  g_grow_share : mg "grow_share" = some (.ref f_grow_share)
  b_grow_share : Binds K d_grow_share ["sizes", "weight", "later"] []
  f_mean_later : Addr
  d_mean_later : FuncData
  F_mean_later : Fun K "mean_later" "mean_later" s_mean_later f_mean_later d_mean_later
  g_mean_later : mg "mean_later" = some (.ref f_mean_later)
  b_mean_later : Binds K d_mean_later ["sizes", "weight", "number"] []
  f_new_shares : Addr
  d_new_shares : FuncData
  F_new_shares : Fun K "new_shares" "new_shares" s_new_shares f_new_shares d_new_shares
  g_new_shares : mg "new_shares" = some (.ref f_new_shares)
  b_new_shares : Binds K d_new_shares ["sizes", "weight", "number"] []
  f_check_later : Addr
  d_check_later : FuncData
  F_check_later : Fun K "check_later" "check_later" s_check_later f_check_later d_check_later
  g_check_later : mg "check_later" = some (.ref f_check_later)
  b_check_later : Binds K d_check_later ["later", "sizes"] []
  f_are_later : Addr
  d_are_later : FuncData
  F_are_later : Fun K "are_later" "are_later" s_are_later f_are_later d_are_later
  g_are_later : mg "are_later" = some (.ref f_are_later)
  b_are_later : Binds K d_are_later ["thing", "sizes"] []
  f_law_store : Addr
  d_law_store : FuncData
  F_law_store : Fun K "_law_store" "_law_store" s_law_store f_law_store d_law_store
  g_law_store : mg "_law_store" = some (.ref f_law_store)
  b_law_store : Binds K d_law_store ["script", "k"] []
  f_law_pick : Addr
  d_law_pick : FuncData
  F_law_pick : Fun K "_law_pick" "_law_pick" s_law_pick f_law_pick d_law_pick
  g_law_pick : mg "_law_pick" = some (.ref f_law_pick)
  b_law_pick : Binds K d_law_pick ["store", "bound"] []
  f_law_lowest : Addr
  d_law_lowest : FuncData
  F_law_lowest : Fun K "_law_lowest" "_law_lowest" s_law_lowest f_law_lowest d_law_lowest
  g_law_lowest : mg "_law_lowest" = some (.ref f_law_lowest)
  b_law_lowest : Binds K d_law_lowest ["top", "bottom"] []
  f_law_rising : Addr
  d_law_rising : FuncData
  F_law_rising : Fun K "_law_rising" "_law_rising" s_law_rising f_law_rising d_law_rising
  g_law_rising : mg "_law_rising" = some (.ref f_law_rising)
  b_law_rising : Binds K d_law_rising ["base", "many_here"] []
  f_law_heavy : Addr
  d_law_heavy : FuncData
  F_law_heavy : Fun K "_law_heavy" "_law_heavy" s_law_heavy f_law_heavy d_law_heavy
  g_law_heavy : mg "_law_heavy" = some (.ref f_law_heavy)
  b_law_heavy : Binds K d_law_heavy ["store"] []
  f_law_ways : Addr
  d_law_ways : FuncData
  F_law_ways : Fun K "_law_ways" "_law_ways" s_law_ways f_law_ways d_law_ways
  g_law_ways : mg "_law_ways" = some (.ref f_law_ways)
  b_law_ways : Binds K d_law_ways ["heavy", "wide", "many_more"] []
  f_law_right : Addr
  d_law_right : FuncData
  F_law_right : Fun K "_law_right" "_law_right" s_law_right f_law_right d_law_right
  g_law_right : mg "_law_right" = some (.ref f_law_right)
  b_law_right : Binds K d_law_right ["heavy", "wide", "many_more"] []
  f_law : Addr
  d_law : FuncData
  F_law : Fun K "law" "law" s_law f_law d_law
  g_law : mg "law" = some (.ref f_law)
  b_law : Binds K d_law ["script"] []
  m_abs : mg "abs" = none
  m_all : mg "all" = none
  m_enumerate : mg "enumerate" = none
  m_int : mg "int" = none
  m_len : mg "len" = none
  m_list : mg "list" = none
  m_max : mg "max" = none
  m_min : mg "min" = none
  m_range : mg "range" = none
  m_repr : mg "repr" = none
  m_sum : mg "sum" = none
  m_tuple : mg "tuple" = none
  m_type : mg "type" = none
  m_zip : mg "zip" = none
  c_MOST_GUESTS : ∃ u, mg "MOST_GUESTS" = some u ∧ RelV (.int 20) u
  c_MOST_WEIGHT : ∃ u, mg "MOST_WEIGHT" = some u ∧ RelV (.int 1000000000000) u
  c_MOST_LATER : ∃ u, mg "MOST_LATER" = some u ∧ RelV (.int 60) u
  c_MOST_MORE : ∃ u, mg "MOST_MORE" = some u ∧ RelV (.int 40) u
  i_comb : mg "comb" = some (.builtin "math.comb")
  i_gcd : mg "gcd" = some (.builtin "math.gcd")
  i_perm : mg "perm" = some (.builtin "math.perm")
  kb_new_shares_0_sizes_weight_number : KBinds K d_new_shares ["sizes", "weight", "number"] ["sizes", "weight", "number"] g_K33_kb_new_shares_0_sizes_weight_number v_K33_kb_new_shares_0_sizes_weight_number
  kb_mean_later_0_sizes_weight_number : KBinds K d_mean_later ["sizes", "weight", "number"] ["sizes", "weight", "number"] g_K33_kb_mean_later_0_sizes_weight_number v_K33_kb_mean_later_0_sizes_weight_number
  kb_grow_share_0_sizes_weight_later : KBinds K d_grow_share ["sizes", "weight", "later"] ["sizes", "weight", "later"] g_K33_kb_grow_share_0_sizes_weight_later v_K33_kb_grow_share_0_sizes_weight_later
/-! readings that go by themselves -/
local macro_rules | `(tactic| walk_at "side") => `(tactic| first | with_reducible assumption | with_reducible rfl | omega | decide | (constructor <;> first | assumption | omega | decide))
local macro_rules | `(tactic| walk_at "ev") => `(tactic| first
  | ((with_reducible refine' ev_var ?e1); (case e1 => rfl))
  | (with_reducible exact ev_c)
  | ((with_reducible refine' ev_op ?e1 ?e2 rv_I0); (case e1 => walk_at "ev"); (case e2 => walk_at "ev"))
  | ((with_reducible refine' ev_op ?e1 ?e2 (rv_I ?e3)); (case e1 => walk_at "ev"); (case e2 => walk_at "ev"); (case e3 => walk_at "side"))
  | ((with_reducible refine' ev_op ?e1 ?e2 (rv_eq ?e3)); (case e1 => walk_at "ev"); (case e2 => walk_at "ev"); (case e3 => rfl))
  | ((with_reducible refine' ev_op ?e1 ?e2 (rv_ne ?e3)); (case e1 => walk_at "ev"); (case e2 => walk_at "ev"); (case e3 => rfl))
  | ((with_reducible refine' ev_op ?e1 ?e2 (rv_ixL ?e3 ?e4)); (case e1 => walk_at "ev"); (case e2 => walk_at "ev"); (case e3 => walk_at "sq"); (case e4 => walk_at "at"))
  | ((with_reducible refine' ev_op ?e1 ?e2 (rv_ixT ?e3 ?e4)); (case e1 => walk_at "ev"); (case e2 => walk_at "ev"); (case e3 => walk_at "sq"); (case e4 => walk_at "at"))
  | ((with_reducible refine' ev_op ?e1 ?e2 rv_isN); (case e1 => walk_at "ev"); (case e2 => walk_at "ev"))
  | ((with_reducible refine' ev_op ?e1 ?e2 rv_notN); (case e1 => walk_at "ev"); (case e2 => walk_at "ev"))
  | ((with_reducible refine' ev_op ?e1 ?e2 (rv_eqTy ?e3 ?e4)); (case e1 => walk_at "ev"); (case e2 => walk_at "ev"); (case e3 => exact PySem.TypeEq.meta_int); (case e4 => exact PySem.TypeEq.meta_int))
  | ((with_reducible refine' ev_un ?e1 ru_neg); (case e1 => walk_at "ev"))
  | ((with_reducible refine' ev_intI ?e1); (case e1 => walk_at "ev"))
  | ((with_reducible refine' ev_intB ?e1); (case e1 => walk_at "ev"))
  | ((with_reducible refine' ev_typeI ?e1); (case e1 => walk_at "ev"))
  | ((with_reducible refine' ev_abs ?e1); (case e1 => walk_at "ev"))
  | ((with_reducible refine' ev_max2 ?e1 ?e2); (case e1 => walk_at "ev"); (case e2 => walk_at "ev"))
  | ((with_reducible refine' ev_min2 ?e1 ?e2); (case e1 => walk_at "ev"); (case e2 => walk_at "ev"))
  | ((with_reducible refine' ev_gcd ?e1 ?e2); (case e1 => walk_at "ev"); (case e2 => walk_at "ev"))
  | ((with_reducible refine' ev_len ?e1 ?e2); (case e1 => walk_at "ev"); (case e2 => walk_at "sq"))
  | ((with_reducible refine' ev_chainI ?e1 ?e2 ?e3); (case e1 => walk_at "ev"); (case e2 => walk_at "ev"); (case e3 => walk_at "ev"))
  | ((with_reducible refine' ev_chain3I ?e1 ?e2 ?e3 ?e4); (case e1 => walk_at "ev"); (case e2 => walk_at "ev"); (case e3 => walk_at "ev"); (case e4 => walk_at "ev"))
  | ((with_reducible refine' ev_notV ?e1); (case e1 => walk_at "ev"))
  | ((with_reducible refine' ev_andV ?e1 ?e2); (case e1 => walk_at "ev"); (case e2 => (intro _; walk_at "ev")))
  | ((with_reducible refine' ev_orV ?e1 ?e2); (case e1 => walk_at "ev"); (case e2 => (intro _; walk_at "ev")))
  | ((with_reducible refine' ev_if ?e1 ?e2 ?e3); (case e1 => walk_at "et"); (case e2 => (intro _; walk_at "ev")); (case e3 => (intro _; walk_at "ev")))
  | ((with_reducible refine' ev_call ?e1 ?e2); (case e1 => walk_at "ea"); (case e2 => walk_at "call")))
local macro_rules | `(tactic| walk_at "ea") => `(tactic| first
  | (with_reducible exact ea_nil)
  | ((with_reducible refine' ea_cons ?e1 ?e2); (case e1 => walk_at "ev"); (case e2 => walk_at "ea")))
local macro_rules | `(tactic| walk_at "et") => `(tactic| first
  | ((with_reducible refine' et_test ?e1); (case e1 => walk_at "ev"))
  | ((with_reducible refine' et_B ?e1); (case e1 => walk_at "ev"))
  | ((with_reducible refine' et_not ?e1); (case e1 => walk_at "et"))
  | ((with_reducible refine' et_and ?e1 ?e2); (case e1 => walk_at "et"); (case e2 => (intro _; walk_at "et")))
  | ((with_reducible refine' et_or ?e1 ?e2); (case e1 => walk_at "et"); (case e2 => (intro _; walk_at "et"))))
local macro_rules | `(tactic| walk_at "eu") => `(tactic| first
  | ((with_reducible refine' eu_tup ?e1 ?e2); (case e1 => walk_at "ea"); (case e2 => exact Nat.le_of_ble_eq_true rfl))
  | ((with_reducible refine' eu_call ?e1 ?e2); (case e1 => walk_at "ea"); (case e2 => walk_at "callU")))
local macro_rules | `(tactic| walk_at "el") => `(tactic| first
  | ((with_reducible refine' el_call ?e1 ?e2); (case e1 => walk_at "ea"); (case e2 => walk_at "callL"))
  | ((with_reducible refine' el_lst ?e1 ?e2); (case e1 => walk_at "ea"); (case e2 => exact Nat.le_of_ble_eq_true rfl)))
local macro_rules | `(tactic| walk_at "sq") => `(tactic| first | assumption | exact sq_of (by assumption) | exact st_of (by assumption))
local macro_rules | `(tactic| walk_at "at") => `(tactic| first | assumption | rfl | (apply atI_nat; rfl))
local macro_rules | `(tactic| walk_at "call") => `(tactic| assumption)

/-! ### the pouch -/
/-- H without p -/
def Hm (p : Addr) (H : Hp) : Hp := fun b => if b = p then none else H b
theorem hm_p {p : Addr} {H : Hp} : Hm p H p = none := if_pos rfl
theorem hm_sub {p : Addr} {H : Hp} : Ex (Hm p H) H := fun a o h => by
  unfold Hm at h
  split at h
  · cases h
  · exact h
theorem hm_mono {p : Addr} {H H' : Hp} (e : Ex H H') : Ex (Hm p H) (Hm p H') := fun a o h => by
  unfold Hm at h ⊢
  split at h
  · cases h
  · rename_i ne
    rw [if_neg ne]
    exact e a o h
theorem ex_hm {p : Addr} {H0 H : Hp} (e : Ex H0 H) (h : H0 p = none) : Ex H0 (Hm p H) := fun a o ha => by
  unfold Hm
  rw [if_neg (ne_of_none ha h)]
  exact e a o ha
/-- a pouch after at most n mixed draws -/
def Po (p : Addr) (n : Nat) (H : Hp) : Prop := ∃ a b c : Int, H p = some (.lst [.int a, .int b, .int c]) ∧ (0 ≤ b ∧ b < 2 ^ 200) ∧ 0 ≤ c ∧ c ≤ n
theorem Po.ex {p : Addr} {n : Nat} {H H' : Hp} (h : Po p n H) (e : Ex H H') : Po p n H' := by
  obtain ⟨a, b, c, h1, h2⟩ := h
  exact ⟨a, b, c, e p _ h1, h2⟩
theorem Po.mono {p : Addr} {n m : Nat} {H : Hp} (h : Po p n H) (e : n ≤ m) : Po p m H := by
  obtain ⟨a, b, c, h1, h2, h3, h4⟩ := h
  exact ⟨a, b, c, h1, h2, h3, by omega⟩
theorem pow3_ok {i : Int} (h : i.natAbs < 2 ^ 250) : CPowX i 3 := by
  have := PyProof.Rows.intBits_le h
  unfold CPowX
  omega
theorem divw_ok {i j : Int} (h : 0 < j) (hb : j < 2 ^ 200) : CDivW i j := wide_div (b := 200) h (by omega) (by decide) (by decide)
theorem mulk_ok {i j : Int} (h : i.natAbs < 2 ^ 100000) (hb : j.natAbs < 2 ^ 100000) : CMulX i j := mulx_ok h hb (by decide)
def sp_law_store (K : PySem.W.Frag) : Sp := fun vs H Q _ => ∃ (s : Addr) (ns : List Int) (i : Nat), vs = [.ref s, .int (i : Int)] ∧ SqL K H s (ns.map V.int) ∧ i ≤ 100 ∧ ∀ p H', H p = none → Ex H H' → Po p 0 H' → Q (.ref p) H'
def sp_law_pick : Sp := fun vs H Q _ => ∃ (p : Addr) (n : Nat) (w : Int), vs = [.ref p, .int w] ∧ Po p n H ∧ n < 1000000000 ∧ 0 < w ∧ w < 2 ^ 200 ∧
  ∀ r H', 0 ≤ r → r < w → Po p (n + 1) H' → Ex (Hm p H) H' → Q (.int r) H'
section
variable {P : Program} {w : World} {K : PySem.W.Frag} {mg : Str → Option Value} {base : Heap}
theorem ok_law_pick (T : Tx K mg) : FnOk P w K mg base CX0 1 T.f_law_pick T.d_law_pick ["store", "bound"] sp_law_pick := by
  refine T.F_law_pick.ok sc_law_pick (fun vs H Q E h => ?_) (fun cdv A outer s H vs Q E hr h => ?_)
  · obtain ⟨p, n, w, rfl, _⟩ := h
    rfl
  · obtain ⟨p, n, w, rfl, ⟨a, b, c, hp, ⟨hb0, hb1⟩, hc0, hc1⟩, hn, hw0, hw1, k⟩ := h
    refine ⟨_, (pss_cons (ps_if (pt_cmpR op_gt (pe_ix ix_list (pv 0) pe_int (fun _ _ => rfl)) pe_int (nomark _)) (pss_cons (ps_set (i := 2) sc_law_pick.nd rfl (Or.inl rfl) (pe_op op_mod (pe_callTy call_intI (by rfl) T.m_int (by decide +kernel) (pa_cons (pe_ix ix_list (pv 0) pe_int (fun _ _ => rfl)) pa_nil)) (pv 1)))
      (pss_cons (ps_asg (pe_op op_fdivW (pe_ix ix_list (pv 0) pe_int (fun _ _ => rfl)) (pv 1)) (pg_sub (pv 0) pe_int set_list))
      (pss_one (ps_ret (pv 2))))) pss_nil)
      (pss_cons (ps_asg (pe_op op_add (pe_ix ix_list (pv 0) pe_int (fun _ _ => rfl)) pe_int) (pg_sub (pv 0) pe_int set_list))
      (pss_cons (ps_set (i := 3) sc_law_pick.nd rfl (Or.inl rfl) (pe_op op_mod (pe_callTy call_intI (by rfl) T.m_int (by decide +kernel) (pa_cons (pe_op op_powX (pe_op op_add (pe_ix ix_list (pv 0) pe_int (fun _ _ => rfl)) (pe_op op_mulX pe_int (pe_ix ix_list (pv 0) pe_int (fun _ _ => rfl)))) pe_int) pa_nil)) (pe_op op_add (pe_op op_powX pe_int pe_int) pe_int)))
      (pss_cons (ps_set (i := 3) sc_law_pick.nd rfl (Or.inl rfl) (pe_op op_mod (pe_callTy call_intI (by rfl) T.m_int (by decide +kernel) (pa_cons (pe_op op_powX (pe_op op_add (pv 3) (pe_op op_mulX pe_int (pe_ix ix_list (pv 0) pe_int (fun _ _ => rfl)))) pe_int) pa_nil)) (pe_op op_add (pe_op op_powX pe_int pe_int) pe_int)))
      (pss_one (ps_ret (pe_op op_mod (pe_callTy call_intI (by rfl) T.m_int (by decide +kernel) (pa_cons (pe_op op_fdivW (pv 3) pe_int) pa_nil)) (pv 1)))))))), ?_⟩
    have hp0 : Hm p H p = none := hm_p
    refine q_when (by walk_at "et") (fun hb H1 e1 => ?_) (fun hb H1 e1 => ?_)
    · have hp1 := e1 p _ hp
      refine q_asg (by walk_at "ev") fun H2 e2 => ?_
      have hp2 := e2 p _ hp1
      have hd : CDivW a w := divw_ok hw0 hw1
      refine q_setL (j := 0) hp2 (by walk_at "ev") (by walk_at "ev") ev_c (by show 0 < 3; decide) fun H3 e3 => ?_
      refine s_ret (by walk_at "ev") fun H4 e4 => ?_
      refine k _ _ (Int.emod_nonneg _ (by omega)) (Int.emod_lt_of_pos _ hw0) ⟨a / w, b, c, e4 p _ upd_same, ⟨hb0, hb1⟩, hc0, by omega⟩ ?_
      exact Ex.trans (Ex.mut (hm_sub.trans (e1.trans (e2.trans e3))) hp0) e4
    · have hp1 := e1 p _ hp
      refine q_setL (j := 2) hp1 (by walk_at "ev") (by walk_at "ev") ev_c (by show 2 < 3; decide) fun H2 e2 => ?_
      have hp2 : ∀ H3, Ex (upd H2 p (.lst ([V.int a, .int b, .int c].set 2 (.int (c + 1))))) H3 → H3 p = some (.lst [.int a, .int b, .int (c + 1)]) := fun H3 e => e p _ upd_same
      have hq := hp2 _ (Ex.refl _)
      have hm1 : CMulX 32416187567 (c + 1) := mulx_ok (a := 64) (b := 64) (by decide) (by omega) (by decide)
      have hw1' : CPowX (b + 32416187567 * (c + 1)) 3 := pow3_ok (by omega)
      have hw2 : CPowX 10 40 := ⟨by decide, by decide +kernel⟩
      refine q_asg (by walk_at "ev") fun H3 e3 => ?_
      have hq3 := hp2 _ e3
      have hm2 : CMulX 27644437 (c + 1) := mulx_ok (a := 64) (b := 64) (by decide) (by omega) (by decide)
      generalize hz : (b + 32416187567 * (c + 1)) ^ (3 : Int).toNat % ((10 : Int) ^ (40 : Int).toNat + 121) = z
      have hz0 : 0 ≤ z := by
        rw [← hz]
        exact Int.emod_nonneg _ (by decide)
      have hz1 : z < (10 : Int) ^ (40 : Int).toNat + 121 := by
        rw [← hz]
        exact Int.emod_lt_of_pos _ (by decide)
      have hz2 : z < 2 ^ 200 := Int.lt_trans hz1 (by decide)
      have hw3 : CPowX (z + 27644437 * (c + 1)) 3 := pow3_ok (by omega)
      have hw4 : CPowX 10 39 := ⟨by decide, by decide +kernel⟩
      refine q_asg (by walk_at "ev") fun H4 e4 => ?_
      generalize (z + 27644437 * (c + 1)) ^ (3 : Int).toNat % ((10 : Int) ^ (39 : Int).toNat + 3) = y
      have hd : CDivW y 16381 := divw_ok (by decide) (by decide)
      refine s_ret (by walk_at "ev") fun H5 e5 => ?_
      refine k _ _ (Int.emod_nonneg _ (by omega)) (Int.emod_lt_of_pos _ hw0) ⟨a, b, c + 1, hp2 _ (e3.trans (e4.trans e5)), ⟨hb0, hb1⟩, by omega, by omega⟩ ?_
      exact Ex.trans (Ex.mut (hm_sub.trans (e1.trans e2)) hp0) (e3.trans (e4.trans e5))
theorem ok_law_store (T : Tx K mg) : FnOk P w K mg base CX0 1 T.f_law_store T.d_law_store ["script", "k"] (sp_law_store K) := by
  refine T.F_law_store.ok sc_law_store (fun vs H Q E h => ?_) (fun cdv A outer s H vs Q E hr h => ?_)
  · obtain ⟨a, ns, i, rfl, _⟩ := h
    rfl
  · obtain ⟨a, ns, i, rfl, hs, hi, k⟩ := h
    refine ⟨_, (pss_cons (ps_set (i := 2) sc_law_store.nd rfl (Or.inl rfl) (pe_ifExp (pt_cmpR op_lt (pv 1) (pe_callB call_lenR (by rfl) T.m_len (by decide +kernel) (pa_cons (pv 0) pa_nil)) (nomark _)) (pe_callB call_absR (by rfl) T.m_abs (by decide +kernel) (pa_cons (pe_ix ix_list (pv 0) (pv 1) (fun _ _ => rfl)) pa_nil)) pe_int))
      (pss_one (ps_ret (pe_lst (pa_cons (pe_callB (call_maxR rfl) (by rfl) T.m_max (by decide +kernel) (pa_cons pe_int (pa_cons (pe_op op_sub (pv 2) (pe_op op_powX pe_int pe_int)) pa_nil))) (pa_cons (pe_op op_add (pe_op op_mulX (pe_op op_mod (pe_callTy call_intI (by rfl) T.m_int (by decide +kernel) (pa_cons (pv 2) pa_nil)) (pe_op op_add (pe_op op_powX pe_int pe_int) pe_int)) pe_int) (pe_op op_mulX pe_int (pv 1))) (pa_cons pe_int pa_nil))))))), ?_⟩
    have hlen : (ns.map V.int).length = ns.length := List.length_map ..
    refine q_asg (v := .int (if ns.getD i 0 < 0 then -(ns.getD i 0) else ns.getD i 0)) ?_ fun H1 e1 => ?_
    · refine ev_if (b := decide ((i : Int) < ((ns.map V.int).length : Int))) (by walk_at "et") (fun hb => ?_) (fun hb => ?_)
      · have hb := of_decide_eq_true hb
        rw [hlen] at hb
        have hlt : i < ns.length := by omega
        refine ev_abs (ev_op (ev_var rfl) (ev_var rfl) (rv_ixL hs (atI_nat (j := i) ?_)))
        rw [List.getElem?_map, List.getElem?_eq_getElem hlt]
        simp [List.getD_eq_getElem?_getD, hlt]
      · have hb := of_decide_eq_false hb
        rw [hlen] at hb
        have e0 : ns.getD i 0 = 0 := by
          rw [List.getD_eq_getElem?_getD, List.getElem?_eq_none (by omega)]
          rfl
        rw [e0]
        exact ev_c (v := .int 0)
    · generalize (if ns.getD i 0 < 0 then -(ns.getD i 0) else ns.getD i 0) = z
      have hw1 : CPowX 10 18 := ⟨by decide, by decide +kernel⟩
      have hw2 : CPowX 10 37 := ⟨by decide, by decide +kernel⟩
      have hy0 : 0 ≤ z % ((10 : Int) ^ (37 : Int).toNat + 43) := Int.emod_nonneg _ (by decide)
      have hy1 : z % ((10 : Int) ^ (37 : Int).toNat + 43) < (10 : Int) ^ (37 : Int).toNat + 43 := Int.emod_lt_of_pos _ (by decide)
      have hy2 : z % ((10 : Int) ^ (37 : Int).toNat + 43) < 2 ^ 150 := Int.lt_trans hy1 (by decide)
      have hpos : 0 < (10 : Int) ^ (37 : Int).toNat + 43 := by decide
      have hm1 : CMulX (z % ((10 : Int) ^ (37 : Int).toNat + 43)) 83 := mulx_ok (a := 150) (b := 64) (by omega) (by decide) (by decide)
      have hm2 : CMulX 7 (i : Int) := mulx_ok (a := 64) (b := 64) (by decide) (by omega) (by decide)
      refine s_retL (el_lst (ea_cons (by walk_at "ev") (ea_cons (by walk_at "ev") (ea_cons ev_c ea_nil))) (Nat.le_of_ble_eq_true rfl)) fun p H2 hp e2 hl => ?_
      refine k p H2 (fresh_back e1 hp) (e1.trans e2) ⟨_, _, _, hl, ⟨?_, ?_⟩, by omega, by omega⟩
      · generalize z % ((10 : Int) ^ (37 : Int).toNat + 43) = y at hy0 hy2 ⊢
        omega
      · generalize z % ((10 : Int) ^ (37 : Int).toNat + 43) = y at hy0 hy2 ⊢
        omega
end

/-! ### expressions that draw -/
theorem hm_trans {p : Addr} {H H1 H2 : Hp} (a : Ex (Hm p H) H1) (b : Ex (Hm p H1) H2) : Ex (Hm p H) H2 := fun x o h => by
  have ne : x ≠ p := fun z => by
    subst z
    rw [hm_p] at h
    cases h
  have h1 := a x o h
  refine b x o ?_
  unfold Hm
  rw [if_neg ne]
  exact h1
theorem hm_next {p : Addr} {H0 H H1 : Hp} (h0 : H0 p = none) (e : Ex H0 H) (s : Ex (Hm p H) H1) : Ex H0 H1 := (ex_hm e h0).trans s
theorem hm_of {p : Addr} {H H1 : Hp} (e : Ex H H1) : Ex (Hm p H) H1 := hm_sub.trans e
theorem hm_at {p a : Addr} {H H1 : Hp} {o : HO} (s : Ex (Hm p H) H1) (ne : a ≠ p) (h : H a = some o) : H1 a = some o := s a o (by
  unfold Hm
  rw [if_neg ne]
  exact h)
theorem Po.ne {p l : Addr} {n : Nat} {H : Hp} (h : Po p n H) (hl : H l = none) : l ≠ p := fun z => by
  subst z
  obtain ⟨_, _, _, h1, _⟩ := h
  rw [hl] at h1
  cases h1
def EvP (p : Addr) (k : Nat) (te : TE) (σ : L2.St) (H0 : Hp) (R : V → Hp → Prop) : Prop := ∀ n H1, Ex H0 H1 → Po p n H1 → n + k ≤ 1000000000 →
  ∀ Q : VK, (∀ v H2, R v H2 → Po p (n + k) H2 → Ex (Hm p H1) H2 → Q v H2) → te σ H1 Q
def Stb (p : Addr) (R : V → Hp → Prop) : Prop := ∀ v H H', R v H → Ex (Hm p H) H' → R v H'
section
variable {K : PySem.W.Frag} {σ : L2.St} {H0 H : Hp} {p : Addr} {k k1 k2 : Nat} {te ta tb : TE} {R Ra Rb : V → Hp → Prop}
theorem ep_ev {v : V} (h : Ev te σ H0 v) : EvP p 0 te σ H0 (fun x _ => x = v) := fun n H1 e hp _ Q q => h H1 e Q fun H2 e2 => q v H2 rfl (hp.ex e2) (hm_of e2)
theorem ep_L {xs : List V} (h : EvL te σ H0 xs) : EvP p 0 te σ H0 (fun x H => ∃ l, l ≠ p ∧ x = .ref l ∧ H l = some (.lst xs)) := fun n H1 e hp _ Q q => h H1 e Q fun l H2 hl e2 h2 => q _ H2 ⟨l, hp.ne hl, rfl, h2⟩ (hp.ex e2) (hm_of e2)
theorem stb_L {xs : List V} : Stb p (fun x H => ∃ l, l ≠ p ∧ x = .ref l ∧ H l = some (.lst xs)) := fun v H H' ⟨l, ne, e, h⟩ s => ⟨l, ne, e, hm_at s ne h⟩
theorem stb_c {C : V → Prop} : Stb p (fun x _ => C x) := fun _ _ _ h _ => h
theorem ep_op {r : R2} (h0 : H0 p = none) (ha : EvP p k1 ta σ H0 Ra) (hb : EvP p k2 tb σ H0 Rb) (s1 : Stb p Ra) (s : Stb p R) (hr : ∀ x y H, Ra x H → Rb y H → ∃ z, R z H ∧ RV r x y H z) : EvP p (k1 + k2) (tOp r ta tb) σ H0 R :=
  fun n H1 e hp hn Q q => ha n H1 e hp (by omega) _ fun x H2 hx p2 e2 => hb (n + k1) H2 (hm_next h0 e e2) p2 (by omega) _ fun y H3 hy p3 e3 => by
    obtain ⟨z, hz, hv⟩ := hr x y H3 (s1 x H2 H3 hx e3) hy
    refine hv H3 (Ex.refl H3) Q fun H4 e4 => q z H4 (s z H3 H4 hz (hm_of e4)) ?_ (hm_trans (hm_trans e2 e3) (hm_of e4))
    rw [← Nat.add_assoc]
    exact p3.ex e4
theorem ep_dip {tw : TE} {E : XK} {C : Int → Prop} (h0 : H0 p = none) (hp : Ev ta σ H0 (.ref p)) (hw : EvP p k tw σ H0 (fun v _ => ∃ w, v = .int w ∧ 0 < w ∧ w < 2 ^ 200 ∧ C w)) :
    EvP p (k + 1) (tCall sp_law_pick [] E (tCons ta (tCons tw tNil))) σ H0 (fun v _ => ∃ r w, v = .int r ∧ 0 ≤ r ∧ r < w ∧ C w) :=
  fun n H1 e hpo hn Q q => hp H1 e _ fun H2 e2 => hw n H2 (e.trans e2) (hpo.ex e2) (by omega) _ fun y H3 hy p3 e3 => by
    obtain ⟨w, rfl, w0, w1, c⟩ := hy
    exact ⟨p, n + k, w, rfl, p3, by omega, w0, w1, fun r H' r0 r1 p4 e4 => q _ H' ⟨r, w, rfl, r0, r1, c⟩ p4 (hm_trans (hm_trans (hm_of e2) e3) e4)⟩
theorem ep_is {R' : V → Hp → Prop} (h : EvP p k te σ H0 R) (e : ∀ v H, R v H → R' v H) : EvP p k te σ H0 R' := fun n H1 a b c Q q => h n H1 a b c Q fun v H2 hv => q v H2 (e v H2 hv)
/-- the width is a pure int -/
theorem ep_dipI {tw : TE} {E : XK} {w : Int} (h0 : H0 p = none) (hp : Ev ta σ H0 (.ref p)) (hw : Ev tw σ H0 (.int w)) (w0 : 0 < w) (w1 : w < 2 ^ 200) :
    EvP p 1 (tCall sp_law_pick [] E (tCons ta (tCons tw tNil))) σ H0 (fun v _ => ∃ r, v = .int r ∧ 0 ≤ r ∧ r < w) :=
  ep_is (ep_dip (k := 0) (C := fun z => z = w) h0 hp (ep_is (ep_ev hw) fun v H e => ⟨w, e, w0, w1, rfl⟩)) fun v H ⟨r, z, e, r0, r1, e2⟩ => ⟨r, e, r0, e2 ▸ r1⟩
/-- a + b, b drawn -/
theorem ep_add {a : Int} {C : Int → Prop} (h0 : H0 p = none) (ha : Ev ta σ H0 (.int a)) (hb : EvP p k tb σ H0 (fun v _ => ∃ r, v = .int r ∧ C r)) : EvP p (0 + k) (tOp (rI0 fun i j => .int (i + j)) ta tb) σ H0 (fun v _ => ∃ r, v = .int (a + r) ∧ C r) :=
  ep_op h0 (ep_ev ha) hb stb_c stb_c fun x y H e ⟨r, e2, c⟩ => ⟨.int (a + r), ⟨r, rfl, c⟩, by
    subst e
    subst e2
    exact rv_I0⟩
theorem p_asg {i n : Nat} {D : Ends} (h : EvP p k te σ H0 R) (e : Ex H0 H) (hp : Po p n H) (hn : n + k ≤ 1000000000) (q : ∀ v H2, R v H2 → Po p (n + k) H2 → Ex (Hm p H) H2 → D.nx (σ.set i (some v)) H2) : tAsg te (gName i) D σ H := h n H e hp hn _ q
theorem pq_asg {i n : Nat} {D : Ends} {tz : TS} (h : EvP p k te σ H0 R) (e : Ex H0 H) (hp : Po p n H) (hn : n + k ≤ 1000000000) (q : ∀ v H2, R v H2 → Po p (n + k) H2 → Ex (Hm p H) H2 → tz D (σ.set i (some v)) H2) : tSeq (tAsg te (gName i)) tz D σ H := h n H e hp hn _ q
/-- tests that draw -/
def EtP (p : Addr) (k : Nat) (t : TT) (σ : L2.St) (H0 : Hp) (b : Bool) : Prop := ∀ n H1, Ex H0 H1 → Po p n H1 → n + k ≤ 1000000000 →
  ∀ Q : Bool → Hp → Prop, (∀ H2, Po p (n + k) H2 → Ex (Hm p H1) H2 → Q b H2) → t σ H1 Q
variable {t u : TT} {b c : Bool}
theorem tp_B (h : EvP p k te σ H0 (fun v _ => v = .bl b)) : EtP p k (tB te) σ H0 b := fun n H1 e hp hn Q q => h n H1 e hp hn _ fun v H2 hv p2 e2 => ⟨b, hv, q H2 p2 e2⟩
theorem tp_not (h : EtP p k t σ H0 b) : EtP p k (tNot t) σ H0 (!b) := fun n H1 e hp hn Q q => h n H1 e hp hn _ fun H2 p2 e2 => q H2 p2 e2
theorem tp_is (h : EtP p k t σ H0 b) (e : b = c) : EtP p k t σ H0 c := e ▸ h
theorem tp_or (h0 : H0 p = none) (h : EtP p k1 t σ H0 false) (h' : EtP p k2 u σ H0 b) : EtP p (k1 + k2) (tOr t u) σ H0 b := fun n H1 e hp hn Q q => h n H1 e hp (by omega) _ fun H2 p2 e2 => by
  show u σ H2 Q
  refine h' (n + k1) H2 (hm_next h0 e e2) p2 (by omega) Q fun H3 p3 e3 => q H3 ?_ (hm_trans e2 e3)
  rw [← Nat.add_assoc]
  exact p3
theorem tp_et (h : EvT t σ H0 b) : EtP p 0 t σ H0 b := fun n H1 e hp _ Q q => h H1 e Q fun H2 e2 => q H2 (hp.ex e2) (hm_of e2)
/-- a test that is false: what follows -/
theorem pq_no {n : Nat} {D : Ends} {tu tz : TS} (h : EtP p k t σ H0 false) (e : Ex H0 H) (hp : Po p n H) (hn : n + k ≤ 1000000000) (q : ∀ H2, Po p (n + k) H2 → Ex (Hm p H) H2 → tz D σ H2) : tSeq (tIfS t tu tNext) tz D σ H := h n H e hp hn _ q
theorem ps_no {n : Nat} {D : Ends} {tu : TS} (h : EtP p k t σ H0 false) (e : Ex H0 H) (hp : Po p n H) (hn : n + k ≤ 1000000000) (q : ∀ H2, Po p (n + k) H2 → Ex (Hm p H) H2 → D.nx σ H2) : tIfS t tu tNext D σ H := h n H e hp hn _ q
/-- pouch = _law_store(script, at) -/
theorem pq_pouch {ta : TA} {E : XK} {D : Ends} {tz : TS} {j i : Nat} {s : Addr} {ns : List Int} (h : EvA ta σ H [.ref s, .int (i : Int)]) (hs : SqL K H s (ns.map V.int)) (hi : i ≤ 100) (q : ∀ p H2, H p = none → Ex H H2 → Po p 0 H2 → tz D (σ.set j (some (.ref p))) H2) :
    tSeq (tAsg (tCall (sp_law_store K) [] E ta) (gName j)) tz D σ H := h H (Ex.refl H) _ fun H1 e1 => ⟨s, ns, i, rfl, ex_l e1 hs, hi, fun p H2 hp e2 hpo => q p H2 (fresh_back e1 hp) (e1.trans e2) hpo⟩
end

def iz (xs : List Nat) : List Int := xs.map fun x : Nat => (x : Int)
def nv (xs : List Nat) : List V := (iz xs).map V.int
theorem nv_len (xs : List Nat) : (nv xs).length = xs.length := by simp [nv, iz]
theorem nv_get {xs : List Nat} {i x : Nat} (h : xs[i]? = some x) : (nv xs)[i]? = some (.int x) := by simp [nv, iz, h]
theorem nv_app (xs ys : List Nat) : nv (xs ++ ys) = nv xs ++ nv ys := by simp [nv, iz]
theorem nv_eq (xs : List Nat) : nv xs = xs.map fun x : Nat => V.int (x : Int) := by simp [nv, iz]
def sp_is_whole : Sp := fun vs H Q _ => ∃ x : Int, vs = [.int x] ∧ RetV (.bl true) H Q
theorem sv_whole {H : Hp} {x : Int} : SpV sp_is_whole ([.int x] ++ []) H (.bl true) := fun H1 _ Q q E => ⟨x, rfl, q⟩
section
variable {P : Program} {w : World} {K : PySem.W.Frag} {mg : Str → Option Value} {base : Heap}
theorem ok_is_whole (T : Tx K mg) : FnOk P w K mg base CX0 1 T.f_is_whole T.d_is_whole ["thing"] sp_is_whole := by
  refine T.F_is_whole.ok sc_is_whole (fun vs H Q E h => ?_) (fun cdv A outer s H vs Q E hr h => ?_)
  · obtain ⟨x, rfl, _⟩ := h
    rfl
  · obtain ⟨x, rfl, k⟩ := h
    refine ⟨_, (pss_one (ps_ret (pe_cmpR op_eqTy (pe_typeOf (by rfl) T.m_type (pv 0)) (pe_bltn (v := .ty "int") (by rfl) T.m_int (by decide +kernel) rfl) (nomark _)))), ?_⟩
    refine s_ret (by walk_at "ev") fun H1 e1 => ?_
    rw [show decide (("int" : String) = "int") = true from decide_eq_true rfl]
    exact k _ e1
end

section
variable {P : Program} {w : World} {K : PySem.W.Frag} {mg : Str → Option Value} {base : Heap}
local macro_rules | `(tactic| walk_at "call") => `(tactic| (with_reducible exact sv_whole))
def sp_is_within : Sp := fun vs H Q _ => ∃ x l m : Int, vs = [.int x, .int l, .int m] ∧ RetV (.bl (decide (l ≤ x) && decide (x ≤ m))) H Q
theorem sv_between {H : Hp} {x l m : Int} : SpV sp_is_within ([.int x, .int l, .int m] ++ []) H (.bl (decide (l ≤ x) && decide (x ≤ m))) := fun H1 _ Q q E => ⟨x, l, m, rfl, q⟩
theorem ok_is_within (T : Tx K mg) : FnOk P w K mg base CX0 2 T.f_is_within T.d_is_within ["thing", "least", "most"] sp_is_within := by
  refine T.F_is_within.ok sc_is_within (fun vs H Q E h => ?_) (fun cdv A outer s H vs Q E hr h => ?_)
  · obtain ⟨x, l, m, rfl, _⟩ := h
    rfl
  · obtain ⟨x, l, m, rfl, k⟩ := h
    refine ⟨_, (pss_one (ps_ret (pe_and (pe_call (ok_is_whole T) (hr.mono (by decide)) (by rfl) T.g_is_whole T.F_is_whole.kp T.b_is_whole .nil pass0 (pa_cons (pv 0) pa_nil)) (pe_one (pe_chain op_le op_le (pv 1) (pv 0) (pv 2)))))), ?_⟩
    refine s_ret (by walk_at "ev") fun H1 e1 => ?_
    exact k _ e1
local macro_rules | `(tactic| walk_at "call") => `(tactic| (with_reducible exact sv_between))
def sp_check1 (lo hi : Int) : Sp := fun vs H Q _ => ∃ x : Int, vs = [.int x] ∧ lo ≤ x ∧ x ≤ hi ∧ RetV .non H Q
theorem sv_check1 {H : Hp} {lo hi x : Int} (h0 : lo ≤ x) (h1 : x ≤ hi) : SpV (sp_check1 lo hi) ([.int x] ++ []) H .non := fun H1 _ Q q E => ⟨x, rfl, h0, h1, q⟩
theorem ok_check_weight (T : Tx K mg) : FnOk P w K mg base CX0 3 T.f_check_weight T.d_check_weight ["weight"] (sp_check1 1 1000000000000) := by
  refine T.F_check_weight.ok sc_check_weight (fun vs H Q E h => ?_) (fun cdv A outer s H vs Q E hr h => ?_)
  · obtain ⟨x, rfl, _⟩ := h
    rfl
  · obtain ⟨x, rfl, h0, h1, k⟩ := h
    refine ⟨_, (pss_one (ps_if (pt_not (pt_val (pe_call (ok_is_within T) (hr.mono (by decide)) (by rfl) T.g_is_within T.F_is_within.kp T.b_is_within .nil pass0 (pa_cons (pv 0) (pa_cons pe_int (pa_cons (pe_gc (by rfl) T.c_MOST_WEIGHT) pa_nil)))))) (pss_one ps_never) pss_nil)), ?_⟩
    refine s_when (by walk_at "et") (fun hb H1 e1 => ?_) fun hb H1 e1 => k _ e1
    rw [decide_eq_true h0, decide_eq_true h1] at hb
    cases hb
def sp_check_number : Sp := fun vs H Q _ => ∃ x lo hi : Int, vs = [.int x, .int lo, .int hi] ∧ lo ≤ x ∧ x ≤ hi ∧ RetV .non H Q
theorem sv_check_number {H : Hp} {lo hi x : Int} (h0 : lo ≤ x) (h1 : x ≤ hi) : SpV sp_check_number ([.int x, .int lo, .int hi] ++ []) H .non := fun H1 _ Q q E => ⟨x, lo, hi, rfl, h0, h1, q⟩
theorem ok_check_number (T : Tx K mg) : FnOk P w K mg base CX0 3 T.f_check_number T.d_check_number ["number", "least", "most"] sp_check_number := by
  refine T.F_check_number.ok sc_check_number (fun vs H Q E h => ?_) (fun cdv A outer s H vs Q E hr h => ?_)
  · obtain ⟨x, lo, hi, rfl, _⟩ := h
    rfl
  · obtain ⟨x, lo, hi, rfl, h0, h1, k⟩ := h
    refine ⟨_, (pss_one (ps_if (pt_not (pt_val (pe_call (ok_is_within T) (hr.mono (by decide)) (by rfl) T.g_is_within T.F_is_within.kp T.b_is_within .nil pass0 (pa_cons (pv 0) (pa_cons (pv 1) (pa_cons (pv 2) pa_nil)))))) (pss_one ps_never) pss_nil)), ?_⟩
    refine s_when (by walk_at "et") (fun hb H1 e1 => ?_) fun hb H1 e1 => k _ e1
    rw [decide_eq_true h0, decide_eq_true h1] at hb
    cases hb
local macro_rules | `(tactic| walk_at "call") => `(tactic| ((with_reducible refine' sv_check1 ?c1 ?c2); (case c1 => walk_at "side"); (case c2 => walk_at "side")))
local macro_rules | `(tactic| walk_at "call") => `(tactic| ((with_reducible refine' sv_check_number ?c1 ?c2); (case c1 => walk_at "side"); (case c2 => walk_at "side")))
/-! ### fraction -/
def cd (a b : Int) : Int := ((Nat.gcd a.natAbs b.natAbs : Nat) : Int)
theorem cd_pos {a b : Int} (h : 0 < b) : 0 < cd a b := by
  unfold cd
  have := Nat.gcd_pos_of_pos_right a.natAbs (show 0 < b.natAbs by omega)
  omega
theorem cd_le {a b : Int} (h : 0 < b) : cd a b ≤ b := by
  unfold cd
  have := Nat.le_of_dvd (show 0 < b.natAbs by omega) (Nat.gcd_dvd_right a.natAbs b.natAbs)
  omega
theorem cd_dvd1 {a b : Int} : cd a b ∣ a := Int.ofNat_dvd_left.mpr (Nat.gcd_dvd_left a.natAbs b.natAbs)
theorem cd_dvd2 {a b : Int} : cd a b ∣ b := Int.ofNat_dvd_left.mpr (Nat.gcd_dvd_right a.natAbs b.natAbs)
def sp_fraction : Sp := fun vs H Q _ => ∃ a b : Int, vs = [.int a, .int b] ∧ 0 < b ∧ b.natAbs < 2 ^ 8000 ∧ RetU [.int (a / cd a b), .int (b / cd a b)] H Q
theorem su_fraction {H : Hp} {a b : Int} (h0 : 0 < b) (h1 : b.natAbs < 2 ^ 8000) : SpU sp_fraction ([.int a, .int b] ++ []) H [.int (a / cd a b), .int (b / cd a b)] := fun H1 _ Q q E => ⟨a, b, rfl, h0, h1, q⟩
theorem ok_fraction (T : Tx K mg) : FnOk P w K mg base CX0 1 T.f_fraction T.d_fraction ["top", "bottom"] sp_fraction := by
  refine T.F_fraction.ok sc_fraction (fun vs H Q E h => ?_) (fun cdv A outer s H vs Q E hr h => ?_)
  · obtain ⟨a, b, rfl, _⟩ := h
    rfl
  · obtain ⟨a, b, rfl, h0, h1, k⟩ := h
    refine ⟨_, (pss_cons (ps_set (i := 2) sc_fraction.nd rfl (Or.inl rfl) (pe_callBfun cr_gcd (by rfl) T.i_gcd (pa_cons (pv 0) (pa_cons (pv 1) pa_nil))))
      (pss_one (ps_ret (pe_tup (pa_cons (pe_op op_fdivW (pv 0) (pv 2)) (pa_cons (pe_op op_fdivW (pv 1) (pv 2)) pa_nil)))))), ?_⟩
    refine q_asg (by walk_at "ev") fun H1 e1 => ?_
    have hd : ∀ x : Int, CDivW x (cd a b) := fun x => wide_div (cd_pos h0) (Nat.lt_of_le_of_lt (by have := cd_le (a := a) h0; have := cd_pos (a := a) h0; omega) h1) (by decide) (by decide)
    have hd1 := hd a
    have hd2 := hd b
    refine s_retU (by walk_at "eu") fun p H2 hp e2 h2 => k p H2 (fresh_back e1 hp) (e1.trans e2) h2
local macro_rules | `(tactic| walk_at "callU") => `(tactic| ((with_reducible refine' su_fraction ?c1 ?c2); (case c1 => walk_at "side"); (case c2 => walk_at "side")))
end

local macro_rules | `(tactic| walk_at "call") => `(tactic| (with_reducible exact sv_whole))
local macro_rules | `(tactic| walk_at "call") => `(tactic| (with_reducible exact sv_between))
local macro_rules | `(tactic| walk_at "call") => `(tactic| ((with_reducible refine' sv_check1 ?c1 ?c2); (case c1 => walk_at "side"); (case c2 => walk_at "side")))
local macro_rules | `(tactic| walk_at "call") => `(tactic| ((with_reducible refine' sv_check_number ?c1 ?c2); (case c1 => walk_at "side"); (case c2 => walk_at "side")))
local macro_rules | `(tactic| walk_at "callU") => `(tactic| ((with_reducible refine' su_fraction ?c1 ?c2); (case c1 => walk_at "side"); (case c2 => walk_at "side")))

/-! ### numbers -/
theorem rise_le {w : Int} (h : w.natAbs < 2 ^ 130) : ∀ n : Nat, n ≤ 100 → (rise w n).natAbs ≤ 2 ^ (131 * n)
  | 0, _ => by
    show (1 : Int).natAbs ≤ 2 ^ 0
    decide
  | n + 1, hn => by
    have ih := rise_le h n (by omega)
    show (rise w n * (w + n)).natAbs ≤ _
    rw [Int.natAbs_mul, Nat.mul_succ, Nat.pow_add]
    exact Nat.mul_le_mul ih (by omega)
def sp_rise : Sp := fun vs H Q _ => ∃ (b : Int) (n : Nat), vs = [.int b, .int n] ∧ b.natAbs < 2 ^ 130 ∧ n ≤ 60 ∧ RetV (.int (rise b n)) H Q
theorem sv_rise {H : Hp} {b : Int} {n : Nat} (hb : b.natAbs < 2 ^ 130) (h1 : n ≤ 60) : SpV sp_rise ([.int b, .int (n : Int)] ++ []) H (.int (rise b n)) := fun H1 _ Q q E => ⟨b, n, rfl, hb, h1, q⟩
section
variable {P : Program} {w : World} {K : PySem.W.Frag} {mg : Str → Option Value} {base : Heap}
theorem ok_rising (T : Tx K mg) : FnOk P w K mg base CX0 1 T.f_rising T.d_rising ["weight","guests"] sp_rise := by
  refine T.F_rising.ok sc_rising (fun vs H Q E h => ?_) (fun cdv A outer s H vs Q E hr h => ?_)
  · obtain ⟨b, n, rfl, _⟩ := h
    rfl
  · obtain ⟨b, n, rfl, hb, hn, k⟩ := h
    refine ⟨_, (pss_cons (ps_set (i := 2) sc_rising.nd rfl (Or.inl rfl) pe_int)
      (pss_cons (ps_for PassesOwn.never rfl (pi_range1 (by rfl) T.m_range (pa_cons (pv 1) pa_nil)) (pg_name (i := 3) sc_rising.nd rfl (Or.inl rfl)) (pss_one (ps_set (i := 2) sc_rising.nd rfl (Or.inl rfl) (pe_op op_mulX (pv 2) (pe_op op_add (pv 0) (pv 3))))))
      (pss_one (ps_ret (pv 2))))), ?_⟩
    refine q_asg ev_c fun H1 e1 => ?_
    refine q_forR1 (n := (n : Int)) (by walk_at "ea") ⟨by omega, by omega⟩ (fun i σ' H' => ∃ y, σ' = [some (.int b), some (.int n), some (.int (rise b i)), y] ∧ Ex H H') (fun H2 e2 => ⟨none, rfl, e1.trans e2⟩) ?_ ?_
    · rintro i σ' H' hi ⟨y, rfl, e⟩
      have hs : (b + (i : Int)).natAbs < 2 ^ 131 := by omega
      have hm : CMulX (rise b i) (b + (i : Int)) := mulx_ok (lt_of_le2 (rise_le hb i (by omega))) hs (by omega)
      exact s_asg (by walk_at "ev") fun H2 e2 => ⟨_, rfl, e.trans e2⟩
    · rintro σ' H' ⟨y, rfl, e⟩
      exact s_ret (by walk_at "ev") fun H2 e2 => k _ (e.trans e2)

theorem ok_law_rising (T : Tx K mg) : FnOk P w K mg base CX0 1 T.f_law_rising T.d_law_rising ["base","many_here"] sp_rise := by
  refine T.F_law_rising.ok sc_law_rising (fun vs H Q E h => ?_) (fun cdv A outer s H vs Q E hr h => ?_)
  · obtain ⟨b, n, rfl, _⟩ := h
    rfl
  · obtain ⟨b, n, rfl, hb, hn, k⟩ := h
    refine ⟨_, (pss_cons (ps_set (i := 2) sc_law_rising.nd rfl (Or.inl rfl) pe_int)
      (pss_cons (ps_for PassesOwn.never rfl (pi_range1 (by rfl) T.m_range (pa_cons (pv 1) pa_nil)) (pg_name (i := 3) sc_law_rising.nd rfl (Or.inl rfl)) (pss_one (ps_set (i := 2) sc_law_rising.nd rfl (Or.inl rfl) (pe_op op_mulX (pv 2) (pe_op op_add (pv 0) (pv 3))))))
      (pss_one (ps_ret (pv 2))))), ?_⟩
    refine q_asg ev_c fun H1 e1 => ?_
    refine q_forR1 (n := (n : Int)) (by walk_at "ea") ⟨by omega, by omega⟩ (fun i σ' H' => ∃ y, σ' = [some (.int b), some (.int n), some (.int (rise b i)), y] ∧ Ex H H') (fun H2 e2 => ⟨none, rfl, e1.trans e2⟩) ?_ ?_
    · rintro i σ' H' hi ⟨y, rfl, e⟩
      have hs : (b + (i : Int)).natAbs < 2 ^ 131 := by omega
      have hm : CMulX (rise b i) (b + (i : Int)) := mulx_ok (lt_of_le2 (rise_le hb i (by omega))) hs (by omega)
      exact s_asg (by walk_at "ev") fun H2 e2 => ⟨_, rfl, e.trans e2⟩
    · rintro σ' H' ⟨y, rfl, e⟩
      exact s_ret (by walk_at "ev") fun H2 e2 => k _ (e.trans e2)

end

def frac (a b : Int) : List V := [.int (a / cd a b), .int (b / cd a b)]
def sp_lowest : Sp := fun vs H Q _ => ∃ a b : Int, vs = [.int a, .int b] ∧ 0 ≤ a ∧ 0 < b ∧ b.natAbs < 2 ^ 8000 ∧ RetU (frac a b) H Q
theorem su_lowest {H : Hp} {a b : Int} (h0 : 0 ≤ a) (h1 : 0 < b) (h2 : b.natAbs < 2 ^ 8000) : SpU sp_lowest ([.int a, .int b] ++ []) H (frac a b) := fun H1 _ Q q E => ⟨a, b, rfl, h0, h1, h2, q⟩
section
variable {P : Program} {w : World} {K : PySem.W.Frag} {mg : Str → Option Value} {base : Heap}
theorem ok_law_lowest (T : Tx K mg) : FnOk P w K mg base CX0 1 T.f_law_lowest T.d_law_lowest ["top", "bottom"] sp_lowest := by
  refine T.F_law_lowest.ok sc_law_lowest (fun vs H Q E h => ?_) (fun cdv A outer s H vs Q E hr h => ?_)
  · obtain ⟨a, b, rfl, _⟩ := h
    rfl
  · obtain ⟨a, b, rfl, ha, hb, hs, k⟩ := h
    refine ⟨_, (pss_cons (ps_par (i := 2) (j := 3) (by rfl) sc_law_lowest.nd rfl rfl (by decide) rfl rfl (pa_cons (pv 0) (pa_cons (pv 1) pa_nil)) (by rfl))
      (pss_cons (ps_while PassesOwn.never (pt_cmpR op_gt (pv 3) pe_int (nomark _)) (pss_one (ps_par (i := 2) (j := 3) (by rfl) sc_law_lowest.nd rfl rfl (by decide) rfl rfl (pa_cons (pv 3) (pa_cons (pe_op op_mod (pe_callTy call_intI (by rfl) T.m_int (by decide +kernel) (pa_cons (pv 2) pa_nil)) (pv 3)) pa_nil)) (by rfl))))
      (pss_one (ps_ret (pe_tup (pa_cons (pe_op op_fdivW (pv 0) (pv 2)) (pa_cons (pe_op op_fdivW (pv 1) (pv 2)) pa_nil))))))), ?_⟩
    obtain ⟨A, rfl⟩ : ∃ z : Nat, a = z := ⟨a.toNat, by omega⟩
    obtain ⟨B, rfl⟩ : ∃ z : Nat, b = z := ⟨b.toNat, by omega⟩
    refine q_par (by walk_at "ea") fun H1 e1 => ?_
    refine q_while (fun m σ' H' => ∃ x y : Nat, σ' = [some (.int (A : Int)), some (.int (B : Int)), some (.int (x : Int)), some (.int (y : Int))] ∧ Ex H H' ∧ Nat.gcd x y = Nat.gcd A B ∧ (y = 0 → 0 < x) ∧ m = y) B ⟨A, B, rfl, e1, rfl, by omega, rfl⟩ ?_
    rintro m σ' H' ⟨x, y, rfl, e, g, hx, hm⟩
    refine ⟨decide (y ≠ 0), et_is (by walk_at "et") ?_, fun hb2 H2 e2 => ?_, fun hb2 H2 e2 => ?_⟩
    · rw [Bool.eq_iff_iff]
      simp only [decide_eq_true_eq]
      omega
    · have hy := of_decide_eq_true hb2
      refine ⟨fun σ2 H3 => σ2 = [some (.int (A : Int)), some (.int (B : Int)), some (.int (y : Int)), some (.int ((x % y : Nat) : Int))] ∧ Ex H H3, fun σ2 H3 ⟨q1, q2⟩ => ⟨x % y, by rw [hm]; exact Nat.mod_lt _ (by omega), y, x % y, q1, q2, ?_, by omega, rfl⟩, ?_⟩
      · rw [Nat.gcd_comm, ← Nat.gcd_rec, Nat.gcd_comm]
        exact g
      · refine s_par (ea_cons (ev_var rfl) (ea_cons (ev_op (ev_intI (ev_var rfl)) (ev_var rfl) (rv_I (by omega))) ea_nil)) fun H3 e3 => ⟨?_, e.trans (e2.trans e3)⟩
        rw [Int.natCast_emod]
        rfl
    · have hy : y = 0 := by simpa using hb2
      subst hy
      rw [Nat.gcd_zero_right] at g
      have gx : (x : Int) = cd (A : Int) (B : Int) := by
        unfold cd
        rw [Int.natAbs_natCast, Int.natAbs_natCast, ← g]
      rw [gx]
      have hd : ∀ z : Int, CDivW z (cd (A : Int) (B : Int)) := fun z => wide_div (cd_pos hb) (Nat.lt_of_le_of_lt (by have := cd_le (a := (A : Int)) hb; have := cd_pos (a := (A : Int)) hb; omega) hs) (by decide) (by decide)
      exact s_retU (eu_tup (ea_cons (ev_op (ev_var rfl) (ev_var rfl) (rv_I (hd _))) (ea_cons (ev_op (ev_var rfl) (ev_var rfl) (rv_I (hd _))) ea_nil)) (Nat.le_of_ble_eq_true rfl)) fun p H3 hp e3 h3 => k p H3 (fresh_back (e.trans e2) hp) (e.trans (e2.trans e3)) h3
end

/-- rising from s: s (s + 1) .. -/
theorem rise_fac (s : Nat) : ∀ m : Nat, (fac s : Int) * rise ((s + 1 : Nat) : Int) m = (fac (s + m) : Int)
  | 0 => by
    show (fac s : Int) * 1 = _
    rw [Int.mul_one]
    rfl
  | m + 1 => by
    have ih := rise_fac s m
    show (fac s : Int) * (rise ((s + 1 : Nat) : Int) m * (((s + 1 : Nat) : Int) + m)) = ((fac (s + m + 1) : Nat) : Int)
    rw [fac_succ, ← Int.mul_assoc, ih]
    push_cast
    congr 1
    omega
theorem cho_rise {s m : Nat} (h : 1 ≤ s) : (cho (s + m - 1) (s - 1) : Int) * (fac m : Int) = rise (s : Int) m := by
  obtain ⟨t, rfl⟩ : ∃ t, s = t + 1 := ⟨s - 1, by omega⟩
  have a := cho_fac (n := t + m) (k := t) (by omega)
  have b := rise_fac t m
  rw [show t + m - t = m by omega] at a
  rw [show t + 1 + m - 1 = t + m by omega, show t + 1 - 1 = t by omega]
  have c : (fac t : Int) * ((cho (t + m) t : Int) * (fac m : Int)) = (fac t : Int) * rise ((t + 1 : Nat) : Int) m := by
    rw [b, ← a]
    push_cast
    grind
  have p := fac_pos t
  exact Int.eq_of_mul_eq_mul_left (by omega) c

/-! ### fractions of one ratio -/
theorem cd_scale {k a b : Int} (hk : 0 ≤ k) : cd (k * a) (k * b) = k * cd a b := by
  unfold cd
  rw [Int.natAbs_mul, Int.natAbs_mul, Nat.gcd_mul_left, Int.natCast_mul]
  congr 1
  omega
theorem quo_scale {k a b : Int} (hk : 0 < k) : k * a / cd (k * a) (k * b) = a / cd a b ∧ k * b / cd (k * a) (k * b) = b / cd a b := by
  rw [cd_scale (by omega)]
  exact ⟨Int.mul_ediv_mul_of_pos _ _ hk, Int.mul_ediv_mul_of_pos _ _ hk⟩
theorem quo_eq {a b c d : Int} (hb : 0 < b) (hd : 0 < d) (h : a * d = c * b) : a / cd a b = c / cd c d ∧ b / cd a b = d / cd c d := by
  have x := quo_scale (k := d) (a := a) (b := b) hd
  have y := quo_scale (k := b) (a := c) (b := d) hb
  rw [show d * a = b * c by rw [Int.mul_comm d a, h, Int.mul_comm], show d * b = b * d from Int.mul_comm _ _] at x
  exact ⟨x.1.symm.trans y.1, x.2.symm.trans y.2⟩

/-! ### growth -/
/-- how many sit down at each table -/
def mores (s t : List Nat) : List Nat := List.zipWith (fun a b => b - a) s t
/-- the law's top without the last factor: the tables one by one -/
def gtop (M : Int) : Nat → List Nat → List Nat → Int
  | left, s :: r, t :: q => gtop (M * (cho left (t - s) : Int) * rise (s : Int) (t - s)) (left - (t - s)) r q
  | _, _, _ => M
/-- the program's top -/
def gcho (M : Int) : List Nat → List Nat → Int
  | s :: r, t :: q => gcho (M * (cho (t - 1) (s - 1) : Int)) r q
  | _, _ => M
def gfac (M : Int) : List Nat → List Nat → Int
  | s :: r, t :: q => gfac (M * (fac (t - s) : Int)) r q
  | _, _ => M
def grs (M : Int) : List Nat → List Nat → Int
  | s :: r, t :: q => grs (M * rise (s : Int) (t - s)) r q
  | _, _ => M
/-- all tables grow, no more than so many sit down -/
def Grow : Nat → List Nat → List Nat → Nat → Prop
  | left, s :: r, t :: q, fresh => 1 ≤ s ∧ s ≤ t ∧ t - s ≤ left ∧ Grow (left - (t - s)) r q fresh
  | left, [], [fresh'], fresh => fresh' = fresh ∧ left = fresh
  | _, _, _, _ => False
theorem gtop_mul (c : Int) : ∀ (s t : List Nat) (left : Nat) (M : Int), gtop (c * M) left s t = c * gtop M left s t
  | [], _, _, _ => rfl
  | _ :: _, [], _, _ => rfl
  | s :: r, t :: q, left, M => by
    show gtop (c * M * _ * _) _ r q = c * gtop _ _ r q
    rw [← gtop_mul c r q, Int.mul_assoc c, Int.mul_assoc c]
theorem gcho_mul (c : Int) : ∀ (s t : List Nat) (M : Int), gcho (c * M) s t = c * gcho M s t
  | [], _, _ => rfl
  | _ :: _, [], _ => rfl
  | s :: r, t :: q, M => by
    show gcho (c * M * _) r q = c * gcho _ r q
    rw [← gcho_mul c r q, Int.mul_assoc c]
theorem gfac_mul (c : Int) : ∀ (s t : List Nat) (M : Int), gfac (c * M) s t = c * gfac M s t
  | [], _, _ => rfl
  | _ :: _, [], _ => rfl
  | s :: r, t :: q, M => by
    show gfac (c * M * _) r q = c * gfac _ r q
    rw [← gfac_mul c r q, Int.mul_assoc c]
theorem grs_mul (c : Int) : ∀ (s t : List Nat) (M : Int), grs (c * M) s t = c * grs M s t
  | [], _, _ => rfl
  | _ :: _, [], _ => rfl
  | s :: r, t :: q, M => by
    show grs (c * M * _) r q = c * grs _ r q
    rw [← grs_mul c r q, Int.mul_assoc c]
theorem gtop_one (s t : List Nat) (left : Nat) (M : Int) : gtop M left s t = M * gtop 1 left s t := by
  have := gtop_mul M s t left 1
  rwa [Int.mul_one] at this
theorem gcho_one (s t : List Nat) (M : Int) : gcho M s t = M * gcho 1 s t := by
  have := gcho_mul M s t 1
  rwa [Int.mul_one] at this
theorem gfac_one (s t : List Nat) (M : Int) : gfac M s t = M * gfac 1 s t := by
  have := gfac_mul M s t 1
  rwa [Int.mul_one] at this
theorem grs_one (s t : List Nat) (M : Int) : grs M s t = M * grs 1 s t := by
  have := grs_mul M s t 1
  rwa [Int.mul_one] at this
theorem gfac_pos : ∀ (s t : List Nat) (M : Int), 0 < M → 0 < gfac M s t
  | [], _, _, h => h
  | _ :: _, [], _, h => h
  | s :: r, t :: q, M, h => gfac_pos r q _ (Int.mul_pos h (by have := fac_pos (t - s); omega))
theorem gtop_fac : ∀ (s t : List Nat) (left fresh : Nat), Grow left s t fresh → gtop 1 left s t * ((fac fresh : Int) * gfac 1 s t) = (fac left : Int) * grs 1 s t
  | [], [f], left, fresh, h => by
    obtain ⟨_, rfl⟩ := h
    show 1 * ((fac left : Int) * 1) = (fac left : Int) * 1
    omega
  | [], [], _, _, h => h.elim
  | [], _ :: _ :: _, _, _, h => h.elim
  | _ :: _, [], _, _, h => h.elim
  | s :: r, t :: q, left, fresh, h => by
    obtain ⟨h1, h2, h3, h4⟩ := h
    have ih := gtop_fac r q _ fresh h4
    have c := cho_fac h3
    show gtop (1 * (cho left (t - s) : Int) * rise (s : Int) (t - s)) (left - (t - s)) r q * ((fac fresh : Int) * gfac (1 * (fac (t - s) : Int)) r q) = (fac left : Int) * grs (1 * rise (s : Int) (t - s)) r q
    rw [gtop_one, gfac_one, grs_one, ← c]
    push_cast
    generalize gtop 1 (left - (t - s)) r q = A at *
    generalize gfac 1 r q = B at *
    generalize grs 1 r q = D at *
    generalize rise (s : Int) (t - s) = R at *
    generalize (cho left (t - s) : Int) = C at *
    generalize (fac (t - s) : Int) = F at *
    generalize (fac (left - (t - s)) : Int) = G at *
    generalize (fac fresh : Int) = U at *
    have e : 1 * C * R * A * (U * (1 * F * B)) = C * R * F * (A * (U * B)) := by grind
    rw [e, ih]
    grind
theorem gcho_fac : ∀ (s t : List Nat) (left fresh : Nat), Grow left s t fresh → gcho 1 s t * gfac 1 s t = grs 1 s t
  | [], [f], left, fresh, h => rfl
  | [], [], _, _, h => h.elim
  | [], _ :: _ :: _, _, _, h => h.elim
  | _ :: _, [], _, _, h => h.elim
  | s :: r, t :: q, left, fresh, h => by
    obtain ⟨h1, h2, h3, h4⟩ := h
    have ih := gcho_fac r q _ fresh h4
    have c := cho_rise (s := s) (m := t - s) h1
    rw [show s + (t - s) - 1 = t - 1 by omega] at c
    show gcho (1 * (cho (t - 1) (s - 1) : Int)) r q * gfac (1 * (fac (t - s) : Int)) r q = grs (1 * rise (s : Int) (t - s)) r q
    rw [gcho_one, gfac_one, grs_one, ← ih, ← c]
    grind
theorem Grow.le : ∀ {s t : List Nat} {left fresh : Nat}, Grow left s t fresh → fresh ≤ left
  | [], [f], left, fresh, h => by
    have := h.2
    omega
  | [], [], _, _, h => h.elim
  | [], _ :: _ :: _, _, _, h => h.elim
  | _ :: _, [], _, _, h => h.elim
  | s :: r, t :: q, left, fresh, h => by
    obtain ⟨h1, h2, h3, h4⟩ := h
    have := Grow.le h4
    omega
/-- the law's top is the program's -/
theorem gtop_gcho {s t : List Nat} {left fresh : Nat} {pm : Int} (h : Grow left s t fresh) (hp : pm * (fac fresh : Int) = (fac left : Int)) : gtop 1 left s t = pm * gcho 1 s t := by
  have a := gtop_fac s t left fresh h
  have b := gcho_fac s t left fresh h
  have p := gfac_pos s t 1 (by decide)
  have f := fac_pos fresh
  have q : 0 < (fac fresh : Int) * gfac 1 s t := Int.mul_pos (by omega) p
  refine Int.eq_of_mul_eq_mul_right (by omega : (fac fresh : Int) * gfac 1 s t ≠ 0) ?_
  rw [a, ← b, ← hp]
  grind
/-- the fresh ones, newcomer by newcomer -/
def frw (w S : Int) : Nat → List Int
  | 0 => [1]
  | t + 1 => List.zipWith (· + ·) ((List.range (frw w S t).length).map (fun p : Nat => (frw w S t).getD p 0 * (S + t - p)) ++ [0]) ([0] ++ (List.range (frw w S t).length).map (fun p : Nat => (frw w S t).getD p 0 * (w + p)))
theorem frw_len (w S : Int) : ∀ t : Nat, (frw w S t).length = t + 1
  | 0 => rfl
  | t + 1 => by
    have := frw_len w S t
    simp [frw, this]
theorem frw_get (w S : Int) : ∀ t p : Nat, p ≤ t → (frw w S t).getD p 0 = (cho t p : Int) * rise S (t - p) * rise w p
  | 0, 0, _ => rfl
  | t + 1, p, h => by
    have l := frw_len w S t
    have ih := frw_get w S t
    have e : (frw w S (t + 1)).getD p 0 = (if p < t + 1 then (frw w S t).getD p 0 * (S + t - p) else 0) + (if p = 0 then 0 else (frw w S t).getD (p - 1) 0 * (w + ((p - 1 : Nat) : Int))) := by
      rw [List.getD_eq_getElem?_getD]
      show (List.zipWith (· + ·) _ _)[p]?.getD 0 = _
      rw [List.getElem?_zipWith, l]
      have x : ((List.range (t + 1)).map (fun p : Nat => (frw w S t).getD p 0 * (S + t - p)) ++ [0])[p]? = some (if p < t + 1 then (frw w S t).getD p 0 * (S + t - p) else 0) := by
        by_cases hp : p < t + 1
        · rw [List.getElem?_append_left (by simpa using hp), List.getElem?_map, List.getElem?_range hp, if_pos hp]
          rfl
        · have : p = t + 1 := by omega
          subst this
          rw [List.getElem?_append_right (by simp), if_neg hp]
          simp
      have y : ([0] ++ (List.range (t + 1)).map (fun p : Nat => (frw w S t).getD p 0 * (w + p)))[p]? = some (if p = 0 then 0 else (frw w S t).getD (p - 1) 0 * (w + ((p - 1 : Nat) : Int))) := by
        cases p with
        | zero => rfl
        | succ k =>
          rw [if_neg (by omega), show k + 1 - 1 = k by omega]
          show ((List.range (t + 1)).map (fun p : Nat => (frw w S t).getD p 0 * (w + p)))[k]? = _
          rw [List.getElem?_map, List.getElem?_range (by omega)]
          rfl
      rw [x, y]
      rfl
    rw [e]
    cases p with
    | zero =>
      rw [if_pos (by omega), if_pos rfl, ih 0 (by omega), cho_zero, cho_zero]
      show 1 * rise S (t - 0) * 1 * (S + t - 0) + 0 = 1 * rise S (t + 1) * 1
      rw [show rise S (t + 1) = rise S t * (S + t) from rfl, Nat.sub_zero]
      grind
    | succ k =>
      rw [if_neg (by omega : ¬ k + 1 = 0), show k + 1 - 1 = k by omega, ih k (by omega), show t + 1 - (k + 1) = t - k by omega]
      show _ = ((cho t k + cho t (k + 1) : Nat) : Int) * _ * (rise w k * (w + k))
      by_cases hk : k + 1 < t + 1
      · rw [if_pos hk, ih (k + 1) (by omega), show rise w (k + 1) = rise w k * (w + k) from rfl, show t - k = t - (k + 1) + 1 by omega]
        show _ = _ * (rise S (t - (k + 1)) * (S + ((t - (k + 1) : Nat) : Int))) * _
        have : ((t - (k + 1) : Nat) : Int) = (t : Int) - ((k + 1 : Nat) : Int) := by omega
        rw [this]
        push_cast
        show (cho t (k + 1) : Int) * rise S (t - (k + 1)) * (rise w k * (w + k)) * (S + t - (k + 1)) + (cho t k : Int) * (rise S (t - (k + 1)) * (S + ((t - (k + 1) : Nat) : Int))) * rise w k * (w + k) = _
        rw [this]
        push_cast
        grind
      · have : k = t := by omega
        subst this
        rw [if_neg hk, cho_gt (Nat.lt_succ_self k), Nat.sub_self]
        push_cast
        grind
theorem sum_map_add {α : Type} (f g : α → Int) : ∀ l : List α, (l.map f).sum + (l.map g).sum = (l.map fun x => f x + g x).sum
  | [] => rfl
  | x :: r => by
    have := sum_map_add f g r
    simp only [List.map_cons, List.sum_cons]
    omega
theorem sum_map_mul {α : Type} (f : α → Int) (c : Int) : ∀ l : List α, (l.map fun x => f x * c).sum = (l.map f).sum * c
  | [] => by simp
  | x :: r => by
    have := sum_map_mul f c r
    simp only [List.map_cons, List.sum_cons]
    rw [this, Int.add_mul]
theorem zips_sum : ∀ {as bs : List Int}, as.length = bs.length → (List.zipWith (· + ·) as bs).sum = as.sum + bs.sum
  | [], [], _ => rfl
  | [], _ :: _, h => by simp at h
  | _ :: _, [], h => by simp at h
  | a :: r, b :: q, h => by
    have := zips_sum (as := r) (bs := q) (by simpa using h)
    simp only [List.zipWith_cons_cons, List.sum_cons]
    omega
theorem getD_map (l : List Int) : (List.range l.length).map (fun p => l.getD p 0) = l := by
  refine List.ext_getElem (by simp) fun i h1 h2 => ?_
  simp [h2]
theorem frw_sum (w S : Int) : ∀ t : Nat, (frw w S t).sum = rise (w + S) t
  | 0 => rfl
  | t + 1 => by
    have ih := frw_sum w S t
    have l := frw_len w S t
    show (List.zipWith (· + ·) _ _).sum = rise (w + S) t * (w + S + t)
    rw [zips_sum (by simp), List.sum_append, List.sum_append]
    have a := sum_map_add (fun p : Nat => (frw w S t).getD p 0 * (S + t - p)) (fun p : Nat => (frw w S t).getD p 0 * (w + p)) (List.range (frw w S t).length)
    have b : ((List.range (frw w S t).length).map fun p : Nat => (frw w S t).getD p 0 * (S + t - p) + (frw w S t).getD p 0 * (w + p)) = (List.range (frw w S t).length).map fun p : Nat => (frw w S t).getD p 0 * (w + S + t) := by
      refine List.map_congr_left fun p _ => ?_
      grind
    rw [b, sum_map_mul, getD_map, ih] at a
    simp only [List.sum_cons, List.sum_nil]
    omega

local macro_rules | `(tactic| walk_at "call") => `(tactic| (with_reducible exact sv_whole))
local macro_rules | `(tactic| walk_at "call") => `(tactic| (with_reducible exact sv_between))
local macro_rules | `(tactic| walk_at "call") => `(tactic| ((with_reducible refine' sv_check1 ?c1 ?c2); (case c1 => walk_at "side"); (case c2 => walk_at "side")))
local macro_rules | `(tactic| walk_at "call") => `(tactic| ((with_reducible refine' sv_check_number ?c1 ?c2); (case c1 => walk_at "side"); (case c2 => walk_at "side")))
local macro_rules | `(tactic| walk_at "callU") => `(tactic| ((with_reducible refine' su_fraction ?c1 ?c2); (case c1 => walk_at "side"); (case c2 => walk_at "side")))
local macro_rules | `(tactic| walk_at "call") => `(tactic| ((with_reducible refine' sv_rise ?c1 ?c2); (case c1 => walk_at "side"); (case c2 => walk_at "side")))

/-! ### sizes -/
def Sz (s : List Nat) : Prop := s ≠ [] ∧ (∀ x ∈ s, 1 ≤ x) ∧ s.sum ≤ 20
theorem len_sum : ∀ {s : List Nat}, (∀ x ∈ s, 1 ≤ x) → s.length ≤ s.sum
  | [], _ => Nat.zero_le _
  | x :: r, h => by
    have a := len_sum (s := r) fun y hy => h y (by simp [hy])
    have b := h x (by simp)
    simp only [List.length_cons, List.sum_cons]
    omega
theorem Sz.len {s : List Nat} (h : Sz s) : s.length ≤ 20 := Nat.le_trans (len_sum h.2.1) h.2.2
theorem Sz.pos {s : List Nat} (h : Sz s) : 1 ≤ s.sum := by
  have a := len_sum h.2.1
  have b := h.1
  cases s with
  | nil => exact absurd rfl b
  | cons x r => simp only [List.length_cons] at a; omega
theorem iz_sum : ∀ s : List Nat, (iz s).sum = (s.sum : Int)
  | [] => rfl
  | x :: r => by
    have := iz_sum r
    show ((x : Int) :: iz r).sum = _
    simp only [List.sum_cons, this]
    omega
theorem mem_le_sum : ∀ {s : List Nat} {x : Nat}, x ∈ s → x ≤ s.sum
  | y :: r, x, h => by
    simp only [List.sum_cons]
    rcases List.mem_cons.mp h with e | h
    · omega
    · have := mem_le_sum h
      omega
/-- what the tables may be later -/
def Up : List Nat → List Nat → Prop
  | s :: r, t :: q => s ≤ t ∧ Up r q
  | [], [_] => True
  | _, _ => False
theorem Up.len : ∀ {s t : List Nat}, Up s t → t.length = s.length + 1
  | [], [_], _ => rfl
  | [], [], h => h.elim
  | [], _ :: _ :: _, h => h.elim
  | _ :: _, [], h => h.elim
  | _ :: r, _ :: q, h => by
    have := Up.len h.2
    simp only [List.length_cons, this]
theorem Up.start : ∀ s : List Nat, Up s (s ++ [0])
  | [] => trivial
  | s :: r => ⟨Nat.le_refl _, Up.start r⟩
theorem Up.bump : ∀ {s t : List Nat} {i x : Nat}, Up s t → t[i]? = some x → Up s (t.set i (x + 1)) ∧ (t.set i (x + 1)).sum = t.sum + 1
  | [], [f], 0, x, _, h => by
    have : f = x := Option.some.inj h
    subst this
    exact ⟨trivial, rfl⟩
  | [], [f], i + 1, x, _, h => by simp at h
  | [], [], _, _, h, _ => h.elim
  | [], _ :: _ :: _, _, _, h, _ => h.elim
  | _ :: _, [], _, _, h, _ => h.elim
  | s :: r, t :: q, 0, x, h, hx => by
    have : t = x := Option.some.inj hx
    subst this
    refine ⟨⟨Nat.le_succ_of_le h.1, h.2⟩, ?_⟩
    simp only [List.set_cons_zero, List.sum_cons]
    omega
  | s :: r, t :: q, i + 1, x, h, hx => by
    obtain ⟨a, b⟩ := Up.bump (i := i) h.2 hx
    refine ⟨⟨h.1, a⟩, ?_⟩
    simp only [List.set_cons_succ, List.sum_cons, b]
    omega
theorem Up.get : ∀ {s t : List Nat}, Up s t → ∀ (i x y : Nat), t[i]? = some x → (s ++ [0])[i]? = some y → y ≤ x
  | [], [_], _, 0, x, y, h1, h2 => by
    have : 0 = y := Option.some.inj h2
    omega
  | [], [_], _, i + 1, x, y, h1, h2 => by simp at h1
  | [], [], h, _, _, _, _, _ => h.elim
  | [], _ :: _ :: _, h, _, _, _, _, _ => h.elim
  | _ :: _, [], h, _, _, _, _, _ => h.elim
  | s :: r, t :: q, h, 0, x, y, h1, h2 => by
    have a : t = x := Option.some.inj h1
    have b : s = y := Option.some.inj h2
    have := h.1
    omega
  | s :: r, t :: q, h, i + 1, x, y, h1, h2 => Up.get h.2 i x y h1 h2
theorem Up.sum : ∀ {s t : List Nat}, Up s t → s.sum + t.getLast?.getD 0 ≤ t.sum
  | [], [f], _ => by simp
  | [], [], h => h.elim
  | [], _ :: _ :: _, h => h.elim
  | _ :: _, [], h => h.elim
  | s :: r, t :: q, h => by
    have a := Up.sum h.2
    have b := h.1
    have c := Up.len h.2
    obtain ⟨z, w, rfl⟩ : ∃ z w, q = z :: w := by
      cases q with
      | nil => simp at c
      | cons z w => exact ⟨z, w, rfl⟩
    simp only [List.sum_cons, List.getLast?_cons_cons] at *
    omega
theorem Up.grow : ∀ {s t : List Nat} {left : Nat}, Up s t → (∀ x ∈ s, 1 ≤ x) → t.sum = s.sum + left → Grow left s t (t.getLast?.getD 0)
  | [], [f], left, _, _, e => by
    simp at e
    exact ⟨rfl, e.symm⟩
  | [], [], _, h, _, _ => h.elim
  | [], _ :: _ :: _, _, h, _, _ => h.elim
  | _ :: _, [], _, h, _, _ => h.elim
  | s :: r, t :: q, left, h, h1, e => by
    have b := h.1
    have c := Up.len h.2
    have d := Up.sum h.2
    obtain ⟨z, w, rfl⟩ : ∃ z w, q = z :: w := by
      cases q with
      | nil => simp at c
      | cons z w => exact ⟨z, w, rfl⟩
    simp only [List.sum_cons] at e d
    have g := Up.grow (left := left - (t - s)) h.2 (fun x hx => h1 x (by simp [hx])) (by simp only [List.sum_cons]; omega)
    exact ⟨h1 s (by simp), b, by omega, by rw [List.getLast?_cons_cons]; exact g⟩
def sp_szs (v : V) : Sp := fun vs H Q _ => ∃ (a : Addr) (s : List Nat), vs = [.ref a] ∧ H a = some (.lst (nv s)) ∧ Sz s ∧ RetV v H Q
theorem sv_szs {H : Hp} {v : V} {a : Addr} {s : List Nat} (ha : H a = some (.lst (nv s))) (o : Sz s) : SpV (sp_szs v) ([.ref a] ++ []) H v := fun H1 e Q q E => ⟨a, s, rfl, e a _ ha, o, q⟩
def sp_lat (v : V) : Sp := fun vs H Q _ => ∃ (b a : Addr) (t s : List Nat), vs = [.ref b, .ref a] ∧ H b = some (.lst (nv t)) ∧ H a = some (.lst (nv s)) ∧ Sz s ∧ Up s t ∧ t.sum ≤ 60 ∧ RetV v H Q
theorem sv_lat {H : Hp} {v : V} {a b : Addr} {s t : List Nat} (hb : H b = some (.lst (nv t))) (ha : H a = some (.lst (nv s))) (o : Sz s) (u : Up s t) (h : t.sum ≤ 60) : SpV (sp_lat v) ([.ref b, .ref a] ++ []) H v := fun H1 e Q q E => ⟨b, a, t, s, rfl, e b _ hb, e a _ ha, o, u, h, q⟩
section
variable {K : PySem.W.Frag} {σ : L2.St} {H : Hp} {ta tb te : TE} {D : Ends} {tz : TS}
theorem ev_sumV {a : Addr} {ns : List Int} (h : Ev ta σ H (.ref a)) (ha : SqL K H a (ns.map V.int)) : Ev (tCB (rSum K) (tCons ta tNil)) σ H (.int ns.sum) := fun H1 e Q q => h H1 e _ fun H2 e2 => ⟨a, ns, rfl, ex_l (e.trans e2) ha, q H2 e2⟩
end
section
variable {P : Program} {w : World} {K : PySem.W.Frag} {mg : Str → Option Value} {base : Heap}
theorem ok_are_sizes (T : Tx K mg) : FnOk P w K mg base CX0 3 T.f_are_sizes T.d_are_sizes ["thing"] (sp_szs (.bl true)) := by
  refine T.F_are_sizes.ok sc_are_sizes (fun vs H Q E h => ?_) (fun cdv A outer s H vs Q E hr h => ?_)
  · obtain ⟨a, h, rfl, _⟩ := h
    rfl
  · obtain ⟨a, h, rfl, ha, o, k⟩ := h
    refine ⟨_, (pss_cons (ps_if (PW.pt (pw_or (pt_cmpR (op_neTyS (hu_of hr)) (pe_typeOf (by rfl) T.m_type (pv 0)) (pe_bltn (v := .ty "list") (by rfl) T.m_list (by decide +kernel) rfl) (nomark _)) (pw_or1 (pt_not (pt_val (pe_callB (cr_all rfl) (by rfl) T.m_all (by decide +kernel) (pa_cons (pe_lc (own := [("item", 1)]) (g := (gName 1)) (tt := tYes) rfl sc_are_sizes.nd (pi_list (pv 0)) (blkOk_by (own := [("item", 1)]) (N := n_are_sizes) (sc := defScope s_are_sizes) (by decide +kernel)) (fun _ _ _ _ _ => (pg_name (i := 1) sc_are_sizes.nd rfl (Or.inl rfl))) (fun _ _ _ _ _ => pts_nil) (fun _ _ _ _ _ => (pe_and (pe_call (ok_is_whole T) (hr.mono (by decide)) (by rfl) T.g_is_whole T.F_is_whole.kp T.b_is_whole .nil pass0 (pa_cons (pv 1) pa_nil)) (pe_one (pe_cmpR op_ge (pv 1) pe_int (nomark _)))))) pa_nil))))))) (pss_one (ps_ret pe_bl)) pss_nil)
      (pss_one (ps_ret (pe_call (ok_is_within T) (hr.mono (by decide)) (by rfl) T.g_is_within T.F_is_within.kp T.b_is_within .nil pass0 (pa_cons (pe_callB (cr_sum rfl) (by rfl) T.m_sum (by decide +kernel) (pa_cons (pv 0) pa_nil)) (pa_cons pe_int (pa_cons (pe_gc (by rfl) T.c_MOST_GUESTS) pa_nil))))))), ?_⟩
    have hl := nv_len h
    have l20 := o.len
    have hm : (nv h).map (fun _ => V.bl true) = (List.replicate h.length true).map V.bl := by
      rw [nv_eq, List.map_map, List.map_replicate]
      exact List.map_const' ..
    refine q_when (b := false) (et_is (et_or (et_test (ev_op (ev_typeL (ev_var rfl) ha) ev_c (rv_neTyS PySem.TypeEq.meta_list))) fun _ => et_not (et_B (ev_allN (bs := List.replicate h.length true) ?_))) (by simp)) (fun hb => Bool.noConfusion hb) fun _ H1 e1 => ?_
    · rw [← hm]
      refine el_map (fun _ => V.bl true) (ev_var rfl) (sq_of ha) (by omega) (fun _ => rfl) fun i x H2 e2 hx => ?_
      rw [nv_eq, List.getElem?_map] at hx
      obtain ⟨z, hz, rfl⟩ := Option.map_eq_some_iff.mp hx
      have := o.2.1 z (List.mem_of_getElem? hz)
      refine ev_is (by walk_at "ev") ?_
      rw [decide_eq_true (show (1 : Int) ≤ (z : Int) by omega)]
      rfl
    · have h1 := e1 a _ ha
      have sm := ev_sumV (K := K) (ta := tVar 0) (σ := start n_are_sizes [.ref a]) (ns := iz h) (ev_var (i := 0) (v := .ref a) rfl) (sq_of h1)
      rw [iz_sum] at sm
      have p := o.pos
      have q := o.2.2
      refine s_ret (v := .bl true) (ev_is (ev_call (ea_cons sm (ea_cons ev_c (ea_cons (by walk_at "ev") ea_nil))) sv_between) ?_) fun H2 e2 => k _ (e1.trans e2)
      rw [decide_eq_true (show (1 : Int) ≤ (h.sum : Int) by omega), decide_eq_true (show (h.sum : Int) ≤ 20 by omega)]
      rfl
theorem ok_check_sizes (T : Tx K mg) : FnOk P w K mg base CX0 4 T.f_check_sizes T.d_check_sizes ["sizes"] (sp_szs .non) := by
  refine T.F_check_sizes.ok sc_check_sizes (fun vs H Q E h => ?_) (fun cdv A outer s H vs Q E hr h => ?_)
  · obtain ⟨a, h, rfl, _⟩ := h
    rfl
  · obtain ⟨a, h, rfl, ha, o, k⟩ := h
    refine ⟨_, (pss_one (ps_if (pt_not (pt_val (pe_call (ok_are_sizes T) (hr.mono (by decide)) (by rfl) T.g_are_sizes T.F_are_sizes.kp T.b_are_sizes .nil pass0 (pa_cons (pv 0) pa_nil)))) (pss_one ps_never) pss_nil)), ?_⟩
    exact s_when (b := false) (et_is (et_not (et_B (ev_call (ea_cons (ev_var rfl) ea_nil) (sv_szs ha o)))) (by rfl)) (fun hb => Bool.noConfusion hb) fun _ H1 e1 => k _ e1
theorem ok_are_later (T : Tx K mg) : FnOk P w K mg base CX0 3 T.f_are_later T.d_are_later ["thing", "sizes"] (sp_lat (.bl true)) := by
  refine T.F_are_later.ok sc_are_later (fun vs H Q E h => ?_) (fun cdv A outer s H vs Q E hr h => ?_)
  · obtain ⟨b, a, t, r, rfl, _⟩ := h
    rfl
  · obtain ⟨b, a, t, r, rfl, hb, ha, o, u, h60, k⟩ := h
    refine ⟨_, (pss_cons (ps_if (PW.pt (pw_or (pt_cmpR (op_neTyS (hu_of hr)) (pe_typeOf (by rfl) T.m_type (pv 0)) (pe_bltn (v := .ty "list") (by rfl) T.m_list (by decide +kernel) rfl) (nomark _)) (pw_or1 (pt_cmpR op_ne (pe_callB call_lenR (by rfl) T.m_len (by decide +kernel) (pa_cons (pv 0) pa_nil)) (pe_op op_add (pe_callB call_lenR (by rfl) T.m_len (by decide +kernel) (pa_cons (pv 1) pa_nil)) pe_int) (nomark _))))) (pss_one (ps_ret pe_bl)) pss_nil)
      (pss_cons (ps_if (PW.pt (pw_or (pt_not (pt_val (pe_callB (cr_all rfl) (by rfl) T.m_all (by decide +kernel) (pa_cons (pe_lc (own := [("item", 2)]) (g := (gName 2)) (tt := tYes) rfl sc_are_later.nd (pi_list (pv 0)) (blkOk_by (own := [("item", 2)]) (N := n_are_later) (sc := defScope s_are_later) (by decide +kernel)) (fun _ _ _ _ _ => (pg_name (i := 2) sc_are_later.nd rfl (Or.inl rfl))) (fun _ _ _ _ _ => pts_nil) (fun _ _ _ _ _ => (pe_call (ok_is_whole T) (hr.mono (by decide)) (by rfl) T.g_is_whole T.F_is_whole.kp T.b_is_whole .nil pass0 (pa_cons (pv 2) pa_nil)))) pa_nil)))) (pw_or1 (pt_cmpR op_gt (pe_callB (cr_sum rfl) (by rfl) T.m_sum (by decide +kernel) (pa_cons (pv 0) pa_nil)) (pe_gc (by rfl) T.c_MOST_LATER) (nomark _))))) (pss_one (ps_ret pe_bl)) pss_nil)
      (pss_one (ps_ret (pe_callB (cr_all rfl) (by rfl) T.m_all (by decide +kernel) (pa_cons (pe_lc (own := [("now", 3), ("size", 4)]) (g := (gTup _ 2 (gCons (gName 3) (gCons (gName 4) gNil)))) (tt := tYes) rfl sc_are_later.nd (pi_zip (by rfl) T.m_zip (pa_cons (pv 0) (pa_cons (pe_op op_cat (pv 1) (pe_lst (pa_cons pe_int pa_nil))) pa_nil))) (blkOk_by (own := [("now", 3), ("size", 4)]) (N := n_are_later) (sc := defScope s_are_later) (by decide +kernel)) (fun _ _ _ _ _ => (pg_tup rfl (pgs_cons (pg_name (i := 3) sc_are_later.nd rfl (Or.inl rfl)) (pgs_cons (pg_name (i := 4) sc_are_later.nd rfl (Or.inl rfl)) pgs_nil)))) (fun _ _ _ _ _ => pts_nil) (fun _ _ _ _ _ => (pe_cmpR op_ge (pv 3) (pv 4) (nomark _)))) pa_nil)))))), ?_⟩
    have hl := nv_len t
    have hr2 := nv_len r
    have l20 := o.len
    have ul := u.len
    have hm : (nv t).map (fun _ => V.bl true) = (List.replicate t.length true).map V.bl := by
      rw [nv_eq, List.map_map, List.map_replicate]
      exact List.map_const' ..
    refine q_when (b := false) (et_is (et_or (et_test (ev_op (ev_typeL (ev_var rfl) hb) ev_c (rv_neTyS PySem.TypeEq.meta_list))) fun _ => et_test (ev_op (ev_len (ev_var rfl) (sq_of hb)) (ev_op (ev_len (ev_var rfl) (sq_of ha)) ev_c rv_I0) (rv_ne rfl))) ?_) (fun hb => Bool.noConfusion hb) fun _ H1 e1 => ?_
    · rw [hl, hr2, ul]
      simp
    have hb1 := e1 b _ hb
    have ha1 := e1 a _ ha
    have sm := ev_sumV (K := K) (ta := tVar 0) (σ := start n_are_later [.ref b, .ref a]) (ns := iz t) (ev_var (i := 0) (v := .ref b) rfl) (sq_of hb1)
    rw [iz_sum] at sm
    refine q_when (b := false) (et_is (et_or (et_not (et_B (ev_allN (bs := List.replicate t.length true) ?_))) fun _ => et_test (ev_op sm (by walk_at "ev") rv_I0)) ?_) (fun hb => Bool.noConfusion hb) fun _ H2 e2 => ?_
    · rw [← hm]
      refine el_map (fun _ => V.bl true) (ev_var rfl) (sq_of hb1) (by omega) (fun _ => rfl) fun i x H2 e2 hx => ?_
      rw [nv_eq, List.getElem?_map] at hx
      obtain ⟨z, hz, rfl⟩ := Option.map_eq_some_iff.mp hx
      exact by walk_at "ev"
    · rw [decide_eq_false (show ¬ ((t.sum : Int) > 60) by omega)]
      simp
    · have hb2 := e2 b _ hb1
      have ha2 := e2 a _ ha1
      refine s_ret (v := .bl true) (ev_is (ev_allN (K := K) (bs := List.replicate t.length true) ?_) (by simp)) fun H3 e3 => k _ (e1.trans (e2.trans e3))
      have e : List.zipWith (fun _ _ => V.bl true) (nv t) (nv r ++ [.int 0]) = (List.replicate t.length true).map V.bl := by
        rw [List.map_replicate]
        refine List.ext_getElem (by simp [hl, hr2, ul]) fun n h1 h2 => ?_
        simp
      rw [← e]
      refine el_zipO (fun _ _ => .bl true) (ev_var rfl) (sq_of hb2) (el_catL (ev_var rfl) ha2 (el_lst (ea_cons ev_c ea_nil) (Nat.le_of_ble_eq_true rfl)) (by simp [hr2]; omega)) (by simp [hl, hr2, ul]) (by omega) (fun _ _ => rfl) fun n x y H3 e3 hx hy => ?_
      rw [nv_eq, List.getElem?_map] at hx
      obtain ⟨z, hz, rfl⟩ := Option.map_eq_some_iff.mp hx
      rw [show nv r ++ [.int 0] = nv (r ++ [0]) by rw [nv_app]; rfl, nv_eq, List.getElem?_map] at hy
      obtain ⟨z2, hz2, rfl⟩ := Option.map_eq_some_iff.mp hy
      have := u.get n z z2 hz hz2
      refine ev_is (by walk_at "ev") ?_
      rw [decide_eq_true (show (z : Int) ≥ (z2 : Int) by omega)]
theorem ok_check_later (T : Tx K mg) : FnOk P w K mg base CX0 4 T.f_check_later T.d_check_later ["later", "sizes"] (sp_lat .non) := by
  refine T.F_check_later.ok sc_check_later (fun vs H Q E h => ?_) (fun cdv A outer s H vs Q E hr h => ?_)
  · obtain ⟨b, a, t, r, rfl, _⟩ := h
    rfl
  · obtain ⟨b, a, t, r, rfl, hb, ha, o, u, h60, k⟩ := h
    refine ⟨_, (pss_one (ps_if (pt_not (pt_val (pe_call (ok_are_later T) (hr.mono (by decide)) (by rfl) T.g_are_later T.F_are_later.kp T.b_are_later .nil pass0 (pa_cons (pv 0) (pa_cons (pv 1) pa_nil))))) (pss_one ps_never) pss_nil)), ?_⟩
    exact s_when (b := false) (et_is (et_not (et_B (ev_call (ea_cons (ev_var rfl) (ea_cons (ev_var rfl) ea_nil)) (sv_lat hb ha o u h60)))) (by rfl)) (fun hb => Bool.noConfusion hb) fun _ H1 e1 => k _ e1
end

local macro_rules | `(tactic| walk_at "call") => `(tactic| (with_reducible exact sv_whole))
local macro_rules | `(tactic| walk_at "call") => `(tactic| (with_reducible exact sv_between))
local macro_rules | `(tactic| walk_at "call") => `(tactic| ((with_reducible refine' sv_check1 ?c1 ?c2); (case c1 => walk_at "side"); (case c2 => walk_at "side")))
local macro_rules | `(tactic| walk_at "call") => `(tactic| ((with_reducible refine' sv_check_number ?c1 ?c2); (case c1 => walk_at "side"); (case c2 => walk_at "side")))
local macro_rules | `(tactic| walk_at "callU") => `(tactic| ((with_reducible refine' su_fraction ?c1 ?c2); (case c1 => walk_at "side"); (case c2 => walk_at "side")))
local macro_rules | `(tactic| walk_at "call") => `(tactic| ((with_reducible refine' sv_rise ?c1 ?c2); (case c1 => walk_at "side"); (case c2 => walk_at "side")))

/-! ### growth -/
theorem rise_le2 {x : Int} {k : Nat} (h : x.natAbs + 100 ≤ 2 ^ k) : ∀ n : Nat, n ≤ 100 → (rise x n).natAbs ≤ 2 ^ (k * n)
  | 0, _ => by
    show (1 : Int).natAbs ≤ 2 ^ 0
    decide
  | n + 1, hn => by
    have ih := rise_le2 h n (by omega)
    show (rise x n * (x + n)).natAbs ≤ _
    rw [Int.natAbs_mul, Nat.mul_succ, Nat.pow_add]
    exact Nat.mul_le_mul ih (by omega)
theorem rise60 {x : Int} (h0 : 0 ≤ x) (h : x ≤ 2 ^ 41) {n : Nat} (hn : n ≤ 60) : (rise x n).natAbs < 2 ^ 2600 := by
  have := rise_le2 (x := x) (k := 42) (by omega) n (by omega)
  exact Nat.lt_of_le_of_lt (Nat.le_trans this (Nat.pow_le_pow_right (by decide) (show 42 * n ≤ 2520 by omega))) (Nat.pow_lt_pow_right (by decide) (by decide))
theorem fac60 {n : Nat} (h : n ≤ 60) : fac n < 2 ^ 300 := Nat.lt_of_le_of_lt (fac_mono h) (by decide +kernel)
theorem prm60 {n k : Nat} (h : k ≤ n) (hn : n ≤ 60) : 0 ≤ prm n k ∧ (prm n k).natAbs < 2 ^ 300 := by
  have a := prm_fac h
  have b := prm_pos h
  have c := fac_pos (n - k)
  have d := fac60 hn
  refine ⟨by omega, ?_⟩
  have : prm n k * 1 ≤ prm n k * (fac (n - k) : Int) := Int.mul_le_mul_of_nonneg_left (by omega) (by omega)
  rw [a, Int.mul_one] at this
  omega
theorem cho60 {n k : Nat} (hn : n ≤ 60) : ((cho n k : Nat) : Int).natAbs < 2 ^ 61 := by
  have := cho_le n k
  have b : 2 ^ n ≤ 2 ^ 60 := Nat.pow_le_pow_right (by decide) hn
  omega
def gnum (x : Int) (left : Nat) (s t : List Nat) (fresh : Nat) : Int := gcho (prm left (left - fresh) * rise x fresh) s t
theorem gcho_pos : ∀ (s t : List Nat) (M : Int), 0 ≤ M → 0 ≤ gcho M s t
  | [], _, _, h => h
  | _ :: _, [], _, h => h
  | s :: r, t :: q, M, h => gcho_pos r q _ (Int.mul_nonneg h (by omega))
theorem gnum_pos {x : Int} (h : 1 ≤ x) {left fresh : Nat} (hf : fresh ≤ left) (s t : List Nat) : 0 ≤ gnum x left s t fresh := gcho_pos _ _ _ (Int.mul_nonneg (by have := prm_pos (n := left) (k := left - fresh) (by omega); omega) (by have := rise_pos h fresh; omega))
theorem gtop_gnum {x : Int} {left fresh : Nat} {s t : List Nat} (h : Grow left s t fresh) : gtop 1 left s t * rise x fresh = gnum x left s t fresh := by
  have hl := h.le
  have p := prm_fac (n := left) (k := left - fresh) (by omega)
  rw [show left - (left - fresh) = fresh by omega] at p
  rw [gtop_gcho h p]
  unfold gnum
  rw [gcho_one s t (prm left (left - fresh) * rise x fresh)]
  grind
theorem nv_last {t : List Nat} (h : t ≠ []) : atI (nv t) (-1) = some (.int ((t.getLast?.getD 0 : Nat) : Int)) := by
  obtain ⟨r, x, rfl⟩ : ∃ r x, t = r ++ [x] := ⟨_, _, (List.dropLast_concat_getLast h).symm⟩
  have e : (r ++ [x]).getLast?.getD 0 = x := by simp
  rw [e, nv_app]
  exact atI_last (nv r) _
theorem map_getD {β : Type} (f : Nat → β) (s : List Nat) : (List.range s.length).map (fun i => f (s.getD i 0)) = s.map f := by
  refine List.ext_getElem (by simp) fun i h1 h2 => ?_
  simp at h1
  simp [h1]
theorem mul_size {a b : Int} {n k m : Nat} (ha : a.natAbs < 2 ^ n) (hb : b.natAbs < 2 ^ k) (h : n + k ≤ m) : (a * b).natAbs < 2 ^ m := lt2_mono (natAbs_mul_lt ha hb) h
def sp_grow : Sp := fun vs H Q _ => ∃ (a b : Addr) (s t : List Nat) (x : Int) (left : Nat), vs = [.ref a, .int x, .ref b] ∧ H a = some (.lst (nv s)) ∧ H b = some (.lst (nv t)) ∧ Sz s ∧ Up s t ∧ t.sum ≤ 60 ∧ t.sum = s.sum + left ∧ 1 ≤ x ∧ x ≤ 1000000000000 ∧
  RetU (frac (gnum x left s t (t.getLast?.getD 0)) (rise (x + (s.sum : Int)) left)) H Q
theorem su_grow {H : Hp} {a b : Addr} {s t : List Nat} {x : Int} {left : Nat} (ha : H a = some (.lst (nv s))) (hb : H b = some (.lst (nv t))) (o : Sz s) (u : Up s t) (h60 : t.sum ≤ 60) (hl : t.sum = s.sum + left) (h1 : 1 ≤ x) (h2 : x ≤ 1000000000000) : SpU sp_grow ([.ref a, .int x, .ref b] ++ []) H (frac (gnum x left s t (t.getLast?.getD 0)) (rise (x + (s.sum : Int)) left)) := fun H1 e Q q E => ⟨a, b, s, t, x, left, rfl, e a _ ha, e b _ hb, o, u, h60, hl, h1, h2, q⟩
def meanF (x : Int) (S : Nat) (m : Nat) (s : Nat) : List V := frac ((s : Int) * ((S : Int) + x + m)) ((S : Int) + x)
def sp_mean_later : Sp := fun vs H Q _ => ∃ (a : Addr) (s : List Nat) (x : Int) (m : Nat), vs = [.ref a, .int x, .int (m : Int)] ∧ H a = some (.lst (nv s)) ∧ Sz s ∧ m ≤ 40 ∧ 1 ≤ x ∧ x ≤ 1000000000000 ∧ (∀ p ws H2, H p = none → Ex H H2 → H2 p = some (.lst ws) → TL H2 ws (s.map (meanF x s.sum m)) → Q (.ref p) H2)
def freshN (x S : Int) (m r : Nat) : Int := (cho m r : Int) * rise S (m - r) * rise x r
def sp_new_shares : Sp := fun vs H Q _ => ∃ (a : Addr) (s : List Nat) (x : Int) (m : Nat), vs = [.ref a, .int x, .int (m : Int)] ∧ H a = some (.lst (nv s)) ∧ Sz s ∧ m ≤ 40 ∧ 1 ≤ x ∧ x ≤ 1000000000000 ∧ (∀ p ws H2, H p = none → Ex H H2 → H2 p = some (.lst ws) → TL H2 ws ((List.range (m + 1)).map fun r => frac (freshN x (s.sum : Int) m r) (rise (x + (s.sum : Int)) m)) → Q (.ref p) H2)
theorem drop_cons {α : Type} {l : List α} {k : Nat} {x : α} (h : l[k]? = some x) : l.drop k = x :: l.drop (k + 1) := by
  obtain ⟨hk, e⟩ := List.getElem?_eq_some_iff.mp h
  rw [List.drop_eq_getElem_cons hk, e]
section
variable {P : Program} {w : World} {K : PySem.W.Frag} {mg : Str → Option Value} {base : Heap}
theorem ok_grow_share (T : Tx K mg) : FnOk P w K mg base CX0 5 T.f_grow_share T.d_grow_share ["sizes", "weight", "later"] sp_grow := by
  refine T.F_grow_share.ok sc_grow_share (fun vs H Q E h => ?_) (fun cdv A outer s0 H vs Q E hr h => ?_)
  · obtain ⟨a, b, s, t, x, left, rfl, _⟩ := h
    rfl
  · obtain ⟨a, b, s, t, x, left, rfl, ha, hb, o, u, h60, hl, h1, h2, k⟩ := h
    refine ⟨_, (pss_cons (ps_expr (pe_call (ok_check_sizes T) (hr.mono (by decide)) (by rfl) T.g_check_sizes T.F_check_sizes.kp T.b_check_sizes .nil pass0 (pa_cons (pv 0) pa_nil)))
      (pss_cons (ps_expr (pe_call (ok_check_weight T) (hr.mono (by decide)) (by rfl) T.g_check_weight T.F_check_weight.kp T.b_check_weight .nil pass0 (pa_cons (pv 1) pa_nil)))
      (pss_cons (ps_expr (pe_call (ok_check_later T) (hr.mono (by decide)) (by rfl) T.g_check_later T.F_check_later.kp T.b_check_later .nil pass0 (pa_cons (pv 2) (pa_cons (pv 0) pa_nil))))
      (pss_cons (ps_set (i := 3) sc_grow_share.nd rfl (Or.inl rfl) (pe_op op_sub (pe_callB (cr_sum rfl) (by rfl) T.m_sum (by decide +kernel) (pa_cons (pv 2) pa_nil)) (pe_callB (cr_sum rfl) (by rfl) T.m_sum (by decide +kernel) (pa_cons (pv 0) pa_nil))))
      (pss_cons (ps_set (i := 4) sc_grow_share.nd rfl (Or.inl rfl) (pe_ix ix_list (pv 2) (pe_un un_neg pe_int) (fun _ _ => rfl)))
      (pss_cons (ps_set (i := 5) sc_grow_share.nd rfl (Or.inl rfl) (pe_op op_mulX (pe_callBfun cr_perm (by rfl) T.i_perm (pa_cons (pv 3) (pa_cons (pe_op op_sub (pv 3) (pv 4)) pa_nil))) (pe_call (ok_rising T) (hr.mono (by decide)) (by rfl) T.g_rising T.F_rising.kp T.b_rising .nil pass0 (pa_cons (pv 1) (pa_cons (pv 4) pa_nil)))))
      (pss_cons (ps_for PassesOwn.never rfl (pi_zip (by rfl) T.m_zip (pa_cons (pv 0) (pa_cons (pv 2) pa_nil))) (pg_tup rfl (pgs_cons (pg_name (i := 6) sc_grow_share.nd rfl (Or.inl rfl)) (pgs_cons (pg_name (i := 7) sc_grow_share.nd rfl (Or.inl rfl)) pgs_nil))) (pss_one (ps_set (i := 5) sc_grow_share.nd rfl (Or.inl rfl) (pe_op op_mulX (pv 5) (pe_callBfun cr_comb (by rfl) T.i_comb (pa_cons (pe_op op_sub (pv 7) pe_int) (pa_cons (pe_op op_sub (pv 6) pe_int) pa_nil)))))))
      (pss_one (ps_ret (pe_call (ok_fraction T) (hr.mono (by decide)) (by rfl) T.g_fraction T.F_fraction.kp T.b_fraction .nil pass0 (pa_cons (pv 5) (pa_cons (pe_call (ok_rising T) (hr.mono (by decide)) (by rfl) T.g_rising T.F_rising.kp T.b_rising .nil pass0 (pa_cons (pe_op op_add (pv 1) (pe_callB (cr_sum rfl) (by rfl) T.m_sum (by decide +kernel) (pa_cons (pv 0) pa_nil))) (pa_cons (pv 3) pa_nil))) pa_nil)))))))))))), ?_⟩
    have G := u.grow o.2.1 hl
    have fl := G.le
    have l20 := o.len
    have ul := u.len
    have s20 := o.2.2
    generalize hfr : t.getLast?.getD 0 = fresh at *
    refine q_drop (ev_call (ea_cons (ev_var rfl) ea_nil) (sv_szs ha o)) fun H1 e1 => ?_
    refine q_drop (by walk_at "ev") fun H2 e2 => ?_
    have ha2 := e2 a _ (e1 a _ ha)
    have hb2 := e2 b _ (e1 b _ hb)
    refine q_drop (ev_call (ea_cons (ev_var rfl) (ea_cons (ev_var rfl) ea_nil)) (sv_lat hb2 ha2 o u h60)) fun H3 e3 => ?_
    have ha3 := e3 a _ ha2
    have hb3 := e3 b _ hb2
    have sa := ev_sumV (K := K) (ta := tVar 0) (σ := start n_grow_share [.ref a, .int x, .ref b]) (ns := iz s) (ev_var (i := 0) (v := .ref a) rfl) (sq_of ha3)
    have sb := ev_sumV (K := K) (ta := tVar 2) (σ := start n_grow_share [.ref a, .int x, .ref b]) (ns := iz t) (ev_var (i := 2) (v := .ref b) rfl) (sq_of hb3)
    rw [iz_sum] at sa sb
    refine q_asg (v := .int (left : Int)) (ev_is (ev_op sb sa rv_I0) (by congr 1; omega)) fun H4 e4 => ?_
    have ha4 := e4 a _ ha3
    have hb4 := e4 b _ hb3
    have tne : t ≠ [] := fun z => by
      rw [z] at ul
      simp at ul
    have last := nv_last tne
    rw [hfr] at last
    refine q_asg (v := .int (fresh : Int)) (ev_op (ev_var rfl) (ev_un ev_c ru_neg) (rv_ixL (K := K) (sq_of hb4) last)) fun H5 e5 => ?_
    have ha5 := e5 a _ ha4
    have hb5 := e5 b _ hb4
    have rf := rise60 (x := x) (n := fresh) (by omega) (by omega) (by omega)
    have pf := prm60 (n := left) (k := left - fresh) (by omega) (by omega)
    have m1 : CMulX (prm left (left - fresh)) (rise x fresh) := mulx_ok (a := 300) (b := 2600) pf.2 rf (by decide)
    refine q_asg (v := .int (prm left (left - fresh) * rise x fresh)) (ev_op (ev_perm (ev_var rfl) (ev_is (ev_op (ev_var rfl) (ev_var rfl) rv_I0) (by congr 1; omega)) (by omega) (by omega)) (by walk_at "ev") (rv_I m1)) fun H6 e6 => ?_
    have ha6 := e6 a _ ha5
    have hb6 := e6 b _ hb5
    have hs := nv_len s
    have ht := nv_len t
    refine q_forZip (n := s.length) (ea_cons (ev_var rfl) (ea_cons (ev_var rfl) ea_nil)) (sq_of ha6) (sq_of hb6) (by omega)
      (fun i σ' H' => ∃ (M : Int) (y z : Option V), σ' = [some (.ref a), some (.int x), some (.ref b), some (.int (left : Int)), some (.int (fresh : Int)), some (.int M), y, z] ∧ Ex H H' ∧ gcho M (s.drop i) (t.drop i) = gnum x left s t fresh ∧ M.natAbs < 2 ^ (3000 + 100 * i) ∧ (∀ p ∈ t.drop i, p ≤ 60) ∧ i ≤ s.length)
      (fun H7 e7 => ⟨_, none, none, rfl, e1.trans (e2.trans (e3.trans (e4.trans (e5.trans (e6.trans e7))))), rfl, mul_size pf.2 rf (by decide), fun p hp => by
        have := mem_le_sum (List.mem_of_mem_drop hp)
        omega, Nat.zero_le _⟩) (fun i σ' H' hi ⟨M, y, z, _, e, _⟩ => ⟨sq_of (e a _ ha), sq_of (e b _ hb)⟩) ?_ ?_
    · rintro i vx vy σ' H' H7 hx hy ⟨M, y, z, rfl, e, g, hM, h6, hi⟩ e7
      rw [nv_eq, List.getElem?_map] at hx hy
      obtain ⟨p, hp, rfl⟩ := Option.map_eq_some_iff.mp hx
      obtain ⟨q, hq, rfl⟩ := Option.map_eq_some_iff.mp hy
      have q60 := h6 q (by rw [drop_cons hq]; exact List.mem_cons_self)
      have p1 := o.2.1 p (List.mem_of_getElem? hp)
      have qp : p ≤ q := u.get i q p hq (by rw [List.getElem?_append_left (List.getElem?_eq_some_iff.mp hp).1]; exact hp)
      rw [drop_cons hp, drop_cons hq] at g
      have c60 := cho60 (n := q - 1) (k := p - 1) (by omega)
      have i20 := (List.getElem?_eq_some_iff.mp hp).1
      have m2 : CMulX M ((cho (q - 1) (p - 1) : Nat) : Int) := mulx_ok (a := 6000) (b := 61) (lt2_mono hM (by omega)) c60 (by decide)
      refine s_asg (ev_op (ev_var rfl) (ev_comb (n := q - 1) (k := p - 1) (ev_is (ev_op (ev_var rfl) ev_c rv_I0) (by congr 1; omega)) (ev_is (ev_op (ev_var rfl) ev_c rv_I0) (by congr 1; omega)) (by omega)) (rv_I m2)) fun H8 e8 => ⟨_, _, _, rfl, e.trans (e7.trans e8), g, mul_size hM c60 (by omega), fun r hr => h6 r (by rw [drop_cons hq]; exact List.mem_cons_of_mem _ hr), i20⟩
    · rintro σ' H' ⟨M, y, z, rfl, e, g, hM, h6, hi⟩
      rw [List.drop_length] at g
      have gM : M = gnum x left s t fresh := g
      rw [gM]
      have ha7 := e a _ ha
      have sa7 := ev_sumV (K := K) (ta := tVar 0) (σ := [some (.ref a), some (.int x), some (.ref b), some (.int (left : Int)), some (.int (fresh : Int)), some (.int (gnum x left s t fresh)), y, z]) (ns := iz s) (ev_var (i := 0) (v := .ref a) rfl) (sq_of ha7)
      rw [iz_sum] at sa7
      have rp := rise_pos (w := x + (s.sum : Int)) (by omega) left
      have rz := rise60 (x := x + (s.sum : Int)) (n := left) (by omega) (by omega) (by omega)
      exact s_retU (eu_call (ea_cons (ev_var rfl) (ea_cons (ev_call (ea_cons (ev_op (ev_var rfl) sa7 rv_I0) (ea_cons (ev_var rfl) ea_nil)) (sv_rise (by omega) (by omega))) ea_nil)) (su_fraction rp (lt2_mono rz (by decide)))) fun p H8 hp e8 h8 => k p H8 (fresh_back e hp) (e.trans e8) h8
theorem ok_mean_later (T : Tx K mg) : FnOk P w K mg base CX0 5 T.f_mean_later T.d_mean_later ["sizes", "weight", "number"] sp_mean_later := by
  refine T.F_mean_later.ok sc_mean_later (fun vs H Q E h => ?_) (fun cdv A outer s0 H vs Q E hr h => ?_)
  · obtain ⟨a, s, x, m, rfl, _⟩ := h
    rfl
  · obtain ⟨a, s, x, m, rfl, ha, o, hm, h1, h2, k⟩ := h
    refine ⟨_, (pss_cons (ps_expr (pe_call (ok_check_sizes T) (hr.mono (by decide)) (by rfl) T.g_check_sizes T.F_check_sizes.kp T.b_check_sizes .nil pass0 (pa_cons (pv 0) pa_nil)))
      (pss_cons (ps_expr (pe_call (ok_check_weight T) (hr.mono (by decide)) (by rfl) T.g_check_weight T.F_check_weight.kp T.b_check_weight .nil pass0 (pa_cons (pv 1) pa_nil)))
      (pss_cons (ps_expr (pe_call (ok_check_number T) (hr.mono (by decide)) (by rfl) T.g_check_number T.F_check_number.kp T.b_check_number .nil pass0 (pa_cons (pv 2) (pa_cons pe_int (pa_cons (pe_gc (by rfl) T.c_MOST_MORE) pa_nil)))))
      (pss_cons (ps_set (i := 3) sc_mean_later.nd rfl (Or.inr rfl) (pe_op op_add (pe_callB (cr_sum rfl) (by rfl) T.m_sum (by decide +kernel) (pa_cons (pv 0) pa_nil)) (pv 1)))
      (pss_one (ps_ret (pe_lc (own := [("size", 4)]) (g := (gName 4)) (tt := tYes) rfl sc_mean_later.nd (pi_list (pv 0)) (blkOk_by (own := [("size", 4)]) (N := n_mean_later) (sc := defScope s_mean_later) (by decide +kernel)) (fun _ _ _ _ _ => (pg_name (i := 4) sc_mean_later.nd rfl (Or.inl rfl))) (fun _ _ _ _ _ => pts_nil) (fun _ _ _ _ _ => (pe_call (ok_fraction T) (hr.mono (by decide)) (by rfl) T.g_fraction T.F_fraction.kp T.b_fraction .nil pass0 (pa_cons (pe_op op_mulX (pv 4) (pe_op op_add (pv 3) (pv 2))) (pa_cons (pv 3) pa_nil))))))))))), ?_⟩
    have l20 := o.len
    have s20 := o.2.2
    refine q_drop (ev_call (ea_cons (ev_var rfl) ea_nil) (sv_szs ha o)) fun H1 e1 => ?_
    refine q_drop (by walk_at "ev") fun H2 e2 => ?_
    refine q_drop (by walk_at "ev") fun H3 e3 => ?_
    have ha3 := e3 a _ (e2 a _ (e1 a _ ha))
    have sa := ev_sumV (K := K) (ta := tVar 0) (σ := start n_mean_later [.ref a, .int x, .int (m : Int)]) (ns := iz s) (ev_var (i := 0) (v := .ref a) rfl) (sq_of ha3)
    rw [iz_sum] at sa
    refine q_asg (v := .int ((s.sum : Int) + x)) (ev_op sa (ev_var rfl) rv_I0) fun H4 e4 => ?_
    have ha4 := e4 a _ ha3
    refine s_retLT (rs := s.map (meanF x s.sum m)) ?_ fun p ws H5 hp e5 h5 t5 => k p ws H5 (fresh_back (e1.trans (e2.trans (e3.trans e4))) hp) (e1.trans (e2.trans (e3.trans (e4.trans e5)))) h5 t5
    have g := elt_map (K := K) (te := tCall sp_fraction [] E0 (tCons (tOp (rI CMulX fun i j => .int (i * j)) (tVar 4) (tOp (rI0 fun i j => .int (i + j)) (tVar 3) (tVar 2))) (tCons (tVar 3) tNil))) (tl := tVar 0) (j := 4) (vs := [4]) (H := H4) (xs := nv s) (σ := [some (.ref a), some (.int x), some (.int (m : Int)), some (.int ((s.sum : Int) + x)), none]) (fun i => meanF x s.sum m (s.getD i 0)) (ev_var rfl) (sq_of ha4) (by rw [nv_len]; omega) (fun _ => rfl) fun i v H5 e5 hv => ?_
    · have e : (List.range (nv s).length).map (fun i => meanF x s.sum m (s.getD i 0)) = s.map (meanF x s.sum m) := by
        rw [nv_len]
        exact map_getD (meanF x s.sum m) s
      rw [e] at g
      exact g
    · rw [nv_eq, List.getElem?_map] at hv
      obtain ⟨z, hz, rfl⟩ := Option.map_eq_some_iff.mp hv
      have hz20 := mem_le_sum (List.mem_of_getElem? hz)
      have ez : s.getD i 0 = z := by
        rw [List.getD_eq_getElem?_getD, hz]
        rfl
      rw [ez]
      have mm : CMulX (z : Int) ((s.sum : Int) + x + m) := mulx_ok (a := 64) (b := 64) (by omega) (by omega) (by decide)
      exact eu_call (ea_cons (by walk_at "ev") (ea_cons (ev_var rfl) ea_nil)) (su_fraction (by omega) (by
        have : ((s.sum : Int) + x).natAbs < 2 ^ 64 := by omega
        exact lt2_mono this (by decide)))
end

local macro_rules | `(tactic| walk_at "call") => `(tactic| (with_reducible exact sv_whole))
local macro_rules | `(tactic| walk_at "call") => `(tactic| (with_reducible exact sv_between))
local macro_rules | `(tactic| walk_at "call") => `(tactic| ((with_reducible refine' sv_check1 ?c1 ?c2); (case c1 => walk_at "side"); (case c2 => walk_at "side")))
local macro_rules | `(tactic| walk_at "call") => `(tactic| ((with_reducible refine' sv_check_number ?c1 ?c2); (case c1 => walk_at "side"); (case c2 => walk_at "side")))
local macro_rules | `(tactic| walk_at "callU") => `(tactic| ((with_reducible refine' su_fraction ?c1 ?c2); (case c1 => walk_at "side"); (case c2 => walk_at "side")))
local macro_rules | `(tactic| walk_at "call") => `(tactic| ((with_reducible refine' sv_rise ?c1 ?c2); (case c1 => walk_at "side"); (case c2 => walk_at "side")))

/-! ### drawn lists -/
def EvPA (p : Addr) (k : Nat) (ta : TA) (σ : L2.St) (H0 : Hp) (C : List V → Prop) : Prop := ∀ n H1, Ex H0 H1 → Po p n H1 → n + k ≤ 1000000000 →
  ∀ Q : List V → Hp → Prop, (∀ vs H2, C vs → Po p (n + k) H2 → Ex (Hm p H1) H2 → Q vs H2) → ta σ H1 Q
section
variable {K : PySem.W.Frag} {σ : L2.St} {H0 H : Hp} {p : Addr} {k k1 k2 : Nat} {te ta tb : TE} {R Ra Rb : V → Hp → Prop} {tr : TA} {A : V → Prop} {B C : List V → Prop}
theorem epa_nil : EvPA p 0 tNil σ H0 (fun vs => vs = []) := fun n H1 e hp _ Q q => q [] H1 rfl hp (hm_of (Ex.refl _))
theorem epa_cons (h0 : H0 p = none) (h : EvP p k1 te σ H0 (fun v _ => A v)) (hr : EvPA p k2 tr σ H0 B) : EvPA p (k1 + k2) (tCons te tr) σ H0 (fun vs => ∃ v r, vs = v :: r ∧ A v ∧ B r) := fun n H1 e hp hn Q q =>
  h n H1 e hp (by omega) _ fun v H2 hv p2 e2 => hr (n + k1) H2 (hm_next h0 e e2) p2 (by omega) _ fun vs H3 hvs p3 e3 => q (v :: vs) H3 ⟨v, vs, rfl, hv, hvs⟩ (by rw [← Nat.add_assoc]; exact p3) (hm_trans e2 e3)
theorem epa_pure {v : V} (h0 : H0 p = none) (h : Ev te σ H0 v) (hr : EvPA p k2 tr σ H0 B) : EvPA p (0 + k2) (tCons te tr) σ H0 (fun vs => ∃ x r, vs = x :: r ∧ x = v ∧ B r) := epa_cons (A := fun x => x = v) h0 (ep_ev h) hr
theorem ep_lst (h : EvPA p k tr σ H0 C) (hs : ∀ vs, C vs → vs.length ≤ 100000) : EvP p k (tLst tr) σ H0 (fun x H => ∃ l vs, l ≠ p ∧ x = .ref l ∧ H l = some (.lst vs) ∧ C vs) := fun n H1 e hp hn Q q =>
  h n H1 e hp hn _ fun vs H2 c p2 e2 => ⟨sz_of (hs vs c), fun l hl => q _ _ ⟨l, vs, p2.ne hl, rfl, upd_same, c⟩ (p2.ex (Ex.new hl)) (hm_trans e2 (hm_of (Ex.new hl)))⟩
theorem stb_lst : Stb p (fun x H => ∃ l vs, l ≠ p ∧ x = .ref l ∧ H l = some (.lst vs) ∧ C vs) := fun v H H' ⟨l, vs, ne, e, h, c⟩ s => ⟨l, vs, ne, e, hm_at s ne h, c⟩
theorem ep_ix (h0 : H0 p = none) {ix : V → Prop} (ha : EvP p k1 (tLst tr) σ H0 (fun x H => ∃ l vs, l ≠ p ∧ x = .ref l ∧ H l = some (.lst vs) ∧ C vs)) (hb : EvP p k2 tb σ H0 (fun v _ => ix v)) (hat : ∀ vs v, C vs → ix v → ∃ i z, v = .int i ∧ atI vs i = some z ∧ A z) :
    EvP p (k1 + k2) (tOp (rIxL K) (tLst tr) tb) σ H0 (fun v _ => A v) := ep_op h0 ha hb stb_lst stb_c fun x y H hx hy => by
  obtain ⟨l, vs, ne, rfl, hl, c⟩ := hx
  obtain ⟨i, z, rfl, hz, az⟩ := hat vs y c hy
  exact ⟨z, az, rv_ixL (sq_of hl) hz⟩
theorem ep_isZ (h0 : H0 p = none) (h : EvP p k te σ H0 (fun v _ => ∃ r, v = .int r ∧ 0 ≤ r)) : EvP p (k + 0) (tCB rIntB (tCons (tOp rEq te (tC (.int 0))) tNil)) σ H0 (fun v _ => v = .int 0 ∨ v = .int 1) := fun n H1 e hp hn Q q =>
  (ep_op (k1 := k) (k2 := 0) (R := fun v _ => ∃ b, v = .bl b) h0 h (ep_ev (v := .int 0) ev_c) stb_c stb_c fun x y H ⟨r, e1, _⟩ e2 => ⟨.bl (decide (x = y)), ⟨_, rfl⟩, by
    subst e1
    subst e2
    exact rv_eq rfl⟩) n H1 e hp hn _ fun v H2 ⟨b, hb⟩ p2 e2 => ⟨b, by rw [hb], q _ H2 (by cases b <;> simp) p2 e2⟩
theorem pq_parL {n i j : Nat} {D : Ends} {tz : TS} {ys : List V} (h : EvP p k ta σ H0 R) (e : Ex H0 H) (hp : Po p n H) (hn : n + k ≤ 1000000000) (hb : ∀ H1, EvL tb σ H1 ys) (q : ∀ v l H2 H3, R v H2 → H2 l = none → Ex H2 H3 → H3 l = some (.lst ys) → Po p (n + k) H3 → Ex (Hm p H) H2 → tz D ((σ.set i (some v)).set j (some (.ref l))) H3) :
    tSeq (tPar i j (tCons ta (tCons tb tNil))) tz D σ H := h n H e hp hn _ fun v H2 hv p2 e2 => hb H2 H2 (Ex.refl _) _ fun l H3 hl e3 h3 => ⟨_, _, rfl, q v l H2 H3 hv hl e3 h3 (p2.ex e3) e2⟩
end

/-! ### new_shares, the law's helpers -/
theorem s_appE {K : PySem.W.Frag} {σ : L2.St} {H : Hp} {ta te : TE} {D : Ends} {l : Addr} {xs : List V} (hl : H l = some (.lst xs)) (ha : Ev ta σ H (.ref l)) (k : ∀ H1, Ex H H1 → te σ H1 fun v H2 => rAppend (.ref l) [v] H2 fun _ H3 => D.nx σ H3) : tDrop (tBM K "list" rAppend ta (tCons te tNil)) D σ H :=
  ha H (Ex.refl H) _ fun H1 e1 => ⟨Or.inl ⟨rfl, xs, sq_of (e1 l _ hl)⟩, k H1 e1⟩
theorem given_at {n : Nat} (v : Nat → V) : given n (fun _ => true) v = (List.range n).map v := by
  unfold given
  rw [List.filter_eq_self.mpr fun _ _ => rfl]
/-- a call whose argument is a new list -/
theorem freshN_bd {x S : Int} (h0 : 1 ≤ x) (h1 : x ≤ 1000000000000) (s0 : 1 ≤ S) (s1 : S ≤ 100) {m r : Nat} (hm : m ≤ 60) (hr : r ≤ m) : 0 ≤ freshN x S m r ∧ (freshN x S m r).natAbs < 2 ^ 5300 := by
  have a := rise_pos s0 (m - r)
  have b := rise_pos h0 r
  refine ⟨Int.mul_nonneg (Int.mul_nonneg (by omega) (by omega)) (by omega), ?_⟩
  exact mul_size (mul_size (cho60 hm) (rise60 (x := S) (n := m - r) (by omega) (by omega) (by omega)) (Nat.le_refl _)) (rise60 (x := x) (n := r) (by omega) (by omega) (by omega)) (by decide)
theorem frac_eq {a b c d : Int} (hb : 0 < b) (hd : 0 < d) (h : a * d = c * b) : frac a b = frac c d := by
  obtain ⟨x, y⟩ := quo_eq hb hd h
  unfold frac
  rw [x, y]
theorem cd_self {a : Int} (h : 0 < a) : cd a a = a := by
  unfold cd
  rw [Nat.gcd_self]
  omega
section
variable {K : PySem.W.Frag} {σ : L2.St} {H0 H : Hp} {p : Addr} {k k1 k2 : Nat} {te ta tb : TE} {R : V → Hp → Prop} {D : Ends} {tu tz : TS}
/-- x, y = a draw, a value -/
theorem pq_tupV {n i j : Nat} {y : V} (h : EvP p k ta σ H0 R) (st : Stb p R) (e : Ex H0 H) (hp : Po p n H) (hn : n + k ≤ 1000000000) (hb : ∀ H1, Ex (Hm p H) H1 → Ev tb σ H1 y) (q : ∀ v H2, R v H2 → Po p (n + k) H2 → Ex (Hm p H) H2 → tz D ((σ.set i (some v)).set j (some y)) H2) :
    tSeq (tAsg (tTup (tCons ta (tCons tb tNil))) (gTup K 2 (gCons (gName i) (gCons (gName j) gNil)))) tz D σ H := h n H e hp hn _ fun v H2 hv p2 e2 => hb H2 e2 H2 (Ex.refl _) _ fun H3 e3 =>
  ⟨sz_of (by show 2 ≤ 100000; decide), fun t ht => ⟨t, [v, y], rfl, st_of upd_same, rfl, v, [y], rfl, y, [], rfl, rfl, q v _ (st v H2 _ hv (hm_of (e3.trans (Ex.new ht)))) (p2.ex (e3.trans (Ex.new ht))) (hm_trans e2 (hm_of (e3.trans (Ex.new ht))))⟩⟩
/-- x, y = a list of draws -/
theorem p_app {n : Nat} {l : Addr} {xs : List V} {A : V → Prop} (hl : H l = some (.lst xs)) (lp : l ≠ p) (ha : Ev ta σ H (.ref l)) (h : EvP p k te σ H0 (fun v _ => A v)) (e : Ex H0 H) (hp : Po p n H) (hn : n + k ≤ 1000000000) (hz : xs.length < 100000)
    (q : ∀ v H2, A v → Po p (n + k) H2 → Ex (Hm p H) H2 → H2 l = some (.lst xs) → D.nx σ (upd H2 l (.lst (xs ++ [v])))) : tDrop (tBM K "list" rAppend ta (tCons te tNil)) D σ H :=
  s_appE hl ha fun H1 e1 => h n H1 (e.trans e1) (hp.ex e1) hn _ fun v H2 hv p2 e2 => by
    have h2 := hm_at e2 lp (e1 l _ hl)
    exact ⟨l, xs, v, rfl, rfl, h2, sz_lt hz, q v H2 hv p2 (hm_trans (hm_of e1) e2) h2⟩
theorem pq_app {n : Nat} {l : Addr} {xs : List V} {A : V → Prop} (hl : H l = some (.lst xs)) (lp : l ≠ p) (ha : Ev ta σ H (.ref l)) (h : EvP p k te σ H0 (fun v _ => A v)) (e : Ex H0 H) (hp : Po p n H) (hn : n + k ≤ 1000000000) (hz : xs.length < 100000)
    (q : ∀ v H2, A v → Po p (n + k) H2 → Ex (Hm p H) H2 → H2 l = some (.lst xs) → tz D σ (upd H2 l (.lst (xs ++ [v])))) : tSeq (tDrop (tBM K "list" rAppend ta (tCons te tNil))) tz D σ H := p_app (D := { D with nx := tz D }) hl lp ha h e hp hn hz q
end
theorem Po.upd {p l : Addr} {n : Nat} {H : Hp} {o : HO} (h : Po p n H) (ne : l ≠ p) : Po p n (upd H l o) := by
  obtain ⟨a, b, c, h1, h2⟩ := h
  exact ⟨a, b, c, by rw [upd_ne (Ne.symm ne)]; exact h1, h2⟩

/-! ### the law's share, its sizes; new_shares -/
theorem frac_pos {a b : Int} (ha : 0 ≤ a) (hb : 0 < b) : 0 ≤ a / cd a b ∧ 0 < b / cd a b ∧ a / cd a b ≤ a ∧ b / cd a b ≤ b := by
  have g := cd_pos (a := a) hb
  have l := cd_le (a := a) hb
  have e := Int.ediv_mul_cancel (cd_dvd2 (a := a) (b := b))
  refine ⟨Int.ediv_nonneg ha (by omega), ?_, Int.ediv_le_self _ ha, Int.ediv_le_self _ (by omega)⟩
  have z : 0 ≤ b / cd a b := Int.ediv_nonneg (by omega) (by omega)
  rcases Int.lt_or_eq_of_le z with h | h
  · exact h
  · rw [← h] at e
    simp at e
    omega
theorem drop_sum : ∀ (s : List Nat) (i : Nat), (s.drop i).sum ≤ s.sum
  | [], i => by rw [List.drop_nil]; exact Nat.le_refl _
  | x :: r, 0 => Nat.le_refl _
  | x :: r, i + 1 => by
    have := drop_sum r i
    rw [List.drop_succ_cons, List.sum_cons]
    omega
section
variable {P : Program} {w : World} {K : PySem.W.Frag} {mg : Str → Option Value} {base : Heap}
theorem ok_new_shares (T : Tx K mg) : FnOk P w K mg base CX0 5 T.f_new_shares T.d_new_shares ["sizes", "weight", "number"] sp_new_shares := by
  refine T.F_new_shares.ok sc_new_shares (fun vs H Q E h => ?_) (fun cdv A outer s0 H vs Q E hr h => ?_)
  · obtain ⟨a, s, x, m, rfl, _⟩ := h
    rfl
  · obtain ⟨a, s, x, m, rfl, ha, o, hm, h1, h2, k⟩ := h
    refine ⟨_, (pss_cons (ps_expr (pe_call (ok_check_sizes T) (hr.mono (by decide)) (by rfl) T.g_check_sizes T.F_check_sizes.kp T.b_check_sizes .nil pass0 (pa_cons (pv 0) pa_nil)))
      (pss_cons (ps_expr (pe_call (ok_check_weight T) (hr.mono (by decide)) (by rfl) T.g_check_weight T.F_check_weight.kp T.b_check_weight .nil pass0 (pa_cons (pv 1) pa_nil)))
      (pss_cons (ps_expr (pe_call (ok_check_number T) (hr.mono (by decide)) (by rfl) T.g_check_number T.F_check_number.kp T.b_check_number .nil pass0 (pa_cons (pv 2) (pa_cons pe_int (pa_cons (pe_gc (by rfl) T.c_MOST_MORE) pa_nil)))))
      (pss_cons (ps_set (i := 3) sc_new_shares.nd rfl (Or.inl rfl) (pe_callB (cr_sum rfl) (by rfl) T.m_sum (by decide +kernel) (pa_cons (pv 0) pa_nil)))
      (pss_cons (ps_set (i := 4) sc_new_shares.nd rfl (Or.inl rfl) (pe_call (ok_rising T) (hr.mono (by decide)) (by rfl) T.g_rising T.F_rising.kp T.b_rising .nil pass0 (pa_cons (pe_op op_add (pv 1) (pv 3)) (pa_cons (pv 2) pa_nil))))
      (pss_cons (ps_set (i := 5) sc_new_shares.nd rfl (Or.inl rfl) (pe_lst pa_nil))
      (pss_cons (ps_for PassesOwn.never rfl (pi_range1 (by rfl) T.m_range (pa_cons (pe_op op_add (pv 2) pe_int) pa_nil)) (pg_name (i := 6) sc_new_shares.nd rfl (Or.inl rfl)) (pss_cons (ps_set (i := 7) sc_new_shares.nd rfl (Or.inl rfl) (pe_op op_mulX (pe_callBfun cr_comb (by rfl) T.i_comb (pa_cons (pv 2) (pa_cons (pv 6) pa_nil))) (pe_call (ok_rising T) (hr.mono (by decide)) (by rfl) T.g_rising T.F_rising.kp T.b_rising .nil pass0 (pa_cons (pv 3) (pa_cons (pe_op op_sub (pv 2) (pv 6)) pa_nil)))))
      (pss_one (ps_expr (pe_bm PySem.F.plainAttrs_list PySem.F.slot_list_append PySem.F.type_list_append mt_append (pv 5) (pa_cons (pe_call (ok_fraction T) (hr.mono (by decide)) (by rfl) T.g_fraction T.F_fraction.kp T.b_fraction .nil pass0 (pa_cons (pe_op op_mulX (pv 7) (pe_call (ok_rising T) (hr.mono (by decide)) (by rfl) T.g_rising T.F_rising.kp T.b_rising .nil pass0 (pa_cons (pv 1) (pa_cons (pv 6) pa_nil)))) (pa_cons (pv 4) pa_nil))) pa_nil))))))
      (pss_one (ps_ret (pv 5)))))))))), ?_⟩
    have l20 := o.len
    have s20 := o.2.2
    have s1 := o.pos
    refine q_drop (ev_call (ea_cons (ev_var rfl) ea_nil) (sv_szs ha o)) fun H1 e1 => ?_
    refine q_drop (by walk_at "ev") fun H2 e2 => ?_
    refine q_drop (by walk_at "ev") fun H3 e3 => ?_
    have ha3 := e3 a _ (e2 a _ (e1 a _ ha))
    have sa := ev_sumV (K := K) (ta := tVar 0) (σ := start n_new_shares [.ref a, .int x, .int (m : Int)]) (ns := iz s) (ev_var (i := 0) (v := .ref a) rfl) (sq_of ha3)
    rw [iz_sum] at sa
    refine q_asg (v := .int (s.sum : Int)) sa fun H4 e4 => ?_
    refine q_asg (v := .int (rise (x + (s.sum : Int)) m)) (ev_call (ea_cons (ev_op (ev_var rfl) (ev_var rfl) rv_I0) (ea_cons (ev_var rfl) ea_nil)) (sv_rise (by omega) (by omega))) fun H5 e5 => ?_
    refine q_asgL (xs := []) (el_lst ea_nil (Nat.le_of_ble_eq_true rfl)) fun p H6 hp e6 hp6 => ?_
    have np : H p = none := fresh_back (e1.trans (e2.trans (e3.trans (e4.trans e5)))) hp
    have rp := rise_pos (w := x + (s.sum : Int)) (by omega) m
    have rz := rise60 (x := x + (s.sum : Int)) (n := m) (by omega) (by omega) (by omega)
    refine q_forR1 (n := (m : Int) + 1) (by walk_at "ea") ⟨by omega, by omega⟩ (fun i σ' H' => ∃ ws y z, σ' = [some (.ref a), some (.int x), some (.int (m : Int)), some (.int (s.sum : Int)), some (.int (rise (x + (s.sum : Int)) m)), some (.ref p), y, z] ∧ Ex H H' ∧ H' p = some (.lst ws) ∧ TL H' ws ((List.range i).map fun r => frac (freshN x (s.sum : Int) m r) (rise (x + (s.sum : Int)) m)))
      (fun H7 e7 => ⟨[], none, none, rfl, e1.trans (e2.trans (e3.trans (e4.trans (e5.trans (e6.trans e7))))), e7 p _ hp6, .nil⟩) ?_ ?_
    · rintro i σ' H' hi ⟨ws, y, z, rfl, e, hpw, tl⟩
      have im : i ≤ m := by omega
      have c60 := cho60 (n := m) (k := i) (by omega)
      have r1 := rise60 (x := (s.sum : Int)) (n := m - i) (by omega) (by omega) (by omega)
      have r2 := rise60 (x := x) (n := i) (by omega) (by omega) (by omega)
      have m1 : CMulX ((cho m i : Nat) : Int) (rise (s.sum : Int) (m - i)) := mulx_ok (a := 61) (b := 2600) c60 r1 (by decide)
      have m2 : CMulX (((cho m i : Nat) : Int) * rise (s.sum : Int) (m - i)) (rise x i) := mulx_ok (a := 2661) (b := 2600) (natAbs_mul_lt c60 r1) r2 (by decide)
      refine q_asg (v := .int (((cho m i : Nat) : Int) * rise (s.sum : Int) (m - i))) (ev_op (ev_comb (ev_var rfl) (ev_var rfl) (by omega)) (ev_call (ea_cons (ev_var rfl) (ea_cons (ev_is (w := V.int ((m - i : Nat) : Int)) (ev_op (ev_var rfl) (ev_var rfl) rv_I0) (by congr 1; omega)) ea_nil)) (sv_rise (by omega) (by omega))) (rv_I m1)) fun H7 e7 => ?_
      have h7 := e7 p _ hpw
      refine s_appU (K := K) (ys := frac (freshN x (s.sum : Int) m i) (rise (x + (s.sum : Int)) m)) h7 (ev_var rfl) (eu_call (ea_cons (ev_op (ev_var rfl) (ev_call (ea_cons (ev_var rfl) (ea_cons (ev_var rfl) ea_nil)) (sv_rise (by omega) (by omega))) (rv_I m2)) (ea_cons (ev_var rfl) ea_nil)) (su_fraction rp (lt2_mono rz (by decide)))) (by
        have := tl.len
        simp at this
        omega) fun u H8 nu e8 hu => ?_
      have h8 := e8 p _ h7
      refine ⟨ws ++ [.ref u], _, _, rfl, Ex.mut (e.trans (e7.trans e8)) np, upd_same, ?_⟩
      rw [List.range_succ, List.map_append]
      exact ((tl.ex (e7.trans e8)).app ⟨u, rfl, hu⟩).upd h8
    · rintro σ' H' ⟨ws, y, z, rfl, e, hpw, tl⟩
      rw [show ((m : Int) + 1).toNat = m + 1 by omega] at tl
      exact s_ret (ev_var rfl) fun H7 e7 => k p ws H7 np (e.trans e7) (e7 p _ hpw) (tl.ex e7)
end

/-! ### the weight, the law's case -/
def sp_law_heavy : Sp := fun vs H Q _ => ∃ (p : Addr) (n : Nat), vs = [.ref p] ∧ Po p n H ∧ n + 3 < 1000000000 ∧ ∀ (w : Int) H', 1 ≤ w → w ≤ 1000000000000 → Po p (n + 3) H' → Ex (Hm p H) H' → Q (.int w) H'
theorem p_ret {σ : L2.St} {H0 H : Hp} {p : Addr} {k n : Nat} {te : TE} {R : V → Hp → Prop} {D : Ends} (h : EvP p k te σ H0 R) (e : Ex H0 H) (hp : Po p n H) (hn : n + k ≤ 1000000000) (q : ∀ v H2, R v H2 → Po p (n + k) H2 → Ex (Hm p H) H2 → D.rt v H2) : tRet te D σ H := h n H e hp hn _ q
section
variable {K : PySem.W.Frag} {σ : L2.St} {H0 H : Hp} {p : Addr} {k k1 k2 : Nat} {te ta tb : TE} {R : V → Hp → Prop} {D : Ends} {tu tz : TS}
/-- a - b, b drawn -/
theorem ep_sub {a : Int} {C : Int → Prop} (h0 : H0 p = none) (ha : Ev ta σ H0 (.int a)) (hb : EvP p k tb σ H0 (fun v _ => ∃ r, v = .int r ∧ C r)) : EvP p (0 + k) (tOp (rI0 fun i j => .int (i - j)) ta tb) σ H0 (fun v _ => ∃ r, v = .int (a - r) ∧ C r) :=
  ep_op h0 (ep_ev ha) hb stb_c stb_c fun x y H e ⟨r, e2, c⟩ => ⟨.int (a - r), ⟨r, rfl, c⟩, by
    subst e
    subst e2
    exact rv_I0⟩
/-- for i in range(a drawn number) -/
theorem pq_forR1 {n j : Nat} {C : Nat → Prop} (h : EvP p k te σ H0 (fun v _ => ∃ m : Nat, v = .int (m : Int) ∧ C m)) (e : Ex H0 H) (hp : Po p n H) (hn : n + k ≤ 1000000000)
    (q : ∀ (m : Nat) H2, C m → Po p (n + k) H2 → Ex (Hm p H) H2 → tSeq (tFor (iRng1 (tCons (tC (.int (m : Int))) tNil)) (gName j) tu) tz D σ H2) : tSeq (tFor (iRng1 (tCons te tNil)) (gName j) tu) tz D σ H := h n H e hp hn _ fun v H2 ⟨m, ev, hm⟩ p2 e2 => by
  subst ev
  exact q m H2 hm p2 e2
end
theorem elt_mean {σ : L2.St} {H : Hp} {t : TA} {E : XK} {a : Addr} {s : List Nat} {x : Int} {m : Nat} (h : EvA t σ H [.ref a, .int x, .int (m : Int)]) (ha : H a = some (.lst (nv s))) (o : Sz s) (hm : m ≤ 40) (h1 : 1 ≤ x) (h2 : x ≤ 1000000000000) : EvLT (tCall sp_mean_later [] E t) σ H (s.map (meanF x s.sum m)) := fun H1 e Q q =>
  h H1 e _ fun H2 e2 => ⟨a, s, x, m, rfl, (e.trans e2) a _ ha, o, hm, h1, h2, fun p ws H3 hp e3 h3 t => q p ws H3 (fresh_back e2 hp) (e2.trans e3) h3 t⟩
theorem elt_new {σ : L2.St} {H : Hp} {t : TA} {E : XK} {a : Addr} {s : List Nat} {x : Int} {m : Nat} (h : EvA t σ H [.ref a, .int x, .int (m : Int)]) (ha : H a = some (.lst (nv s))) (o : Sz s) (hm : m ≤ 40) (h1 : 1 ≤ x) (h2 : x ≤ 1000000000000) : EvLT (tCall sp_new_shares [] E t) σ H ((List.range (m + 1)).map fun r => frac (freshN x (s.sum : Int) m r) (rise (x + (s.sum : Int)) m)) := fun H1 e Q q =>
  h H1 e _ fun H2 e2 => ⟨a, s, x, m, rfl, (e.trans e2) a _ ha, o, hm, h1, h2, fun p ws H3 hp e3 h3 t => q p ws H3 (fresh_back e2 hp) (e2.trans e3) h3 t⟩
section
variable {P : Program} {w : World} {K : PySem.W.Frag} {mg : Str → Option Value} {base : Heap}
theorem ok_law_heavy (T : Tx K mg) : FnOk P w K mg base CX0 2 T.f_law_heavy T.d_law_heavy ["store"] sp_law_heavy := by
  refine T.F_law_heavy.ok sc_law_heavy (fun vs H Q E h => ?_) (fun cdv A outer s H vs Q E hr h => ?_)
  · obtain ⟨p, n, rfl, _⟩ := h
    rfl
  · obtain ⟨p, n, rfl, hpo, hn, k⟩ := h
    refine ⟨_, (pss_one (ps_ret (pe_ix ix_list (pe_lst (pa_cons pe_int (pa_cons pe_int (pa_cons (pe_op op_add pe_int (pe_call (ok_law_pick T) (hr.mono (by decide)) (by rfl) T.g_law_pick T.F_law_pick.kp T.b_law_pick .nil pass0 (pa_cons (pv 0) (pa_cons pe_int pa_nil)))) (pa_cons (pe_op op_sub (pe_op op_powX pe_int pe_int) (pe_call (ok_law_pick T) (hr.mono (by decide)) (by rfl) T.g_law_pick T.F_law_pick.kp T.b_law_pick .nil pass0 (pa_cons (pv 0) (pa_cons (pe_op op_powX pe_int pe_int) pa_nil)))) pa_nil))))) (pe_call (ok_law_pick T) (hr.mono (by decide)) (by rfl) T.g_law_pick T.F_law_pick.kp T.b_law_pick .nil pass0 (pa_cons (pv 0) (pa_cons pe_int pa_nil))) (fun _ _ => rfl)))), ?_⟩
    have ten : Ev (tOp (rI CPowX fun i j => .int (i ^ j.toNat)) (tC (.int 10)) (tC (.int 12))) (start n_law_heavy [.ref p]) (Hm p H) (.int 1000000000000) := ev_op ev_c ev_c (rv_I (by constructor <;> decide +kernel))
    refine p_ret (p := p) (k := ((0 + (0 + ((0 + 1) + ((0 + 1) + 0))))) + 1) (H0 := Hm p H) (R := fun v _ => ∃ w : Int, v = .int w ∧ 1 ≤ w ∧ w ≤ 1000000000000) (ep_ix (A := fun v => ∃ w : Int, v = .int w ∧ 1 ≤ w ∧ w ≤ 1000000000000) (ix := fun v => ∃ r, v = .int r ∧ 0 ≤ r ∧ r < 4) (C := fun vs => ∃ a b : Int, vs = [.int 1, .int 2, .int (1 + a), .int (1000000000000 - b)] ∧ (0 ≤ a ∧ a < 9) ∧ (0 ≤ b ∧ b < 1000000000000)) hm_p
        (ep_is (ep_lst (epa_pure hm_p ev_c (epa_pure hm_p ev_c (epa_cons (A := fun v => ∃ a : Int, v = .int (1 + a) ∧ (0 ≤ a ∧ a < 9)) hm_p (ep_add (C := fun r => 0 ≤ r ∧ r < 9) hm_p ev_c (ep_dipI (w := 9) hm_p (ev_var rfl) ev_c (by decide) (by decide))) (epa_cons (A := fun v => ∃ b : Int, v = .int (1000000000000 - b) ∧ (0 ≤ b ∧ b < 1000000000000)) hm_p (ep_sub (C := fun r => 0 ≤ r ∧ r < 1000000000000) hm_p ten (ep_dipI (w := 1000000000000) hm_p (ev_var rfl) ten (by decide) (by decide))) epa_nil)))) ?_) ?_) (ep_dipI (w := 4) hm_p (ev_var rfl) ev_c (by decide) (by decide)) ?_) hm_sub hpo (by omega) ?_
    · rintro vs ⟨_, _, rfl, _, _, _, rfl, _, _, _, rfl, _, _, _, rfl, _, rfl⟩
      exact Nat.le_of_ble_eq_true rfl
    · rintro v H4 ⟨l, vs, ne, rfl, hl, _, _, rfl, rfl, _, _, rfl, rfl, _, _, rfl, ⟨a, rfl, ha⟩, _, _, rfl, ⟨b, rfl, hb⟩, rfl⟩
      exact ⟨l, _, ne, rfl, hl, a, b, rfl, ha, hb⟩
    · rintro vs v ⟨a, b, rfl, ⟨a0, a1⟩, ⟨b0, b1⟩⟩ ⟨i, rfl, i0, i1⟩
      have : i = 0 ∨ i = 1 ∨ i = 2 ∨ i = 3 := by omega
      rcases this with rfl | rfl | rfl | rfl
      · exact ⟨0, .int 1, rfl, rfl, 1, rfl, by decide, by decide⟩
      · exact ⟨1, .int 2, rfl, rfl, 2, rfl, by decide, by decide⟩
      · exact ⟨2, .int (1 + a), rfl, rfl, _, rfl, by omega, by omega⟩
      · exact ⟨3, .int (1000000000000 - b), rfl, rfl, _, rfl, by omega, by omega⟩
    · rintro v H2 ⟨x, rfl, x0, x1⟩ p2 e2
      exact k x H2 x0 x1 (p2.mono (by omega)) e2
end

theorem prm_none (n : Nat) : prm n 0 = 1 := by
  have h := prm_fac (Nat.zero_le n)
  have p := fac_pos n
  rw [Nat.sub_zero] at h
  exact Int.eq_of_mul_eq_mul_right (a := (fac n : Int)) (by omega) (by rw [h, Int.one_mul])
theorem Up.GG : ∀ {w a : List Nat} (K : Nat → Int), Up w a → GG w K a = K (lastN a) * gcho 1 w a
  | [], [f], K, _ => by
    show K f = K f * 1
    omega
  | [], [], K, h => h.elim
  | [], _ :: _ :: _, K, h => h.elim
  | _ :: _, [], K, h => h.elim
  | v :: w, [x], K, h => by
    have := h.2.len
    simp at this
  | v :: w, x :: y :: r, K, h => by
    have ih := Up.GG K h.2
    show (if v ≤ x then (cho (x - 1) (v - 1) : Int) * K33.GG w K (y :: r) else 0) = K (lastN (x :: y :: r)) * gcho (1 * (cho (x - 1) (v - 1) : Int)) w (y :: r)
    rw [if_pos h.1, ih, gcho_one w (y :: r) (1 * (cho (x - 1) (v - 1) : Int)), lastN_cons]
    grind
theorem Up.DD : ∀ {w a : List Nat}, Up w a → DD w a = (a.sum : Int) - (w.sum : Int) - (lastN a : Int)
  | [], [f], _ => by
    show (0 : Int) = ((f + 0 : Nat) : Int) - 0 - (f : Int)
    omega
  | [], [], h => h.elim
  | [], _ :: _ :: _, h => h.elim
  | _ :: _, [], h => h.elim
  | v :: w, [x], h => by
    have := h.2.len
    simp at this
  | v :: w, x :: y :: r, h => by
    have ih := Up.DD h.2
    show ((x : Int) - (v : Int)) + K33.DD w (y :: r) = _
    rw [ih, lastN_cons, List.sum_cons (a := x), List.sum_cons (a := v)]
    push_cast
    omega
theorem GG_not : ∀ {w a : List Nat} (K : Nat → Int), ¬ Up w a → GG w K a = 0
  | [], [f], K, h => absurd trivial h
  | [], [], K, h => rfl
  | [], _ :: _ :: _, K, h => rfl
  | _ :: _, [], K, h => rfl
  | v :: w, x :: r, K, h => by
    show (if v ≤ x then (cho (x - 1) (v - 1) : Int) * GG w K r else 0) = 0
    split
    · rename_i e
      rw [GG_not K fun z => h ⟨e, z⟩]
      omega
    · rfl
theorem prm_down {t f : Nat} (hf : 1 ≤ f) (h : f ≤ t) : prm t (t - f) * ((t : Int) + 1 - (f : Int)) + prm t (t - (f - 1)) = prm (t + 1) (t + 1 - f) := by
  have a := prm_fac (n := t) (k := t - f) (by omega)
  have b := prm_fac (n := t) (k := t - (f - 1)) (by omega)
  have c := prm_fac (n := t + 1) (k := t + 1 - f) (by omega)
  obtain ⟨d, rfl⟩ : ∃ d, f = d + 1 := ⟨f - 1, by omega⟩
  rw [show t - (t - (d + 1)) = d + 1 by omega, fac_succ] at a
  rw [show d + 1 - 1 = d by omega] at *
  rw [show t - (t - d) = d by omega] at b
  rw [show t + 1 - (t + 1 - (d + 1)) = d + 1 by omega, fac_succ, fac_succ] at c
  have p := fac_pos d
  refine Int.eq_of_mul_eq_mul_right (a := ((fac d * (d + 1) : Nat) : Int)) (by
    have : 0 < fac d * (d + 1) := Nat.mul_pos p (by omega)
    omega) ?_
  push_cast at *
  generalize prm t (t - (d + 1)) = A at *
  generalize prm t (t - d) = B at *
  generalize prm (t + 1) (t + 1 - (d + 1)) = C at *
  grind
def KK (h : Int) (t f : Nat) : Int := prm t (t - f) * rise h f
theorem KK_next (h : Int) {t f : Nat} (hf : f ≤ t + 1) : ((t : Int) + 1 - (f : Int)) * KK h t f + (if 1 ≤ f then (((f - 1 : Nat) : Int) + h) * KK h t (f - 1) else 0) = KK h (t + 1) f := by
  unfold KK
  rcases Nat.lt_or_ge t f with e | e
  · obtain rfl : f = t + 1 := by omega
    rw [if_pos (by omega), show ((t : Int) + 1 - ((t + 1 : Nat) : Int)) = 0 by omega, show t + 1 - 1 = t by omega, Nat.sub_self, Nat.sub_self, prm_none, prm_none]
    show 0 * _ + ((t : Int) + h) * (1 * rise h t) = 1 * (rise h t * (h + t))
    grind
  · rcases Nat.lt_or_ge f 1 with z | z
    · obtain rfl : f = 0 := by omega
      rw [if_neg (by omega), Nat.sub_zero, Nat.sub_zero]
      have a := prm_fac (n := t) (k := t) (Nat.le_refl _)
      have c := prm_fac (n := t + 1) (k := t + 1) (Nat.le_refl _)
      rw [Nat.sub_self] at a c
      rw [fac_succ, fac_zero] at c
      rw [fac_zero] at a
      push_cast at *
      rw [Int.mul_one] at a c
      rw [a, c]
      grind
    · rw [if_pos z, ← prm_down z e]
      obtain ⟨d, rfl⟩ : ∃ d, f = d + 1 := ⟨f - 1, by omega⟩
      rw [show d + 1 - 1 = d by omega]
      show ((t : Int) + 1 - ((d + 1 : Nat) : Int)) * (prm t (t - (d + 1)) * (rise h d * (h + d))) + ((d : Int) + h) * (prm t (t - d) * rise h d) = (prm t (t - (d + 1)) * ((t : Int) + 1 - ((d + 1 : Nat) : Int)) + prm t (t - d)) * (rise h d * (h + d))
      grind
theorem rise_up (x : Int) : ∀ n : Nat, x * rise (x + 1) n = rise x n * (x + n)
  | 0 => by
    show x * 1 = 1 * (x + (0 : Nat))
    simp
  | n + 1 => by
    have ih := rise_up x n
    show x * (rise (x + 1) n * (x + 1 + n)) = rise x n * (x + n) * (x + ((n + 1 : Nat) : Int))
    rw [← Int.mul_assoc, ih]
    push_cast
    grind
/-- what is known of all ways after t newcomers -/
structure WOk (h : Int) (w : List Nat) (t : Nat) (L : List (List Nat × Int)) : Prop where
  nd : (L.map (·.1)).Nodup
  up : ∀ a, a ∈ L.map (·.1) → Up w a ∧ a.sum = w.sum + t
  one : EE (fun _ => 1) L = rise (h + (w.sum : Int)) t
  size : ∀ i, i < w.length → EE (fun s => (s.getD i 0 : Int)) L = (w.getD i 0 : Int) * rise (h + (w.sum : Int) + 1) t
  last : ∀ j, EE (fun s => if lastN s = j then 1 else 0) L = freshN h (w.sum : Int) t j
  val : ∀ a, Up w a → a.sum = w.sum + t → atW L a = GG w (KK h t) a
  len : L.length ≤ (w.length + 1) ^ t
theorem atW_no : ∀ {L : List (List Nat × Int)} {a : List Nat}, a ∉ L.map (·.1) → atW L a = 0
  | [], _, _ => rfl
  | (b, y) :: r, a, h => by
    rw [List.map_cons, List.mem_cons] at h
    rw [atW_cons, if_neg fun e => h (.inl e.symm)]
    exact atW_no fun z => h (.inr z)
theorem pres_sum (h : Int) : ∀ (a : List Nat) (p : List Nat × Int), p ∈ pres h a → p.1.sum + 1 = a.sum
  | [], p, hp => nomatch hp
  | [x], p, hp => by
    unfold pres at hp
    split at hp
    · rw [List.mem_singleton.mp hp]
      simp
      omega
    · exact nomatch hp
  | x :: y :: r, p, hp => by
    unfold pres at hp
    rw [List.mem_append, List.mem_map] at hp
    rcases hp with hp | ⟨q, hq, e⟩
    · split at hp
      · rw [List.mem_singleton.mp hp]
        simp
        omega
      · exact nomatch hp
    · have := pres_sum h (y :: r) q hq
      rw [← e]
      show (x :: q.1).sum + 1 = (x :: y :: r).sum
      rw [List.sum_cons, List.sum_cons (a := x)]
      omega
theorem EE_swap (F : List Nat → List Nat → Int) (M : List (List Nat × Int)) : ∀ L : List (List Nat × Int), EE (fun s => EE (fun c => F s c) M) L = EE (fun c => EE (fun s => F s c) L) M
  | [] => Eq.symm (EE_zero fun p _ => rfl)
  | (s, p) :: r => by
    have e : EE (fun c => EE (fun s => F s c) ((s, p) :: r)) M = EE (fun c => p * F s c + EE (fun s => F s c) r) M := rfl
    rw [e, EE_sum (fun c => p * F s c) (fun c => EE (fun s => F s c) r), EE_cmul p (fun c => F s c) M]
    show p * EE _ M + EE _ r = _
    rw [EE_swap F M r]

theorem lastN_app (w : List Nat) (x : Nat) : lastN (w ++ [x]) = x := by
  unfold lastN
  rw [List.getLast?_append]
  rfl
theorem up_zero : ∀ {w c : List Nat}, Up w c → c.sum = w.sum → c = w ++ [0]
  | [], [f], _, h => by
    have : f = 0 := by simpa using h
    rw [this]
    rfl
  | [], [], h, _ => h.elim
  | [], _ :: _ :: _, h, _ => h.elim
  | _ :: _, [], h, _ => h.elim
  | v :: w, x :: r, h, e => by
    have a := h.1
    have b := h.2.sum
    rw [List.sum_cons, List.sum_cons] at e
    have e1 : x = v := by omega
    have e2 : r.sum = w.sum := by omega
    rw [up_zero h.2 e2, e1]
    rfl
theorem gcho_id : ∀ (w : List Nat) (M : Int) (q : List Nat), gcho M w (w ++ q) = M
  | [], M, q => by cases q <;> rfl
  | v :: w, M, q => by
    show gcho (M * (cho (v - 1) (v - 1) : Int)) w (w ++ q) = M
    rw [cho_self, gcho_id w]
    omega
theorem freshN_zero (x S : Int) (j : Nat) : freshN x S 0 j = if j = 0 then 1 else 0 := by
  unfold freshN
  cases j with
  | zero => rfl
  | succ j =>
    rw [cho_gt (by omega), if_neg (by omega)]
    simp
theorem freshN_next (x S : Int) (t j : Nat) : (S + (t : Int) - (j : Int)) * freshN x S t j + (if 1 ≤ j then (((j - 1 : Nat) : Int) + x) * freshN x S t (j - 1) else 0) = freshN x S (t + 1) j := by
  unfold freshN
  rcases Nat.lt_or_ge t j with e | e
  · rw [cho_gt e, if_pos (by omega)]
    rcases Nat.lt_or_ge (t + 1) j with z | z
    · rw [cho_gt z, cho_gt (by omega)]
      simp
    · obtain rfl : j = t + 1 := by omega
      rw [show t + 1 - 1 = t by omega, cho_self, cho_self, Nat.sub_self, Nat.sub_self]
      show (S + t - ((t + 1 : Nat) : Int)) * (((0 : Nat) : Int) * _ * _) + ((t : Int) + x) * (((1 : Nat) : Int) * 1 * rise x t) = ((1 : Nat) : Int) * 1 * (rise x t * (x + t))
      push_cast
      grind
  · cases j with
    | zero =>
      rw [if_neg (by omega), cho_zero, cho_zero]
      show (S + t - ((0 : Nat) : Int)) * (((1 : Nat) : Int) * rise S (t - 0) * 1) + 0 = ((1 : Nat) : Int) * rise S (t + 1 - 0) * 1
      rw [Nat.sub_zero, Nat.sub_zero]
      show _ = ((1 : Nat) : Int) * (rise S t * (S + t)) * 1
      push_cast
      grind
    | succ i =>
      rw [if_pos (by omega), show i + 1 - 1 = i by omega]
      obtain ⟨d, rfl⟩ : ∃ d, t = i + 1 + d := ⟨t - (i + 1), by omega⟩
      rw [show i + 1 + d - (i + 1) = d by omega, show i + 1 + d - i = d + 1 by omega, show i + 1 + d + 1 - (i + 1) = d + 1 by omega]
      show (S + ((i + 1 + d : Nat) : Int) - ((i + 1 : Nat) : Int)) * ((cho (i + 1 + d) (i + 1) : Int) * rise S d * (rise x i * (x + i))) + ((i : Int) + x) * ((cho (i + 1 + d) i : Int) * (rise S d * (S + d)) * rise x i) = ((cho (i + 1 + d) i + cho (i + 1 + d) (i + 1) : Nat) : Int) * (rise S d * (S + d)) * (rise x i * (x + i))
      push_cast
      generalize rise S d = A
      generalize rise x i = B
      generalize (cho (i + 1 + d) (i + 1) : Int) = C
      generalize (cho (i + 1 + d) i : Int) = D
      grind
theorem WOk.zero (h : Int) (w : List Nat) : WOk h w 0 (waysL h w 0) where
  nd := by simp [waysL]
  up := fun a ha => by
    have : a = w ++ [0] := by simpa [waysL] using ha
    rw [this]
    exact ⟨Up.start w, by simp⟩
  one := by
    show (1 : Int) * 1 + 0 = 1
    omega
  size := fun i hi => by
    show (1 : Int) * (((w ++ [0]).getD i 0 : Nat) : Int) + 0 = ((w.getD i 0 : Nat) : Int) * 1
    rw [List.getD_eq_getElem?_getD, List.getElem?_append_left hi, ← List.getD_eq_getElem?_getD]
    omega
  last := fun j => by
    show (1 : Int) * (if lastN (w ++ [0]) = j then 1 else 0) + 0 = _
    rw [lastN_app, freshN_zero]
    by_cases e : j = 0
    · rw [if_pos e, if_pos e.symm]; omega
    · rw [if_neg e, if_neg (Ne.symm e)]; omega
  val := fun a u e => by
    rw [Nat.add_zero] at e
    obtain rfl := up_zero u e
    show atW [(w ++ [0], 1)] (w ++ [0]) = _
    rw [atW_cons, if_pos rfl, u.GG, lastN_app, gcho_id]
    unfold KK
    rw [Nat.sub_self, prm_none]
    rfl
  len := by simp [waysL]
theorem WOk.next {h : Int} {w : List Nat} {t : Nat} (hw : ∀ x ∈ w, 1 ≤ x) {L : List (List Nat × Int)} (W : WOk h w t L) : WOk h w (t + 1) (outw h [] L) := by
  have ne : ∀ {p : List Nat × Int}, p ∈ L → p.1 ≠ [] ∧ p.1.length = w.length + 1 ∧ p.1.sum = w.sum + t := fun {p} hp => by
    have u := W.up p.1 (List.mem_map.mpr ⟨p, hp, rfl⟩)
    have l := u.1.len
    refine ⟨fun z => ?_, l, u.2⟩
    rw [z] at l
    simp at l
  have up2 : ∀ a, a ∈ (outw h [] L).map (·.1) → Up w a ∧ a.sum = w.sum + (t + 1) := fun a ha => by
    rcases out_keys h L [] a ha with z | ⟨q, hq, z⟩
    · exact nomatch z
    · have u := W.up q.1 (List.mem_map.mpr ⟨q, hq, rfl⟩)
      obtain ⟨i, x, hx, rfl⟩ := bumps_mem z
      have b := u.1.bump hx
      exact ⟨b.1, by rw [b.2, u.2]; rfl⟩
  have nd2 : ((outw h [] L).map (·.1)).Nodup := out_nd h L [] List.nodup_nil
  refine ⟨nd2, up2, ?_, ?_, ?_, ?_, ?_⟩
  · rw [EE_out]
    show 0 + EE (fun s => EE (fun _ => 1) (bumps h s)) L = rise (h + (w.sum : Int)) t * (h + (w.sum : Int) + t)
    rw [EE_mono (f := fun _ => (h + (w.sum : Int) + t) * 1) fun p hp => by
      obtain ⟨n1, _, n2⟩ := ne hp
      show EE (fun _ => 1) (bumps h p.1) = (h + (w.sum : Int) + t) * 1
      rw [bumps_one h n1, n2]
      push_cast
      omega, EE_cmul, W.one]
    grind
  · intro i hi
    rw [EE_out]
    show 0 + EE (fun s => EE (fun s => ((s.getD i 0 : Nat) : Int)) (bumps h s)) L = _ * (rise (h + (w.sum : Int) + 1) t * (h + (w.sum : Int) + 1 + t))
    rw [EE_mono (f := fun s => (h + (w.sum : Int) + 1 + t) * ((s.getD i 0 : Nat) : Int)) fun p hp => by
      obtain ⟨n1, n3, n2⟩ := ne hp
      show EE (fun s => ((s.getD i 0 : Nat) : Int)) (bumps h p.1) = _
      rw [bumps_size h p.1 i (by omega), n2]
      push_cast
      grind, EE_cmul, W.size i hi]
    grind
  · intro j
    rw [EE_out]
    show 0 + EE (fun s => EE (fun c => if lastN c = j then 1 else 0) (bumps h s)) L = _
    have a := W.last j
    rw [EE_mono (f := fun s => ((w.sum : Int) + t - j) * (if lastN s = j then 1 else 0) + (((j - 1 : Nat) : Int) + h) * (if lastN s + 1 = j then 1 else 0)) fun p hp => by
      obtain ⟨n1, n3, n2⟩ := ne hp
      show EE (fun c => if lastN c = j then 1 else 0) (bumps h p.1) = _
      rw [bumps_last h j n1, n2]
      by_cases e : lastN p.1 = j
      · rw [if_pos e, if_neg (show ¬ lastN p.1 + 1 = j by omega), e]
        push_cast
        omega
      · rw [if_neg e]
        by_cases z : lastN p.1 + 1 = j
        · rw [if_pos z, show j - 1 = lastN p.1 by omega]
          omega
        · rw [if_neg z]
          omega, EE_sum, EE_cmul, EE_cmul, a]
    have b : EE (fun s => if lastN s + 1 = j then (1 : Int) else 0) L = if 1 ≤ j then freshN h (w.sum : Int) t (j - 1) else 0 := by
      split
      · rename_i e
        rw [← W.last (j - 1)]
        refine EE_mono fun p _ => ?_
        by_cases z : lastN p.1 + 1 = j
        · rw [if_pos z, if_pos (by omega)]
        · rw [if_neg z, if_neg (by omega)]
      · rename_i e
        refine EE_zero fun p _ => ?_
        rw [if_neg (by omega)]
    rw [b, ← freshN_next]
    split
    · omega
    · simp
  · intro a u e
    rw [← EE_at nd2, EE_out]
    show 0 + EE (fun s => EE (fun b => if b = a then 1 else 0) (bumps h s)) L = _
    rw [EE_mono (f := fun s => EE (fun c => if s = c then 1 else 0) (pres h a)) fun p _ => bump_pre h p.1 a, EE_swap]
    have lu := u.len
    have each : ∀ q ∈ pres h a, EE (fun s => if s = q.1 then (1 : Int) else 0) L = GG w (KK h t) q.1 := fun q hq => by
      have sq := pres_sum h a q hq
      rw [EE_at W.nd]
      by_cases z : Up w q.1
      · exact W.val q.1 z (by omega)
      · rw [GG_not _ z, atW_no fun y => z (W.up _ y).1]
    rw [EE_mono each, pres_GG h (KK h t) w a hw lu, u.GG, u.GG, u.GG, u.DD]
    have su := u.sum
    have k := KK_next h (t := t) (f := lastN a) (by unfold lastN; omega)
    have e2 : (a.sum : Int) - (w.sum : Int) - (lastN a : Int) = (t : Int) + 1 - (lastN a : Int) := by
      rw [e]
      push_cast
      omega
    rw [e2, ← k]
    grind
  · have a := out_len h (w.length + 1) L [] fun q hq => Nat.le_of_eq (ne hq).2.1
    have b := W.len
    rw [List.length_nil, Nat.zero_add] at a
    refine Nat.le_trans a ?_
    rw [Nat.pow_succ, Nat.mul_comm]
    exact Nat.mul_le_mul_right _ b
theorem ways_ok (h : Int) {w : List Nat} (hw : ∀ x ∈ w, 1 ≤ x) : ∀ t, WOk h w t (waysL h w t)
  | 0 => WOk.zero h w
  | t + 1 => (ways_ok h hw t).next hw

local macro_rules | `(tactic| walk_at "call") => `(tactic| (with_reducible exact sv_whole))
local macro_rules | `(tactic| walk_at "call") => `(tactic| (with_reducible exact sv_between))
local macro_rules | `(tactic| walk_at "call") => `(tactic| ((with_reducible refine' sv_check1 ?c1 ?c2); (case c1 => walk_at "side"); (case c2 => walk_at "side")))
local macro_rules | `(tactic| walk_at "call") => `(tactic| ((with_reducible refine' sv_check_number ?c1 ?c2); (case c1 => walk_at "side"); (case c2 => walk_at "side")))
local macro_rules | `(tactic| walk_at "callU") => `(tactic| ((with_reducible refine' su_fraction ?c1 ?c2); (case c1 => walk_at "side"); (case c2 => walk_at "side")))
local macro_rules | `(tactic| walk_at "call") => `(tactic| ((with_reducible refine' sv_rise ?c1 ?c2); (case c1 => walk_at "side"); (case c2 => walk_at "side")))

/-! ### the law's ways -/
def kk (s : List Nat) : List L2.Key := s.map fun n : Nat => Sum.inl (n : Int)
theorem kk_val (s : List Nat) : (kk s).map kV = nv s := by
  rw [nv_eq]
  unfold kk
  rw [List.map_map]
  rfl
theorem kk_inj : ∀ {s t : List Nat}, kk s = kk t → s = t
  | [], [], _ => rfl
  | [], _ :: _, h => nomatch h
  | _ :: _, [], h => nomatch h
  | x :: s, y :: t, h => by
    have a := (List.cons.inj h).1
    have b := kk_inj (List.cons.inj h).2
    have c := Sum.inl.inj a
    rw [b, show x = y by omega]
def enc (L : List (List Nat × Int)) : List (List L2.Key × V) := L.map fun p => (kk p.1, V.int p.2)
theorem enc_get {L : List (List Nat × Int)} {k : Nat} {key : List L2.Key} {v : V} (h : (enc L)[k]? = some (key, v)) : ∃ s p, L[k]? = some (s, p) ∧ key = kk s ∧ v = .int p := by
  unfold enc at h
  rw [List.getElem?_map] at h
  cases e : L[k]? with
  | none => rw [e] at h; cases h
  | some q =>
    rw [e] at h
    have := Option.some.inj h
    exact ⟨q.1, q.2, rfl, (Prod.mk.inj this).1.symm, (Prod.mk.inj this).2.symm⟩
theorem enc_val : ∀ (L : List (List Nat × Int)) (a : List Nat), (valV (enc L) (kk a)).getD (.int 0) = .int (atW L a)
  | [], a => rfl
  | (b, y) :: r, a => by
    have ih := enc_val r a
    rw [atW_cons]
    show (valV ((kk b, V.int y) :: enc r) (kk a)).getD (.int 0) = _
    by_cases e : b = a
    · subst e
      rw [valV_pos rfl, if_pos rfl]
      rfl
    · rw [valV_neg fun z => e (kk_inj z), ih, if_neg e]
theorem putK_cons_ne {k k' : List L2.Key} {v x : V} {r : List (List L2.Key × V)} (h : k ≠ k') : putK ((k, v) :: r) k' x = (k, v) :: putK r k' x := by
  unfold putK
  have e : (((k, v) :: r).any fun kv => decide (kv.1 = k')) = r.any fun kv => decide (kv.1 = k') := by
    rw [List.any_cons]
    simp [h]
  rw [e]
  split
  · rw [List.map_cons, if_neg h]
  · rfl
theorem map_none {k : List L2.Key} {x : V} : ∀ {r : List (List L2.Key × V)}, (∀ p ∈ r, p.1 ≠ k) → r.map (fun kv => if kv.1 = k then (kv.1, x) else kv) = r
  | [], _ => rfl
  | p :: r, h => by
    rw [List.map_cons, if_neg (h p (by simp)), map_none fun q hq => h q (by simp [hq])]
theorem enc_put : ∀ {L : List (List Nat × Int)} (a : List Nat) (x : Int), (L.map (·.1)).Nodup → putK (enc L) (kk a) (.int (atW L a + x)) = enc (addTo L a x)
  | [], a, x, _ => by
    show [(kk a, V.int (0 + x))] = [(kk a, V.int x)]
    rw [Int.zero_add]
  | (b, y) :: r, a, x, h => by
    rw [List.map_cons, List.nodup_cons] at h
    rw [atW_cons]
    show putK ((kk b, V.int y) :: enc r) (kk a) _ = _
    unfold addTo
    by_cases e : b = a
    · subst e
      rw [if_pos rfl, if_pos rfl]
      unfold putK
      rw [if_pos (by simp), List.map_cons, if_pos rfl, map_none]
      · rfl
      · intro p hp z
        obtain ⟨q, hq, e⟩ := List.mem_map.mp hp
        rw [← e] at z
        exact h.1 (List.mem_map.mpr ⟨q, hq, kk_inj z⟩)
    · rw [if_neg e, if_neg e, putK_cons_ne fun z => e (kk_inj z), enc_put a x h.2]
      rfl
/-- no number is less than nothing, none is more than all -/
theorem addTo_pos {L : List (List Nat × Int)} {a : List Nat} {x : Int} (hx : 0 ≤ x) : (∀ q ∈ L, 0 ≤ q.2) → ∀ q ∈ addTo L a x, 0 ≤ q.2 := by
  induction L with
  | nil =>
    intro _ q hq
    rw [List.mem_singleton.mp hq]
    exact hx
  | cons p r ih =>
    intro h q hq
    obtain ⟨b, y⟩ := p
    have hy := h (b, y) (by simp)
    have hr := ih fun q hq => h q (by simp [hq])
    unfold addTo at hq
    split at hq
    · rcases List.mem_cons.mp hq with e | e
      · rw [e]
        show 0 ≤ y + x
        have : 0 ≤ y := hy
        omega
      · exact h q (by simp [e])
    · rcases List.mem_cons.mp hq with e | e
      · rw [e]; exact hy
      · exact hr q e
theorem inn_pos {p : Int} (hp : 0 ≤ p) : ∀ (B M : List (List Nat × Int)), (∀ q ∈ B, 0 ≤ q.2) → (∀ q ∈ M, 0 ≤ q.2) → ∀ q ∈ inn p M B, 0 ≤ q.2
  | [], M, _, hM => hM
  | (c, u) :: r, M, hB, hM => inn_pos hp r _ (fun q hq => hB q (by simp [hq])) (addTo_pos (Int.mul_nonneg hp (hB (c, u) (by simp))) hM)
theorem bumps_pos {h : Int} (hh : 0 ≤ h) : ∀ (s : List Nat), ∀ q ∈ bumps h s, 0 ≤ q.2
  | [], q, hq => nomatch hq
  | [x], q, hq => by
    rw [List.mem_singleton.mp hq]
    show 0 ≤ (x : Int) + h
    omega
  | x :: y :: r, q, hq => by
    unfold bumps at hq
    rw [List.mem_cons, List.mem_map] at hq
    rcases hq with e | ⟨p, hp, e⟩
    · rw [e]
      show 0 ≤ (x : Int)
      omega
    · rw [← e]
      exact bumps_pos hh (y :: r) p hp
theorem out_pos {h : Int} (hh : 0 ≤ h) : ∀ (L M : List (List Nat × Int)), (∀ q ∈ L, 0 ≤ q.2) → (∀ q ∈ M, 0 ≤ q.2) → ∀ q ∈ outw h M L, 0 ≤ q.2
  | [], M, _, hM => hM
  | (s, p) :: r, M, hL, hM => out_pos hh r _ (fun q hq => hL q (by simp [hq])) (inn_pos (hL (s, p) (by simp)) _ _ (bumps_pos hh s) hM)
theorem ways_pos {h : Int} (hh : 0 ≤ h) (w : List Nat) : ∀ t, ∀ q ∈ waysL h w t, 0 ≤ q.2
  | 0, q, hq => by
    rw [List.mem_singleton.mp hq]
    show (0 : Int) ≤ 1
    decide
  | t + 1, q, hq => out_pos hh _ _ (ways_pos hh w t) (fun q hq => by simp at hq) q hq
theorem EE_one_ge : ∀ {L : List (List Nat × Int)}, (∀ q ∈ L, 0 ≤ q.2) → 0 ≤ EE (fun _ => 1) L ∧ ∀ q ∈ L, q.2 ≤ EE (fun _ => 1) L
  | [], _ => ⟨Int.le_refl _, fun q hq => by simp at hq⟩
  | (s, p) :: r, h => by
    have a := EE_one_ge (L := r) fun q hq => h q (by simp [hq])
    have b : 0 ≤ p := h (s, p) (by simp)
    show 0 ≤ p * 1 + EE _ r ∧ ∀ q ∈ (s, p) :: r, q.2 ≤ p * 1 + EE _ r
    refine ⟨by omega, fun q hq => ?_⟩
    rcases List.mem_cons.mp hq with e | e
    · rw [e]
      show p ≤ p * 1 + EE _ r
      omega
    · have := a.2 q e
      omega
theorem ways_bd {h : Int} {w : List Nat} (o : Sz w) (h0 : 1 ≤ h) (h1 : h ≤ 1000000000000) {t : Nat} (ht : t ≤ 40) : ∀ q ∈ waysL h w t, 0 ≤ q.2 ∧ q.2.natAbs < 2 ^ 2600 := fun q hq => by
  have p := ways_pos (by omega : 0 ≤ h) w t
  have a := (EE_one_ge p).2 q hq
  rw [(ways_ok h o.2.1 t).one] at a
  have s20 := o.2.2
  have b := rise60 (x := h + (w.sum : Int)) (n := t) (by omega) (by omega) (by omega)
  have c := rise_pos (w := h + (w.sum : Int)) (by omega) t
  refine ⟨p q hq, Nat.lt_of_le_of_lt ?_ b⟩
  have d := p q hq
  omega
theorem set_cut {s : List Nat} {j x : Nat} (h : s[j]? = some x) : (nv s).take j ++ [V.int (x + 1 : Nat)] ++ (nv s).drop (j + 1) = nv (s.set j (x + 1)) := by
  have hj := (List.getElem?_eq_some_iff.mp h).1
  rw [nv_eq, nv_eq, List.set_eq_take_append_cons_drop, if_pos hj, List.map_append, List.map_cons, List.map_take, List.map_drop]
  simp
theorem inn_next {p : Int} {M B : List (List Nat × Int)} {j : Nat} {b : List Nat} {u : Int} (h : B[j]? = some (b, u)) : inn p M (B.take (j + 1)) = addTo (inn p M (B.take j)) b (p * u) := by
  rw [List.take_add_one, h]
  unfold inn
  rw [List.foldl_append]
  rfl
theorem out_next {h : Int} {M L : List (List Nat × Int)} {k : Nat} {s : List Nat} {p : Int} (hk : L[k]? = some (s, p)) : outw h M (L.take (k + 1)) = inn p (outw h M (L.take k)) (bumps h s) := by
  rw [List.take_add_one, hk]
  unfold outw
  rw [List.foldl_append]
  rfl
def sp_law_ways : Sp := fun vs H Q _ => ∃ (h : Int) (a : Addr) (w : List Nat) (t : Nat), vs = [.int h, .ref a, .int (t : Int)] ∧ H a = some (.lst (nv w)) ∧ Sz w ∧ w.length ≤ 4 ∧ t ≤ 5 ∧ 1 ≤ h ∧ h ≤ 1000000000000 ∧ (∀ p H2, H p = none → Ex H H2 → H2 p = some (.dT (enc (waysL h w t))) → Q (.ref p) H2)

section
variable {K : PySem.W.Frag} {σ : L2.St} {H : Hp} {D : Ends} {tu : TS} {tz : TS} {td : TE}
theorem q_forItT {i j : Nat} {d : Addr} {kvs : List (List L2.Key × V)} (h : ∀ H1, Ev td σ H1 (.ref d)) (hd : H d = some (.dT kvs)) (Pv : Obj → Nat → L2.St → Hp → Prop) (h0 : ∀ o H1, Ex (upd H d (.frz o (.dT kvs))) H1 → Pv o 0 σ H1) (hl : ∀ o k σ' H', k ≤ kvs.length → Pv o k σ' H' → H' d = some (.frz o (.dT kvs)))
    (hs : ∀ o k key v q σ' H' H2, kvs[k]? = some (key, v) → H' q = some (.tup (key.map kV)) → Pv o k σ' H' → Ex H' H2 → tu { nx := Pv o (k + 1), ct := Pv o (k + 1), bk := fun σ' H' => H' d = some (.frz o (.dT kvs)) ∧ tz D σ' (upd H' d (.dT kvs)), rt := fun v H' => H' d = some (.frz o (.dT kvs)) ∧ D.rt v (upd H' d (.dT kvs)) } ((σ'.set i (some (.ref q))).set j (some v)) H2) (he : ∀ o σ' H', Pv o kvs.length σ' H' → tz D σ' (upd H' d (.dT kvs))) :
    tSeq (tLock (tFor (iItemsT td) (gTup K 2 (gCons (gName i) (gCons (gName j) gNil))) tu)) tz D σ H := s_forItT (D := { D with nx := tz D }) h hd Pv h0 hl hs he
end
section
variable {P : Program} {w : World} {K : PySem.W.Frag} {mg : Str → Option Value} {base : Heap}
theorem ok_law_ways (T : Tx K mg) : FnOk P w K mg base CX0 1 T.f_law_ways T.d_law_ways ["heavy", "wide", "many_more"] sp_law_ways := by
  refine T.F_law_ways.ok sc_law_ways (fun vs H Q E h => ?_) (fun cdv A outer s H vs Q E hr h => ?_)
  · obtain ⟨x, a, ww, t, rfl, _⟩ := h
    rfl
  · obtain ⟨x, a, ww, t, rfl, ha, o, l4, ht, h0, h1, k⟩ := h
    refine ⟨_, (pss_cons (ps_set (i := 3) sc_law_ways.nd rfl (Or.inl rfl) (pe_disp1T (Nat.lt_of_succ_lt (hu_of hr)) (pe_op op_catA (pe_callTy call_tupR (by rfl) T.m_tuple (by decide +kernel) (pa_cons (pv 1) pa_nil)) (pe_tup (pa_cons pe_int pa_nil))) pe_int))
      (pss_cons (ps_for PassesOwn.never rfl (pi_range1 (by rfl) T.m_range (pa_cons (pv 2) pa_nil)) (pg_name (i := 4) sc_law_ways.nd rfl (Or.inl rfl)) (pss_cons (ps_set (i := 5) sc_law_ways.nd rfl (Or.inl rfl) pe_dnewT)
      (pss_cons (ps_lock (ps_for PassesOwn.never rfl (pi_itemsT (pv 3)) (pg_tup rfl (pgs_cons (pg_name (i := 6) sc_law_ways.nd rfl (Or.inl rfl)) (pgs_cons (pg_name (i := 7) sc_law_ways.nd rfl (Or.inl rfl)) pgs_nil))) (pss_one (ps_for PassesOwn.never rfl (pi_enumS (by rfl) T.m_enumerate (pa_cons (pv 6) pa_nil)) (pg_tup rfl (pgs_cons (pg_name (i := 8) sc_law_ways.nd rfl (Or.inl rfl)) (pgs_cons (pg_name (i := 9) sc_law_ways.nd rfl (Or.inl rfl)) pgs_nil))) (pss_cons (ps_set (i := 10) sc_law_ways.nd rfl (Or.inl rfl) (pe_ifExp (pt_cmpR op_eq (pv 8) (pe_op op_sub (pe_callB call_lenR (by rfl) T.m_len (by decide +kernel) (pa_cons (pv 6) pa_nil)) pe_int) (nomark _)) (pe_op op_add (pv 9) (pv 0)) (pv 9)))
      (pss_cons (ps_set (i := 11) sc_law_ways.nd rfl (Or.inl rfl) (pe_op op_catA (pe_op op_catA (pe_slice sl_tupA (pv 6) po_none (po_some (pv 8))) (pe_tup (pa_cons (pe_op op_add (pv 9) pe_int) pa_nil))) (pe_slice sl_tupA (pv 6) (po_some (pe_op op_add (pv 8) pe_int)) po_none)))
      (pss_one (ps_dput (hu_of hr) (pv 5) (pv 11) (pe_op op_add (pe_dget2 (hu_of hr) (pv 5) (pv 11) pe_int ⟨by rfl, by rfl, by rfl, by rfl⟩) (pe_op op_mulX (pv 7) (pv 10))) rfl))))))))
      (pss_one (ps_set (i := 3) sc_law_ways.nd rfl (Or.inl rfl) (pv 5))))))
      (pss_one (ps_ret (pv 3))))), ?_⟩
    have s20 := o.2.2
    refine q_disp1S (k := kk (ww ++ [0])) (v := .int 1) ?_ ev_c fun d H1 hd e1 hd1 => ?_
    · rw [kk_val, nv_app]
      exact es_cat (es_ofU (eu_tupOf (ev_var rfl) (sq_of ha))) (es_ofU (eu_tup (ea_cons ev_c ea_nil) (Nat.le_of_ble_eq_true rfl))) (by rw [nv_len]; show ww.length + 1 ≤ 100000; omega)
    refine q_forR1 (n := (t : Int)) (ea_cons (ev_var rfl) ea_nil) ⟨by omega, by omega⟩ (fun i σ' H' => ∃ (d : Addr) (y4 y5 y6 y7 y8 y9 y10 y11 : Option V), σ' = [some (.int x), some (.ref a), some (.int (t : Int)), some (.ref d), y4, y5, y6, y7, y8, y9, y10, y11] ∧ Ex H H' ∧ H d = none ∧ H' d = some (.dT (enc (waysL x ww i))))
      (fun H2 e2 => ⟨d, none, none, none, none, none, none, none, none, rfl, e1.trans e2, hd, e2 d _ hd1⟩) ?_ ?_
    · rintro i σ' H' hi ⟨d, y4, y5, y6, y7, y8, y9, y10, y11, rfl, e, nd, hd⟩
      have hi5 : i < 5 := by omega
      have W := ways_ok x o.2.1 i
      have B := ways_bd o h0 h1 (t := i) (by omega)
      generalize hL : waysL x ww i = L at *
      have lenL : L.length ≤ 5 ^ 4 := Nat.le_trans W.len (Nat.le_trans (Nat.pow_le_pow_left (show ww.length + 1 ≤ 5 by omega) i) (Nat.pow_le_pow_right (by decide) (by omega)))
      have lenL : L.length ≤ 625 := lenL
      have each : ∀ {s p}, (s, p) ∈ L → s.length = ww.length + 1 ∧ s.sum ≤ 25 := fun {s p} hm => by
        have u := W.up s (List.mem_map.mpr ⟨(s, p), hm, rfl⟩)
        exact ⟨u.1.len, by rw [u.2]; omega⟩
      refine q_dnewT fun p H2 hp e2 h2 => ?_
      have pd : p ≠ d := fun z => by
        subst z
        rw [hd] at hp
        cases hp
      have hpH : H p = none := fresh_back e hp
      refine q_forItT (d := d) (kvs := enc L) (fun _ => ev_var rfl) (e2 d _ hd) (fun o' k σ' H3 => ∃ (y6 y7 y8 y9 y10 y11 : Option V), σ' = [some (.int x), some (.ref a), some (.int (t : Int)), some (.ref d), some (.int (i : Int)), some (.ref p), y6, y7, y8, y9, y10, y11] ∧ Ex H H3 ∧ H3 d = some (.frz o' (.dT (enc L))) ∧ H3 p = some (.dT (enc (outw x [] (L.take k)))))
        (fun o' H3 e3 => ⟨y6, y7, y8, y9, y10, y11, rfl, fun b u hb => e3 b u (by
          rw [upd_ne fun z => by
            rw [z, nd] at hb
            cases hb]
          exact e2 b u (e b u hb)), e3 d _ upd_same, e3 p _ (by rw [upd_ne pd]; exact h2)⟩) (fun o' k σ' H3 _ ⟨_, _, _, _, _, _, _, _, h, _⟩ => h) ?_ ?_
      · rintro o' k key v q σ' H3 H4 hk hq ⟨y6, y7, y8, y9, y10, y11, rfl, e3, hd3, hp3⟩ e4
        obtain ⟨s, pp, hs, rfl, rfl⟩ := enc_get hk
        rw [kk_val] at hq
        have hm := List.mem_of_getElem? hs
        obtain ⟨sl, ss⟩ := each hm
        have ndM : ((outw x [] (L.take k)).map (·.1)).Nodup := out_nd x _ [] List.nodup_nil
        have lenM := out_len x (ww.length + 1) (L.take k) [] fun q hq => Nat.le_of_eq (each (List.mem_of_mem_take hq)).1
        have lk : (L.take k).length ≤ 625 := by rw [List.length_take]; omega
        generalize hM : outw x [] (L.take k) = M at *
        have lM : M.length ≤ 3125 := by
          have : (ww.length + 1) * (L.take k).length ≤ 5 * 625 := Nat.mul_le_mul (by omega) lk
          rw [List.length_nil] at lenM
          omega
        refine s_forEnT (a := q) (xs := nv s) (ea_cons (ev_var rfl) ea_nil) (st_of (e4 q _ hq)) (fun j σ' H5 => ∃ (y8 y9 y10 y11 : Option V), σ' = [some (.int x), some (.ref a), some (.int (t : Int)), some (.ref d), some (.int (i : Int)), some (.ref p), some (.ref q), some (.int pp), y8, y9, y10, y11] ∧ Ex H H5 ∧ H5 d = some (.frz o' (.dT (enc L))) ∧ H5 q = some (.tup (nv s)) ∧ H5 p = some (.dT (enc (inn pp M ((bumps x s).take j)))))
          (fun H5 e5 => ⟨y8, y9, y10, y11, rfl, e3.trans (e4.trans e5), e5 d _ (e4 d _ hd3), e5 q _ (e4 q _ hq), e5 p _ (e4 p _ hp3)⟩) (fun j σ' H5 _ ⟨_, _, _, _, _, _, _, hq5, _⟩ => st_of hq5) ?_ ?_
        · rintro j v σ' H5 H6 hj ⟨y8, y9, y10, y11, rfl, e5, hd5, hq5, hp5⟩ e6
          have jl := (List.getElem?_eq_some_iff.mp hj).1
          rw [nv_len] at jl
          obtain ⟨sj, hsj⟩ : ∃ z, s[j]? = some z := ⟨_, List.getElem?_eq_getElem jl⟩
          have ev : v = .int (sj : Int) := by
            have := nv_get hsj
            rw [hj] at this
            exact Option.some.inj this
          subst ev
          have hb := bumps_at x s j sj hsj
          have hq6 := e6 q _ hq5
          refine q_asg (v := .int (if j + 1 = s.length then (sj : Int) + x else (sj : Int))) (ev_if (et_test (ev_op (ev_var rfl) (ev_op (ev_lenT (K := K) (p := q) (ev_var rfl) (st_of hq6)) ev_c rv_I0) (rv_eq rfl))) (fun hb => ?_) (fun hb => ?_)) fun H7 e7 => ?_
          · have : j + 1 = s.length := by
              have z := of_decide_eq_true hb
              rw [nv_len] at z
              have z := V.int.inj z
              omega
            rw [if_pos this]
            exact ev_op (ev_var rfl) (ev_var rfl) rv_I0
          · have : ¬ j + 1 = s.length := fun z => by
              refine of_decide_eq_false hb ?_
              rw [nv_len]
              congr 1
              omega
            rw [if_neg this]
            exact ev_var rfl
          have hq7 := e7 q _ hq6
          refine q_asgS (xs := nv (s.set j (sj + 1))) ?_ fun b H8 e8 hb8 => ?_
          · rw [← set_cut hsj]
            exact es_cat (es_cat (es_to (ev_var rfl) (ev_var rfl) hq7 (by rw [nv_len]; omega)) (es_ofU (eu_tup (ea_cons (ev_op (ev_var rfl) ev_c rv_I0) ea_nil) (Nat.le_of_ble_eq_true rfl))) (by simp [nv_len]; omega)) (es_from (ev_var rfl) (ev_op (ev_var rfl) ev_c rv_I0) hq7 (by rw [nv_len]; omega)) (by simp [nv_len]; omega)
          have hp8 := e8 p _ (e7 p _ (e6 p _ hp5))
          have lI := inn_len pp ((bumps x s).take j) M
          have ndI : ((inn pp M ((bumps x s).take j)).map (·.1)).Nodup := inn_nd pp _ _ ndM
          have nx := inn_next (p := pp) (M := M) hb
          generalize hI : inn pp M ((bumps x s).take j) = I at *
          have lI2 : I.length ≤ 4000 := by
            rw [List.length_take, bumps_len] at lI
            omega
          generalize hu : (if j + 1 = s.length then (sj : Int) + x else (sj : Int)) = u at *
          have hub : u.natAbs < 2 ^ 100 := by
            have := mem_le_sum (List.mem_of_getElem? hsj)
            rw [← hu]
            split <;> omega
          have hpb := (B _ hm).2
          have put := enc_put (L := I) (s.set j (sj + 1)) (pp * u) ndI
          refine s_dputT (a := p) (b := b) (kvs := enc I) (k := kk (s.set j (sj + 1))) (v := .int (atW I (s.set j (sj + 1)) + pp * u)) (ev_var rfl) (ev_var rfl) (ev_op (ev_dget2T (kvs := enc I) (k := kk (s.set j (sj + 1))) (ev_var rfl) (ev_var rfl) ev_c hp8 (by rw [kk_val]; exact hb8)) (ev_op (ev_var rfl) (ev_var rfl) (rv_I (mulx_ok hpb hub (by decide)))) ?_) hp8 (by rw [kk_val]; exact hb8) (by unfold enc; rw [List.length_map]; omega) fun H9 e9 => ?_
          · rw [enc_val]
            exact rv_I0
          · rw [put]
            refine ⟨_, _, _, _, rfl, Ex.mut (e5.trans (e6.trans (e7.trans (e8.trans e9)))) hpH, ?_, ?_, ?_⟩
            · rw [upd_ne (Ne.symm pd)]
              exact e9 d _ (e8 d _ (e7 d _ (e6 d _ hd5)))
            · rw [upd_ne (ne_of hq7 (show H7 p = _ from e7 p _ (e6 p _ hp5)) (fun z => nomatch z))]
              exact e9 q _ (e8 q _ hq7)
            · rw [upd_same, nx]
        · rintro σ' H5 ⟨y8, y9, y10, y11, rfl, e5, hd5, hq5, hp5⟩
          refine ⟨_, _, _, _, _, _, rfl, e5, hd5, ?_⟩
          rw [out_next hs, hM]
          rw [List.take_of_length_le (by rw [bumps_len, nv_len]; omega)] at hp5
          exact hp5
      · rintro o' σ' H3 ⟨y6, y7, y8, y9, y10, y11, rfl, e3, hd3, hp3⟩
        refine s_asg (ev_var rfl) fun H4 e4 => ?_
        refine ⟨p, _, _, _, _, _, _, _, _, rfl, (Ex.mut e3 nd).trans e4, hpH, e4 p _ ?_⟩
        rw [upd_ne pd, hp3, List.take_of_length_le (by unfold enc; rw [List.length_map]; omega), ← hL]
        rfl
    · rintro σ' H' ⟨d, y4, y5, y6, y7, y8, y9, y10, y11, rfl, e, nd, hd⟩
      rw [Int.toNat_natCast] at hd
      exact s_ret (ev_var rfl) fun H1 e1 => k d H1 nd (e.trans e1) (e1 d _ hd)
end

local macro_rules | `(tactic| walk_at "call") => `(tactic| (with_reducible exact sv_whole))
local macro_rules | `(tactic| walk_at "call") => `(tactic| (with_reducible exact sv_between))
local macro_rules | `(tactic| walk_at "call") => `(tactic| ((with_reducible refine' sv_check1 ?c1 ?c2); (case c1 => walk_at "side"); (case c2 => walk_at "side")))
local macro_rules | `(tactic| walk_at "call") => `(tactic| ((with_reducible refine' sv_check_number ?c1 ?c2); (case c1 => walk_at "side"); (case c2 => walk_at "side")))
local macro_rules | `(tactic| walk_at "callU") => `(tactic| ((with_reducible refine' su_fraction ?c1 ?c2); (case c1 => walk_at "side"); (case c2 => walk_at "side")))
local macro_rules | `(tactic| walk_at "call") => `(tactic| ((with_reducible refine' sv_rise ?c1 ?c2); (case c1 => walk_at "side"); (case c2 => walk_at "side")))

/-! ### data -/
def di (r : List Nat) : PyData := .list ((iz r).map PyData.int)
theorem shaped_di (r : List Nat) : SeqAt.shaped (di r) = true := shaped_ints _
section
variable {K : PySem.W.Frag} {σ : L2.St} {H : Hp} {te : TE}
theorem dpa_nv (r : List Nat) : DpAll K H (nv r) ((iz r).map PyData.int) := dpa_ints _
theorem dp_L {a : Addr} {r : List Nat} (h : H a = some (.lst (nv r))) : Dp K H (.ref a) (di r) := .lst (sq_of h) (dpa_nv r)
theorem ed_L {r : List Nat} (h : EvL te σ H (nv r)) : EvD K te σ H (di r) := ed_ofL h (dpa_nv r)
end
def shareD (a b : Int) : PyData := .tuple [.int (a / cd a b), .int (b / cd a b)]
theorem dpa_frac {K : PySem.W.Frag} {H : Hp} (a b : Int) : DpAll K H (frac a b) [.int (a / cd a b), .int (b / cd a b)] := .cons (.int _) (.cons (.int _) .nil)
theorem dpa_fracs {K : PySem.W.Frag} {H : Hp} (f : Nat → Int × Int) : ∀ {ws : List V} (l : List Nat), TL H ws (l.map fun t => frac (f t).1 (f t).2) → DpAll K H ws (l.map fun t => shareD (f t).1 (f t).2)
  | [], [], _ => .nil
  | _ :: _, t :: l, .cons ⟨b, e, h⟩ q => by
    subst e
    exact .cons (.tup (st_of h) (dpa_frac _ _)) (dpa_fracs f l q)
theorem shaped_sh (a b : Int) : SeqAt.shaped (.tuple [.int a, .int b]) = true := by
  simp [SeqAt.shaped, PyData.canLay0, PyData.canLayAll0, PyData.depth, PyData.depthAll]
theorem shaped_shD (a b : Int) : SeqAt.shaped (shareD a b) = true := shaped_sh _ _
theorem canLay_shs (f : Nat → Int × Int) : ∀ l : List Nat, PyData.canLayAll0 (l.map fun t => shareD (f t).1 (f t).2) = true
  | [] => rfl
  | m :: r => by
    have := canLay_shs f r
    show (PyData.canLayAll0 (shareD _ _ :: r.map _)) = true
    rw [PyData.canLayAll0, this]
    simp [PyData.canLay0, PyData.canLayAll0, shareD]
theorem depth_shs (f : Nat → Int × Int) : ∀ l : List Nat, PyData.depthAll (l.map fun t => shareD (f t).1 (f t).2) ≤ 1
  | [] => by simp [PyData.depthAll]
  | m :: r => by
    have := depth_shs f r
    show PyData.depthAll (shareD _ _ :: r.map _) ≤ 1
    rw [PyData.depthAll]
    have e : (shareD (f m).1 (f m).2).depth ≤ 1 := by simp [PyData.depthAll, PyData.depth, shareD]
    omega
theorem shaped_shs (f : Nat → Int × Int) (l : List Nat) : SeqAt.shaped (.list (l.map fun t => shareD (f t).1 (f t).2)) = true := by
  have := depth_shs f l
  simp [SeqAt.shaped, PyData.canLay0, canLay_shs, PyData.depth]
  omega
section
variable {K : PySem.W.Frag} {σ : L2.St} {H : Hp} {te : TE}
theorem ed_fracs {f : Nat → Int × Int} {l : List Nat} (h : EvLT te σ H (l.map fun t => frac (f t).1 (f t).2)) : EvD K te σ H (.list (l.map fun t => shareD (f t).1 (f t).2)) := fun H1 e Q q => h H1 e _ fun p ws H2 _ e2 h2 ht => q _ H2 e2 (.lst (sq_of h2) (dpa_fracs f l ht))
theorem ed_frac {a b : Int} (h : EvU te σ H (frac a b)) : EvD K te σ H (shareD a b) := ed_ofU h (dpa_frac a b)
end
/-- a list of small numbers, told -/
theorem shn_di {r : List Nat} (hl : r.length ≤ 100) (h : ∀ x ∈ r, x ≤ 1000) : ShN (di r) 200000 := by
  have := shn_list (n := 1921) (ds := (iz r).map PyData.int) fun d hd => by
    obtain ⟨i, hi, rfl⟩ := List.mem_map.mp hd
    obtain ⟨x, hx, rfl⟩ := List.mem_map.mp hi
    have := h x hx
    refine ⟨shn_int2 ?_, Nat.zero_le _⟩
    exact lt2_mono (show ((x : Int)).natAbs < 2 ^ 64 by omega) (by decide)
  refine ⟨this.shw, this.nod, ?_, this.dep⟩
  have l := this.len
  have : ((iz r).map PyData.int).length ≤ 100 := by simp [iz]; omega
  exact Nat.le_trans l (by omega)
theorem shn_two {r s : List Nat} (hr : ShN (di r) 200000) (hs : ShN (di s) 200000) : ShN (.list [di r, di s]) 400100 := by
  have := shn_list (n := 200000) (ds := [di r, di s]) fun d hd => by
    rcases List.mem_cons.mp hd with e | hd
    · rw [e]
      exact ⟨hr, by simp [di, PyData.depth, depth_ints]⟩
    · rw [List.mem_singleton.mp hd]
      exact ⟨hs, by simp [di, PyData.depth, depth_ints]⟩
  refine ⟨this.shw, this.nod, Nat.le_trans this.len (by show (200000 + 2) * 2 + 3 ≤ 400100; decide), this.dep⟩

theorem quot_le {a b B : Int} (ha : 0 ≤ a) (hb : 0 < b) (hB : a ≤ B) : 0 ≤ a / cd a b ∧ a / cd a b ≤ B := by
  have g := cd_pos (a := a) hb
  refine ⟨Int.ediv_nonneg ha (by omega), ?_⟩
  have := Int.ediv_le_self (cd a b) ha
  omega
theorem quot_le2 {a b B : Int} (hb : 0 < b) (hB : b ≤ B) : 0 ≤ b / cd a b ∧ b / cd a b ≤ B := by
  have g := cd_pos (a := a) hb
  refine ⟨Int.ediv_nonneg (by omega) (by omega), ?_⟩
  have := Int.ediv_le_self (cd a b) (show 0 ≤ b by omega)
  omega
theorem big_abs {z : Int} {k : Nat} (h0 : 0 ≤ z) (h : z ≤ 2 ^ k) (hk : k + 1 ≤ 1900) : z.natAbs < 2 ^ 1900 := by
  have e : (2 : Int) ^ k = ((2 ^ k : Nat) : Int) := by simp
  rw [e] at h
  exact lt2_mono (lt_of_le2 (k := k) (by omega)) hk
theorem shn_share {a b : Int} {k : Nat} (ha : 0 ≤ a) (hb : 0 < b) (h1 : a ≤ 2 ^ k) (h2 : b ≤ 2 ^ k) (hk : k + 1 ≤ 1900) : ShN (shareD a b) 3849 := by
  have q1 := quot_le ha hb h1
  have q2 := quot_le2 (a := a) hb h2
  exact shn_tup (n := 1921) (ds := [.int (a / cd a b), .int (b / cd a b)]) fun d hd => by
    rcases List.mem_cons.mp hd with e | hd
    · rw [e]
      exact ⟨shn_int2 (big_abs q1.1 q1.2 hk), Nat.zero_le _⟩
    · rw [List.mem_singleton.mp hd]
      exact ⟨shn_int2 (big_abs q2.1 q2.2 hk), Nat.zero_le _⟩

/-! ### the sums that the law adds up -/
theorem EE_next (g : List Nat → Int) {L : List (List Nat × Int)} {k : Nat} {s : List Nat} {p : Int} (h : L[k]? = some (s, p)) : EE g (L.take (k + 1)) = EE g (L.take k) + p * g s := by
  rw [List.take_add_one, h, EE_app]
  show _ + (p * g s + 0) = _
  omega
theorem EE_snd : ∀ L : List (List Nat × Int), (L.map (·.2)).sum = EE (fun _ => 1) L
  | [] => rfl
  | (s, p) :: r => by
    rw [List.map_cons, List.sum_cons, EE_snd r]
    show p + _ = p * 1 + _
    omega
theorem EE_le {g f : List Nat → Int} : ∀ {L : List (List Nat × Int)}, (∀ q ∈ L, 0 ≤ q.2) → (∀ s, 0 ≤ g s ∧ g s ≤ f s) → 0 ≤ EE g L ∧ EE g L ≤ EE f L
  | [], _, _ => ⟨Int.le_refl _, Int.le_refl _⟩
  | (s, p) :: r, h, hg => by
    have a := EE_le (L := r) (fun q hq => h q (by simp [hq])) hg
    have b : 0 ≤ p := h (s, p) (by simp)
    have c := Int.mul_nonneg b (hg s).1
    have d := Int.mul_le_mul_of_nonneg_left (hg s).2 b
    show 0 ≤ p * g s + EE g r ∧ p * g s + EE g r ≤ p * f s + EE f r
    omega
def FR (t : Nat) (L : List (List Nat × Int)) : List Int := (List.range (t + 1)).map fun j => EE (fun s => if lastN s = j then 1 else 0) L
def TP (n : Nat) (L : List (List Nat × Int)) : List Int := (List.range n).map fun i => EE (fun s => ((s.getD i 0 : Nat) : Int)) L
theorem FR_len (t : Nat) (L : List (List Nat × Int)) : (FR t L).length = t + 1 := by simp [FR]
theorem TP_len (n : Nat) (L : List (List Nat × Int)) : (TP n L).length = n := by simp [TP]
theorem FR_get {t j : Nat} (L : List (List Nat × Int)) (h : j ≤ t) : (FR t L)[j]? = some (EE (fun s => if lastN s = j then 1 else 0) L) := by
  unfold FR
  rw [List.getElem?_map, List.getElem?_range (by omega)]
  rfl
theorem FR_next {t k : Nat} {L : List (List Nat × Int)} {s : List Nat} {p : Int} (h : L[k]? = some (s, p)) : (FR t (L.take k)).set (lastN s) (EE (fun c => if lastN c = lastN s then 1 else 0) (L.take k) + p) = FR t (L.take (k + 1)) := by
  apply List.ext_getElem?
  intro j
  by_cases hj : j ≤ t
  · rw [FR_get _ hj, List.getElem?_set, FR_get _ hj, EE_next _ h]
    by_cases e : lastN s = j
    · subst e
      rw [if_pos rfl, if_pos (by rw [FR_len]; omega), if_pos rfl]
      congr 1
      omega
    · rw [if_neg e, if_neg e]
      congr 1
      omega
  · rw [List.getElem?_eq_none (by rw [List.length_set, FR_len]; omega), List.getElem?_eq_none (by rw [FR_len]; omega)]
def addF (p : Int) : V → V → V
  | .int a, .int b => .int (a + b * p)
  | _, _ => .non
theorem TP_next {n k : Nat} {L : List (List Nat × Int)} {s : List Nat} {p : Int} (h : L[k]? = some (s, p)) (hs : s.length = n + 1) : List.zipWith (addF p) ((TP n (L.take k)).map V.int) (nv s) = (TP n (L.take (k + 1))).map V.int := by
  apply List.ext_getElem?
  intro i
  rw [List.getElem?_zipWith, List.getElem?_map, List.getElem?_map]
  unfold TP
  rw [List.getElem?_map, List.getElem?_map]
  by_cases hi : i < n
  · have hsi : s[i]? = some s[i] := List.getElem?_eq_getElem (by omega)
    rw [List.getElem?_range hi, nv_get hsi]
    show some (addF p (.int (EE (fun s => ((s.getD i 0 : Nat) : Int)) (L.take k))) (.int _)) = some (V.int (EE (fun s => ((s.getD i 0 : Nat) : Int)) (L.take (k + 1))))
    rw [EE_next _ h]
    have e : s.getD i 0 = s[i] := by rw [List.getD_eq_getElem?_getD, hsi]; rfl
    show some (V.int (_ + (s[i] : Int) * p)) = some (V.int (_ + p * ((s.getD i 0 : Nat) : Int)))
    rw [e, Int.mul_comm p]
  · rw [List.getElem?_eq_none (by simp; omega)]
    rfl
theorem FR_zero (t : Nat) : FR t [] = List.replicate (t + 1) 0 := by
  unfold FR
  rw [show (fun j => EE (fun s => if lastN s = j then (1 : Int) else 0) []) = fun _ => (0 : Int) from rfl, List.map_const', List.length_range]
theorem TP_zero (n : Nat) : TP n [] = List.replicate n 0 := by
  unfold TP
  rw [show (fun i => EE (fun s => ((s.getD i 0 : Nat) : Int)) []) = fun _ => (0 : Int) from rfl, List.map_const', List.length_range]
/-- all ways are small here -/
theorem all_bd {x : Int} {S t : Nat} (h0 : 1 ≤ x) (h1 : x ≤ 1000000000000) (hS : S ≤ 20) (ht : t ≤ 5) : 0 < rise (x + (S : Int)) t ∧ rise (x + (S : Int)) t ≤ 2 ^ 205 ∧ 0 < rise (x + (S : Int) + 1) t ∧ rise (x + (S : Int) + 1) t ≤ 2 ^ 205 := by
  have a := rise_pos (w := x + (S : Int)) (by omega) t
  have b := rise_pos (w := x + (S : Int) + 1) (by omega) t
  have c := rise_le2 (x := x + (S : Int)) (k := 41) (by omega) t (by omega)
  have d := rise_le2 (x := x + (S : Int) + 1) (k := 41) (by omega) t (by omega)
  have e : 2 ^ (41 * t) ≤ 2 ^ 205 := Nat.pow_le_pow_right (by decide) (by omega)
  have f : (2 : Int) ^ 205 = ((2 ^ 205 : Nat) : Int) := by simp
  rw [f]
  refine ⟨a, ?_, b, ?_⟩
  · have := Nat.le_trans c e
    omega
  · have := Nat.le_trans d e
    omega
theorem shaped_two (f g : Nat → Int × Int) (l m : List Nat) : SeqAt.shaped (.list [.list (l.map fun t => shareD (f t).1 (f t).2), .list (m.map fun t => shareD (g t).1 (g t).2)]) = true := by
  have a := depth_shs f l
  have b := depth_shs g m
  simp [SeqAt.shaped, PyData.canLay0, PyData.canLayAll0, canLay_shs, PyData.depth, PyData.depthAll]
  omega
theorem shn_two2 {f g : Nat → Int × Int} {l m : List Nat} {k : Nat} (hk : k + 1 ≤ 1900) (hl : l.length ≤ 10) (hm : m.length ≤ 10) (hf : ∀ z ∈ l, 0 ≤ (f z).1 ∧ 0 < (f z).2 ∧ (f z).1 ≤ 2 ^ k ∧ (f z).2 ≤ 2 ^ k) (hg : ∀ z ∈ m, 0 ≤ (g z).1 ∧ 0 < (g z).2 ∧ (g z).1 ≤ 2 ^ k ∧ (g z).2 ≤ 2 ^ k) : ShN (.list [.list (l.map fun t => shareD (f t).1 (f t).2), .list (m.map fun t => shareD (g t).1 (g t).2)]) 200000 := by
  have one : ∀ (f : Nat → Int × Int) (l : List Nat), l.length ≤ 10 → (∀ z ∈ l, 0 ≤ (f z).1 ∧ 0 < (f z).2 ∧ (f z).1 ≤ 2 ^ k ∧ (f z).2 ≤ 2 ^ k) → ShN (.list (l.map fun t => shareD (f t).1 (f t).2)) 40000 := fun f l hl hf => by
    have := shn_list (n := 3849) (ds := l.map fun t => shareD (f t).1 (f t).2) fun d hd => by
      obtain ⟨z, hz, rfl⟩ := List.mem_map.mp hd
      obtain ⟨a, b, c, e⟩ := hf z hz
      exact ⟨shn_share a b c e hk, Nat.le_of_ble_eq_true rfl⟩
    refine ⟨this.shw, this.nod, Nat.le_trans this.len ?_, this.dep⟩
    rw [List.length_map]
    omega
  have dp : ∀ (f : Nat → Int × Int) (l : List Nat), (PyData.list (l.map fun t => shareD (f t).1 (f t).2)).depth ≤ 19 := fun f l => by
    have := depth_shs f l
    simp [PyData.depth]
    omega
  have := shn_list (n := 40000) (ds := [.list (l.map fun t => shareD (f t).1 (f t).2), .list (m.map fun t => shareD (g t).1 (g t).2)]) fun d hd => by
    rcases List.mem_cons.mp hd with e | hd
    · rw [e]
      exact ⟨one f l hl hf, dp f l⟩
    · rw [List.mem_singleton.mp hd]
      exact ⟨one g m hm hg, dp g m⟩
  exact ⟨this.shw, this.nod, Nat.le_trans this.len (by show (40000 + 2) * 2 + 3 ≤ 200000; decide), this.dep⟩
def EvDt (te : TE) (σ : L2.St) (H : Hp) (kvs : List (List L2.Key × V)) : Prop := ∀ H1, Ex H H1 → ∀ Q : VK, (∀ p H2, H1 p = none → Ex H1 H2 → H2 p = some (.dT kvs) → Q (.ref p) H2) → te σ H1 Q
section
variable {K : PySem.W.Frag} {σ : L2.St} {H : Hp} {D : Ends} {ta tb te : TE} {tr tk : TA} {tu tz : TS}
theorem edt_ways {E : XK} {h : Int} {a : Addr} {w : List Nat} {t : Nat} (e0 : EvA tr σ H [.int h, .ref a, .int (t : Int)]) (ha : H a = some (.lst (nv w))) (o : Sz w) (l4 : w.length ≤ 4) (ht : t ≤ 5) (h0 : 1 ≤ h) (h1 : h ≤ 1000000000000) : EvDt (tCall sp_law_ways [] E tr) σ H (enc (waysL h w t)) := fun H1 e Q q =>
  e0 H1 e _ fun H2 e2 => ⟨h, a, w, t, rfl, (e.trans e2) a _ ha, o, l4, ht, h0, h1, fun p H3 hp e3 h3 => q p H3 (fresh_back e2 hp) (e2.trans e3) h3⟩
theorem q_parLD {i j : Nat} {xs : List V} {kvs : List (List L2.Key × V)} (h : EvL ta σ H xs) (h2 : EvDt tb σ H kvs) (k : ∀ p q H1, H p = none → H q = none → Ex H H1 → H1 p = some (.lst xs) → H1 q = some (.dT kvs) → tz D ((σ.set i (some (.ref p))).set j (some (.ref q))) H1) : tSeq (tPar i j (tCons ta (tCons tb tNil))) tz D σ H :=
  h H (Ex.refl H) _ fun p H1 hp e1 h1 => h2 H1 e1 _ fun q H2 hq e2 h3 => ⟨_, _, rfl, k p q H2 hp (fresh_back e1 hq) (e1.trans e2) (e2 p _ h1) h3⟩
theorem q_parLL {i j : Nat} {xs ys : List V} (h : EvL ta σ H xs) (h2 : EvL tb σ H ys) (k : ∀ p q H1, H p = none → H q = none → p ≠ q → Ex H H1 → H1 p = some (.lst xs) → H1 q = some (.lst ys) → tz D ((σ.set i (some (.ref p))).set j (some (.ref q))) H1) : tSeq (tPar i j (tCons ta (tCons tb tNil))) tz D σ H :=
  h H (Ex.refl H) _ fun p H1 hp e1 h1 => h2 H1 e1 _ fun q H2 hq e2 h3 => ⟨_, _, rfl, k p q H2 hp (fresh_back e1 hq) (fun z => by
    subst z
    rw [h1] at hq
    cases hq) (e1.trans e2) (e2 p _ h1) h3⟩
theorem ev_sumVT {a : Addr} {kvs : List (List L2.Key × V)} {ns : List Int} (h : Ev ta σ H (.ref a)) (ha : H a = some (.dT kvs)) (hn : kvs.map Prod.snd = ns.map V.int) : Ev (tCB rSumVT (tCons (tBM0 K "dict" rValsT ta) tNil)) σ H (.int ns.sum) := fun H1 e Q q =>
  h H1 e _ fun H2 e2 => ⟨.inr (.inr (.inl ⟨rfl, .inr ⟨_, e2 a _ (e a _ ha)⟩⟩)), a, kvs, rfl, rfl, e2 a _ (e a _ ha), fun p hp => ⟨p, a, kvs, ns, rfl, upd_same, (Ex.new hp) a _ (e2 a _ (e a _ ha)), hn, q _ (e2.trans (Ex.new hp))⟩⟩
theorem el_repZ {n : Nat} (h : Ev tb σ H (.int (n : Int))) (hn : n ≤ 1000) : EvL (tOp rRep (tLst (tCons (tC (.int 0)) tNil)) tb) σ H ((List.replicate n (0 : Int)).map V.int) := by
  have g := el_rep (σ := σ) (H := H) (xs := [.int 0]) (k := (n : Int)) (el_lst (ea_cons ev_c ea_nil) (Nat.le_of_ble_eq_true rfl)) h (by omega) (by omega) (by show 1 ≤ 50; decide)
  have e : (List.replicate (n : Int).toNat [V.int 0]).flatten = (List.replicate n (0 : Int)).map V.int := by
    rw [Int.toNat_natCast]
    clear g hn h
    induction n with
    | zero => rfl
    | succ n ih => rw [List.replicate_succ, List.flatten_cons, ih, List.replicate_succ]; rfl
  rw [e] at g
  exact g
theorem el_listT {p : Addr} {xs : List V} (ha : Ev ta σ H (.ref p)) (h : SqT K H p xs) : EvL (tCB (rListS K) (tCons ta tNil)) σ H xs := fun H1 e Q q =>
  ha H1 e _ fun H2 e2 => ⟨p, xs, rfl, Or.inr (ex_t (e.trans e2) h), fun l hl => q l _ (fresh_back e2 hl) (e2.trans (Ex.new hl)) upd_same⟩
/-- grow_share(sizes=, weight=, later=list(state)) -/
theorem eu_growK {gV : List V → List V → List V} {s u : List Nat} {x : Int} {left : Nat} {E : XK} {a : Addr} {tc : TE} (h : Ev ta σ H (.ref a)) (ha : H a = some (.lst (nv s))) (hx : Ev tb σ H (.int x)) (h' : EvL tc σ H (nv u)) (hg : ∀ b, gV [] [.ref a, .int x, .ref b] = [.ref a, .int x, .ref b]) (o : Sz s) (up : Up s u) (h60 : u.sum ≤ 60) (hl : u.sum = s.sum + left) (h1 : 1 ≤ x) (h2 : x ≤ 1000000000000) : EvU (tCallK sp_grow gV E tNil (tCons ta (tCons tb (tCons tc tNil)))) σ H (frac (gnum x left s u (u.getLast?.getD 0)) (rise (x + (s.sum : Int)) left)) := fun H1 e Q q =>
  h H1 e _ fun H2 e2 => hx H2 (e.trans e2) _ fun H3 e3 => h' H3 (e.trans (e2.trans e3)) _ fun b H4 nb e4 hb => by
    show sp_grow (gV [] [.ref a, .int x, .ref b]) H4 Q E
    rw [hg]
    exact ⟨a, b, s, u, x, left, rfl, e4 a _ (e3 a _ (e2 a _ (e a _ ha))), hb, o, up, h60, hl, h1, h2, fun c H5 nc e5 hc => q c H5 (fresh_back (e2.trans (e3.trans e4)) nc) (e2.trans (e3.trans (e4.trans e5))) hc⟩
theorem elt_meanK {gV : List V → List V → List V} {s : List Nat} {x : Int} {m : Nat} {E : XK} {a : Addr} (h : EvA tk σ H [.ref a, .int x, .int (m : Int)]) (ha : H a = some (.lst (nv s))) (hg : gV [] [.ref a, .int x, .int (m : Int)] = [.ref a, .int x, .int (m : Int)]) (o : Sz s) (hm : m ≤ 40) (h1 : 1 ≤ x) (h2 : x ≤ 1000000000000) : EvLT (tCallK sp_mean_later gV E tNil tk) σ H (s.map (meanF x s.sum m)) := fun H1 e Q q =>
  h H1 e _ fun H2 e2 => by
    show sp_mean_later (gV [] [.ref a, .int x, .int (m : Int)]) H2 Q E
    rw [hg]
    exact ⟨a, s, x, m, rfl, (e.trans e2) a _ ha, o, hm, h1, h2, fun p ws H3 hp e3 h3 t => q p ws H3 (fresh_back e2 hp) (e2.trans e3) h3 t⟩
theorem elt_newK {gV : List V → List V → List V} {s : List Nat} {x : Int} {m : Nat} {E : XK} {a : Addr} (h : EvA tk σ H [.ref a, .int x, .int (m : Int)]) (ha : H a = some (.lst (nv s))) (hg : gV [] [.ref a, .int x, .int (m : Int)] = [.ref a, .int x, .int (m : Int)]) (o : Sz s) (hm : m ≤ 40) (h1 : 1 ≤ x) (h2 : x ≤ 1000000000000) : EvLT (tCallK sp_new_shares gV E tNil tk) σ H ((List.range (m + 1)).map fun r => frac (freshN x (s.sum : Int) m r) (rise (x + (s.sum : Int)) m)) := fun H1 e Q q =>
  h H1 e _ fun H2 e2 => by
    show sp_new_shares (gV [] [.ref a, .int x, .int (m : Int)]) H2 Q E
    rw [hg]
    exact ⟨a, s, x, m, rfl, (e.trans e2) a _ ha, o, hm, h1, h2, fun p ws H3 hp e3 h3 t => q p ws H3 (fresh_back e2 hp) (e2.trans e3) h3 t⟩
/-- [a list of tuples] -/
theorem q_oneLT {i : Nat} {rs : List (List V)} (h : EvLT te σ H rs) (k : ∀ l c ws H1, H l = none → H c = none → l ≠ c → Ex H H1 → H1 l = some (.lst [.ref c]) → H1 c = some (.lst ws) → TL H1 ws rs → tz D (σ.set i (some (.ref l))) H1) : tSeq (tAsg (tLst (tCons te tNil)) (gName i)) tz D σ H :=
  h H (Ex.refl H) _ fun c ws H1 hc e1 h1 t1 => ⟨sz_of (by show 1 ≤ 100000; decide), fun l hl => k l c ws _ (fresh_back e1 hl) hc (fun z => by
    subst z
    rw [h1] at hl
    cases hl) (e1.trans (Ex.new hl)) upd_same ((Ex.new hl) c _ h1) (t1.ex (Ex.new hl))⟩
/-- xs.append(a list of tuples) -/
theorem q_appLT {l : Addr} {xs : List V} {rs : List (List V)} (hl : H l = some (.lst xs)) (ha : Ev ta σ H (.ref l)) (h : EvLT te σ H rs) (hz : xs.length < 100000) (k : ∀ c ws H1, H c = none → Ex H H1 → H1 c = some (.lst ws) → TL H1 ws rs → c ≠ l → tz D σ (upd H1 l (.lst (xs ++ [.ref c])))) : tSeq (tDrop (tBM K "list" rAppend ta (tCons te tNil))) tz D σ H :=
  s_appE (D := { D with nx := tz D }) hl ha fun H1 e1 => h H1 e1 _ fun c ws H2 hc e2 h2 t2 => ⟨l, xs, .ref c, rfl, rfl, e2 l _ (e1 l _ hl), sz_lt hz, k c ws H2 (fresh_back e1 hc) (e1.trans e2) h2 t2 fun z => by
    subst z
    rw [e1 c _ hl] at hc
    cases hc⟩
theorem q_appN {l : Addr} {xs : List V} (hl : H l = some (.lst xs)) (ha : Ev ta σ H (.ref l)) (hz : xs.length < 100000) (k : ∀ H1, Ex H H1 → tz D σ (upd H1 l (.lst (xs ++ [.non])))) : tSeq (tDrop (tBM K "list" rAppend ta (tCons (tC .non) tNil))) tz D σ H :=
  s_appE (D := { D with nx := tz D }) hl ha fun H1 e1 => ⟨l, xs, .non, rfl, rfl, e1 l _ hl, sz_lt hz, k H1 e1⟩
/-- [a list of tuples, a list of tuples] -/
theorem q_twoLT {i : Nat} {rs ss : List (List V)} (h : EvLT ta σ H rs) (h2 : EvLT tb σ H ss) (k : ∀ l c d ws us H1, H l = none → H c = none → H d = none → Ex H H1 → H1 l = some (.lst [.ref c, .ref d]) → H1 c = some (.lst ws) → H1 d = some (.lst us) → TL H1 ws rs → TL H1 us ss → tz D (σ.set i (some (.ref l))) H1) : tSeq (tAsg (tLst (tCons ta (tCons tb tNil))) (gName i)) tz D σ H :=
  h H (Ex.refl H) _ fun c ws H1 hc e1 h1 t1 => h2 H1 e1 _ fun d us H2 hd e2 h2 t2 => ⟨sz_of (by show 2 ≤ 100000; decide), fun l hl => k l c d ws us _ (fresh_back (e1.trans e2) hl) hc (fresh_back e1 hd) (e1.trans (e2.trans (Ex.new hl))) upd_same ((Ex.new hl) c _ (e2 c _ h1)) ((Ex.new hl) d _ h2) ((t1.ex e2).ex (Ex.new hl)) (t2.ex (Ex.new hl))⟩
end

local macro_rules | `(tactic| walk_at "call") => `(tactic| (with_reducible exact sv_whole))
local macro_rules | `(tactic| walk_at "call") => `(tactic| (with_reducible exact sv_between))
local macro_rules | `(tactic| walk_at "call") => `(tactic| ((with_reducible refine' sv_check1 ?c1 ?c2); (case c1 => walk_at "side"); (case c2 => walk_at "side")))
local macro_rules | `(tactic| walk_at "call") => `(tactic| ((with_reducible refine' sv_check_number ?c1 ?c2); (case c1 => walk_at "side"); (case c2 => walk_at "side")))
local macro_rules | `(tactic| walk_at "callU") => `(tactic| ((with_reducible refine' su_fraction ?c1 ?c2); (case c1 => walk_at "side"); (case c2 => walk_at "side")))
local macro_rules | `(tactic| walk_at "call") => `(tactic| ((with_reducible refine' sv_rise ?c1 ?c2); (case c1 => walk_at "side"); (case c2 => walk_at "side")))

def sp_law_right : Sp := fun vs H Q _ => ∃ (x : Int) (a : Addr) (w : List Nat) (t : Nat), vs = [.int x, .ref a, .int (t : Int)] ∧ H a = some (.lst (nv w)) ∧ Sz w ∧ w.length ≤ 4 ∧ t ≤ 5 ∧ 1 ≤ x ∧ x ≤ 1000000000000 ∧ ∀ H', Ex H H' → Q (.bl true) H'
theorem gnum_ways {h : Int} {w : List Nat} {t : Nat} {s : List Nat} {p : Int} (hw : ∀ x ∈ w, 1 ≤ x) (hm : (s, p) ∈ waysL h w t) : gnum h t w s (lastN s) = p := by
  have W := ways_ok h hw t
  have u := W.up s (List.mem_map.mpr ⟨(s, p), hm, rfl⟩)
  have v := W.val s u.1 u.2
  rw [u.1.GG] at v
  have e : atW (waysL h w t) s = p := by
    have nd := W.nd
    generalize waysL h w t = L at *
    clear W u v
    induction L with
    | nil => exact nomatch hm
    | cons q r ih =>
      obtain ⟨b, y⟩ := q
      rw [List.map_cons, List.nodup_cons] at nd
      rw [atW_cons]
      rcases List.mem_cons.mp hm with z | z
      · cases z
        rw [if_pos rfl]
      · rw [if_neg fun k => nd.1 (List.mem_map.mpr ⟨(s, p), z, k.symm⟩), ih z nd.2]
  rw [← e, v]
  unfold gnum KK
  rw [gcho_one]
theorem sh_share {a b : Int} (ha : 0 ≤ a) (hb : 0 < b) (h1 : a ≤ 2 ^ 220) (h2 : b ≤ 2 ^ 220) : ShN (shareD a b) 3849 := shn_share ha hb h1 h2 (by decide)
section
variable {P : Program} {w : World} {K : PySem.W.Frag} {mg : Str → Option Value} {base : Heap}
theorem ok_law_right (T : Tx K mg) : FnOkG P w K mg base 7 T.f_law_right T.d_law_right ["heavy", "wide", "many_more"] sp_law_right := by
  refine funG T.F_law_right sc_law_right (fun vs H Q E h => ?_) (fun cdv A outer s0 H vs Q E hg hr h => ?_)
  · obtain ⟨x, a, ww, t, rfl, _⟩ := h
    rfl
  · obtain ⟨x, a, ww, t, rfl, ha, o, l4, ht, h1, h2, k⟩ := h
    refine ⟨_, (pss_cons (ps_par (i := 3) (j := 4) (by rfl) sc_law_right.nd rfl rfl (by decide) rfl rfl (pa_cons (pe_callTy call_listR (by rfl) T.m_list (by decide +kernel) (pa_cons (pv 1) pa_nil)) (pa_cons (pe_call (ok_law_ways T) (hr.mono (by decide)) (by rfl) T.g_law_ways T.F_law_ways.kp T.b_law_ways .nil pass0 (pa_cons (pv 0) (pa_cons (pv 1) (pa_cons (pv 2) pa_nil)))) pa_nil)) (by rfl))
      (pss_cons (ps_set (i := 5) sc_law_right.nd rfl (Or.inr rfl) (pe_call (ok_law_rising T) (hr.mono (by decide)) (by rfl) T.g_law_rising T.F_law_rising.kp T.b_law_rising .nil pass0 (pa_cons (pe_op op_add (pv 0) (pe_callB (cr_sum rfl) (by rfl) T.m_sum (by decide +kernel) (pa_cons (pv 1) pa_nil))) (pa_cons (pv 2) pa_nil))))
      (pss_cons (ps_if (pt_cmpR op_ne (pe_callB (id := "sum") (r := rSumVT) (cr_sumVT rfl) (by rfl) T.m_sum (by decide +kernel) (pa_cons (pe_bm0 PySem.F.plainAttrs_dict PySem.F.slot_dict_values PySem.F.type_dict_values mt_valsT (pv 4)) pa_nil)) (pv 5) (nomark _)) (pss_one (ps_ret pe_bl)) pss_nil)
      (pss_cons (ps_par (i := 6) (j := 7) (by rfl) sc_law_right.nd rfl rfl (by decide) rfl rfl (pa_cons (pe_op op_rep (pe_lst (pa_cons pe_int pa_nil)) (pe_op op_add (pv 2) pe_int)) (pa_cons (pe_op op_rep (pe_lst (pa_cons pe_int pa_nil)) (pe_callB call_lenR (by rfl) T.m_len (by decide +kernel) (pa_cons (pv 1) pa_nil))) pa_nil)) (by rfl))
      (pss_cons (ps_lock (ps_for PassesOwn.never rfl (pi_itemsT (pv 4)) (pg_tup rfl (pgs_cons (pg_name (i := 8) sc_law_right.nd rfl (Or.inl rfl)) (pgs_cons (pg_name (i := 9) sc_law_right.nd rfl (Or.inr rfl)) pgs_nil))) (pss_cons (ps_set (i := 10) sc_law_right.nd rfl (Or.inl rfl) (pe_callK0 (ok_grow_share T) (hr.mono (by decide)) (by rfl) T.g_grow_share T.F_grow_share.kp T.kb_grow_share_0_sizes_weight_later pass0 (pk_cons (pv 1) (pk_cons (pv 0) (pk_cons (pe_callTy call_listR (by rfl) T.m_list (by decide +kernel) (pa_cons (pv 8) pa_nil)) pk_nil)))))
      (pss_cons (ps_if (pt_cmpR op_ne (pe_callB (id := "repr") (r := rRepr K) (call_reprD hg hr.units) (by rfl) T.m_repr (by decide +kernel) (pa_cons (pv 10) pa_nil)) (pe_callB (id := "repr") (r := rRepr K) (call_reprD hg hr.units) (by rfl) T.m_repr (by decide +kernel) (pa_cons (pe_call (ok_law_lowest T) (hr.mono (by decide)) (by rfl) T.g_law_lowest T.F_law_lowest.kp T.b_law_lowest .nil pass0 (pa_cons (pv 9) (pa_cons (pv 5) pa_nil))) pa_nil)) (nomark _)) (pss_one (ps_ret pe_bl)) pss_nil)
      (pss_cons (ps_asg (pe_op op_add (pe_ix ix_list (pv 6) (pe_ix ix_tup (pv 8) (pe_un un_neg pe_int) (fun _ _ => rfl)) (fun _ _ => rfl)) (pv 9)) (pg_sub (pv 6) (pe_ix ix_tup (pv 8) (pe_un un_neg pe_int) (fun _ _ => rfl)) set_list))
      (pss_one (ps_setLc (i := 7) (own := [("top", 11), ("far", 12)]) (g := (gTup _ 2 (gCons (gName 11) (gCons (gName 12) gNil)))) (tt := tYes) rfl sc_law_right.nd rfl rfl (sw_true rfl rfl rfl (by decide +kernel)) (pi_zipM (by rfl) T.m_zip (pa_cons (pv 7) (pa_cons (pv 8) pa_nil))) (blkOk_by (own := [("top", 11), ("far", 12)]) (N := n_law_right) (sc := defScope s_law_right) (by decide +kernel)) (fun _ _ _ _ _ => (pg_tup rfl (pgs_cons (pg_name (i := 11) sc_law_right.nd rfl (Or.inl rfl)) (pgs_cons (pg_name (i := 12) sc_law_right.nd rfl (Or.inl rfl)) pgs_nil)))) (fun _ _ _ _ _ => pts_nil) (fun _ _ _ _ _ => (pe_op op_add (pv 11) (pe_op op_mulX (pv 12) (pv 9)))))))))))
      (pss_cons (ps_set (i := 10) sc_law_right.nd rfl (Or.inl rfl) (pe_lst (pa_cons (pe_callK0 (ok_mean_later T) (hr.mono (by decide)) (by rfl) T.g_mean_later T.F_mean_later.kp T.kb_mean_later_0_sizes_weight_number pass0 (pk_cons (pv 1) (pk_cons (pv 0) (pk_cons (pv 2) pk_nil)))) pa_nil)))
      (pss_cons (ps_expr (pe_bm PySem.F.plainAttrs_list PySem.F.slot_list_append PySem.F.type_list_append mt_append (pv 10) (pa_cons (pe_callK0 (ok_new_shares T) (hr.mono (by decide)) (by rfl) T.g_new_shares T.F_new_shares.kp T.kb_new_shares_0_sizes_weight_number pass0 (pk_cons (pv 1) (pk_cons (pv 0) (pk_cons (pv 2) pk_nil)))) pa_nil)))
      (pss_cons (ps_set (i := 13) sc_law_right.nd rfl (Or.inl rfl) (pe_lst (pa_cons (pe_lc (own := [("top", 11)]) (g := (gName 11)) (tt := tYes) rfl sc_law_right.nd (pi_list (pv 7)) (blkOk_by (own := [("top", 11)]) (N := n_law_right) (sc := defScope s_law_right) (by decide +kernel)) (fun _ _ _ _ _ => (pg_name (i := 11) sc_law_right.nd rfl (Or.inl rfl))) (fun _ _ _ _ _ => pts_nil) (fun _ _ _ _ _ => (pe_call (ok_law_lowest T) (hr.mono (by decide)) (by rfl) T.g_law_lowest T.F_law_lowest.kp T.b_law_lowest .nil pass0 (pa_cons (pv 11) (pa_cons (pv 5) pa_nil))))) (pa_cons (pe_lc (own := [("part", 9)]) (g := (gName 9)) (tt := tYes) rfl sc_law_right.nd (pi_list (pv 6)) (blkOk_by (own := [("part", 9)]) (N := n_law_right) (sc := defScope s_law_right) (by decide +kernel)) (fun _ _ _ _ _ => (pg_name (i := 9) sc_law_right.nd rfl (Or.inl rfl))) (fun _ _ _ _ _ => pts_nil) (fun _ _ _ _ _ => (pe_call (ok_law_lowest T) (hr.mono (by decide)) (by rfl) T.g_law_lowest T.F_law_lowest.kp T.b_law_lowest .nil pass0 (pa_cons (pv 9) (pa_cons (pv 5) pa_nil))))) pa_nil))))
      (pss_cons (ps_if (pt_cmpR op_ne (pe_callB (id := "repr") (r := rRepr K) (call_reprD hg hr.units) (by rfl) T.m_repr (by decide +kernel) (pa_cons (pv 10) pa_nil)) (pe_callB (id := "repr") (r := rRepr K) (call_reprD hg hr.units) (by rfl) T.m_repr (by decide +kernel) (pa_cons (pv 13) pa_nil)) (nomark _)) (pss_one (ps_ret pe_bl)) pss_nil)
      (pss_cons (ps_expr (pe_bm PySem.F.plainAttrs_list PySem.F.slot_list_append PySem.F.type_list_append mt_append (pe_ix ix_list (pv 10) pe_int (fun _ _ => rfl)) (pa_cons pe_non pa_nil)))
      (pss_cons (ps_expr (pe_bm PySem.F.plainAttrs_list PySem.F.slot_list_append PySem.F.type_list_append mt_append (pe_ix ix_list (pv 10) pe_int (fun _ _ => rfl)) (pa_cons pe_non pa_nil)))
      (pss_cons (ps_set (i := 10) sc_law_right.nd rfl (Or.inl rfl) (pe_lst (pa_cons (pe_call (ok_mean_later T) (hr.mono (by decide)) (by rfl) T.g_mean_later T.F_mean_later.kp T.b_mean_later .nil pass0 (pa_cons (pv 1) (pa_cons (pv 0) (pa_cons (pv 2) pa_nil)))) (pa_cons (pe_call (ok_new_shares T) (hr.mono (by decide)) (by rfl) T.g_new_shares T.F_new_shares.kp T.b_new_shares .nil pass0 (pa_cons (pv 1) (pa_cons (pv 0) (pa_cons (pv 2) pa_nil)))) pa_nil))))
      (pss_one (ps_ret (pe_and (pe_cmpR (op_eqD hr.units) (pv 10) (pv 13) (nomark _)) (pe_one (pe_cmpR (op_eqD hr.units) (pv 1) (pv 3) (nomark _)))))))))))))))))), ?_⟩
    have s20 := o.2.2
    have W := ways_ok x o.2.1 t
    have pos := ways_pos (h := x) (by omega) ww t
    have bd := ways_bd o h1 h2 (t := t) (by omega)
    have gn : ∀ {s p}, (s, p) ∈ waysL x ww t → gnum x t ww s (lastN s) = p := fun hm => gnum_ways o.2.1 hm
    have tight := all_bd h1 h2 s20 ht
    have pow : (2 : Int) ^ 205 ≤ 2 ^ 220 := by decide +kernel
    refine q_parLD (el_list (ev_var rfl) (sq_of ha)) (edt_ways (ea_cons (ev_var rfl) (ea_cons (ev_var rfl) (ea_cons (ev_var rfl) ea_nil))) ha o l4 ht h1 h2) fun kp d H1 hkp hd e1 hk1 hd1 => ?_
    generalize hL : waysL x ww t = L at *
    have ha1 := e1 a _ ha
    have sa := ev_sumV (K := K) (ta := tVar 1) (σ := (start n_law_right [.int x, .ref a, .int (t : Int)]).set 3 (some (.ref kp)) |>.set 4 (some (.ref d))) (ns := iz ww) (ev_var (i := 1) (v := .ref a) rfl) (sq_of ha1)
    rw [iz_sum] at sa
    refine q_asg (v := .int (rise (x + (ww.sum : Int)) t)) (ev_call (ea_cons (ev_op (ev_var rfl) sa rv_I0) (ea_cons (ev_var rfl) ea_nil)) (sv_rise (by omega) (by omega))) fun H2 e2 => ?_
    have hd2 := e2 d _ hd1
    have hk2 := e2 kp _ hk1
    have ha2 := e2 a _ ha1
    have Wh := W.one
    generalize hW : rise (x + (ww.sum : Int)) t = Wl at *
    have sumL : (L.map (·.2)).sum = Wl := by rw [EE_snd, Wh]
    refine q_when (b := false) (et_is (et_test (ev_op (ev_sumVT (K := K) (kvs := enc L) (ns := L.map (·.2)) (ev_var rfl) hd2 (by unfold enc; rw [List.map_map, List.map_map]; rfl)) (ev_var rfl) (rv_ne rfl))) (by rw [sumL]; simp)) (fun hb => Bool.noConfusion hb) fun _ H3 e3 => ?_
    have hd3 := e3 d _ hd2
    have hk3 := e3 kp _ hk2
    have ha3 := e3 a _ ha2
    refine q_parLL (xs := (FR t []).map V.int) (ys := (TP ww.length []).map V.int) ?_ ?_ fun f tp H4 hf htp ftp e4 hf4 ht4 => ?_
    · rw [FR_zero]
      exact el_repZ (n := t + 1) (ev_is (ev_op (ev_var rfl) ev_c rv_I0) (by congr 1)) (by omega)
    · rw [TP_zero]
      have := ev_len (K := K) (ta := tVar 1) (σ := [some (.int x), some (.ref a), some (.int (t : Int)), some (.ref kp), some (.ref d), some (.int Wl), none, none, none, none, none, none, none, none]) (H := H3) (ev_var (i := 1) (v := .ref a) rfl) (sq_of ha3)
      rw [nv_len] at this
      exact el_repZ (n := ww.length) this (by omega)
    have E4 : Ex H H4 := e1.trans (e2.trans (e3.trans e4))
    have fH : H f = none := fresh_back (e1.trans (e2.trans e3)) hf
    have nf : f ≠ d := fun z => by
      subst z
      rw [hd3] at hf
      cases hf
    have nfa : f ≠ a := fun z => by
      subst z
      rw [ha3] at hf
      cases hf
    have nfk : f ≠ kp := fun z => by
      subst z
      rw [hk3] at hf
      cases hf
    refine q_forItT (d := d) (kvs := enc L) (fun _ => ev_var rfl) (e4 d _ hd3) (fun o' k σ' H5 => ∃ (tp : Addr) (y8 y9 y10 y11 y12 y13 : Option V), σ' = [some (.int x), some (.ref a), some (.int (t : Int)), some (.ref kp), some (.ref d), some (.int Wl), some (.ref f), some (.ref tp), y8, y9, y10, y11, y12, y13] ∧ Ex H H5 ∧ H5 d = some (.frz o' (.dT (enc L))) ∧ H5 kp = some (.lst (nv ww)) ∧ H5 f = some (.lst ((FR t (L.take k)).map V.int)) ∧ H5 tp = some (.lst ((TP ww.length (L.take k)).map V.int)) ∧ f ≠ tp)
      (fun o' H5 e5 => ?_) (fun o' k σ' H5 _ ⟨_, _, _, _, _, _, _, _, _, h, _⟩ => h) ?_ ?_
    · have nb : ∀ {b : Addr} {u : HO}, H4 b = some u → b ≠ d → H5 b = some u := fun {b u} hb z => e5 b u (by rw [upd_ne z]; exact hb)
      refine ⟨tp, none, none, none, none, none, none, rfl, (fun b u hb => nb (E4 b u hb) fun z => by
        rw [z, hd] at hb
        cases hb), e5 d _ upd_same, nb (e4 kp _ hk3) (ne_of hk3 hd3 fun z => nomatch z), nb hf4 nf, nb ht4 (ne_of ht4 (e4 d _ hd3) fun z => nomatch z), ftp⟩
    · rintro o' j key v q σ' H5 H6 hj hq ⟨tp, y8, y9, y10, y11, y12, y13, rfl, e5, hd5, hk5, hf5, ht5, ftp⟩ e6
      obtain ⟨s, p, hs, rfl, rfl⟩ := enc_get hj
      rw [kk_val] at hq
      have hm := List.mem_of_getElem? hs
      have u := W.up s (List.mem_map.mpr ⟨(s, p), hm, rfl⟩)
      have ul := u.1.len
      have us := u.1.sum
      have hls : lastN s ≤ t := by
        have := u.2
        unfold lastN
        omega
      have hgn := gn hm
      have hp0 := pos _ hm
      have hp1 := (EE_one_ge pos).2 _ hm
      rw [Wh] at hp1
      have ha6 := e6 a _ (e5 a _ ha)
      have hq6 := e6 q _ hq
      refine q_asgU (xs := frac p Wl) ?_ fun c H7 hc e7 hc7 => ?_
      · have g := eu_growK (E := E0) (gV := v_K33_kb_grow_share_0_sizes_weight_later) (ta := tVar 1) (tb := tVar 0) (tc := tCB (rListS K) (tCons (tVar 8) tNil)) (σ := [some (.int x), some (.ref a), some (.int (t : Int)), some (.ref kp), some (.ref d), some (.int Wl), some (.ref f), some (.ref tp), some (.ref q), some (.int p), y10, y11, y12, y13]) (H := H6) (left := t) (ev_var (i := 1) (v := .ref a) rfl) ha6 (ev_var (i := 0) (v := .int x) rfl) (el_listT (ev_var (i := 8) (v := .ref q) rfl) (st_of hq6)) (fun _ => rfl) o u.1 (by omega) u.2 h1 h2
        rw [show s.getLast?.getD 0 = lastN s from rfl, hgn, hW] at g
        exact g
      have wp : 0 < Wl := tight.1
      have shp := sh_share hp0 wp (Int.le_trans hp1 (Int.le_trans tight.2.1 pow)) (Int.le_trans tight.2.1 pow)
      have hWn : Wl.natAbs < 2 ^ 8000 := by
        have : Wl.natAbs ≤ 2 ^ 205 := by
          have e : (2 : Int) ^ 205 = ((2 ^ 205 : Nat) : Int) := by simp
          have := tight.2.1
          rw [e] at this
          omega
        exact Nat.lt_of_le_of_lt this (Nat.pow_lt_pow_right (by decide) (by decide))
      refine q_when (b := false) (et_is (et_test (ev_op (ev_reprN (d := shareD p Wl) (ed_of (ev_var rfl) (.tup (st_of hc7) (dpa_frac p Wl))) rfl shp (by decide)) (ev_reprN (d := shareD p Wl) (ed_frac (eu_call (ea_cons (ev_var rfl) (ea_cons (ev_var rfl) ea_nil)) (su_lowest hp0 wp hWn))) rfl shp (by decide)) (rv_ne rfl))) (by simp)) (fun hb => Bool.noConfusion hb) fun _ H8 e8 => ?_
      have E8 : Ex H5 H8 := e6.trans (e7.trans e8)
      have hf8 := E8 f _ hf5
      have sne : s ≠ [] := fun z => by
        rw [z] at ul
        simp at ul
      have last := nv_last sne
      have lastE : ∀ (σ : L2.St) (H9 : Hp), σ[8]? = some (some (.ref q)) → Ex H8 H9 → Ev (tOp (rIxT K) (tVar 8) (tUn (rU fun i => .int (-i)) (tC (.int 1)))) σ H9 (.int ((lastN s : Nat) : Int)) := fun σ H9 h0 e9 => ev_op (ev_var h0) (ev_un ev_c ru_neg) (rv_ixT (K := K) (st_of (e9 q _ (E8 q _ hq))) last)
      have gf := FR_get (t := t) (L.take j) hls
      refine q_setL (l := f) (xs := (FR t (L.take j)).map V.int) (j := lastN s) (v := .int (EE (fun c => if lastN c = lastN s then 1 else 0) (L.take j) + p)) hf8 (ev_op (ev_op (ev_var rfl) (by exact lastE _ _ rfl (Ex.refl _)) (rv_ixL (K := K) (sq_of hf8) (atI_nat (by rw [List.getElem?_map, gf]; rfl)))) (ev_var rfl) rv_I0) (ev_var rfl) (by exact lastE _ _ rfl (Ex.refl _)) (by rw [List.length_map, FR_len]; omega) fun H9 e9 => ?_
      have eset : ((FR t (L.take j)).map V.int).set (lastN s) (.int (EE (fun c => if lastN c = lastN s then 1 else 0) (L.take j) + p)) = (FR t (L.take (j + 1))).map V.int := by
        rw [← FR_next hs, List.map_set]
      rw [eset]
      have ht9 := e9 tp _ (E8 tp _ ht5)
      have hq9 := e9 q _ (E8 q _ hq)
      have hpb := (bd _ hm).2
      refine s_asgL (xs := (TP ww.length (L.take (j + 1))).map V.int) ?_ fun tq H10 hq10 e10 ht10 => ?_
      · rw [← TP_next hs ul]
        refine el_zipM (n := ww.length) (addF p) (ea_cons (ev_var rfl) (ea_cons (ev_var rfl) ea_nil)) (sq_of (K := K) (xs := (TP ww.length (L.take j)).map V.int) (by rw [upd_ne (Ne.symm ftp)]; exact ht9)) (st_of (K := K) (xs := nv s) (by rw [upd_ne (ne_of hq9 (e9 f _ hf8) fun z => nomatch z)]; exact hq9)) (by rw [List.length_map, TP_len, nv_len]; omega) (by omega) (fun _ _ => rfl) fun n y z H11 e11 hy hz => ?_
        rw [List.getElem?_map] at hy
        obtain ⟨ty, hty, rfl⟩ := Option.map_eq_some_iff.mp hy
        rw [nv_eq, List.getElem?_map] at hz
        obtain ⟨tz, htz, rfl⟩ := Option.map_eq_some_iff.mp hz
        have := mem_le_sum (List.mem_of_getElem? htz)
        have us2 := u.2
        have m1 : CMulX (tz : Int) p := mulx_ok (a := 64) (b := 2600) (by omega) hpb (by decide)
        exact ev_op (ev_var rfl) (ev_op (ev_var rfl) (ev_var rfl) (rv_I m1)) rv_I0
      have fq : f ≠ tq := fun z => by
        subst z
        rw [upd_same] at hq10
        cases hq10
      refine ⟨tq, _, _, _, _, _, _, rfl, (Ex.mut (e5.trans (E8.trans e9)) fH).trans e10, e10 d _ ?_, e10 kp _ ?_, e10 f _ upd_same, ht10, fq⟩
      · rw [upd_ne (Ne.symm nf)]
        exact e9 d _ (E8 d _ hd5)
      · rw [upd_ne (Ne.symm nfk)]
        exact e9 kp _ (E8 kp _ hk5)
    · rintro o' σ' H5 ⟨tp, y8, y9, y10, y11, y12, y13, rfl, e5, hd5, hk5, hf5, ht5, ftp⟩
      rw [List.take_of_length_le (by unfold enc; rw [List.length_map]; omega)] at hf5 ht5
      have hdH : H d = none := hd
      have E6 : Ex H (upd H5 d (.dT (enc L))) := Ex.mut e5 hdH
      have hk6 : (upd H5 d (.dT (enc L))) kp = some (.lst (nv ww)) := by
        rw [upd_ne (ne_of hk5 hd5 fun z => nomatch z)]
        exact hk5
      have hf6 : (upd H5 d (.dT (enc L))) f = some (.lst ((FR t L).map V.int)) := by
        rw [upd_ne nf]
        exact hf5
      have ht6 : (upd H5 d (.dT (enc L))) tp = some (.lst ((TP ww.length L).map V.int)) := by
        rw [upd_ne (ne_of ht5 hd5 fun z => nomatch z)]
        exact ht5
      generalize upd H5 d (.dT (enc L)) = H6 at *
      have ha6 := E6 a _ ha
      have wp : 0 < Wl := tight.1
      have hWn : Wl.natAbs < 2 ^ 8000 := by
        have : Wl.natAbs ≤ 2 ^ 205 := by
          have e : (2 : Int) ^ 205 = ((2 ^ 205 : Nat) : Int) := by simp
          have := tight.2.1
          rw [e] at this
          omega
        exact Nat.lt_of_le_of_lt this (Nat.pow_lt_pow_right (by decide) (by decide))
      refine q_oneLT (rs := ww.map (meanF x ww.sum t)) (elt_meanK (a := a) (s := ww) (x := x) (m := t) (ea_cons (ev_var rfl) (ea_cons (ev_var rfl) (ea_cons (ev_var rfl) ea_nil))) ha6 rfl o (by omega) h1 h2) fun l c ws H7 hl hc lc e7 hl7 hc7 t7 => ?_
      refine q_appLT (l := l) (rs := (List.range (t + 1)).map fun r => frac (freshN x (ww.sum : Int) t r) (rise (x + (ww.sum : Int)) t)) hl7 (ev_var rfl) (elt_newK (a := a) (s := ww) (x := x) (m := t) (ea_cons (ev_var rfl) (ea_cons (ev_var rfl) (ea_cons (ev_var rfl) ea_nil))) (e7 a _ ha6) rfl o (by omega) h1 h2) (by show 1 < 100000; decide) fun c2 ws2 H8 hc2 e8 hc28 t8 c2l => ?_
      rw [hW] at t8
      have hl8 := e8 l _ hl7
      have E8 : Ex H6 (upd H8 l (.lst ([.ref c] ++ [.ref c2]))) := Ex.mut (e7.trans e8) hl
      have q_l : (upd H8 l (.lst ([.ref c] ++ [.ref c2]))) l = some (.lst [.ref c, .ref c2]) := upd_same
      have q_c : (upd H8 l (.lst ([.ref c] ++ [.ref c2]))) c = some (.lst ws) := by
        rw [upd_ne (Ne.symm lc)]
        exact e8 c _ hc7
      have q_c2 : (upd H8 l (.lst ([.ref c] ++ [.ref c2]))) c2 = some (.lst ws2) := by
        rw [upd_ne c2l]
        exact hc28
      have q_t : TL (upd H8 l (.lst ([.ref c] ++ [.ref c2]))) ws (ww.map (meanF x ww.sum t)) := (t7.ex e8).upd hl8
      have q_t2 : TL (upd H8 l (.lst ([.ref c] ++ [.ref c2]))) ws2 ((List.range (t + 1)).map fun r => frac (freshN x (ww.sum : Int) t r) Wl) := t8.upd hl8
      have cH : H6 c = none := hc
      have c2H : H6 c2 = none := fresh_back e7 hc2
      have cc2 : c ≠ c2 := fun z => by
        subst z
        rw [hc7] at hc2
        cases hc2
      generalize upd H8 l (.lst ([.ref c] ++ [.ref c2])) = H8' at *
      have ha8 := E8 a _ ha6
      have hf8 := E8 f _ hf6
      have ht8 := E8 tp _ ht6
      have hk8 := E8 kp _ hk6
      refine q_twoLT (rs := ww.map (meanF x ww.sum t)) (ss := (List.range (t + 1)).map fun r => frac (freshN x (ww.sum : Int) t r) Wl) ?_ ?_ fun dl c3 c4 ws3 ws4 H9 hdl hc3 hc4 e9 hdl9 hc39 hc49 t39 t49 => ?_
      · have g := elt_map (K := K) (te := tCall sp_lowest [] E0 (tCons (tVar 11) (tCons (tVar 5) tNil))) (tl := tVar 7) (j := 11) (vs := [11]) (H := H8') (xs := (TP ww.length L).map V.int) (σ := [some (.int x), some (.ref a), some (.int (t : Int)), some (.ref kp), some (.ref d), some (.int Wl), some (.ref f), some (.ref tp), y8, y9, some (.ref l), y11, y12, y13]) (fun i => meanF x ww.sum t (ww.getD i 0)) (ev_var rfl) (sq_of ht8) (by rw [List.length_map, TP_len]; omega) (fun _ => rfl) fun i v H9 e9 hv => ?_
        · have e : (List.range ((TP ww.length L).map V.int).length).map (fun i => meanF x ww.sum t (ww.getD i 0)) = ww.map (meanF x ww.sum t) := by
            rw [List.length_map, TP_len]
            exact map_getD (meanF x ww.sum t) ww
          rw [e] at g
          exact g
        · rw [List.getElem?_map] at hv
          obtain ⟨z, hz, rfl⟩ := Option.map_eq_some_iff.mp hv
          have il := (List.getElem?_eq_some_iff.mp hz).1
          rw [TP_len] at il
          have ez : z = ((ww.getD i 0 : Nat) : Int) * rise (x + (ww.sum : Int) + 1) t := by
            unfold TP at hz
            rw [List.getElem?_map, List.getElem?_range il] at hz
            rw [← W.size i il]
            exact (Option.some.inj hz).symm
          have ru := rise_up (x + (ww.sum : Int)) t
          rw [hW] at ru
          have e : meanF x ww.sum t (ww.getD i 0) = frac z Wl := by
            unfold meanF
            refine frac_eq (by omega) wp ?_
            rw [ez]
            generalize rise (x + (ww.sum : Int) + 1) t = R at *
            generalize ((ww.getD i 0 : Nat) : Int) = G
            grind
          rw [e]
          refine eu_call (ea_cons (ev_var rfl) (ea_cons (ev_var rfl) ea_nil)) (su_lowest ?_ wp hWn)
          rw [ez]
          exact Int.mul_nonneg (by omega) (by have := tight.2.2.1; omega)
      · have g := elt_map (K := K) (te := tCall sp_lowest [] E0 (tCons (tVar 9) (tCons (tVar 5) tNil))) (tl := tVar 6) (j := 9) (vs := [9]) (H := H8') (xs := (FR t L).map V.int) (σ := [some (.int x), some (.ref a), some (.int (t : Int)), some (.ref kp), some (.ref d), some (.int Wl), some (.ref f), some (.ref tp), y8, y9, some (.ref l), y11, y12, y13]) (fun r => frac (freshN x (ww.sum : Int) t r) Wl) (ev_var rfl) (sq_of hf8) (by rw [List.length_map, FR_len]; omega) (fun _ => rfl) fun i v H9 e9 hv => ?_
        · rw [List.length_map, FR_len] at g
          exact g
        · rw [List.getElem?_map] at hv
          obtain ⟨z, hz, rfl⟩ := Option.map_eq_some_iff.mp hv
          have il := (List.getElem?_eq_some_iff.mp hz).1
          rw [FR_len] at il
          have ez : z = freshN x (ww.sum : Int) t i := by
            rw [FR_get L (by omega), W.last] at hz
            exact (Option.some.inj hz).symm
          subst ez
          have := (freshN_bd (x := x) (S := (ww.sum : Int)) (m := t) (r := i) h1 h2 (by have := o.pos; omega) (by omega) (by omega) (by omega)).1
          exact eu_call (ea_cons (ev_var rfl) (ea_cons (ev_var rfl) ea_nil)) (su_lowest this wp hWn)
      have hl9 := e9 l _ q_l
      have hc9 := e9 c _ q_c
      have hc29 := e9 c2 _ q_c2
      have t9 := q_t.ex e9
      have t29 := q_t2.ex e9
      have ha9 := e9 a _ ha8
      have hk9 := e9 kp _ hk8
      have mf : ww.map (meanF x ww.sum t) = ww.map fun z : Nat => frac ((fun z : Nat => ((z : Int) * ((ww.sum : Int) + x + t), (ww.sum : Int) + x)) z).1 ((fun z : Nat => ((z : Int) * ((ww.sum : Int) + x + t), (ww.sum : Int) + x)) z).2 := rfl
      have nf2 : ((List.range (t + 1)).map fun r => frac (freshN x (ww.sum : Int) t r) Wl) = (List.range (t + 1)).map fun r => frac ((fun r : Nat => (freshN x (ww.sum : Int) t r, Wl)) r).1 ((fun r : Nat => (freshN x (ww.sum : Int) t r, Wl)) r).2 := rfl
      have shp := shaped_two (fun z : Nat => ((z : Int) * ((ww.sum : Int) + x + t), (ww.sum : Int) + x)) (fun r : Nat => (freshN x (ww.sum : Int) t r, Wl)) ww (List.range (t + 1))
      have frb : ∀ r, 0 ≤ freshN x (ww.sum : Int) t r ∧ freshN x (ww.sum : Int) t r ≤ Wl := fun r => by
        have := EE_le (L := L) (g := fun s => if lastN s = r then (1 : Int) else 0) (f := fun _ => 1) pos fun s => by
          by_cases z : lastN s = r <;> simp [z]
        rw [W.last, Wh] at this
        exact this
      have shn := shn_two2 (f := fun z : Nat => ((z : Int) * ((ww.sum : Int) + x + t), (ww.sum : Int) + x)) (g := fun r : Nat => (freshN x (ww.sum : Int) t r, Wl)) (l := ww) (m := List.range (t + 1)) (k := 220) (by decide) (by omega) (by rw [List.length_range]; omega) (fun z hz => by
          have := mem_le_sum hz
          have p220 : (10 : Int) ^ 20 ≤ 2 ^ 220 := by decide +kernel
          have m1 : (z : Int) * ((ww.sum : Int) + x + t) ≤ 20 * ((ww.sum : Int) + x + t) := Int.mul_le_mul_of_nonneg_right (by omega) (by omega)
          refine ⟨Int.mul_nonneg (by omega) (by omega), by omega, ?_, ?_⟩
          · show (z : Int) * ((ww.sum : Int) + x + t) ≤ 2 ^ 220
            omega
          · show (ww.sum : Int) + x ≤ 2 ^ 220
            omega) (fun r _ => ⟨(frb r).1, wp, Int.le_trans (frb r).2 (Int.le_trans tight.2.1 pow), Int.le_trans tight.2.1 pow⟩)
      rw [mf] at t9 t39
      rw [nf2] at t29 t49
      generalize hdt : (PyData.list [.list (ww.map fun t_1 : Nat => shareD ((fun z : Nat => ((z : Int) * ((ww.sum : Int) + x + t), (ww.sum : Int) + x)) t_1).1 ((fun z : Nat => ((z : Int) * ((ww.sum : Int) + x + t), (ww.sum : Int) + x)) t_1).2), .list ((List.range (t + 1)).map fun t_1 : Nat => shareD ((fun r : Nat => (freshN x (ww.sum : Int) t r, Wl)) t_1).1 ((fun r : Nat => (freshN x (ww.sum : Int) t r, Wl)) t_1).2)]) = dat at *
      have dp : ∀ {Hx : Hp} {l c d : Addr} {us vs : List V}, Hx l = some (.lst [.ref c, .ref d]) → Hx c = some (.lst us) → Hx d = some (.lst vs) → TL Hx us (ww.map fun z : Nat => frac ((fun z : Nat => ((z : Int) * ((ww.sum : Int) + x + t), (ww.sum : Int) + x)) z).1 ((fun z : Nat => ((z : Int) * ((ww.sum : Int) + x + t), (ww.sum : Int) + x)) z).2) → TL Hx vs ((List.range (t + 1)).map fun r => frac ((fun r : Nat => (freshN x (ww.sum : Int) t r, Wl)) r).1 ((fun r : Nat => (freshN x (ww.sum : Int) t r, Wl)) r).2) → Dp K Hx (.ref l) dat := fun h1 h2 h3 h4 h5 => by
        rw [← hdt]
        exact .lst (sq_of h1) (.cons (.lst (sq_of h2) (dpa_fracs _ _ h4)) (.cons (.lst (sq_of h3) (dpa_fracs _ _ h5)) .nil))
      have isd : isDisplay dat = true := by
        rw [← hdt]
        rfl
      refine q_when (b := false) (et_is (et_test (ev_op (ev_reprN (d := dat) (ed_of (ev_var rfl) (dp hl9 hc9 hc29 t9 t29)) isd shn (by decide)) (ev_reprN (d := dat) (ed_of (ev_var rfl) (dp hdl9 hc39 hc49 t39 t49)) isd shn (by decide)) (rv_ne rfl))) (by simp)) (fun hb => Bool.noConfusion hb) fun _ H10 e10 => ?_
      have c_dl : c ≠ dl := fun z => by
        subst z
        rw [q_c] at hdl
        cases hdl
      have c_3 : c ≠ c3 := fun z => by
        subst z
        rw [q_c] at hc3
        cases hc3
      have c_4 : c ≠ c4 := fun z => by
        subst z
        rw [q_c] at hc4
        cases hc4
      have c2_dl : c2 ≠ dl := fun z => by
        subst z
        rw [q_c2] at hdl
        cases hdl
      have c2_3 : c2 ≠ c3 := fun z => by
        subst z
        rw [q_c2] at hc3
        cases hc3
      have c2_4 : c2 ≠ c4 := fun z => by
        subst z
        rw [q_c2] at hc4
        cases hc4
      have lenw := t9.len
      have lenw2 := t29.len
      rw [List.length_map] at lenw lenw2
      rw [List.length_range] at lenw2
      have hl10 := e10 l _ hl9
      have hc10 := e10 c _ hc9
      have E10 : Ex H6 H10 := E8.trans (e9.trans e10)
      refine q_appN (l := c) hc10 (ev_op (ev_var rfl) ev_c (rv_ixL (K := K) (sq_of hl10) (atI_nat (j := 0) rfl))) (by omega) fun H11 e11 => ?_
      have hc11 := e11 c _ hc10
      have hl11 : (upd H11 c (.lst (ws ++ [.non]))) l = some (.lst [.ref c, .ref c2]) := by
        rw [upd_ne lc]
        exact e11 l _ hl10
      have hc211 : (upd H11 c (.lst (ws ++ [.non]))) c2 = some (.lst ws2) := by
        rw [upd_ne (Ne.symm cc2)]
        exact e11 c2 _ (e10 c2 _ hc29)
      have d11 : (upd H11 c (.lst (ws ++ [.non]))) dl = some (.lst [.ref c3, .ref c4]) := by
        rw [upd_ne (Ne.symm c_dl)]
        exact e11 dl _ (e10 dl _ hdl9)
      have h311 : (upd H11 c (.lst (ws ++ [.non]))) c3 = some (.lst ws3) := by
        rw [upd_ne (Ne.symm c_3)]
        exact e11 c3 _ (e10 c3 _ hc39)
      have h411 : (upd H11 c (.lst (ws ++ [.non]))) c4 = some (.lst ws4) := by
        rw [upd_ne (Ne.symm c_4)]
        exact e11 c4 _ (e10 c4 _ hc49)
      have t311 := ((t39.ex e10).ex e11).upd (o := .lst (ws ++ [.non])) hc11
      have t411 := ((t49.ex e10).ex e11).upd (o := .lst (ws ++ [.non])) hc11
      have E11 : Ex H6 (upd H11 c (.lst (ws ++ [.non]))) := Ex.mut (E10.trans e11) cH
      generalize upd H11 c (.lst (ws ++ [.non])) = H11' at *
      refine q_appN (l := c2) hc211 (ev_op (ev_var rfl) ev_c (rv_ixL (K := K) (sq_of hl11) (atI_nat (j := 1) rfl))) (by omega) fun H12 e12 => ?_
      have hc212 := e12 c2 _ hc211
      have d12 : (upd H12 c2 (.lst (ws2 ++ [.non]))) dl = some (.lst [.ref c3, .ref c4]) := by
        rw [upd_ne (Ne.symm c2_dl)]
        exact e12 dl _ d11
      have h312 : (upd H12 c2 (.lst (ws2 ++ [.non]))) c3 = some (.lst ws3) := by
        rw [upd_ne (Ne.symm c2_3)]
        exact e12 c3 _ h311
      have h412 : (upd H12 c2 (.lst (ws2 ++ [.non]))) c4 = some (.lst ws4) := by
        rw [upd_ne (Ne.symm c2_4)]
        exact e12 c4 _ h411
      have t312 := (t311.ex e12).upd (o := .lst (ws2 ++ [.non])) hc212
      have t412 := (t411.ex e12).upd (o := .lst (ws2 ++ [.non])) hc212
      have E12 : Ex H6 (upd H12 c2 (.lst (ws2 ++ [.non]))) := Ex.mut (E11.trans e12) c2H
      generalize upd H12 c2 (.lst (ws2 ++ [.non])) = H12' at *
      have ha12 := E12 a _ ha6
      have hk12 := E12 kp _ hk6
      refine q_twoLT (rs := ww.map (meanF x ww.sum t)) (ss := (List.range (t + 1)).map fun r => frac (freshN x (ww.sum : Int) t r) (rise (x + (ww.sum : Int)) t)) (elt_mean (ea_cons (ev_var rfl) (ea_cons (ev_var rfl) (ea_cons (ev_var rfl) ea_nil))) ha12 o (by omega) h1 h2) (elt_new (ea_cons (ev_var rfl) (ea_cons (ev_var rfl) (ea_cons (ev_var rfl) ea_nil))) ha12 o (by omega) h1 h2) fun l5 c5 c6 ws5 ws6 H13 hl5 hc5 hc6 e13 hl513 hc513 hc613 t513 t613 => ?_
      rw [mf] at t513
      rw [hW, nf2] at t613
      refine s_ret (v := .bl true) (ev_is (ev_andV (ev_eqD (ed_of (ev_var rfl) (dp hl513 hc513 hc613 t513 t613)) (ed_of (ev_var rfl) (dp (e13 dl _ d12) (e13 c3 _ h312) (e13 c4 _ h412) (t312.ex e13) (t412.ex e13))) shp shp) fun _ => ev_eqD (ed_of (ev_var rfl) (dp_L (e13 a _ ha12))) (ed_of (ev_var rfl) (dp_L (e13 kp _ hk12))) (shaped_di ww) (shaped_di ww)) (by rw [eqv_same shp, eqv_same (shaped_di ww)]; rfl)) fun H14 e14 => k H14 (E6.trans (E12.trans (e13.trans e14)))
end

local macro_rules | `(tactic| walk_at "call") => `(tactic| (with_reducible exact sv_whole))
local macro_rules | `(tactic| walk_at "call") => `(tactic| (with_reducible exact sv_between))
local macro_rules | `(tactic| walk_at "call") => `(tactic| ((with_reducible refine' sv_check1 ?c1 ?c2); (case c1 => walk_at "side"); (case c2 => walk_at "side")))
local macro_rules | `(tactic| walk_at "call") => `(tactic| ((with_reducible refine' sv_check_number ?c1 ?c2); (case c1 => walk_at "side"); (case c2 => walk_at "side")))
local macro_rules | `(tactic| walk_at "callU") => `(tactic| ((with_reducible refine' su_fraction ?c1 ?c2); (case c1 => walk_at "side"); (case c2 => walk_at "side")))
local macro_rules | `(tactic| walk_at "call") => `(tactic| ((with_reducible refine' sv_rise ?c1 ?c2); (case c1 => walk_at "side"); (case c2 => walk_at "side")))

/-! ### the law -/
section
variable {K : PySem.W.Frag} {σ : L2.St} {H0 H : Hp} {ta tb tc te tn tw : TE} {t : TT} {p : Addr} {k k1 k2 : Nat} {R : V → Hp → Prop} {D : Ends} {tz : TS}
/-- [a draw for i in range(a drawn number)] -/
theorem pq_lcR {n N kn ke i j : Nat} {vs : List Nat} {C : Nat → Prop} {A : V → Prop} (h0 : H0 p = none) (hn : EvP p kn tn σ H0 (fun v _ => ∃ c : Nat, v = .int (c : Int) ∧ C c ∧ c ≤ N)) (hN : N ≤ 1000) (hw : ∀ x, wipe ((wipe σ vs).set j (some x)) vs = wipe σ vs)
    (he : ∀ c : Nat, c ≤ N → EvP p ke te ((wipe σ vs).set j (some (.int (c : Int)))) H0 (fun v _ => A v)) (e : Ex H0 H) (hp : Po p n H) (hb : n + kn + ke * N ≤ 1000000000)
    (q : ∀ l xs H2, H l = none → l ≠ p → H2 l = some (.lst xs) → C xs.length → (∀ v ∈ xs, A v) → Po p (n + kn + ke * N) H2 → Ex (Hm p H) H2 → tz D (σ.set i (some (.ref l))) H2) :
    tSeq (tAsg (tLc (iRng1 (tCons tn tNil)) (gName j) tYes te vs) (gName i)) tz D σ H := hn n H e hp (by omega) _ fun v H1 ⟨c, ev, hc, hcN⟩ p1 e1 => by
  subst ev
  refine ⟨(c : Int), rfl, by omega, by omega, fun Dl hD => ?_⟩
  have Dp := p1.ne hD
  have mono : ∀ i, i ≤ c → ke * i ≤ ke * N := fun i hi => Nat.mul_le_mul_left _ (by omega)
  refine lc_range (lo := 0) (n := ((c : Int)).toNat) (fun i H' => Ex (Hm p H1) H' ∧ Po p (n + kn + ke * i) H' ∧ ∃ us, H' Dl = some (.lst us) ∧ us.length = i ∧ ∀ v ∈ us, A v) ⟨hm_of (Ex.new hD), (p1.ex (Ex.new hD)).mono (by omega), [], upd_same, rfl, fun v hv => nomatch hv⟩ (fun i H' hi z => ?_) fun H' z => ?_
  · obtain ⟨e2, p2, us, hu, lu, au⟩ := z
    rw [Int.toNat_natCast] at hi
    have e0 : (0 : Int) + (i : Int) = (i : Int) := Int.zero_add _
    have m1 := mono (i + 1) (by omega)
    rw [Nat.mul_add, Nat.mul_one] at m1
    show wipe ((wipe σ vs).set j (some (.int ((0 : Int) + (i : Int))))) vs = wipe σ vs ∧ te ((wipe σ vs).set j (some (.int ((0 : Int) + (i : Int))))) H' fun y H4 => ∃ acc, H4 Dl = some (.lst acc) ∧ acc.length < sizeLine ∧ (Ex (Hm p H1) (upd H4 Dl (.lst (acc ++ [y]))) ∧ Po p (n + kn + ke * (i + 1)) (upd H4 Dl (.lst (acc ++ [y]))) ∧ ∃ us, (upd H4 Dl (.lst (acc ++ [y]))) Dl = some (.lst us) ∧ us.length = i + 1 ∧ ∀ v ∈ us, A v)
    rw [e0]
    refine ⟨hw _, he i (by omega) (n + kn + ke * i) H' (hm_next h0 e (hm_trans e1 e2)) p2 (by omega) _ fun v H4 hv p4 e4 => ⟨us, hm_at e4 Dp hu, sz_lt (by omega), Ex.mut (hm_trans e2 e4) ?_, ?_, us ++ [v], upd_same, by rw [List.length_append, lu]; rfl, fun x hx => ?_⟩⟩
    · unfold Hm
      rw [if_neg Dp]
      exact hD
    · rw [Nat.mul_add, Nat.mul_one, ← Nat.add_assoc]
      exact p4.upd Dp
    · rcases List.mem_append.mp hx with z | z
      · exact au x z
      · rw [List.mem_singleton.mp z]
        exact hv
  · obtain ⟨e2, p2, us, hu, lu, au⟩ := z
    rw [Int.toNat_natCast] at lu p2
    have Dn : Hm p H Dl = none := fresh_back e1 hD
    refine q Dl us H' ?_ Dp hu (by rw [lu]; exact hc) au (p2.mono (by have := mono c (Nat.le_refl _); omega)) (hm_trans e1 e2)
    unfold Hm at Dn
    rw [if_neg Dp] at Dn
    exact Dn
theorem ep_heavy {E : XK} (ha : Ev ta σ H (.ref p)) : EvP p 4 (tCall sp_law_heavy [] E (tCons ta tNil)) σ H (fun v _ => ∃ x : Int, v = .int x ∧ 1 ≤ x ∧ x ≤ 1000000000000) := fun n H1 e hp hn Q q =>
  ha H1 e _ fun H2 e2 => ⟨p, n, rfl, hp.ex e2, by omega, fun x H3 x1 x2 p3 e3 => q _ H3 ⟨x, rfl, x1, x2⟩ (p3.mono (by omega)) (hm_trans (hm_of e2) e3)⟩
theorem ep_right {E E1 : XK} {l : Addr} {s : List Nat} (h0 : H0 p = none) (ha : Ev ta σ H0 (.ref p)) (hl : H0 l = some (.lst (nv s))) (hs : Ev tb σ H0 (.ref l)) (o : Sz s) (l4 : s.length ≤ 4) (hm : EvP p k tc σ H0 (fun v _ => ∃ m : Nat, v = .int (m : Int) ∧ m ≤ 5)) : EvP p (4 + k) (tCall sp_law_right [] E (tCons (tCall sp_law_heavy [] E1 (tCons ta tNil)) (tCons tb (tCons tc tNil)))) σ H0 (fun v _ => v = .bl true) := fun n H1 e hp hn Q q =>
  ep_heavy (p := p) ha n H1 e hp (by omega) _ fun v H2 ⟨x, ev, x1, x2⟩ p2 e2 => hs H2 (hm_next h0 e e2) _ fun H3 e3 => hm (n + 4) H3 ((hm_next h0 e e2).trans e3) (p2.ex e3) (by omega) _ fun v4 H4 ⟨m, ev4, m5⟩ p4 e4 => by
    subst ev ev4
    have e5 : Ex H0 H4 := hm_next h0 ((hm_next h0 e e2).trans e3) e4
    exact ⟨x, l, s, m, rfl, e5 l _ hl, o, l4, m5, x1, x2, fun H6 e6 => q _ H6 rfl (by rw [← Nat.add_assoc]; exact p4.ex e6) (hm_trans (hm_trans (hm_trans e2 (hm_of e3)) e4) (hm_of e6))⟩
theorem s_pop0 {l : Addr} {xs : List V} {y : V} (hl : H l = some (.lst xs)) (hy : xs[xs.length - 1]? = some y) (ha : Ev ta σ H (.ref l)) (k : ∀ H1, Ex H H1 → D.nx σ (upd H1 l (.lst xs.dropLast))) : tDrop (tBM0 K "list" rPop ta) D σ H :=
  ha H (Ex.refl H) _ fun H1 e1 => ⟨Or.inl ⟨rfl, xs, sq_of (e1 l _ hl)⟩, ⟨l, xs, y, rfl, rfl, e1 l _ hl, hy, k H1 e1⟩⟩
end

local macro_rules | `(tactic| walk_at "call") => `(tactic| (with_reducible exact sv_whole))
local macro_rules | `(tactic| walk_at "call") => `(tactic| (with_reducible exact sv_between))
local macro_rules | `(tactic| walk_at "call") => `(tactic| ((with_reducible refine' sv_check1 ?c1 ?c2); (case c1 => walk_at "side"); (case c2 => walk_at "side")))
local macro_rules | `(tactic| walk_at "call") => `(tactic| ((with_reducible refine' sv_check_number ?c1 ?c2); (case c1 => walk_at "side"); (case c2 => walk_at "side")))
local macro_rules | `(tactic| walk_at "callU") => `(tactic| ((with_reducible refine' su_fraction ?c1 ?c2); (case c1 => walk_at "side"); (case c2 => walk_at "side")))
local macro_rules | `(tactic| walk_at "call") => `(tactic| ((with_reducible refine' sv_rise ?c1 ?c2); (case c1 => walk_at "side"); (case c2 => walk_at "side")))

section
variable {K : PySem.W.Frag} {σ : L2.St} {H : Hp} {ta tb tc te : TE}
theorem ed_share {a b x y : Int} (h : EvU te σ H (frac a b)) (e1 : a / cd a b = x) (e2 : b / cd a b = y) : EvD K te σ H (.tuple [.int x, .int y]) := by
  subst e1
  subst e2
  exact ed_ofU h (dpa_frac a b)
theorem ed_pair {x y : Int} (h : Ev ta σ H (.int x)) (h2 : Ev tb σ H (.int y)) : EvD K (tTup (tCons ta (tCons tb tNil))) σ H (.tuple [.int x, .int y]) := ed_ofU (eu_tup (ea_cons h (ea_cons h2 ea_nil)) (Nat.le_of_ble_eq_true rfl)) (.cons (.int _) (.cons (.int _) .nil))
theorem eu_growN {s u : List Nat} {x : Int} {left : Nat} {E : XK} (h : EvL ta σ H (nv s)) (hx : Ev tb σ H (.int x)) (h' : EvL tc σ H (nv u)) (o : Sz s) (up : Up s u) (h60 : u.sum ≤ 60) (hl : u.sum = s.sum + left) (h1 : 1 ≤ x) (h2 : x ≤ 1000000000000) : EvU (tCall sp_grow [] E (tCons ta (tCons tb (tCons tc tNil)))) σ H (frac (gnum x left s u (u.getLast?.getD 0)) (rise (x + (s.sum : Int)) left)) := fun H1 e Q q =>
  h H1 e _ fun a H2 na e2 ha => hx H2 (e.trans e2) _ fun H3 e3 => h' H3 (e.trans (e2.trans e3)) _ fun b H4 nb e4 hb =>
    ⟨a, b, s, u, x, left, rfl, e4 a _ (e3 a _ ha), hb, o, up, h60, hl, h1, h2, fun c H5 nc e5 hc => q c H5 (fresh_back (e2.trans (e3.trans e4)) nc) (e2.trans (e3.trans (e4.trans e5))) hc⟩
theorem elt_newN {s : List Nat} {x : Int} {m : Nat} {E : XK} (h : EvL ta σ H (nv s)) (hx : Ev tb σ H (.int x)) (hm0 : Ev tc σ H (.int (m : Int))) (o : Sz s) (hm : m ≤ 40) (h1 : 1 ≤ x) (h2 : x ≤ 1000000000000) : EvLT (tCall sp_new_shares [] E (tCons ta (tCons tb (tCons tc tNil)))) σ H ((List.range (m + 1)).map fun r => frac (freshN x (s.sum : Int) m r) (rise (x + (s.sum : Int)) m)) := fun H1 e Q q =>
  h H1 e _ fun a H2 na e2 ha => hx H2 (e.trans e2) _ fun H3 e3 => hm0 H3 (e.trans (e2.trans e3)) _ fun H4 e4 =>
    ⟨a, s, x, m, rfl, e4 a _ (e3 a _ ha), o, hm, h1, h2, fun c ws H5 nc e5 hc t => q c ws H5 (fresh_back (e2.trans (e3.trans e4)) nc) (e2.trans (e3.trans (e4.trans e5))) hc t⟩
theorem elt_meanN {s : List Nat} {x : Int} {m : Nat} {E : XK} (h : EvL ta σ H (nv s)) (hx : Ev tb σ H (.int x)) (hm0 : Ev tc σ H (.int (m : Int))) (o : Sz s) (hm : m ≤ 40) (h1 : 1 ≤ x) (h2 : x ≤ 1000000000000) : EvLT (tCall sp_mean_later [] E (tCons ta (tCons tb (tCons tc tNil)))) σ H (s.map (meanF x s.sum m)) := fun H1 e Q q =>
  h H1 e _ fun a H2 na e2 ha => hx H2 (e.trans e2) _ fun H3 e3 => hm0 H3 (e.trans (e2.trans e3)) _ fun H4 e4 =>
    ⟨a, s, x, m, rfl, e4 a _ (e3 a _ ha), o, hm, h1, h2, fun c ws H5 nc e5 hc t => q c ws H5 (fresh_back (e2.trans (e3.trans e4)) nc) (e2.trans (e3.trans (e4.trans e5))) hc t⟩

theorem dpa_pairs : ∀ {ws : List V} (ps : List (Int × Int)), TL H ws (ps.map fun p => [.int p.1, .int p.2]) → DpAll K H ws (ps.map fun p => .tuple [.int p.1, .int p.2])
  | [], [], _ => .nil
  | _ :: _, p :: l, .cons ⟨b, e, h⟩ q => by
    subst e
    exact .cons (.tup (st_of h) (.cons (.int _) (.cons (.int _) .nil))) (dpa_pairs l q)
theorem ed_pairs (ps : List (Int × Int)) (h : EvLT te σ H (ps.map fun p => [.int p.1, .int p.2])) : EvD K te σ H (.list (ps.map fun p => .tuple [.int p.1, .int p.2])) := fun H1 e Q q => h H1 e _ fun p ws H2 _ e2 h2 ht => q _ H2 e2 (.lst (sq_of h2) (dpa_pairs ps ht))
end
theorem max_min4 {m : Int} (h0 : 0 ≤ m) : 0 ≤ (if (if m < 4 then m else 4) > 1 then (if m < 4 then m else 4) else 1) ∧ (if (if m < 4 then m else 4) > 1 then (if m < 4 then m else 4) else 1) ≤ (4 : Int) := by
  split <;> split <;> omega

theorem small_list : ∀ {xs : List V}, (∀ v ∈ xs, ∃ y : Nat, v = .int (y : Int) ∧ 1 ≤ y ∧ y ≤ 9) → ∃ s, xs = nv s ∧ ∀ y ∈ s, 1 ≤ y ∧ y ≤ 9
  | [], _ => ⟨[], rfl, fun y hy => nomatch hy⟩
  | v :: r, h => by
    obtain ⟨s, e, hs⟩ := small_list (xs := r) fun u hu => h u (by simp [hu])
    obtain ⟨y, ev, hy⟩ := h v (by simp)
    refine ⟨y :: s, by rw [ev, e]; rfl, fun z hz => ?_⟩
    rcases List.mem_cons.mp hz with q | q
    · rw [q]; exact hy
    · exact hs z q
theorem sum_le9 : ∀ {s : List Nat}, (∀ y ∈ s, 1 ≤ y ∧ y ≤ 9) → s.sum ≤ 9 * s.length
  | [], _ => Nat.le_refl _
  | y :: r, h => by
    have a := sum_le9 (s := r) fun z hz => h z (by simp [hz])
    have b := (h y (by simp)).2
    rw [List.sum_cons, List.length_cons]
    omega
def sp_law (K : PySem.W.Frag) : Sp := fun vs H Q _ => ∃ (a : Addr) (ns : List Int), vs = [.ref a] ∧ SqL K H a (ns.map V.int) ∧ ns.length ≤ 63 ∧ ∀ H', Q (.bl true) H'
section
variable {P : Program} {w : World} {K : PySem.W.Frag} {mg : Str → Option Value} {base : Heap}
theorem ok_law (T : Tx K mg) : FnOkG P w K mg base 8 T.f_law T.d_law ["script"] (sp_law K) := by
  refine funG T.F_law sc_law (fun vs H Q E h => ?_) (fun cdv A outer s0 H vs Q E hg hr h => ?_)
  · obtain ⟨a, ns, rfl, _⟩ := h
    rfl
  · obtain ⟨a, ns, rfl, hs, hl, k⟩ := h
    refine ⟨_, (pss_cons (ps_for PassesOwn.never rfl (pi_range1 (by rfl) T.m_range (pa_cons (pe_callB (call_maxR rfl) (by rfl) T.m_max (by decide +kernel) (pa_cons pe_int (pa_cons (pe_callB (call_minR rfl) (by rfl) T.m_min (by decide +kernel) (pa_cons pe_int (pa_cons (pe_callB call_lenR (by rfl) T.m_len (by decide +kernel) (pa_cons (pv 0) pa_nil)) pa_nil))) pa_nil))) pa_nil)) (pg_name (i := 1) sc_law.nd rfl (Or.inl rfl)) (pss_cons (ps_set (i := 2) sc_law.nd rfl (Or.inr rfl) (pe_call (ok_law_store T) (hr.mono (by decide)) (by rfl) T.g_law_store T.F_law_store.kp T.b_law_store .nil pass0 (pa_cons (pv 0) (pa_cons (pv 1) pa_nil))))
      (pss_one (ps_for PassesOwn.never rfl (pi_range1 (by rfl) T.m_range (pa_cons pe_int pa_nil)) (pg_name (i := 3) sc_law.nd rfl (Or.inl rfl)) (pss_cons (ps_setLc (i := 5) (own := [("table", 4)]) (g := (gName 4)) (tt := tYes) rfl sc_law.nd rfl rfl (sw_true rfl rfl rfl (by decide +kernel)) (pi_range1 (by rfl) T.m_range (pa_cons (pe_op op_add pe_int (pe_call (ok_law_pick T) (hr.mono (by decide)) (by rfl) T.g_law_pick T.F_law_pick.kp T.b_law_pick .nil pass0 (pa_cons (pv 2) (pa_cons pe_int pa_nil)))) pa_nil)) (blkOk_by (own := [("table", 4)]) (N := n_law) (sc := defScope s_law) (by decide +kernel)) (fun _ _ _ _ _ => (pg_name (i := 4) sc_law.nd rfl (Or.inl rfl))) (fun _ _ _ _ _ => pts_nil) (fun _ _ _ _ _ => (pe_op op_add pe_int (pe_call (ok_law_pick T) (hr.mono (by decide)) (by rfl) T.g_law_pick T.F_law_pick.kp T.b_law_pick .nil pass0 (pa_cons (pv 2) (pa_cons (pe_ix (r := rIxL K) ix_list (pe_lst (pa_cons pe_int (pa_cons pe_int pa_nil))) (pe_call (ok_law_pick T) (hr.mono (by decide)) (by rfl) T.g_law_pick T.F_law_pick.kp T.b_law_pick .nil pass0 (pa_cons (pv 2) (pa_cons pe_int pa_nil))) (fun _ _ => rfl)) pa_nil))))))
      (pss_cons (ps_while PassesOwn.never (pt_cmpR op_gt (pe_callB (cr_sum rfl) (by rfl) T.m_sum (by decide +kernel) (pa_cons (pv 5) pa_nil)) pe_int (nomark _)) (pss_one (ps_expr (pe_bm0 PySem.F.plainAttrs_list PySem.F.slot_list_pop PySem.F.type_list_pop mt_pop (pv 5)))))
      (pss_one (ps_if (pt_not (pt_val (pe_callG (ok_law_right T) hg (hr.mono (by decide)) (by rfl) T.g_law_right T.F_law_right.kp T.b_law_right (pa_cons (pe_call (ok_law_heavy T) (hr.mono (by decide)) (by rfl) T.g_law_heavy T.F_law_heavy.kp T.b_law_heavy .nil pass0 (pa_cons (pv 2) pa_nil)) (pa_cons (pv 5) (pa_cons (pe_call (ok_law_pick T) (hr.mono (by decide)) (by rfl) T.g_law_pick T.F_law_pick.kp T.b_law_pick .nil pass0 (pa_cons (pv 2) (pa_cons (pe_ix ix_list (pe_lst (pa_cons pe_int (pa_cons pe_int (pa_cons pe_int (pa_cons pe_int pa_nil))))) (pv 3) (fun _ _ => rfl)) pa_nil))) pa_nil)))))) (pss_one (ps_ret pe_bl)) pss_nil))))))))
      (pss_cons (ps_set (i := 6) sc_law.nd rfl (Or.inl rfl) (pe_lst (pa_cons (pe_call (ok_grow_share T) (hr.mono (by decide)) (by rfl) T.g_grow_share T.F_grow_share.kp T.b_grow_share .nil pass0 (pa_cons (pe_lst (pa_cons pe_int pa_nil)) (pa_cons pe_int (pa_cons (pe_lst (pa_cons pe_int (pa_cons pe_int pa_nil))) pa_nil)))) (pa_cons (pe_call (ok_grow_share T) (hr.mono (by decide)) (by rfl) T.g_grow_share T.F_grow_share.kp T.b_grow_share .nil pass0 (pa_cons (pe_lst (pa_cons pe_int pa_nil)) (pa_cons pe_int (pa_cons (pe_lst (pa_cons pe_int (pa_cons pe_int pa_nil))) pa_nil)))) (pa_cons (pe_call (ok_grow_share T) (hr.mono (by decide)) (by rfl) T.g_grow_share T.F_grow_share.kp T.b_grow_share .nil pass0 (pa_cons (pe_lst (pa_cons pe_int pa_nil)) (pa_cons pe_int (pa_cons (pe_lst (pa_cons pe_int (pa_cons pe_int pa_nil))) pa_nil)))) pa_nil)))))
      (pss_cons (ps_if (PW.pt (pw_or (pt_cmpR (op_neD hr.units) (pv 6) (pe_lst (pa_cons (pe_tup (pa_cons pe_int (pa_cons pe_int pa_nil))) (pa_cons (pe_tup (pa_cons pe_int (pa_cons pe_int pa_nil))) (pa_cons (pe_tup (pa_cons pe_int (pa_cons pe_int pa_nil))) pa_nil)))) (nomark _)) (pw_or (pt_cmpR (op_neD hr.units) (pe_call (ok_grow_share T) (hr.mono (by decide)) (by rfl) T.g_grow_share T.F_grow_share.kp T.b_grow_share .nil pass0 (pa_cons (pe_lst (pa_cons pe_int pa_nil)) (pa_cons pe_int (pa_cons (pe_lst (pa_cons pe_int (pa_cons pe_int pa_nil))) pa_nil)))) (pe_tup (pa_cons pe_int (pa_cons pe_int pa_nil))) (nomark _)) (pw_or1 (pt_cmpR (op_neD hr.units) (pe_call (ok_mean_later T) (hr.mono (by decide)) (by rfl) T.g_mean_later T.F_mean_later.kp T.b_mean_later .nil pass0 (pa_cons (pe_lst (pa_cons pe_int pa_nil)) (pa_cons pe_int (pa_cons pe_int pa_nil)))) (pe_lst (pa_cons (pe_tup (pa_cons pe_int (pa_cons pe_int pa_nil))) pa_nil)) (nomark _)))))) (pss_one (ps_ret pe_bl)) pss_nil)
      (pss_one (ps_ret (pe_and (pe_cmpR (op_eqD hr.units) (pe_call (ok_new_shares T) (hr.mono (by decide)) (by rfl) T.g_new_shares T.F_new_shares.kp T.b_new_shares .nil pass0 (pa_cons (pe_lst (pa_cons pe_int (pa_cons pe_int pa_nil))) (pa_cons pe_int (pa_cons pe_int pa_nil)))) (pe_lst (pa_cons (pe_tup (pa_cons pe_int (pa_cons pe_int pa_nil))) pa_nil)) (nomark _)) (pe_one (pe_cmpR (op_eqD hr.units) (pe_call (ok_new_shares T) (hr.mono (by decide)) (by rfl) T.g_new_shares T.F_new_shares.kp T.b_new_shares .nil pass0 (pa_cons (pe_lst (pa_cons pe_int pa_nil)) (pa_cons pe_int (pa_cons pe_int pa_nil)))) (pe_lst (pa_cons (pe_tup (pa_cons pe_int (pa_cons pe_int pa_nil))) (pa_cons (pe_tup (pa_cons pe_int (pa_cons pe_int pa_nil))) pa_nil))) (nomark _))))))))), ?_⟩
    have mm := max_min4 (m := ((ns.map V.int).length : Int)) (by omega)
    refine q_forR1 (by walk_at "ea") ⟨mm.1, Int.le_trans mm.2 (by decide)⟩ (fun i σ' H' => ∃ y1 y2 y3 y4 y5, σ' = [some (.ref a), y1, y2, y3, y4, y5, none] ∧ Ex H H') (fun H1 e1 => ⟨none, none, none, none, none, rfl, e1⟩) ?_ ?_
    · rintro i σ' H' hi ⟨y1, y2, y3, y4, y5, rfl, e⟩
      have hi4 : (i : Int) < 4 := Int.lt_of_lt_of_le hi mm.2
      refine pq_pouch (by walk_at "ea") (ex_l e hs) (by omega) fun p H1 hp e1 hpo => ?_
      refine s_forR1 (n := (4 : Int)) (ea_cons ev_c ea_nil) (by decide) (fun j σ' H2 => ∃ z3 z4 z5, σ' = [some (.ref a), some (.int (i : Int)), some (.ref p), z3, z4, z5, none] ∧ Ex H' H2 ∧ Po p (100 * j) H2) (fun H2 e2 => ⟨y3, y4, y5, rfl, e1.trans e2, hpo.ex e2⟩) ?_ ?_
      · rintro j σ' H2 hj ⟨z3, z4, z5, rfl, e2, p2⟩
        refine pq_lcR (p := p) (H0 := Hm p H2) (N := 4) (kn := 0 + 1) (ke := 0 + (((0 + (0 + 0)) + 1) + 1)) (C := fun c => 1 ≤ c ∧ c ≤ 4) (A := fun v => ∃ y : Nat, v = .int (y : Int) ∧ 1 ≤ y ∧ y ≤ 9) hm_p
          (ep_is (ep_add (C := fun r => 0 ≤ r ∧ r < 4) hm_p ev_c (ep_dipI (w := 4) hm_p (ev_var rfl) ev_c (by decide) (by decide))) ?_) (by decide) (fun _ => rfl)
          (fun c _ => ep_is (ep_add (C := fun r => 0 ≤ r ∧ r < 9) hm_p ev_c (ep_is (ep_dip (C := fun w => w ≤ 9) hm_p (ev_var rfl) (ep_is (ep_ix (A := fun v => ∃ w : Int, v = .int w ∧ 0 < w ∧ w ≤ 9) (ix := fun v => ∃ r, v = .int r ∧ 0 ≤ r ∧ r < 2) (C := fun vs => vs = [.int 2, .int 9]) hm_p (ep_is (ep_lst (epa_pure (v := .int 2) hm_p ev_c (epa_pure (v := .int 9) hm_p ev_c epa_nil)) ?_) ?_) (ep_dipI (w := 2) hm_p (ev_var rfl) ev_c (by decide) (by decide)) ?_) ?_)) ?_)) ?_) hm_sub p2 (by omega) ?_
        · rintro v _ ⟨r, rfl, r0, r1⟩
          exact ⟨(1 + r).toNat, by congr 1; omega, ⟨by omega, by omega⟩, by omega⟩
        · rintro vs ⟨_, _, rfl, _, _, _, rfl, _, rfl⟩
          exact Nat.le_of_ble_eq_true rfl
        · rintro v H4 ⟨l, vs, ne, rfl, hl, _, _, rfl, rfl, _, _, rfl, rfl, rfl⟩
          exact ⟨l, _, ne, rfl, hl, rfl⟩
        · rintro vs v rfl ⟨i, rfl, i0, i1⟩
          have : i = 0 ∨ i = 1 := by omega
          rcases this with rfl | rfl
          · exact ⟨0, .int 2, rfl, rfl, 2, rfl, by decide, by decide⟩
          · exact ⟨1, .int 9, rfl, rfl, 9, rfl, by decide, by decide⟩
        · rintro v _ ⟨w, rfl, w0, w1⟩
          exact ⟨w, rfl, w0, Int.lt_of_le_of_lt w1 (by decide), w1⟩
        · rintro v _ ⟨r, w, rfl, r0, r1, w1⟩
          exact ⟨r, rfl, r0, by omega⟩
        · rintro v _ ⟨r, rfl, r0, r1⟩
          exact ⟨(1 + r).toNat, by congr 1; omega, by omega, by omega⟩
        rintro l xs H3 nl lp hl3 ⟨hc, hcN⟩ hA p3 e3
        obtain ⟨s, rfl, hs9⟩ := small_list hA
        rw [nv_len] at hc
        have hc4 : s.length ≤ 4 := by
          have := hcN
          rwa [nv_len] at this
        have lH' : Hm p H2 l = none := by
          unfold Hm
          rw [if_neg lp]
          exact nl
        refine q_while (fun m σ' H4 => ∃ s : List Nat, σ' = [some (.ref a), some (.int (i : Int)), some (.ref p), some (.int (j : Int)), z4, some (.ref l), none] ∧ H4 l = some (.lst (nv s)) ∧ s ≠ [] ∧ (∀ y ∈ s, 1 ≤ y ∧ y ≤ 9) ∧ s.length ≤ 4 ∧ Po p (100 * j + 20) H4 ∧ Ex (Hm p H2) H4 ∧ m = s.length) s.length ⟨s, rfl, hl3, fun z => by
          rw [z] at hc
          simp at hc, hs9, hc4, p3.mono (by omega), e3, rfl⟩ ?_
        rintro m σ' H4 ⟨s, rfl, hl4, sne, hs9, s4, p4, e4, rfl⟩
        have sm := ev_sumV (K := K) (ta := tVar 5) (σ := [some (.ref a), some (.int (i : Int)), some (.ref p), some (.int (j : Int)), z4, some (.ref l), none]) (H := H4) (ns := iz s) (ev_var (i := 5) (v := .ref l) rfl) (sq_of hl4)
        rw [iz_sum] at sm
        refine ⟨decide ((s.sum : Int) > 20), et_test (ev_op sm ev_c rv_I0), fun hb H5 e5 => ?_, fun hb H5 e5 => ?_⟩
        · have big := of_decide_eq_true hb
          have s9 := sum_le9 hs9
          refine ⟨fun σ2 H6 => σ2 = [some (.ref a), some (.int (i : Int)), some (.ref p), some (.int (j : Int)), z4, some (.ref l), none] ∧ H6 l = some (.lst (nv s.dropLast)) ∧ Po p (100 * j + 20) H6 ∧ Ex (Hm p H2) H6, ?_, ?_⟩
          · rintro σ2 H6 ⟨rfl, hl6, p6, e6⟩
            refine ⟨s.length - 1, by omega, s.dropLast, rfl, hl6, fun z => ?_, fun y hy => hs9 y (List.dropLast_subset s hy), by rw [List.length_dropLast]; omega, p6, e6, by rw [List.length_dropLast]⟩
            have := congrArg List.length z
            rw [List.length_dropLast, List.length_nil] at this
            omega
          · have hl5 := e5 l _ hl4
            obtain ⟨y, hy⟩ : ∃ y, (nv s)[(nv s).length - 1]? = some y := ⟨_, List.getElem?_eq_getElem (by rw [nv_len]; omega)⟩
            refine s_pop0 hl5 hy (ev_var rfl) fun H6 e6 => ?_
            have ed : (nv s).dropLast = nv s.dropLast := by rw [nv_eq, nv_eq, List.map_dropLast]
            rw [ed]
            exact ⟨rfl, upd_same, ((p4.ex e5).ex e6).upd lp, Ex.mut (hm_trans e4 (hm_of (e5.trans e6))) lH'⟩
        · have small := of_decide_eq_false hb
          have hl5 := e5 l _ hl4
          have oS : Sz s := ⟨sne, fun y hy => (hs9 y hy).1, by omega⟩
          have hlm : Hm p H5 l = some (.lst (nv s)) := by
            unfold Hm
            rw [if_neg lp]
            exact hl5
          refine ps_no (p := p) (k := 4 + (((0 + (0 + (0 + (0 + 0)))) + 0) + 1)) (H0 := Hm p H5) (tp_is (b := !true) (tp_not (tp_B (ep_right (l := l) (s := s) hm_p (ev_var rfl) hlm (ev_var rfl) oS s4 (ep_is (ep_dip (C := fun w => w ≤ 6) hm_p (ev_var rfl) (ep_is (ep_ix (A := fun v => ∃ w : Int, v = .int w ∧ 0 < w ∧ w ≤ 6) (ix := fun v => v = .int (j : Int)) (C := fun vs => vs = [.int 6, .int 5, .int 4, .int 3]) hm_p (ep_is (ep_lst (epa_pure (v := .int 6) hm_p ev_c (epa_pure (v := .int 5) hm_p ev_c (epa_pure (v := .int 4) hm_p ev_c (epa_pure (v := .int 3) hm_p ev_c epa_nil)))) ?_) ?_) (ep_ev (ev_var rfl)) ?_) ?_)) ?_)))) rfl) hm_sub (p4.ex e5) (by omega) fun H6 p6 e6 => ?_
          · rintro vs ⟨_, _, rfl, _, _, _, rfl, _, _, _, rfl, _, _, _, rfl, _, rfl⟩
            exact Nat.le_of_ble_eq_true rfl
          · rintro v H4 ⟨l, vs, ne, rfl, hl, _, _, rfl, rfl, _, _, rfl, rfl, _, _, rfl, rfl, _, _, rfl, rfl, rfl⟩
            exact ⟨l, _, ne, rfl, hl, rfl⟩
          · rintro vs v rfl rfl
            have : j = 0 ∨ j = 1 ∨ j = 2 ∨ j = 3 := by omega
            rcases this with rfl | rfl | rfl | rfl
            · exact ⟨0, .int 6, rfl, rfl, 6, rfl, by decide, by decide⟩
            · exact ⟨1, .int 5, rfl, rfl, 5, rfl, by decide, by decide⟩
            · exact ⟨2, .int 4, rfl, rfl, 4, rfl, by decide, by decide⟩
            · exact ⟨3, .int 3, rfl, rfl, 3, rfl, by decide, by decide⟩
          · rintro v _ ⟨w, rfl, w0, w1⟩
            exact ⟨w, rfl, w0, Int.lt_of_le_of_lt w1 (by decide), w1⟩
          · rintro v _ ⟨r, w, rfl, r0, r1, w1⟩
            exact ⟨r.toNat, by congr 1; omega, by omega⟩
          · exact ⟨_, _, _, rfl, hm_next hp e2 (hm_trans e4 (hm_trans (hm_of e5) e6)), p6.mono (by omega)⟩
      · rintro σ' H2 ⟨z3, z4, z5, rfl, e2, p2⟩
        exact ⟨_, _, _, _, _, rfl, e.trans e2⟩
    · rintro σ' H' ⟨y1, y2, y3, y4, y5, rfl, e⟩
      have sz1 : ∀ x : Nat, 1 ≤ x → x ≤ 20 → Sz [x] := fun x h0 h1 => ⟨by simp, fun y hy => by rw [List.mem_singleton.mp hy]; exact h0, by simpa using h1⟩
      have lt1 : ∀ (σ : L2.St) (H1 : Hp) (x : Nat), EvL (tLst (tCons (tC (.int (x : Int))) tNil)) σ H1 (nv [x]) := fun σ H1 x => el_lst (ea_cons ev_c ea_nil) (Nat.le_of_ble_eq_true rfl)
      have lt2 : ∀ (σ : L2.St) (H1 : Hp) (x y : Nat), EvL (tLst (tCons (tC (.int (x : Int))) (tCons (tC (.int (y : Int))) tNil))) σ H1 (nv [x, y]) := fun σ H1 x y => el_lst (ea_cons ev_c (ea_cons ev_c ea_nil)) (Nat.le_of_ble_eq_true rfl)
      have g1 : ∀ (σ : L2.St) (H1 : Hp), EvD K (tCall sp_grow [] E0 (tCons (tLst (tCons (tC (.int 2)) tNil)) (tCons (tC (.int 2)) (tCons (tLst (tCons (tC (.int 2)) (tCons (tC (.int 2)) tNil))) tNil)))) σ H1 (.tuple [.int 3, .int 10]) := fun σ H1 =>
        ed_share (eu_growN (E := E0) (x := 2) (left := 2) (s := [2]) (u := [2, 2]) (lt1 σ H1 2) (ev_c (v := .int 2)) (lt2 σ H1 2 2) (sz1 2 (by decide) (by decide)) ⟨by decide, trivial⟩ (by decide) (by decide) (by decide) (by decide)) (by decide +kernel) (by decide +kernel)
      have g2 : ∀ (σ : L2.St) (H1 : Hp), EvD K (tCall sp_grow [] E0 (tCons (tLst (tCons (tC (.int 2)) tNil)) (tCons (tC (.int 2)) (tCons (tLst (tCons (tC (.int 3)) (tCons (tC (.int 1)) tNil))) tNil)))) σ H1 (.tuple [.int 2, .int 5]) := fun σ H1 =>
        ed_share (eu_growN (E := E0) (x := 2) (left := 2) (s := [2]) (u := [3, 1]) (lt1 σ H1 2) (ev_c (v := .int 2)) (lt2 σ H1 3 1) (sz1 2 (by decide) (by decide)) ⟨by decide, trivial⟩ (by decide) (by decide) (by decide) (by decide)) (by decide +kernel) (by decide +kernel)
      have g3 : ∀ (σ : L2.St) (H1 : Hp), EvD K (tCall sp_grow [] E0 (tCons (tLst (tCons (tC (.int 2)) tNil)) (tCons (tC (.int 2)) (tCons (tLst (tCons (tC (.int 4)) (tCons (tC (.int 0)) tNil))) tNil)))) σ H1 (.tuple [.int 3, .int 10]) := fun σ H1 =>
        ed_share (eu_growN (E := E0) (x := 2) (left := 2) (s := [2]) (u := [4, 0]) (lt1 σ H1 2) (ev_c (v := .int 2)) (lt2 σ H1 4 0) (sz1 2 (by decide) (by decide)) ⟨by decide, trivial⟩ (by decide) (by decide) (by decide) (by decide)) (by decide +kernel) (by decide +kernel)
      have g4 : ∀ (σ : L2.St) (H1 : Hp), EvD K (tCall sp_grow [] E0 (tCons (tLst (tCons (tC (.int 5)) tNil)) (tCons (tC (.int 3)) (tCons (tLst (tCons (tC (.int 5)) (tCons (tC (.int 0)) tNil))) tNil)))) σ H1 (.tuple [.int 1, .int 1]) := fun σ H1 =>
        ed_share (eu_growN (E := E0) (x := 3) (left := 0) (s := [5]) (u := [5, 0]) (lt1 σ H1 5) (ev_c (v := .int 3)) (lt2 σ H1 5 0) (sz1 5 (by decide) (by decide)) ⟨by decide, trivial⟩ (by decide) (by decide) (by decide) (by decide)) (by decide +kernel) (by decide +kernel)
      have g5 : ∀ (σ : L2.St) (H1 : Hp), EvD K (tCall sp_mean_later [] E0 (tCons (tLst (tCons (tC (.int 2)) tNil)) (tCons (tC (.int 2)) (tCons (tC (.int 2)) tNil)))) σ H1 (.list [.tuple [.int 3, .int 1]]) := fun σ H1 =>
        ed_pairs [(3, 1)] (elt_meanN (E := E0) (s := [2]) (x := 2) (m := 2) (lt1 σ H1 2) (ev_c (v := .int 2)) (ev_c (v := .int ((2 : Nat) : Int))) (sz1 2 (by decide) (by decide)) (by decide) (by decide) (by decide))
      have g6 : ∀ (σ : L2.St) (H1 : Hp), EvD K (tCall sp_new_shares [] E0 (tCons (tLst (tCons (tC (.int 7)) (tCons (tC (.int 1)) tNil))) (tCons (tC (.int 5)) (tCons (tC (.int 0)) tNil)))) σ H1 (.list [.tuple [.int 1, .int 1]]) := fun σ H1 =>
        ed_pairs [(1, 1)] (elt_newN (E := E0) (s := [7, 1]) (x := 5) (m := 0) (lt2 σ H1 7 1) (ev_c (v := .int 5)) (ev_c (v := .int ((0 : Nat) : Int))) ⟨by decide, by decide, by decide⟩ (by decide) (by decide) (by decide))
      have g7 : ∀ (σ : L2.St) (H1 : Hp), EvD K (tCall sp_new_shares [] E0 (tCons (tLst (tCons (tC (.int 1)) tNil)) (tCons (tC (.int 1)) (tCons (tC (.int 1)) tNil)))) σ H1 (.list [.tuple [.int 1, .int 2], .tuple [.int 1, .int 2]]) := fun σ H1 =>
        ed_pairs [(1, 2), (1, 2)] (elt_newN (E := E0) (s := [1]) (x := 1) (m := 1) (lt1 σ H1 1) (ev_c (v := .int 1)) (ev_c (v := .int ((1 : Nat) : Int))) (sz1 1 (by decide) (by decide)) (by decide) (by decide) (by decide))
      refine q_asgD (K := K) (d := .list [.tuple [.int 3, .int 10], .tuple [.int 2, .int 5], .tuple [.int 3, .int 10]]) (ed_lst (eda_cons (g1 _ _) (eda_cons (g2 _ _) (eda_cons (g3 _ _) eda_nil))) (Nat.le_of_ble_eq_true rfl)) fun v H1 e1 dp => ?_
      have sh3 : SeqAt.shaped (.list [.tuple [.int 3, .int 10], .tuple [.int 2, .int 5], .tuple [.int 3, .int 10]]) = true := by decide +kernel
      have sh1 : SeqAt.shaped (.list [.tuple [.int 3, .int 1]]) = true := by decide +kernel
      have sh11 : SeqAt.shaped (.list [.tuple [.int 1, .int 1]]) = true := by decide +kernel
      have sh2 : SeqAt.shaped (.list [.tuple [.int 1, .int 2], .tuple [.int 1, .int 2]]) = true := by decide +kernel
      refine q_when (b := false) (et_is (et_or (et_test (ev_neD (ed_of (ev_var rfl) dp) (ed_lst (eda_cons (ed_pair ev_c ev_c) (eda_cons (ed_pair ev_c ev_c) (eda_cons (ed_pair ev_c ev_c) eda_nil))) (Nat.le_of_ble_eq_true rfl)) sh3 sh3)) fun _ => et_or (et_test (ev_neD (g4 _ _) (ed_pair ev_c ev_c) (shaped_sh _ _) (shaped_sh _ _))) fun _ => et_test (ev_neD (g5 _ _) (ed_lst (eda_cons (ed_pair ev_c ev_c) eda_nil) (Nat.le_of_ble_eq_true rfl)) sh1 sh1)) (by rw [eqv_same sh3, eqv_same (shaped_sh _ _), eqv_same sh1]; rfl)) (fun hb => Bool.noConfusion hb) fun _ H2 e2 => ?_
      exact s_ret (v := .bl true) (ev_is (ev_andV (ev_eqD (g6 _ _) (ed_lst (eda_cons (ed_pair ev_c ev_c) eda_nil) (Nat.le_of_ble_eq_true rfl)) sh11 sh11) fun _ => ev_eqD (g7 _ _) (ed_lst (eda_cons (ed_pair ev_c ev_c) (eda_cons (ed_pair ev_c ev_c) eda_nil)) (Nat.le_of_ble_eq_true rfl)) sh2 sh2) (by rw [eqv_same sh11, eqv_same sh2]; rfl)) fun H4 e4 => k H4
end

theorem all_mk {l : PySem.W.OpenLaw} {w : World} {K : PySem.W.Frag} {h : Heap} {mg : Str → Option Value} {fa : Addr} (X : K.In h) (G : h.Ns mainGlobals mg) (hfa : mg "law" = some (.ref fa))
    {f1 : Addr} {od1 an1 : Option Addr} {sl1 : Array (Option Value)} {oc1 kV1 dc1 pm1 cd1 ct1 : Value}
    {f2 : Addr} {od2 an2 : Option Addr} {sl2 : Array (Option Value)} {oc2 kV2 dc2 pm2 cd2 ct2 : Value}
    {f3 : Addr} {od3 an3 : Option Addr} {sl3 : Array (Option Value)} {oc3 kV3 dc3 pm3 cd3 ct3 : Value}
    {f4 : Addr} {od4 an4 : Option Addr} {sl4 : Array (Option Value)} {oc4 kV4 dc4 pm4 cd4 ct4 : Value}
    {f5 : Addr} {od5 an5 : Option Addr} {sl5 : Array (Option Value)} {oc5 kV5 dc5 pm5 cd5 ct5 : Value}
    {f6 : Addr} {od6 an6 : Option Addr} {sl6 : Array (Option Value)} {oc6 kV6 dc6 pm6 cd6 ct6 : Value}
    {f7 : Addr} {od7 an7 : Option Addr} {sl7 : Array (Option Value)} {oc7 kV7 dc7 pm7 cd7 ct7 : Value}
    {f8 : Addr} {od8 an8 : Option Addr} {sl8 : Array (Option Value)} {oc8 kV8 dc8 pm8 cd8 ct8 : Value}
    {f9 : Addr} {od9 an9 : Option Addr} {sl9 : Array (Option Value)} {oc9 kV9 dc9 pm9 cd9 ct9 : Value}
    {f10 : Addr} {od10 an10 : Option Addr} {sl10 : Array (Option Value)} {oc10 kV10 dc10 pm10 cd10 ct10 : Value}
    {f11 : Addr} {od11 an11 : Option Addr} {sl11 : Array (Option Value)} {oc11 kV11 dc11 pm11 cd11 ct11 : Value}
    {f12 : Addr} {od12 an12 : Option Addr} {sl12 : Array (Option Value)} {oc12 kV12 dc12 pm12 cd12 ct12 : Value}
    {f13 : Addr} {od13 an13 : Option Addr} {sl13 : Array (Option Value)} {oc13 kV13 dc13 pm13 cd13 ct13 : Value}
    {f14 : Addr} {od14 an14 : Option Addr} {sl14 : Array (Option Value)} {oc14 kV14 dc14 pm14 cd14 ct14 : Value}
    {f15 : Addr} {od15 an15 : Option Addr} {sl15 : Array (Option Value)} {oc15 kV15 dc15 pm15 cd15 ct15 : Value}
    {f16 : Addr} {od16 an16 : Option Addr} {sl16 : Array (Option Value)} {oc16 kV16 dc16 pm16 cd16 ct16 : Value}
    {f17 : Addr} {od17 an17 : Option Addr} {sl17 : Array (Option Value)} {oc17 kV17 dc17 pm17 cd17 ct17 : Value}
    {f18 : Addr} {od18 an18 : Option Addr} {sl18 : Array (Option Value)} {oc18 kV18 dc18 pm18 cd18 ct18 : Value}
    {f19 : Addr} {od19 an19 : Option Addr} {sl19 : Array (Option Value)} {oc19 kV19 dc19 pm19 cd19 ct19 : Value}
    {f20 : Addr} {od20 an20 : Option Addr} {sl20 : Array (Option Value)} {oc20 kV20 dc20 pm20 cd20 ct20 : Value}
    {f21 : Addr} {od21 an21 : Option Addr} {sl21 : Array (Option Value)} {oc21 kV21 dc21 pm21 cd21 ct21 : Value}
    {t_MOST_GUESTS : Tok}
    {t_MOST_WEIGHT : Tok}
    {t_MOST_LATER : Tok}
    {t_MOST_MORE : Tok}
    (a1 : PySem.W.nsIn K mainGlobals "is_whole" = some (some (.ref f1))) (l1 : K.lookup f1 = some ⟨oc1, od1, .func (PySem.W.fnOf "is_whole" "is_whole" (defArgs s_is_whole) (defBody s_is_whole) (defScope s_is_whole) .none kV1 dc1 pm1 an1 cd1 ct1), sl1⟩) (c1 : PySem.W.codeIn K cd1 "is_whole" = true) (k1 : PySem.W.keepIn K (.ref f1) = true)
    (a2 : PySem.W.nsIn K mainGlobals "is_within" = some (some (.ref f2))) (l2 : K.lookup f2 = some ⟨oc2, od2, .func (PySem.W.fnOf "is_within" "is_within" (defArgs s_is_within) (defBody s_is_within) (defScope s_is_within) .none kV2 dc2 pm2 an2 cd2 ct2), sl2⟩) (c2 : PySem.W.codeIn K cd2 "is_within" = true) (k2 : PySem.W.keepIn K (.ref f2) = true)
    (a3 : PySem.W.nsIn K mainGlobals "check_weight" = some (some (.ref f3))) (l3 : K.lookup f3 = some ⟨oc3, od3, .func (PySem.W.fnOf "check_weight" "check_weight" (defArgs s_check_weight) (defBody s_check_weight) (defScope s_check_weight) .none kV3 dc3 pm3 an3 cd3 ct3), sl3⟩) (c3 : PySem.W.codeIn K cd3 "check_weight" = true) (k3 : PySem.W.keepIn K (.ref f3) = true)
    (a4 : PySem.W.nsIn K mainGlobals "check_number" = some (some (.ref f4))) (l4 : K.lookup f4 = some ⟨oc4, od4, .func (PySem.W.fnOf "check_number" "check_number" (defArgs s_check_number) (defBody s_check_number) (defScope s_check_number) .none kV4 dc4 pm4 an4 cd4 ct4), sl4⟩) (c4 : PySem.W.codeIn K cd4 "check_number" = true) (k4 : PySem.W.keepIn K (.ref f4) = true)
    (a5 : PySem.W.nsIn K mainGlobals "rising" = some (some (.ref f5))) (l5 : K.lookup f5 = some ⟨oc5, od5, .func (PySem.W.fnOf "rising" "rising" (defArgs s_rising) (defBody s_rising) (defScope s_rising) .none kV5 dc5 pm5 an5 cd5 ct5), sl5⟩) (c5 : PySem.W.codeIn K cd5 "rising" = true) (k5 : PySem.W.keepIn K (.ref f5) = true)
    (a6 : PySem.W.nsIn K mainGlobals "fraction" = some (some (.ref f6))) (l6 : K.lookup f6 = some ⟨oc6, od6, .func (PySem.W.fnOf "fraction" "fraction" (defArgs s_fraction) (defBody s_fraction) (defScope s_fraction) .none kV6 dc6 pm6 an6 cd6 ct6), sl6⟩) (c6 : PySem.W.codeIn K cd6 "fraction" = true) (k6 : PySem.W.keepIn K (.ref f6) = true)
    (a7 : PySem.W.nsIn K mainGlobals "check_sizes" = some (some (.ref f7))) (l7 : K.lookup f7 = some ⟨oc7, od7, .func (PySem.W.fnOf "check_sizes" "check_sizes" (defArgs s_check_sizes) (defBody s_check_sizes) (defScope s_check_sizes) .none kV7 dc7 pm7 an7 cd7 ct7), sl7⟩) (c7 : PySem.W.codeIn K cd7 "check_sizes" = true) (k7 : PySem.W.keepIn K (.ref f7) = true)
    (a8 : PySem.W.nsIn K mainGlobals "are_sizes" = some (some (.ref f8))) (l8 : K.lookup f8 = some ⟨oc8, od8, .func (PySem.W.fnOf "are_sizes" "are_sizes" (defArgs s_are_sizes) (defBody s_are_sizes) (defScope s_are_sizes) .none kV8 dc8 pm8 an8 cd8 ct8), sl8⟩) (c8 : PySem.W.codeIn K cd8 "are_sizes" = true) (k8 : PySem.W.keepIn K (.ref f8) = true)
    (a9 : PySem.W.nsIn K mainGlobals "grow_share" = some (some (.ref f9))) (l9 : K.lookup f9 = some ⟨oc9, od9, .func (PySem.W.fnOf "grow_share" "grow_share" (defArgs s_grow_share) (defBody s_grow_share) (defScope s_grow_share) .none kV9 dc9 pm9 an9 cd9 ct9), sl9⟩) (c9 : PySem.W.codeIn K cd9 "grow_share" = true) (k9 : PySem.W.keepIn K (.ref f9) = true)
    (a10 : PySem.W.nsIn K mainGlobals "mean_later" = some (some (.ref f10))) (l10 : K.lookup f10 = some ⟨oc10, od10, .func (PySem.W.fnOf "mean_later" "mean_later" (defArgs s_mean_later) (defBody s_mean_later) (defScope s_mean_later) .none kV10 dc10 pm10 an10 cd10 ct10), sl10⟩) (c10 : PySem.W.codeIn K cd10 "mean_later" = true) (k10 : PySem.W.keepIn K (.ref f10) = true)
    (a11 : PySem.W.nsIn K mainGlobals "new_shares" = some (some (.ref f11))) (l11 : K.lookup f11 = some ⟨oc11, od11, .func (PySem.W.fnOf "new_shares" "new_shares" (defArgs s_new_shares) (defBody s_new_shares) (defScope s_new_shares) .none kV11 dc11 pm11 an11 cd11 ct11), sl11⟩) (c11 : PySem.W.codeIn K cd11 "new_shares" = true) (k11 : PySem.W.keepIn K (.ref f11) = true)
    (a12 : PySem.W.nsIn K mainGlobals "check_later" = some (some (.ref f12))) (l12 : K.lookup f12 = some ⟨oc12, od12, .func (PySem.W.fnOf "check_later" "check_later" (defArgs s_check_later) (defBody s_check_later) (defScope s_check_later) .none kV12 dc12 pm12 an12 cd12 ct12), sl12⟩) (c12 : PySem.W.codeIn K cd12 "check_later" = true) (k12 : PySem.W.keepIn K (.ref f12) = true)
    (a13 : PySem.W.nsIn K mainGlobals "are_later" = some (some (.ref f13))) (l13 : K.lookup f13 = some ⟨oc13, od13, .func (PySem.W.fnOf "are_later" "are_later" (defArgs s_are_later) (defBody s_are_later) (defScope s_are_later) .none kV13 dc13 pm13 an13 cd13 ct13), sl13⟩) (c13 : PySem.W.codeIn K cd13 "are_later" = true) (k13 : PySem.W.keepIn K (.ref f13) = true)
    (a14 : PySem.W.nsIn K mainGlobals "_law_store" = some (some (.ref f14))) (l14 : K.lookup f14 = some ⟨oc14, od14, .func (PySem.W.fnOf "_law_store" "_law_store" (defArgs s_law_store) (defBody s_law_store) (defScope s_law_store) .none kV14 dc14 pm14 an14 cd14 ct14), sl14⟩) (c14 : PySem.W.codeIn K cd14 "_law_store" = true) (k14 : PySem.W.keepIn K (.ref f14) = true)
    (a15 : PySem.W.nsIn K mainGlobals "_law_pick" = some (some (.ref f15))) (l15 : K.lookup f15 = some ⟨oc15, od15, .func (PySem.W.fnOf "_law_pick" "_law_pick" (defArgs s_law_pick) (defBody s_law_pick) (defScope s_law_pick) .none kV15 dc15 pm15 an15 cd15 ct15), sl15⟩) (c15 : PySem.W.codeIn K cd15 "_law_pick" = true) (k15 : PySem.W.keepIn K (.ref f15) = true)
    (a16 : PySem.W.nsIn K mainGlobals "_law_lowest" = some (some (.ref f16))) (l16 : K.lookup f16 = some ⟨oc16, od16, .func (PySem.W.fnOf "_law_lowest" "_law_lowest" (defArgs s_law_lowest) (defBody s_law_lowest) (defScope s_law_lowest) .none kV16 dc16 pm16 an16 cd16 ct16), sl16⟩) (c16 : PySem.W.codeIn K cd16 "_law_lowest" = true) (k16 : PySem.W.keepIn K (.ref f16) = true)
    (a17 : PySem.W.nsIn K mainGlobals "_law_rising" = some (some (.ref f17))) (l17 : K.lookup f17 = some ⟨oc17, od17, .func (PySem.W.fnOf "_law_rising" "_law_rising" (defArgs s_law_rising) (defBody s_law_rising) (defScope s_law_rising) .none kV17 dc17 pm17 an17 cd17 ct17), sl17⟩) (c17 : PySem.W.codeIn K cd17 "_law_rising" = true) (k17 : PySem.W.keepIn K (.ref f17) = true)
    (a18 : PySem.W.nsIn K mainGlobals "_law_heavy" = some (some (.ref f18))) (l18 : K.lookup f18 = some ⟨oc18, od18, .func (PySem.W.fnOf "_law_heavy" "_law_heavy" (defArgs s_law_heavy) (defBody s_law_heavy) (defScope s_law_heavy) .none kV18 dc18 pm18 an18 cd18 ct18), sl18⟩) (c18 : PySem.W.codeIn K cd18 "_law_heavy" = true) (k18 : PySem.W.keepIn K (.ref f18) = true)
    (a19 : PySem.W.nsIn K mainGlobals "_law_ways" = some (some (.ref f19))) (l19 : K.lookup f19 = some ⟨oc19, od19, .func (PySem.W.fnOf "_law_ways" "_law_ways" (defArgs s_law_ways) (defBody s_law_ways) (defScope s_law_ways) .none kV19 dc19 pm19 an19 cd19 ct19), sl19⟩) (c19 : PySem.W.codeIn K cd19 "_law_ways" = true) (k19 : PySem.W.keepIn K (.ref f19) = true)
    (a20 : PySem.W.nsIn K mainGlobals "_law_right" = some (some (.ref f20))) (l20 : K.lookup f20 = some ⟨oc20, od20, .func (PySem.W.fnOf "_law_right" "_law_right" (defArgs s_law_right) (defBody s_law_right) (defScope s_law_right) .none kV20 dc20 pm20 an20 cd20 ct20), sl20⟩) (c20 : PySem.W.codeIn K cd20 "_law_right" = true) (k20 : PySem.W.keepIn K (.ref f20) = true)
    (a21 : PySem.W.nsIn K mainGlobals "law" = some (some (.ref f21))) (l21 : K.lookup f21 = some ⟨oc21, od21, .func (PySem.W.fnOf "law" "law" (defArgs s_law) (defBody s_law) (defScope s_law) .none kV21 dc21 pm21 an21 cd21 ct21), sl21⟩) (c21 : PySem.W.codeIn K cd21 "law" = true) (k21 : PySem.W.keepIn K (.ref f21) = true)
    (z_abs : PySem.W.nsIn K mainGlobals "abs" = some none)
    (z_all : PySem.W.nsIn K mainGlobals "all" = some none)
    (z_enumerate : PySem.W.nsIn K mainGlobals "enumerate" = some none)
    (z_int : PySem.W.nsIn K mainGlobals "int" = some none)
    (z_len : PySem.W.nsIn K mainGlobals "len" = some none)
    (z_list : PySem.W.nsIn K mainGlobals "list" = some none)
    (z_max : PySem.W.nsIn K mainGlobals "max" = some none)
    (z_min : PySem.W.nsIn K mainGlobals "min" = some none)
    (z_range : PySem.W.nsIn K mainGlobals "range" = some none)
    (z_repr : PySem.W.nsIn K mainGlobals "repr" = some none)
    (z_sum : PySem.W.nsIn K mainGlobals "sum" = some none)
    (z_tuple : PySem.W.nsIn K mainGlobals "tuple" = some none)
    (z_type : PySem.W.nsIn K mainGlobals "type" = some none)
    (z_zip : PySem.W.nsIn K mainGlobals "zip" = some none)
    (y_MOST_GUESTS : PySem.W.nsIn K mainGlobals "MOST_GUESTS" = some (some (.int 20 t_MOST_GUESTS)))
    (y_MOST_WEIGHT : PySem.W.nsIn K mainGlobals "MOST_WEIGHT" = some (some (.int 1000000000000 t_MOST_WEIGHT)))
    (y_MOST_LATER : PySem.W.nsIn K mainGlobals "MOST_LATER" = some (some (.int 60 t_MOST_LATER)))
    (y_MOST_MORE : PySem.W.nsIn K mainGlobals "MOST_MORE" = some (some (.int 40 t_MOST_MORE)))
    (x_comb : PySem.W.nsIn K mainGlobals "comb" = some (some (.builtin "math.comb")))
    (x_gcd : PySem.W.nsIn K mainGlobals "gcd" = some (some (.builtin "math.gcd")))
    (x_perm : PySem.W.nsIn K mainGlobals "perm" = some (some (.builtin "math.perm")))
    : ∃ fd : FuncData, (∀ (s : Shared) (v : Value), BindsTo s fd ⟨[v], []⟩ [("script", v)]) ∧ ∀ base : Heap, K.In base → base.Ns mainGlobals mg → FnOkG l.prog w K mg base 8 fa fd ["script"] (sp_law K) := by
  have e := hfa.symm.trans (PySem.W.mg_of X G a21)
  cases e
  have F1 := fun_mk (st := s_is_whole) l1 c1 k1
  have F2 := fun_mk (st := s_is_within) l2 c2 k2
  have F3 := fun_mk (st := s_check_weight) l3 c3 k3
  have F4 := fun_mk (st := s_check_number) l4 c4 k4
  have F5 := fun_mk (st := s_rising) l5 c5 k5
  have F6 := fun_mk (st := s_fraction) l6 c6 k6
  have F7 := fun_mk (st := s_check_sizes) l7 c7 k7
  have F8 := fun_mk (st := s_are_sizes) l8 c8 k8
  have F9 := fun_mk (st := s_grow_share) l9 c9 k9
  have F10 := fun_mk (st := s_mean_later) l10 c10 k10
  have F11 := fun_mk (st := s_new_shares) l11 c11 k11
  have F12 := fun_mk (st := s_check_later) l12 c12 k12
  have F13 := fun_mk (st := s_are_later) l13 c13 k13
  have F14 := fun_mk (st := s_law_store) l14 c14 k14
  have F15 := fun_mk (st := s_law_pick) l15 c15 k15
  have F16 := fun_mk (st := s_law_lowest) l16 c16 k16
  have F17 := fun_mk (st := s_law_rising) l17 c17 k17
  have F18 := fun_mk (st := s_law_heavy) l18 c18 k18
  have F19 := fun_mk (st := s_law_ways) l19 c19 k19
  have F20 := fun_mk (st := s_law_right) l20 c20 k20
  have F21 := fun_mk (st := s_law) l21 c21 k21
  let T : Tx K mg :=
    { f_is_whole := f1, d_is_whole := _, F_is_whole := F1, g_is_whole := PySem.W.mg_of X G a1, b_is_whole := F1.binds (ps := ["thing"]) fun _ _ _ _ _ _ us hl => match us, hl with | [_], _ => rfl,
      f_is_within := f2, d_is_within := _, F_is_within := F2, g_is_within := PySem.W.mg_of X G a2, b_is_within := F2.binds (ps := ["thing", "least", "most"]) fun _ _ _ _ _ _ us hl => match us, hl with | [_, _, _], _ => rfl,
      f_check_weight := f3, d_check_weight := _, F_check_weight := F3, g_check_weight := PySem.W.mg_of X G a3, b_check_weight := F3.binds (ps := ["weight"]) fun _ _ _ _ _ _ us hl => match us, hl with | [_], _ => rfl,
      f_check_number := f4, d_check_number := _, F_check_number := F4, g_check_number := PySem.W.mg_of X G a4, b_check_number := F4.binds (ps := ["number", "least", "most"]) fun _ _ _ _ _ _ us hl => match us, hl with | [_, _, _], _ => rfl,
      f_rising := f5, d_rising := _, F_rising := F5, g_rising := PySem.W.mg_of X G a5, b_rising := F5.binds (ps := ["weight", "guests"]) fun _ _ _ _ _ _ us hl => match us, hl with | [_, _], _ => rfl,
      f_fraction := f6, d_fraction := _, F_fraction := F6, g_fraction := PySem.W.mg_of X G a6, b_fraction := F6.binds (ps := ["top", "bottom"]) fun _ _ _ _ _ _ us hl => match us, hl with | [_, _], _ => rfl,
      f_check_sizes := f7, d_check_sizes := _, F_check_sizes := F7, g_check_sizes := PySem.W.mg_of X G a7, b_check_sizes := F7.binds (ps := ["sizes"]) fun _ _ _ _ _ _ us hl => match us, hl with | [_], _ => rfl,
      f_are_sizes := f8, d_are_sizes := _, F_are_sizes := F8, g_are_sizes := PySem.W.mg_of X G a8, b_are_sizes := F8.binds (ps := ["thing"]) fun _ _ _ _ _ _ us hl => match us, hl with | [_], _ => rfl,
      f_grow_share := f9, d_grow_share := _, F_grow_share := F9, g_grow_share := PySem.W.mg_of X G a9, b_grow_share := F9.binds (ps := ["sizes", "weight", "later"]) fun _ _ _ _ _ _ us hl => match us, hl with | [_, _, _], _ => rfl,
      f_mean_later := f10, d_mean_later := _, F_mean_later := F10, g_mean_later := PySem.W.mg_of X G a10, b_mean_later := F10.binds (ps := ["sizes", "weight", "number"]) fun _ _ _ _ _ _ us hl => match us, hl with | [_, _, _], _ => rfl,
      f_new_shares := f11, d_new_shares := _, F_new_shares := F11, g_new_shares := PySem.W.mg_of X G a11, b_new_shares := F11.binds (ps := ["sizes", "weight", "number"]) fun _ _ _ _ _ _ us hl => match us, hl with | [_, _, _], _ => rfl,
      f_check_later := f12, d_check_later := _, F_check_later := F12, g_check_later := PySem.W.mg_of X G a12, b_check_later := F12.binds (ps := ["later", "sizes"]) fun _ _ _ _ _ _ us hl => match us, hl with | [_, _], _ => rfl,
      f_are_later := f13, d_are_later := _, F_are_later := F13, g_are_later := PySem.W.mg_of X G a13, b_are_later := F13.binds (ps := ["thing", "sizes"]) fun _ _ _ _ _ _ us hl => match us, hl with | [_, _], _ => rfl,
      f_law_store := f14, d_law_store := _, F_law_store := F14, g_law_store := PySem.W.mg_of X G a14, b_law_store := F14.binds (ps := ["script", "k"]) fun _ _ _ _ _ _ us hl => match us, hl with | [_, _], _ => rfl,
      f_law_pick := f15, d_law_pick := _, F_law_pick := F15, g_law_pick := PySem.W.mg_of X G a15, b_law_pick := F15.binds (ps := ["store", "bound"]) fun _ _ _ _ _ _ us hl => match us, hl with | [_, _], _ => rfl,
      f_law_lowest := f16, d_law_lowest := _, F_law_lowest := F16, g_law_lowest := PySem.W.mg_of X G a16, b_law_lowest := F16.binds (ps := ["top", "bottom"]) fun _ _ _ _ _ _ us hl => match us, hl with | [_, _], _ => rfl,
      f_law_rising := f17, d_law_rising := _, F_law_rising := F17, g_law_rising := PySem.W.mg_of X G a17, b_law_rising := F17.binds (ps := ["base", "many_here"]) fun _ _ _ _ _ _ us hl => match us, hl with | [_, _], _ => rfl,
      f_law_heavy := f18, d_law_heavy := _, F_law_heavy := F18, g_law_heavy := PySem.W.mg_of X G a18, b_law_heavy := F18.binds (ps := ["store"]) fun _ _ _ _ _ _ us hl => match us, hl with | [_], _ => rfl,
      f_law_ways := f19, d_law_ways := _, F_law_ways := F19, g_law_ways := PySem.W.mg_of X G a19, b_law_ways := F19.binds (ps := ["heavy", "wide", "many_more"]) fun _ _ _ _ _ _ us hl => match us, hl with | [_, _, _], _ => rfl,
      f_law_right := f20, d_law_right := _, F_law_right := F20, g_law_right := PySem.W.mg_of X G a20, b_law_right := F20.binds (ps := ["heavy", "wide", "many_more"]) fun _ _ _ _ _ _ us hl => match us, hl with | [_, _, _], _ => rfl,
      f_law := fa, d_law := _, F_law := F21, g_law := PySem.W.mg_of X G a21, b_law := F21.binds (ps := ["script"]) fun _ _ _ _ _ _ us hl => match us, hl with | [_], _ => rfl,
      m_abs := PySem.W.mg_none_of X G z_abs,
      m_all := PySem.W.mg_none_of X G z_all,
      m_enumerate := PySem.W.mg_none_of X G z_enumerate,
      m_int := PySem.W.mg_none_of X G z_int,
      m_len := PySem.W.mg_none_of X G z_len,
      m_list := PySem.W.mg_none_of X G z_list,
      m_max := PySem.W.mg_none_of X G z_max,
      m_min := PySem.W.mg_none_of X G z_min,
      m_range := PySem.W.mg_none_of X G z_range,
      m_repr := PySem.W.mg_none_of X G z_repr,
      m_sum := PySem.W.mg_none_of X G z_sum,
      m_tuple := PySem.W.mg_none_of X G z_tuple,
      m_type := PySem.W.mg_none_of X G z_type,
      m_zip := PySem.W.mg_none_of X G z_zip,
      c_MOST_GUESTS := ⟨_, PySem.W.mg_of X G y_MOST_GUESTS, ⟨_, rfl⟩⟩,
      c_MOST_WEIGHT := ⟨_, PySem.W.mg_of X G y_MOST_WEIGHT, ⟨_, rfl⟩⟩,
      c_MOST_LATER := ⟨_, PySem.W.mg_of X G y_MOST_LATER, ⟨_, rfl⟩⟩,
      c_MOST_MORE := ⟨_, PySem.W.mg_of X G y_MOST_MORE, ⟨_, rfl⟩⟩,
      i_comb := PySem.W.mg_of X G x_comb,
      i_gcd := PySem.W.mg_of X G x_gcd,
      i_perm := PySem.W.mg_of X G x_perm,
      kb_new_shares_0_sizes_weight_number := ⟨(fun s us ws _ hl => match us, ws, hl with | [], [_, _, _], _ => .of_eq rfl | (_ :: _), _, hl => absurd (show (0 : Nat) = 3 from hl) (by decide) | [], [], hl => absurd (show (0 : Nat) = 3 from hl) (by decide) | [], (_ :: []), hl => absurd (show (0 : Nat) = 3 from hl) (by decide) | [], (_ :: (_ :: [])), hl => absurd (show (0 : Nat) = 3 from hl) (by decide) | [], (_ :: (_ :: (_ :: (_ :: _)))), hl => absurd (show (0 : Nat) = 3 from hl) (by decide)), (fun {vs us zs ws} r z => match r, z with | .nil, (.cons b0 (.cons b1 (.cons b2 .nil))) => (.cons b0 (.cons b1 (.cons b2 .nil))) | (.cons _ _), _ => .nil | .nil, .nil => .nil | .nil, (.cons _ .nil) => .nil | .nil, (.cons _ (.cons _ .nil)) => .nil | .nil, (.cons _ (.cons _ (.cons _ (.cons _ _)))) => .nil)⟩,
      kb_mean_later_0_sizes_weight_number := ⟨(fun s us ws _ hl => match us, ws, hl with | [], [_, _, _], _ => .of_eq rfl | (_ :: _), _, hl => absurd (show (0 : Nat) = 3 from hl) (by decide) | [], [], hl => absurd (show (0 : Nat) = 3 from hl) (by decide) | [], (_ :: []), hl => absurd (show (0 : Nat) = 3 from hl) (by decide) | [], (_ :: (_ :: [])), hl => absurd (show (0 : Nat) = 3 from hl) (by decide) | [], (_ :: (_ :: (_ :: (_ :: _)))), hl => absurd (show (0 : Nat) = 3 from hl) (by decide)), (fun {vs us zs ws} r z => match r, z with | .nil, (.cons b0 (.cons b1 (.cons b2 .nil))) => (.cons b0 (.cons b1 (.cons b2 .nil))) | (.cons _ _), _ => .nil | .nil, .nil => .nil | .nil, (.cons _ .nil) => .nil | .nil, (.cons _ (.cons _ .nil)) => .nil | .nil, (.cons _ (.cons _ (.cons _ (.cons _ _)))) => .nil)⟩,
      kb_grow_share_0_sizes_weight_later := ⟨(fun s us ws _ hl => match us, ws, hl with | [], [_, _, _], _ => .of_eq rfl | (_ :: _), _, hl => absurd (show (0 : Nat) = 3 from hl) (by decide) | [], [], hl => absurd (show (0 : Nat) = 3 from hl) (by decide) | [], (_ :: []), hl => absurd (show (0 : Nat) = 3 from hl) (by decide) | [], (_ :: (_ :: [])), hl => absurd (show (0 : Nat) = 3 from hl) (by decide) | [], (_ :: (_ :: (_ :: (_ :: _)))), hl => absurd (show (0 : Nat) = 3 from hl) (by decide)), (fun {vs us zs ws} r z => match r, z with | .nil, (.cons b0 (.cons b1 (.cons b2 .nil))) => (.cons b0 (.cons b1 (.cons b2 .nil))) | (.cons _ _), _ => .nil | .nil, .nil => .nil | .nil, (.cons _ .nil) => .nil | .nil, (.cons _ (.cons _ .nil)) => .nil | .nil, (.cons _ (.cons _ (.cons _ (.cons _ _)))) => .nil)⟩ }
  exact ⟨PySem.W.fnOf "law" "law" (defArgs s_law) (defBody s_law) (defScope s_law) .none kV21 dc21 pm21 an21 cd21 ct21, fun s v => .of_eq rfl, fun base _ _ => ok_law T⟩
end K33
open PySem PySem.W PyProof.Rows
set_option maxRecDepth 100000 in
set_option maxHeartbeats 0 in
theorem PySem.Challenge.cw_newtables_k33_growth_guest_by_guest_holds : PySem.Challenge.rw_newtables_k33_growth_guest_by_guest.Holds := by
  w_on; o_law; k_head; (case hw => w_witness2)
  k_fill
  refine Kit.walk_G (l := PySem.Challenge.rw_newtables_k33_growth_guest_by_guest) (m := 63) (n := 8) (x := "script") (want := fun w => K33.sp_law _) rfl (by decide) rfl ⟨rfl, by decide, by decide⟩ (fun w h Y => PySem.W.kIn_of Y) ?F (fun _ _ a ns hl _ hS => ⟨a, ns, rfl, hS, hl, fun _ => rfl⟩)
  case F =>
    intro w mg fa h KX G hmg
    refine' K33.all_mk KX G hmg ?a1 ?l1 ?c1 ?k1 ?a2 ?l2 ?c2 ?k2 ?a3 ?l3 ?c3 ?k3 ?a4 ?l4 ?c4 ?k4 ?a5 ?l5 ?c5 ?k5 ?a6 ?l6 ?c6 ?k6 ?a7 ?l7 ?c7 ?k7 ?a8 ?l8 ?c8 ?k8 ?a9 ?l9 ?c9 ?k9 ?a10 ?l10 ?c10 ?k10 ?a11 ?l11 ?c11 ?k11 ?a12 ?l12 ?c12 ?k12 ?a13 ?l13 ?c13 ?k13 ?a14 ?l14 ?c14 ?k14 ?a15 ?l15 ?c15 ?k15 ?a16 ?l16 ?c16 ?k16 ?a17 ?l17 ?c17 ?k17 ?a18 ?l18 ?c18 ?k18 ?a19 ?l19 ?c19 ?k19 ?a20 ?l20 ?c20 ?k20 ?a21 ?l21 ?c21 ?k21 ?z_abs ?z_all ?z_enumerate ?z_int ?z_len ?z_list ?z_max ?z_min ?z_range ?z_repr ?z_sum ?z_tuple ?z_type ?z_zip ?y_MOST_GUESTS ?y_MOST_WEIGHT ?y_MOST_LATER ?y_MOST_MORE ?x_comb ?x_gcd ?x_perm
    (case a1 => k_is); (case l1 => k_is); (case c1 => k_is); (case k1 => k_is); (case a2 => k_is); (case l2 => k_is)
    (case c2 => k_is); (case k2 => k_is); (case a3 => k_is); (case l3 => k_is); (case c3 => k_is); (case k3 => k_is)
    (case a4 => k_is); (case l4 => k_is); (case c4 => k_is); (case k4 => k_is); (case a5 => k_is); (case l5 => k_is)
    (case c5 => k_is); (case k5 => k_is); (case a6 => k_is); (case l6 => k_is); (case c6 => k_is); (case k6 => k_is)
    (case a7 => k_is); (case l7 => k_is); (case c7 => k_is); (case k7 => k_is); (case a8 => k_is); (case l8 => k_is)
    (case c8 => k_is); (case k8 => k_is); (case a9 => k_is); (case l9 => k_is); (case c9 => k_is); (case k9 => k_is)
    (case a10 => k_is); (case l10 => k_is); (case c10 => k_is); (case k10 => k_is); (case a11 => k_is); (case l11 => k_is)
    (case c11 => k_is); (case k11 => k_is); (case a12 => k_is); (case l12 => k_is); (case c12 => k_is); (case k12 => k_is)
    (case a13 => k_is); (case l13 => k_is); (case c13 => k_is); (case k13 => k_is); (case a14 => k_is); (case l14 => k_is)
    (case c14 => k_is); (case k14 => k_is); (case a15 => k_is); (case l15 => k_is); (case c15 => k_is); (case k15 => k_is)
    (case a16 => k_is); (case l16 => k_is); (case c16 => k_is); (case k16 => k_is); (case a17 => k_is); (case l17 => k_is)
    (case c17 => k_is); (case k17 => k_is); (case a18 => k_is); (case l18 => k_is); (case c18 => k_is); (case k18 => k_is)
    (case a19 => k_is); (case l19 => k_is); (case c19 => k_is); (case k19 => k_is); (case a20 => k_is); (case l20 => k_is)
    (case c20 => k_is); (case k20 => k_is); (case a21 => k_is); (case l21 => k_is); (case c21 => k_is); (case k21 => k_is)
    (case z_abs => k_is); (case z_all => k_is); (case z_enumerate => k_is); (case z_int => k_is); (case z_len => k_is); (case z_list => k_is)
    (case z_max => k_is); (case z_min => k_is); (case z_range => k_is); (case z_repr => k_is); (case z_sum => k_is); (case z_tuple => k_is)
    (case z_type => k_is); (case z_zip => k_is); (case y_MOST_GUESTS => k_is); (case y_MOST_WEIGHT => k_is); (case y_MOST_LATER => k_is); (case y_MOST_MORE => k_is)
    (case x_comb => k_is); (case x_gcd => k_is); (case x_perm => k_is)
