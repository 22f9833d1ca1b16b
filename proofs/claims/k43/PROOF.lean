import PyProof.Rows.All
import Wide.All
import OpenK.AllK
import Wide.FinOn
import PyProof.TypeEq
import HandS.ForMost
import HandS.Evl
import HandS.Wide
import HandS.WideBits
import HandS.Gcd
import HandS.Codes
import HandS.Conv
import HandS.IsInst
import HandS.More
import HandS.Walk
import HandS.Style
import PyProof.InstEq
import HandS.Sort
import KE.DataMinMax
import KE.GoesEnum
import KE.GoesMore
import HandS.Iter
import HandS.WordsDict
import PyProof.ReprLen
import PyProof.Rows.RegStrFacts
import KE.KMathGC
import HandS.RevRange
import HandS.Deep
import PySem.Challenge.RW_newtables_k43_leaving_by_all_seatings
set_option Elab.async false
set_option linter.all false
set_option maxRecDepth 100000
set_option maxHeartbeats 4000000
namespace Kit
open PySem PySem.Spec PyProof.Rows L2 Evl
/-! rules that the layer lacks -/
section
variable {X : Cx} {a b c d : Expr} {ta tb tc td : TE} {pos : Pos}
def CPowX (i j : Int) : Prop := 0 ≤ j ∧ (Builtin.Int.intBits i : Int) * j ≤ 2 ^ 27
theorem op_powX : OpR X (binaryOp .Pow) (rI CPowX fun i j => .int (i ^ j.toNat)) := opI fun _ _ _ _ _ _ _ hc q => pow_int hc.1 hc.2 q
/-- the types that are compared by == -/
def Meta (n : String) : Prop := ∀ s : Shared, s.TypeIs (.type n) "type"
def rEqTy : R2 := fun x y H Q => ∃ m n, x = .ty m ∧ y = .ty n ∧ Meta m ∧ Meta n ∧ Q (.bl (decide (m = n))) H
theorem op_eqTy : OpR X (compareOp .Eq) rEqTy := by
  intro pins s σ H x y v u Q I rx ry h
  obtain ⟨m, n, rfl, rfl, hm, hn, q⟩ := h
  cases (show v = Value.type m from rx)
  cases (show u = Value.type n from ry)
  by_cases e : m = n
  · subst e
    exact PySem.TypeEq.eq_type_same hm ⟨.bl true, H, I, rfl, by simpa using q⟩
  · exact PySem.TypeEq.eq_type_other hm hn (by rw [beq_eq_false_iff_ne]; exact fun z => e (Value.type.inj z)) ⟨.bl false, H, I, rfl, by simpa [e] using q⟩
/-- a op b op c op d -/
def tChain3 (r r' r'' : R2) (ta tb tc td : TE) : TE := fun σ H Q => ta σ H fun x H1 => tb σ H1 fun y H2 => r x y H2 fun z H3 => ∃ k, z = .bl k ∧
  (if k = true then tc σ H3 fun w' H4 => r' y w' H4 fun z' H5 => ∃ k', z' = .bl k' ∧ (if k' = true then td σ H5 fun w'' H6 => r'' w' w'' H6 Q else Q (.bl false) H5) else Q (.bl false) H3)
theorem pe_chain3 {op op' op'' : CmpOp} {r r' r'' : R2} (ho : OpR X (compareOp op) r) (ho' : OpR X (compareOp op') r') (ho'' : OpR X (compareOp op'') r'') (ha : PE X a ta) (hb : PE X b tb) (hc : PE X c tc) (hd : PE X d td)
    (hm : lastMarks [op, op', op''] [b, c, d] = false := by with_unfolding_all rfl) : PE X (.Compare a [op, op', op''] [b, c, d] pos) (tChain3 r r' r'' ta tb tc td) := by
  refine ⟨fun pins s σ H Q I h => ?_⟩
  refine Compare_chain (thn (ha.run pins s σ H _ I h) fun v s1 ⟨x, H1, I1, r1, q1⟩ => chain_link (thn (hb.run pins s1 σ H1 _ I1 q1) fun u s2 ⟨y, H2, I2, r2, q2⟩ =>
    thn (ho pins s2 σ H2 x y v u _ I2 r1 r2 q2) fun d s3 ⟨z, H3, I3, r3, k, e, q3⟩ => ?_)) hm
  subst e
  cases r3
  refine wpAny_truthy_bool ?_
  cases k with
  | false => exact ite_ff ⟨.bl false, H3, I3, rfl, q3⟩
  | true =>
    refine ite_tt (chain_link (thn (hc.run pins s3 σ H3 _ I3 q3) fun w' s4 ⟨z', H4, I4, r4, q4⟩ => thn (ho' pins s4 σ H4 y z' u w' _ I4 r2 r4 q4) fun d' s5 ⟨z5, H5, I5, r5, k5, e5, q5⟩ => ?_))
    subst e5
    cases r5
    refine wpAny_truthy_bool ?_
    cases k5 with
    | false => exact ite_ff ⟨.bl false, H5, I5, rfl, q5⟩
    | true => exact ite_tt (chain_last (thn (hd.run pins s5 σ H5 _ I5 q5) fun w6 s6 ⟨z6, H6, I6, r6, q6⟩ => ho'' pins s6 σ H6 z' z6 w' w6 Q I6 r4 r6 q6))
theorem pt_chain3 {op op' op'' : CmpOp} {r r' r'' : R2} (ho : OpR X (compareOp op) r) (ho' : OpR X (compareOp op') r') (ho'' : OpR X (compareOp op'') r'') (ha : PE X a ta) (hb : PE X b tb) (hc : PE X c tc) (hd : PE X d td)
    (hm : lastMarks [op, op', op''] [b, c, d] = false := by with_unfolding_all rfl) : PT X (.Compare a [op, op', op''] [b, c, d] pos) (tTest (tChain3 r r' r'' ta tb tc td)) := by
  refine ⟨fun pins s σ H Q I h => ?_⟩
  refine isTrue_chain (thn (ha.run pins s σ H _ I h) fun v s1 ⟨x, H1, I1, r1, q1⟩ => test_link (thn (hb.run pins s1 σ H1 _ I1 q1) fun u s2 ⟨y, H2, I2, r2, q2⟩ =>
    thn (ho pins s2 σ H2 x y v u _ I2 r1 r2 q2) fun d s3 ⟨z, H3, I3, r3, k, e, q3⟩ => ?_)) hm
  subst e
  cases r3
  refine wpAny_truthy_bool ?_
  cases k with
  | false =>
    obtain ⟨k', e', q'⟩ := q3
    cases e'
    exact ite_ff ⟨H3, I3, q'⟩
  | true =>
    refine ite_tt (test_link (thn (hc.run pins s3 σ H3 _ I3 q3) fun w' s4 ⟨z', H4, I4, r4, q4⟩ => thn (ho' pins s4 σ H4 y z' u w' _ I4 r2 r4 q4) fun d' s5 ⟨z5, H5, I5, r5, k5, e5, q5⟩ => ?_))
    subst e5
    cases r5
    refine wpAny_truthy_bool ?_
    cases k5 with
    | false =>
      obtain ⟨k', e', q'⟩ := q5
      cases e'
      exact ite_ff ⟨H5, I5, q'⟩
    | true =>
      refine ite_tt (test_last (thn (hd.run pins s5 σ H5 _ I5 q5) fun w6 s6 ⟨z6, H6, I6, r6, q6⟩ => thn (ho'' pins s6 σ H6 z' z6 w' w6 _ I6 r4 r6 q6) fun d7 s7 ⟨z7, H7, I7, r7, k7, e7, q7⟩ => ?_))
      subst e7
      cases r7
      exact wpAny_truthy_bool ⟨H7, I7, q7⟩
end
/-! f(k = v, ..): keywords alone -/
section
variable {X : Cx} {CX : CXT} {k : Nat} {f C : Addr} {fd : FuncData} {ps ks : List Str} {sp : Sp} {E : XK} {x m : Str} {p pos apos kpos : Pos} {kws : List Keyword} {tk : TA}
variable {g : List Value → List Value → List Value} {gV : List V → List V → List V}
theorem pe_callK0 (F : FnOk X.prog X.w X.K X.mg X.base CX k f fd ps sp) (hr : Room k X.A) (hg : Gl X x) (hm : X.mg x = some (.ref f)) (hk : PySem.W.keepIn X.K (.ref f) = true) (hb : KBinds X.K fd ps ks g gV) (hx : Passes CX X E)
    (hkw : PK X kws tk) (hall : (backToKw pos (keywordEach kws X.env)).all (·.1.isSome) = true := by rfl) (hks : (backToKw pos (keywordEach kws X.env)).filterMap (·.1) = ks := by rfl)
    (hdb : (x == ("__debug__" : Str)) = false := by decide)
    (hpl : ((backTo pos (starEach [] X.env)).any (·.1) || (backToKw pos (keywordEach kws X.env)).any (·.1.isNone)) = false := by rfl) :
    PE X (.Call (.Name x p) [] kws pos) (tCallK sp gV E tNil tk) := by
  refine ⟨fun pins s σ H Q I h => ?_⟩
  refine wpAny_Call_Name_kw (ld_glob I hg hm ?_ hdb)
  refine PySem.W.callWith_KW0 (h₀ := X.base) I.ok.mod.kin hk hall ?_ hpl
  refine thn (hkw.run pos pins s σ H _ I h) fun ws s2 ⟨zs, H2, I2, rz, q2⟩ => ⟨I2.kIn, ?_⟩
  rw [hks]
  exact run_fnk F hr hb hx I2 (us := []) (vs := []) .nil rz q2
end
theorem pe_gc {X : Cx} {x : Str} {pos : Pos} {v : V} (hg : Gl X x) (h : ∃ u, X.mg x = some u ∧ RelV v u) (hd : (x == ("__debug__" : Str)) = false := by decide) : PE X (.Name x pos) (tC v) := by
  obtain ⟨u, hm, r⟩ := h
  exact pe_glob hg hm r hd
/-! built-ins by name, with readings that have names -/
section
variable {X : Cx}
def rAbs : List V → Hp → VK → Prop := fun xs H Q => ∃ i, xs = [.int i] ∧ Q (.int (if i < 0 then -i else i)) H
def rMin2 : List V → Hp → VK → Prop := fun xs H Q => ∃ i j, xs = [.int i, .int j] ∧ Q (.int (if j < i then j else i)) H
def rIntI : List V → Hp → VK → Prop := fun xs H Q => ∃ i, xs = [.int i] ∧ Q (.int i) H
def rIntB : List V → Hp → VK → Prop := fun xs H Q => ∃ b, xs = [.bl b] ∧ Q (.int (if b then 1 else 0)) H
theorem call_absR : CallR X (.builtin "abs") rAbs := call_abs
theorem call_maxR (hc : X.calm = true) : CallR X (.builtin "max") rMax2 := call_max2 hc
theorem call_minR (hc : X.calm = true) : CallR X (.builtin "min") rMin2 := call_min2 hc
theorem call_intI : CallR X (.type "int") rIntI := by
  intro pins s σ H xs us Q I r h
  obtain ⟨i, e, q⟩ := h
  exact call_int1 pins s σ H xs us Q I r (.inl ⟨i, e, q⟩)
theorem call_intB : CallR X (.type "int") rIntB := by
  intro pins s σ H xs us Q I r h
  obtain ⟨i, e, q⟩ := h
  exact call_int1 pins s σ H xs us Q I r (.inr ⟨i, e, q⟩)
theorem call_lenR : CallR X (.builtin "len") (rLenS X.K) := call_len_seq
theorem call_listR : CallR X (.type "list") (rListS X.K) := call_list_of
def rTupS (K : PySem.W.Frag) : List V → Hp → VK → Prop := fun xs H Q => ∃ p ys, xs = [.ref p] ∧ SqL K H p ys ∧ ∀ l, H l = none → Q (.ref l) (upd H l (.tup ys))
theorem call_tupR : CallR X (.type "tuple") (rTupS X.K) := by
  intro pins s σ H xs us Q I r h
  obtain ⟨p, ys, e, hs, q⟩ := h
  exact call_tuple_of pins s σ H xs us Q I r ⟨p, ys, e, .inl ⟨hs, q⟩⟩
def rIsN1 : R2 := fun x y H Q => y = .non ∧ Q (.bl (decide (x = .non))) H
def rNotN1 : R2 := fun x y H Q => y = .non ∧ Q (.bl (!decide (x = .non))) H
theorem op_isNR : OpR X (compareOp .Is) rIsN1 := op_isN
theorem op_notNR : OpR X (compareOp .IsNot) rNotN1 := op_notN
end
/-! evaluations of these -/
section
variable {K : PySem.W.Frag} {σ : L2.St} {H H' : Hp} {ta tb tc td te : TE} {x y z v : V} {r : R2} {i j : Int}
theorem ev_abs (h : Ev ta σ H (.int i)) : Ev (tCB rAbs (tCons ta tNil)) σ H (.int (if i < 0 then -i else i)) := fun H1 e Q q => h H1 e _ fun H2 e2 => ⟨i, rfl, q H2 e2⟩
theorem ev_min2 (ha : Ev ta σ H (.int i)) (hb : Ev tb σ H (.int j)) : Ev (tCB rMin2 (tCons ta (tCons tb tNil))) σ H (.int (if j < i then j else i)) := fun H1 e Q q =>
  ha H1 e _ fun H2 e2 => hb H2 (e.trans e2) _ fun H3 e3 => ⟨i, j, rfl, q H3 (e2.trans e3)⟩
theorem ev_intI (h : Ev ta σ H (.int i)) : Ev (tCB rIntI (tCons ta tNil)) σ H (.int i) := fun H1 e Q q => h H1 e _ fun H2 e2 => ⟨i, rfl, q H2 e2⟩
theorem ev_intB {b : Bool} (h : Ev ta σ H (.bl b)) : Ev (tCB rIntB (tCons ta tNil)) σ H (.int (if b then 1 else 0)) := fun H1 e Q q => h H1 e _ fun H2 e2 => ⟨b, rfl, q H2 e2⟩
theorem rv_isN : RV rIsN1 x .non H (.bl (decide (x = .non))) := fun H1 _ _ q => ⟨rfl, q H1 (Ex.refl H1)⟩
theorem rv_notN : RV rNotN1 x .non H (.bl (!decide (x = .non))) := fun H1 _ _ q => ⟨rfl, q H1 (Ex.refl H1)⟩
theorem ev_chain {r r' : R2} {k : Bool} {k' : Bool} (ha : Ev ta σ H x) (hb : Ev tb σ H y) (hr : RV r x y H (.bl k)) (hc : k = true → ∃ z, Ev tc σ H z ∧ RV r' y z H (.bl k')) : Ev (tChain r r' ta tb tc) σ H (.bl (k && k')) := fun H1 e Q q =>
  ha H1 e _ fun H2 e2 => hb H2 (e.trans e2) _ fun H3 e3 => hr H3 ((e.trans e2).trans e3) _ fun H4 e4 => ⟨k, rfl, by
    cases k with
    | true =>
      obtain ⟨z, h1, h2⟩ := hc rfl
      exact h1 H4 (((e.trans e2).trans e3).trans e4) _ fun H5 e5 => h2 H5 ((((e.trans e2).trans e3).trans e4).trans e5) _ fun H6 e6 => q H6 ((((e2.trans e3).trans e4).trans e5).trans e6)
    | false => exact q H4 ((e2.trans e3).trans e4)⟩
theorem ev_chainI {C C' : Int → Int → Bool} {i j l : Int} (ha : Ev ta σ H (.int i)) (hb : Ev tb σ H (.int j)) (hc : Ev tc σ H (.int l)) :
    Ev (tChain (rI0 fun i j => .bl (C i j)) (rI0 fun i j => .bl (C' i j)) ta tb tc) σ H (.bl (C i j && C' j l)) := ev_chain ha hb rv_I0 fun _ => ⟨_, hc, rv_I0⟩
theorem ev_chain3I {C C' C'' : Int → Int → Bool} {i j l m : Int} (ha : Ev ta σ H (.int i)) (hb : Ev tb σ H (.int j)) (hc : Ev tc σ H (.int l)) (hd : Ev td σ H (.int m)) :
    Ev (tChain3 (rI0 fun i j => .bl (C i j)) (rI0 fun i j => .bl (C' i j)) (rI0 fun i j => .bl (C'' i j)) ta tb tc td) σ H (.bl (C i j && (C' j l && C'' l m))) := fun H1 e Q q =>
  ha H1 e _ fun H2 e2 => hb H2 (e.trans e2) _ fun H3 e3 => ⟨i, j, rfl, rfl, C i j, rfl, by
    have e23 := e2.trans e3
    generalize C i j = k1 at q ⊢
    cases k1 with
    | false => exact q H3 e23
    | true =>
      refine hc H3 (e.trans e23) _ fun H4 e4 => ⟨j, l, rfl, rfl, C' j l, rfl, ?_⟩
      generalize C' j l = k2 at q ⊢
      cases k2 with
      | false => exact q H4 (e23.trans e4)
      | true => exact hd H4 ((e.trans e23).trans e4) _ fun H5 e5 => ⟨l, m, rfl, rfl, q H5 ((e23.trans e4).trans e5)⟩⟩
theorem rv_eqTy {m n : String} (hm : Meta m) (hn : Meta n) : RV rEqTy (.ty m) (.ty n) H (.bl (decide (m = n))) := fun H1 _ _ q => ⟨m, n, rfl, rfl, hm, hn, q H1 (Ex.refl H1)⟩
theorem ev_typeI (h : Ev ta σ H (.int i)) : Ev (tThenZ ta kTyp) σ H (.ty "int") := fun H1 e Q q => h H1 e _ fun H2 e2 => ⟨"int", rfl, q H2 e2⟩
/-- a tuple that was made is read as two names -/
theorem s_tup2 {D : Ends} {i j : Nat} {p : Addr} (ha : Ev ta σ H (.ref p)) (hp : SqT K H p [x, y]) (k : ∀ H1, Ex H H1 → D.nx ((σ.set i (some x)).set j (some y)) H1) : tAsg ta (gTup K 2 (gCons (gName i) (gCons (gName j) gNil))) D σ H :=
  ha H (Ex.refl H) _ fun H1 e => ⟨p, [x, y], rfl, ex_t e hp, rfl, x, [y], rfl, y, [], rfl, rfl, k H1 e⟩
end
/-- a new tuple that is handed back -/
def RetU (xs : List V) (H : Hp) (Q : VK) : Prop := ∀ p H2, H p = none → Ex H H2 → H2 p = some (.tup xs) → Q (.ref p) H2
def SpU (sp : Sp) (vs : List V) (H : Hp) (xs : List V) : Prop := ∀ H1, Ex H H1 → ∀ Q : VK, (∀ p H2, H1 p = none → Ex H1 H2 → H2 p = some (.tup xs) → Q (.ref p) H2) → ∀ E : XK, sp vs H1 Q E
section
variable {K : PySem.W.Frag} {σ : L2.St} {H : Hp}
theorem eu_call {sp : Sp} {dvs vs xs : List V} {E : XK} {ta : TA} (h : EvA ta σ H vs) (hs : SpU sp (vs ++ dvs) H xs) : EvU (tCall sp dvs E ta) σ H xs := fun H1 e Q q =>
  h H1 e _ fun H2 e2 => hs H2 (e.trans e2) Q (fun p H3 hp e3 h3 => q p H3 (fresh_back e2 hp) (e2.trans e3) h3) E
/-- a, b = f(..), f's answer a new tuple -/
theorem s_tup2U {te : TE} {D : Ends} {i j : Nat} {x y : V} (ha : EvU te σ H [x, y]) (k : ∀ H1, Ex H H1 → D.nx ((σ.set i (some x)).set j (some y)) H1) : tAsg te (gTup K 2 (gCons (gName i) (gCons (gName j) gNil))) D σ H :=
  ha H (Ex.refl H) _ fun p H1 _ e h1 => ⟨p, [x, y], rfl, st_of h1, rfl, x, [y], rfl, y, [], rfl, rfl, k H1 e⟩
theorem q_tup2U {te : TE} {tz : TS} {D : Ends} {i j : Nat} {x y : V} (ha : EvU te σ H [x, y]) (k : ∀ H1, Ex H H1 → tz D ((σ.set i (some x)).set j (some y)) H1) : tSeq (tAsg te (gTup K 2 (gCons (gName i) (gCons (gName j) gNil)))) tz D σ H := s_tup2U (D := { D with nx := tz D }) ha k
theorem q_tup2 {ta : TE} {tz : TS} {D : Ends} {i j : Nat} {p : Addr} {x y : V} (ha : Ev ta σ H (.ref p)) (hp : SqT K H p [x, y]) (k : ∀ H1, Ex H H1 → tz D ((σ.set i (some x)).set j (some y)) H1) : tSeq (tAsg ta (gTup K 2 (gCons (gName i) (gCons (gName j) gNil)))) tz D σ H := s_tup2 (D := { D with nx := tz D }) ha hp k
/-- a, b = x, y -/
theorem s_par {ta : TA} {D : Ends} {i j : Nat} {x y : V} (ha : EvA ta σ H [x, y]) (k : ∀ H1, Ex H H1 → D.nx ((σ.set i (some x)).set j (some y)) H1) : tPar i j ta D σ H := ha H (Ex.refl H) _ fun H1 e => ⟨x, y, rfl, k H1 e⟩
theorem q_par {ta : TA} {tz : TS} {D : Ends} {i j : Nat} {x y : V} (ha : EvA ta σ H [x, y]) (k : ∀ H1, Ex H H1 → tz D ((σ.set i (some x)).set j (some y)) H1) : tSeq (tPar i j ta) tz D σ H := s_par (D := { D with nx := tz D }) ha k
end
theorem natAbs_pow_le {b : Int} {k : Nat} (h : b.natAbs < 2 ^ k) (n : Nat) : (b ^ n).natAbs ≤ 2 ^ (k * n) := by
  rw [Int.natAbs_pow, Nat.pow_mul]
  exact Nat.pow_le_pow_left (Nat.le_of_lt h) n
theorem lt_of_le2 {x k : Nat} (h : x ≤ 2 ^ k) : x < 2 ^ (k + 1) := Nat.lt_of_le_of_lt h (Nat.pow_lt_pow_right (by decide) (Nat.lt_succ_self k))
theorem lt2_mono {x k m : Nat} (h : x < 2 ^ k) (e : k ≤ m) : x < 2 ^ m := Nat.lt_of_lt_of_le h (Nat.pow_le_pow_right (by decide) e)
theorem natAbs_mul_lt {a b : Int} {k m : Nat} (ha : a.natAbs < 2 ^ k) (hb : b.natAbs < 2 ^ m) : (a * b).natAbs < 2 ^ (k + m) := wide_lt ha hb
/-! comprehensions -/
section
variable {K : PySem.W.Frag} {σ : L2.St} {H : Hp} {te tl : TE} {t : TT}
theorem et_yes : EvT tYes σ H true := fun H1 _ _ q => q H1 (Ex.refl H1)
theorem given_map {xs : List V} {F : V → V} : given xs.length (fun _ => true) (fun i => F (xs.getD i .non)) = xs.map F := by
  unfold given
  rw [List.filter_eq_self.mpr (fun _ _ => rfl)]
  refine List.ext_getElem (by simp) fun i h1 h2 => ?_
  simp at h1
  simp [h1]
/-- [e for x in xs] -/
theorem el_map {a : Addr} {xs : List V} {j : Nat} {vs : List Nat} (F : V → V) (h : Ev tl σ H (.ref a)) (hx : SqL K H a xs) (hz : xs.length ≤ 40000) (hw : ∀ x, wipe ((wipe σ vs).set j (some x)) vs = wipe σ vs)
    (he : ∀ (i : Nat) (x : V) H1, Ex H H1 → xs[i]? = some x → Ev te ((wipe σ vs).set j (some x)) H1 (F x)) : EvL (tLc (iList K tl) (gName j) tYes te vs) σ H (xs.map F) := by
  rw [← given_map]
  refine el_lcL _ _ h hx hz hw (fun _ _ _ _ _ => et_yes) fun i x H1 e hi _ => ?_
  have q := he i x H1 e hi
  have g : xs.getD i .non = x := by rw [List.getD_eq_getElem?_getD, hi] <;> rfl
  show Ev _ _ _ (F (xs.getD i .non))
  rw [g]
  exact q
theorem el_mapN {xs : List V} {j : Nat} {vs : List Nat} (F : V → V) (h : EvL tl σ H xs) (hz : xs.length ≤ 40000) (hw : ∀ x, wipe ((wipe σ vs).set j (some x)) vs = wipe σ vs)
    (he : ∀ (i : Nat) (x : V) H1, Ex H H1 → xs[i]? = some x → Ev te ((wipe σ vs).set j (some x)) H1 (F x)) : EvL (tLc (iList K tl) (gName j) tYes te vs) σ H (xs.map F) := by
  rw [← given_map]
  refine el_lcNL _ _ h hz hw (fun _ _ _ _ _ => et_yes) fun i x H1 e hi _ => ?_
  have q := he i x H1 e hi
  have g : xs.getD i .non = x := by rw [List.getD_eq_getElem?_getD, hi] <;> rfl
  show Ev _ _ _ (F (xs.getD i .non))
  rw [g]
  exact q
/-- [e for x in range(lo, hi) if t] -/
theorem el_lcR2 {ta : TA} {j : Nat} {vs : List Nat} {lo n : Int} (f : Nat → Bool) (v : Nat → V) (h : EvA ta σ H [.int lo, .int n]) (hn : 0 ≤ lo ∧ lo ≤ 40000 ∧ -40000 ≤ n ∧ n ≤ 40000) (hw : ∀ x, wipe ((wipe σ vs).set j (some x)) vs = wipe σ vs)
    (ht : ∀ (i : Nat) H1, Ex H H1 → lo + (i : Int) < n → EvT t ((wipe σ vs).set j (some (.int (lo + (i : Int))))) H1 (f i)) (he : ∀ (i : Nat) H1, Ex H H1 → lo + (i : Int) < n → f i = true → Ev te ((wipe σ vs).set j (some (.int (lo + (i : Int))))) H1 (v i)) :
    EvL (tLc (iRng2 ta) (gName j) t te vs) σ H (given (n - lo).toNat f v) := fun H0 e Q q => h H0 e _ fun H1 e1 => ⟨lo, n, rfl, ⟨by omega, by omega, by omega, by omega⟩, fun Dl hD =>
  lc_range (lo := lo) (n := (n - lo).toNat) (Cw H1 f v Dl) ⟨hD, Ex.new hD, upd_same⟩ (fun i H' hi p =>
    ⟨hw _, cw_turn p (by omega) (ht i H1 (e.trans e1) (by omega)) (fun hf => he i H1 (e.trans e1) (by omega) hf)⟩) (fun H' p => q Dl H' (fresh_back e1 p.1) (e1.trans p.2.1) p.2.2)⟩
theorem given_none {n : Nat} {f : Nat → Bool} {v : Nat → V} (h : ∀ i, i < n → f i = false) : given n f v = [] := by
  unfold given
  rw [List.filter_eq_nil_iff.mpr (fun i hi => by simp [h i (List.mem_range.mp hi)])]
  rfl
/-- xs + ys, both new -/
theorem el_cat {ta tb : TE} {xs ys : List V} (ha : EvL ta σ H xs) (hb : EvL tb σ H ys) (hl : xs.length + ys.length ≤ 100000) : EvL (tOp rCat ta tb) σ H (xs ++ ys) := fun H1 e Q q =>
  ha H1 e _ fun p H2 hp e2 h2 => hb H2 (e.trans e2) _ fun p' H3 hp' e3 h3 =>
    ⟨p, p', xs, ys, rfl, rfl, e3 p _ h2, h3, sz_of hl, fun l hl' => q l _ (fresh_back (e2.trans e3) hl') ((e2.trans e3).trans (Ex.new hl')) upd_same⟩
/-- [e for x, y in zip(xs, ys)] -/
theorem el_zip {ta : TA} {i j : Nat} {vs : List Nat} {a b : Addr} {xs ys : List V} (F : V → V → V) (h : EvA ta σ H [.ref a, .ref b]) (hx : SqL K H a xs) (hy : SqL K H b ys) (hl : xs.length = ys.length) (hz : xs.length ≤ 40000)
    (hw : ∀ x y, wipe (((wipe σ vs).set i (some x)).set j (some y)) vs = wipe σ vs)
    (he : ∀ (n : Nat) x y H1, Ex H H1 → xs[n]? = some x → ys[n]? = some y → Ev te (((wipe σ vs).set i (some x)).set j (some y)) H1 (F x y)) :
    EvL (tLc (iZip K ta) (gTup K 2 (gCons (gName i) (gCons (gName j) gNil))) tYes te vs) σ H (List.zipWith F xs ys) := fun H0 e Q q => h H0 e _ fun H1 e1 => ⟨a, b, xs, ys, rfl, ex_l (e.trans e1) hx, ex_l (e.trans e1) hy, fun Dl hD => by
  refine lc_it (walk_zip (n := xs.length) (by omega)) (fun n H' => Ex H1 H' ∧ H' Dl = some (.lst ((List.zipWith F xs ys).take n))) ⟨Ex.new hD, upd_same⟩ (fun n H' _ p => ⟨ex_l ((e.trans e1).trans p.1) hx, ex_l ((e.trans e1).trans p.1) hy⟩) ?_ fun H' p => ?_
  · rintro n v Hh H' hn ⟨p1, p2⟩ ⟨T, x, y, rfl, nT, rfl, g1, g2⟩
    have eT : Ex Hh (upd Hh T (.tup [x, y])) := Ex.new nT
    refine ⟨T, [x, y], rfl, st_of upd_same, rfl, x, [y], rfl, y, [], rfl, rfl, hw x y, ?_⟩
    show te _ _ _
    refine he n x y H1 (e.trans e1) g1 g2 _ (p1.trans eT) _ fun H4 e4 => ?_
    have k2 := e4 Dl _ (eT Dl _ p2)
    refine ⟨_, k2, sz_lt (by rw [List.length_take]; omega), Ex.mut (p1.trans (eT.trans e4)) hD, ?_⟩
    rw [upd_same]
    have gz : (List.zipWith F xs ys)[n]? = some (F x y) := by
      rw [List.getElem?_zipWith, show xs[n]? = some x from g1, show ys[n]? = some y from g2]
    rw [List.take_add_one, gz]
    rfl
  · obtain ⟨p1, p2⟩ := p
    rw [List.take_of_length_le (by rw [List.length_zipWith]; omega)] at p2
    exact q Dl H' (fresh_back e1 hD) (e1.trans p1) p2⟩
theorem ev_gcd {ta tb : TE} {a b : Int} (ha : Ev ta σ H (.int a)) (hb : Ev tb σ H (.int b)) : Ev (tCB rGcd (tCons ta (tCons tb tNil))) σ H (.int ((Nat.gcd a.natAbs b.natAbs : Nat) : Int)) := fun H1 e Q q =>
  ha H1 e _ fun H2 e2 => hb H2 (e.trans e2) _ fun H3 e3 => ⟨a, b, rfl, q H3 (e2.trans e3)⟩
end
/-! data, compared by == -/
section
variable {K : PySem.W.Frag} {σ : L2.St} {H H' : Hp}
mutual
theorem Dp.ex (e : Ex H H') : ∀ (d : PyData) (v : V), Dp K H v d → Dp K H' v d
  | .none, _, h => by cases h; exact .non
  | .bool _, _, h => by cases h; exact .bl _
  | .int _, _, h => by cases h; exact .int _
  | .str _, _, h => by cases h; exact .str _
  | .list ds, _, h => by
    cases h with
    | lst hs ha => exact .lst (ex_l e hs) (DpAll.ex e ds _ ha)
  | .tuple ds, _, h => by
    cases h with
    | tup hs ha => exact .tup (ex_t e hs) (DpAll.ex e ds _ ha)
  | .dict _, _, h => by cases h
theorem DpAll.ex (e : Ex H H') : ∀ (ds : List PyData) (vs : List V), DpAll K H vs ds → DpAll K H' vs ds
  | [], _, h => by cases h; exact .nil
  | d :: ds, _, h => by
    cases h with
    | cons h1 h2 => exact .cons (Dp.ex e d _ h1) (DpAll.ex e ds _ h2)
end
theorem DpAll.len : ∀ {ds : List PyData} {vs : List V}, DpAll K H vs ds → vs.length = ds.length
  | [], _, h => by cases h; rfl
  | d :: ds, _, h => by
    cases h with
    | cons h1 h2 => simp [DpAll.len h2]
def EvD (K : PySem.W.Frag) (te : TE) (σ : L2.St) (H : Hp) (d : PyData) : Prop := ∀ H1, Ex H H1 → ∀ Q : VK, (∀ v H2, Ex H1 H2 → Dp K H2 v d → Q v H2) → te σ H1 Q
def EvDA (K : PySem.W.Frag) (ta : TA) (σ : L2.St) (H : Hp) (ds : List PyData) : Prop := ∀ H1, Ex H H1 → ∀ Q : List V → Hp → Prop, (∀ vs H2, Ex H1 H2 → DpAll K H2 vs ds → Q vs H2) → ta σ H1 Q
variable {te ta tb : TE} {d e : PyData} {ds : List PyData}
theorem ed_of {v : V} (h : Ev te σ H v) (k : Dp K H v d) : EvD K te σ H d := fun H1 e1 Q q => h H1 e1 Q fun H2 e2 => q v H2 e2 (Dp.ex (e1.trans e2) d v k)
theorem ed_int {i : Int} (h : Ev te σ H (.int i)) : EvD K te σ H (.int i) := ed_of h (.int i)
theorem ed_bl {i : Bool} (h : Ev te σ H (.bl i)) : EvD K te σ H (.bool i) := ed_of h (.bl i)
theorem ed_non (h : Ev te σ H .non) : EvD K te σ H .none := ed_of h .non
theorem ed_str {i : Str} (h : Ev te σ H (.str i)) : EvD K te σ H (.str i) := ed_of h (.str i)
theorem eda_nil : EvDA K tNil σ H [] := fun H1 _ _ q => q [] H1 (Ex.refl H1) .nil
theorem eda_cons {tr : TA} (h : EvD K te σ H d) (hr : EvDA K tr σ H ds) : EvDA K (tCons te tr) σ H (d :: ds) := fun H1 e _ q =>
  h H1 e _ fun v H2 e2 dv => hr H2 (e.trans e2) _ fun vs H3 e3 dvs => q (v :: vs) H3 (e2.trans e3) (.cons (Dp.ex e3 d v dv) dvs)
theorem ed_lst {t : TA} (h : EvDA K t σ H ds) (hl : ds.length ≤ 100000) : EvD K (tLst t) σ H (.list ds) := fun H1 e _ q =>
  h H1 e _ fun vs H2 e2 dv => ⟨sz_of (by rw [DpAll.len dv]; exact hl), fun p hp => q _ _ (e2.trans (Ex.new hp)) (.lst (sq_of upd_same) (DpAll.ex (Ex.new hp) ds vs dv))⟩
theorem ed_tup {t : TA} (h : EvDA K t σ H ds) (hl : ds.length ≤ 100000) : EvD K (tTup t) σ H (.tuple ds) := fun H1 e _ q =>
  h H1 e _ fun vs H2 e2 dv => ⟨sz_of (by rw [DpAll.len dv]; exact hl), fun p hp => q _ _ (e2.trans (Ex.new hp)) (.tup (st_of upd_same) (DpAll.ex (Ex.new hp) ds vs dv))⟩
theorem ed_ofL {xs : List V} (h : EvL te σ H xs) (k : DpAll K H xs ds) : EvD K te σ H (.list ds) := fun H1 e1 Q q => h H1 e1 Q fun p H2 _ e2 h2 => q _ H2 e2 (.lst (sq_of h2) (DpAll.ex (e1.trans e2) ds xs k))
theorem ed_ofU {xs : List V} (h : EvU te σ H xs) (k : DpAll K H xs ds) : EvD K te σ H (.tuple ds) := fun H1 e1 Q q => h H1 e1 Q fun p H2 _ e2 h2 => q _ H2 e2 (.tup (st_of h2) (DpAll.ex (e1.trans e2) ds xs k))
theorem dpa_ints : ∀ ns : List Int, DpAll K H (ns.map V.int) (ns.map PyData.int)
  | [] => .nil
  | n :: r => .cons (.int n) (dpa_ints r)
theorem ev_eqD (ha : EvD K ta σ H d) (hb : EvD K tb σ H e) (sd : SeqAt.shaped d = true) (se : SeqAt.shaped e = true) : Ev (tOp (rEqD K) ta tb) σ H (.bl (PyData.eqv d e)) := fun H1 e1 Q q =>
  ha H1 e1 _ fun v H2 e2 dv => hb H2 (e1.trans e2) _ fun u H3 e3 du => ⟨d, e, Dp.ex e3 d v dv, du, sd, se, q H3 (e2.trans e3)⟩
theorem ev_neD (ha : EvD K ta σ H d) (hb : EvD K tb σ H e) (sd : SeqAt.shaped d = true) (se : SeqAt.shaped e = true) : Ev (tOp (rNeD K) ta tb) σ H (.bl (!PyData.eqv d e)) := fun H1 e1 Q q =>
  ha H1 e1 _ fun v H2 e2 dv => hb H2 (e1.trans e2) _ fun u H3 e3 du => ⟨d, e, Dp.ex e3 d v dv, du, sd, se, q H3 (e2.trans e3)⟩
theorem shaped_ints : ∀ ns : List Int, SeqAt.shaped (.list (ns.map PyData.int)) = true := fun ns => by
  have h1 : ∀ ms : List Int, PyData.canLayAll0 (ms.map PyData.int) = true := fun ms => by
    induction ms with
    | nil => rfl
    | cons m r ih => simp [PyData.canLayAll0, PyData.canLay0, ih]
  have h2 : ∀ ms : List Int, PyData.depthAll (ms.map PyData.int) = 0 := fun ms => by
    induction ms with
    | nil => rfl
    | cons m r ih => simp [PyData.depthAll, PyData.depth, ih]
  simp [SeqAt.shaped, PyData.canLay0, h1, PyData.depth, h2]
theorem eqv_same {d : PyData} (h : SeqAt.shaped d = true) : PyData.eqv d d = true := by
  have h1 : PyData.canLay0 d = true := (Bool.and_eq_true_iff.mp h).1
  first
    | exact PySem.P3.eqv_refl d h1
    | exact PyData.eqv_refl d h1
    | exact PySem.SeqAt.eqv_refl d h1
/-- f(k = v): a new tuple back -/
theorem eu_callK {sp : Sp} {gV : List V → List V → List V} {E : XK} {t tk : TA} {vs zs xs : List V} (h : EvA t σ H vs) (hk : EvA tk σ H zs) (hs : SpU sp (gV vs zs) H xs) : EvU (tCallK sp gV E t tk) σ H xs := fun H1 e Q q =>
  h H1 e _ fun H2 e2 => hk H2 (e.trans e2) _ fun H3 e3 => hs H3 ((e.trans e2).trans e3) Q (fun p H4 hp e4 h4 => q p H4 (fresh_back (e2.trans e3) hp) ((e2.trans e3).trans e4) h4) E
theorem ev_callK {sp : Sp} {gV : List V → List V → List V} {E : XK} {t tk : TA} {vs zs : List V} {z : V} (h : EvA t σ H vs) (hk : EvA tk σ H zs) (hs : SpV sp (gV vs zs) H z) : Ev (tCallK sp gV E t tk) σ H z := fun H1 e Q q =>
  h H1 e _ fun H2 e2 => hk H2 (e.trans e2) _ fun H3 e3 => hs H3 ((e.trans e2).trans e3) Q (fun H4 e4 => q H4 ((e2.trans e3).trans e4)) E
/-- isinstance(x, tuple) of a tuple; len of a tuple -/
theorem ev_isT {p : Addr} {xs : List V} {n : String} {b : Bool} (h : Ev ta σ H (.ref p)) (hp : H p = some (.tup xs)) (hk : PySem.W.kitOne K (.type "tuple") (.type n) = some b) : Ev (tCB (rIsi K) (tCons ta (tCons (tC (.ty n)) tNil))) σ H (.bl b) := fun H1 e Q q =>
  h H1 e _ fun H2 e2 => ⟨.ref p, .ty n, .type "tuple", .type n, b, rfl, .ty n, .base (.tup (e2 p _ (e p _ hp))), hk, q H2 e2⟩
theorem ev_lenT {p : Addr} {xs : List V} (ha : Ev ta σ H (.ref p)) (h : SqT K H p xs) : Ev (tCB (rLenS K) (tCons ta tNil)) σ H (.int (xs.length : Int)) := fun H1 e Q q =>
  ha H1 e _ fun H2 e2 => ⟨p, xs, rfl, Or.inr (ex_t (e.trans e2) h), q H2 e2⟩
/-- list(range(a, b)) -/
theorem el_rg2 {a b : Int} (ha : Ev ta σ H (.int a)) (hb : Ev tb σ H (.int b)) (h : RgOk a b) : EvL (tLstRg (tRg2 ta tb)) σ H (rgV a b) := fun H1 e Q q =>
  ha H1 e _ fun H2 e2 => hb H2 (e.trans e2) _ fun H3 e3 => ⟨a, b, rfl, rfl, h, fun p hp => q p _ (fresh_back (e2.trans e3) hp) ((e2.trans e3).trans (Ex.new hp)) upd_same⟩
theorem el_rg1 {b : Int} (hb : Ev tb σ H (.int b)) (h : RgOk 0 b) : EvL (tLstRg (tRg1 tb)) σ H (rgV 0 b) := fun H1 e Q q =>
  hb H1 e _ fun H3 e3 => ⟨b, rfl, h, fun p hp => q p _ (fresh_back e3 hp) (e3.trans (Ex.new hp)) upd_same⟩
end
/-! more statements -/
section
variable {K : PySem.W.Frag} {σ : L2.St} {H H' : Hp} {te tl : TE} {t : TT} {D : Ends} {tu tz : TS} {g : TG}
/-- a comprehension over range(lo, n) that keeps nothing -/
theorem el_noneR2 {ta : TA} {j : Nat} {vs : List Nat} {lo n : Int} (h : EvA ta σ H [.int lo, .int n]) (hn : 0 ≤ lo ∧ lo ≤ 40000 ∧ -40000 ≤ n ∧ n ≤ 40000) (hw : ∀ x, wipe ((wipe σ vs).set j (some x)) vs = wipe σ vs)
    (ht : ∀ (i : Nat) H1, Ex H H1 → lo + (i : Int) < n → EvT t ((wipe σ vs).set j (some (.int (lo + (i : Int))))) H1 false) : EvL (tLc (iRng2 ta) (gName j) t te vs) σ H [] := by
  have q := el_lcR2 (te := te) (fun _ => false) (fun _ => .non) h hn hw ht (fun _ _ _ _ hf => Bool.noConfusion hf)
  rw [given_none (fun _ _ => rfl)] at q
  exact q
/-- a for over a new tuple -/
theorem s_forNU {xs : List V} (h : EvU tl σ H xs) (Pv : Addr → Nat → L2.St → Hp → Prop) (h0 : ∀ p H1, H p = none → Ex H H1 → H1 p = some (.tup xs) → Pv p 0 σ H1) (hl : ∀ p i σ' H', i ≤ xs.length → Pv p i σ' H' → SqT K H' p xs)
    (hs : ∀ p i x σ' H', xs[i]? = some x → Pv p i σ' H' → g x σ' H' fun σ2 H2 => tu { D with nx := Pv p (i + 1), ct := Pv p (i + 1), bk := D.nx } σ2 H2) (hd : ∀ p σ' H', Pv p xs.length σ' H' → D.nx σ' H') : tFor (iTup K tl) g tu D σ H :=
  h H (Ex.refl H) _ fun p H1 hp e h1 => ⟨p, rfl, ⟨xs, st_of h1⟩, for_tup (Pv p) (h0 p H1 hp e h1) (hl p) (hs p) (hd p)⟩
theorem q_forNU {xs : List V} (h : EvU tl σ H xs) (Pv : Addr → Nat → L2.St → Hp → Prop) (h0 : ∀ p H1, H p = none → Ex H H1 → H1 p = some (.tup xs) → Pv p 0 σ H1) (hl : ∀ p i σ' H', i ≤ xs.length → Pv p i σ' H' → SqT K H' p xs)
    (hs : ∀ p i x σ' H', xs[i]? = some x → Pv p i σ' H' → g x σ' H' fun σ2 H2 => tu { D with nx := Pv p (i + 1), ct := Pv p (i + 1), bk := tz D } σ2 H2) (hd : ∀ p σ' H', Pv p xs.length σ' H' → tz D σ' H') : tSeq (tFor (iTup K tl) g tu) tz D σ H :=
  s_forNU (D := { D with nx := tz D }) h Pv h0 hl hs hd
theorem s_asgD {i : Nat} {d : PyData} (h : EvD K te σ H d) (k : ∀ v H1, Ex H H1 → Dp K H1 v d → D.nx (σ.set i (some v)) H1) : tAsg te (gName i) D σ H := h H (Ex.refl H) _ fun v H1 e dv => k v H1 e dv
theorem q_asgD {i : Nat} {d : PyData} (h : EvD K te σ H d) (k : ∀ v H1, Ex H H1 → Dp K H1 v d → tz D (σ.set i (some v)) H1) : tSeq (tAsg te (gName i)) tz D σ H := s_asgD (D := { D with nx := tz D }) h k
end
end Kit

set_option Elab.async false
set_option linter.all false
set_option maxRecDepth 100000
set_option maxHeartbeats 4000000
namespace Kit
open PySem PySem.Spec PyProof.Rows L2 Evl
theorem slot_type_ne : Slot "type" (cmpInfo .NotEq).2.1 "object.__ne__" :=
  .of (owner := "object") (n := "__ne__") (by rw [typeLookup_type, builtinLookup_eq_fast]; kernel_rfl) (by decide +kernel) (by decide +kernel) (by decide +kernel)
    (by first | exact .inl (by decide +kernel) | exact .inr (by decide +kernel)) (by rw [isSubtype_type]; kernel_rfl)
theorem slot_type_eqN : Slot "type" "__eq__" "object.__eq__" :=
  .of (owner := "object") (n := "__eq__") (by rw [typeLookup_type, builtinLookup_eq_fast]; kernel_rfl) (by decide +kernel) (by decide +kernel) (by decide +kernel)
    (by first | exact .inl (by decide +kernel) | exact .inr (by decide +kernel)) (by rw [isSubtype_type]; kernel_rfl)
section
variable {prog : Program} {w : World} {A : Around} {E : Value → Shared → Prop} {s : Shared} {Q : Value → Shared → Prop}
theorem ne_type_same {X : String} (hX : ∀ s' : Shared, s'.TypeIs (.type X) "type") (hu : A.units + 1 < cLine) (h : Q (.bool false) s) : wpAny (model prog w) A (compareOp .NotEq (.type X) (.type X)) Q E s := by
  show wpAny _ A (richCompare .NotEq _ _) Q E s
  refine wpAny_richCompare_same (T := "type") (hX s) (hX s) slot_type_ne ?_
  refine wpAny_call_entry slot_type_ne (hX s) PySem.F.cmpEntry_ne ?_ (PySem.F.cmpArgs_ne _ _)
  unfold Builtin.«object.__ne__»
  have key : wpAny (model prog w) A.in1 (call (.builtin "object.__eq__") [.type X, .type X]) (fun v s' => v = .bool true ∧ s' = s) E s :=
    call_gives slot_type_eqN (hX s) F.entry_object_eq (F.args_object_eq_2 _ _) (PySem.TypeEq.object_eq_same rfl (by simp)) ⟨rfl, rfl⟩
  repeat (first
    | with_reducible refine wpAny_cRoomFor (by show A.units + 1 < cLine; exact hu) ?_
    | (refine wpAny_bind (m := callSpecialIfBound? (.type X) (Str.ofString "__eq__") [.type X])
        (wpAny_callSpecialIfBound?_slot (hX _) slot_type_eqN (wpAny_mono key (fun r s' hr => by
          obtain ⟨rfl, rfl⟩ := hr
          have hq : Q (.bool false) s' := h
          repeat (first | exact ⟨_, rfl, (by intro e; cases e), hq⟩ | exact wpAny_pure ⟨_, rfl, (by intro e; cases e), hq⟩ | (refine wpAny_bind (m := truthy (.bool _)) (wpAny_truthy_bool ?_)) | wp_step)) fun _ _ e => e)))
    | wp_step)
end
end Kit

set_option Elab.async false
set_option linter.all false
set_option maxRecDepth 100000
set_option maxHeartbeats 4000000
namespace Kit
open PySem PySem.Spec PyProof.Rows L2 Evl
section
variable {X : Cx}
def rNeTyS : R2 := fun x y H Q => ∃ m, x = .ty m ∧ y = .ty m ∧ Meta m ∧ Q (.bl false) H
theorem op_neTyS (hu : X.A.units + 1 < cLine) : OpR X (compareOp .NotEq) rNeTyS := by
  intro pins s σ H x y v u Q I rx ry h
  obtain ⟨m, rfl, rfl, hm, q⟩ := h
  cases (show v = Value.type m from rx)
  cases (show u = Value.type m from ry)
  exact ne_type_same hm hu ⟨.bl false, H, I, rfl, q⟩
/-- min of a tuple of ints -/
def rMinT (K : PySem.W.Frag) : List V → Hp → VK → Prop := fun vs H Q => ∃ (a : Addr) (n : Int) (ns : List Int), vs = [V.ref a] ∧ SqT K H a ((n :: ns).map V.int) ∧ Q (.int (ns.foldl min n)) H
theorem alike_ints (ns : List Int) : PySem.W.AlikeAll (ns.map PyData.int) := by
  refine ⟨fun x hx y hy => ?_, fun x hx => ?_⟩
  · obtain ⟨a, _, rfl⟩ := List.mem_map.mp hx
    obtain ⟨b, _, rfl⟩ := List.mem_map.mp hy
    rfl
  · obtain ⟨a, _, rfl⟩ := List.mem_map.mp hx
    exact fun z => by cases z
theorem depth_ints : ∀ ms : List Int, PyData.depthAll (ms.map PyData.int) = 0
  | [] => rfl
  | m :: r => by simp [PyData.depthAll, PyData.depth, depth_ints r]
theorem cr_minT (hc : X.calm = true) (hu : X.A.units + 1 < cLine) : CallR X (.builtin "min") (rMinT X.K) := by
  intro pins s σ H vs us Q I r h
  obtain ⟨a, n, ns, rfl, hs, q⟩ := h
  obtain ⟨its, rv, hl, _⟩ := I.tuple hs
  rw [Vals.ref1 r]
  obtain ⟨as, rd⟩ := Dp.readsAll I (PyData.int n :: ns.map PyData.int) _ its (dpa_ints (n :: ns)) rv
  refine PySem.W.min_tuple_data (I.ok.hd hc) (show s.heap.IsTuple a its.toArray from hl) (by simpa using rd) (alike_ints (n :: ns)) ?_ fun i v h' tk bs hv hr hk => ?_
  · have := depth_ints (n :: ns)
    rw [List.map_cons] at this
    rw [this]
    exact hu
  · rw [PySem.W.minD_ints] at hr
    cases hr with
    | int _ t => exact ⟨.int (ns.foldl min n), H, I.kept (t' := tk) hk, ⟨_, rfl⟩, q⟩
theorem foldl_min_spec : ∀ (ns : List Int) (n : Int), ns.foldl min n ∈ n :: ns ∧ ∀ y ∈ n :: ns, ns.foldl min n ≤ y
  | [], n => ⟨by simp, by simp⟩
  | k :: r, n => by
    obtain ⟨h1, h2⟩ := foldl_min_spec r (min n k)
    refine ⟨?_, fun y hy => ?_⟩
    · rcases List.mem_cons.mp h1 with e | e
      · rw [List.foldl_cons, e]
        rcases Int.le_total n k with h | h
        · rw [Int.min_eq_left h]; simp
        · rw [Int.min_eq_right h]; simp
      · simp [List.foldl_cons, e]
    · have h3 := h2 (min n k) (by simp)
      rw [List.foldl_cons]
      rcases List.mem_cons.mp hy with e | hy
      · omega
      · rcases List.mem_cons.mp hy with e | hy
        · omega
        · exact h2 y (by simp [hy])
end
/-! readings of these -/
section
variable {K : PySem.W.Frag} {σ : L2.St} {H H' : Hp} {ta tb te tl : TE} {D : Ends} {tu tz : TS} {t : TT}
theorem ev_typeL {p : Addr} {xs : List V} (h : Ev ta σ H (.ref p)) (hp : H p = some (.lst xs)) : Ev (tThenZ ta kTyp) σ H (.ty "list") := fun H1 e Q q => h H1 e _ fun H2 e2 => ⟨"list", by
  have := e2 p _ (e p _ hp)
  simp [zTyV, this], q H2 e2⟩
theorem ev_typeT {p : Addr} {xs : List V} (h : Ev ta σ H (.ref p)) (hp : H p = some (.tup xs)) : Ev (tThenZ ta kTyp) σ H (.ty "tuple") := fun H1 e Q q => h H1 e _ fun H2 e2 => ⟨"tuple", by
  have := e2 p _ (e p _ hp)
  simp [zTyV, this], q H2 e2⟩
theorem rv_neTyS {m : String} (hm : Meta m) : RV rNeTyS (.ty m) (.ty m) H (.bl false) := fun H1 _ _ q => ⟨m, rfl, rfl, hm, q H1 (Ex.refl H1)⟩
theorem ev_sumN {ns : List Int} (h : EvL ta σ H (ns.map V.int)) : Ev (tCB (rSum K) (tCons ta tNil)) σ H (.int ns.sum) := fun H1 e Q q => h H1 e _ fun p H2 _ e2 h2 => ⟨p, ns, rfl, sq_of h2, q H2 e2⟩
theorem ev_allN {bs : List Bool} (h : EvL ta σ H (bs.map V.bl)) : Ev (tCB (rAll K) (tCons ta tNil)) σ H (.bl (bs.all id)) := fun H1 e Q q => h H1 e _ fun p H2 _ e2 h2 => ⟨p, bs, rfl, sq_of h2, q H2 e2⟩
theorem ev_minT {p : Addr} {n : Int} {ns : List Int} (h : Ev ta σ H (.ref p)) (hp : SqT K H p ((n :: ns).map V.int)) : Ev (tCB (rMinT K) (tCons ta tNil)) σ H (.int (ns.foldl min n)) := fun H1 e Q q => h H1 e _ fun H2 e2 => ⟨p, n, ns, rfl, ex_t (e.trans e2) hp, q H2 e2⟩
/-- sorted(xs), told by what it is -/
theorem ed_sorted {p : Addr} {ns ms : List Int} (h : Ev ta σ H (.ref p)) (hp : SqL K H p (ns.map V.int)) (hl : ns.length < 64) (hm : ms.Perm ns) (hs : ms.Pairwise (· ≤ ·)) : EvD K (tCB (rSorted K) (tCons ta tNil)) σ H (.list (ms.map PyData.int)) := fun H1 e Q q => h H1 e _ fun H2 e2 =>
  ⟨p, ns, rfl, ex_l (e.trans e2) hp, hl, fun ns' l pm so new => by
    have eq : ns' = ms := by
      exact List.Perm.eq_of_pairwise (le := fun a b : Int => a ≤ b) (fun a b _ _ h1 h2 => Int.le_antisymm h1 h2) so hs (pm.trans hm.symm)
    subst eq
    exact q _ _ (e2.trans (Ex.new new)) (.lst (sq_of upd_same) (dpa_ints _))⟩
/-- a new tuple of a list's items -/
theorem eu_tupOf {p : Addr} {xs : List V} (h : Ev ta σ H (.ref p)) (hp : SqL K H p xs) : EvU (tCB (rTupS K) (tCons ta tNil)) σ H xs := fun H1 e Q q => h H1 e _ fun H2 e2 =>
  ⟨p, xs, rfl, ex_l (e.trans e2) hp, fun l hl => q l _ (fresh_back e2 hl) (e2.trans (Ex.new hl)) upd_same⟩
/-- [0] * n -/
theorem el_rep {xs : List V} {k : Int} (ha : EvL ta σ H xs) (hb : Ev tb σ H (.int k)) (h0 : 0 ≤ k) (h1 : k ≤ 1000) (hx : xs.length ≤ 50) : EvL (tOp rRep ta tb) σ H (List.replicate k.toNat xs).flatten := fun H1 e Q q =>
  ha H1 e _ fun p H2 hp e2 h2 => hb H2 (e.trans e2) _ fun H3 e3 => ⟨p, k, xs, rfl, rfl, e3 p _ h2, by omega, by omega, sz_of (by
    have : xs.length * k.toNat ≤ 50 * 1000 := Nat.mul_le_mul hx (by omega)
    omega), fun l hl => q l _ (fresh_back (e2.trans e3) hl) ((e2.trans e3).trans (Ex.new hl)) upd_same⟩
/-- xs[::-1] -/
theorem el_rev {p : Addr} {xs : List V} (h : Ev ta σ H (.ref p)) (hp : SqL K H p xs) : EvL (tRevL K ta) σ H xs.reverse := fun H1 e Q q => h H1 e _ fun H2 e2 =>
  ⟨p, xs, rfl, ex_l (e.trans e2) hp, fun l hl => q l _ (fresh_back e2 hl) (e2.trans (Ex.new hl)) upd_same⟩
theorem el_revN {xs : List V} (h : EvL ta σ H xs) : EvL (tRevL K ta) σ H xs.reverse := fun H1 e Q q => h H1 e _ fun p H2 _ e2 h2 =>
  ⟨p, xs, rfl, sq_of h2, fun l hl => q l _ (fresh_back e2 hl) (e2.trans (Ex.new hl)) upd_same⟩
/-- for i, x in enumerate(xs): the pair is a new tuple -/
theorem s_forEn {ta : TA} {i j : Nat} {a : Addr} {xs : List V} (h : EvA ta σ H [.ref a]) (hx : SqL K H a xs) (Pv : Nat → L2.St → Hp → Prop) (h0 : ∀ H1, Ex H H1 → Pv 0 σ H1) (hl : ∀ n σ' H', n ≤ xs.length → Pv n σ' H' → SqL K H' a xs)
    (hs : ∀ n x σ' H' H2, xs[n]? = some x → Pv n σ' H' → Ex H' H2 → tu { D with nx := Pv (n + 1), ct := Pv (n + 1), bk := D.nx } ((σ'.set i (some (.int (n : Int)))).set j (some x)) H2) (hd : ∀ σ' H', Pv xs.length σ' H' → D.nx σ' H') :
    tFor (iEnum K ta) (gTup K 2 (gCons (gName i) (gCons (gName j) gNil))) tu D σ H := h H (Ex.refl H) _ fun H1 e => ⟨a, xs, rfl, ex_l e hx, by
  refine for_it walk_enum Pv (h0 H1 e) (fun n σ' H' hn p => hl n σ' H' hn p) ?_ hd
  rintro n v σ' Hh H2 hn p ⟨T, x, y, rfl, nT, rfl, g1, g2⟩
  have ex : V.int (n : Nat) = x := Option.some.inj g1
  subst ex
  exact ⟨T, [.int (n : Nat), y], rfl, st_of upd_same, rfl, _, [y], rfl, y, [], rfl, rfl, hs n y σ' Hh _ g2 p (Ex.new nT)⟩⟩
theorem q_forEn {ta : TA} {i j : Nat} {a : Addr} {xs : List V} (h : EvA ta σ H [.ref a]) (hx : SqL K H a xs) (Pv : Nat → L2.St → Hp → Prop) (h0 : ∀ H1, Ex H H1 → Pv 0 σ H1) (hl : ∀ n σ' H', n ≤ xs.length → Pv n σ' H' → SqL K H' a xs)
    (hs : ∀ n x σ' H' H2, xs[n]? = some x → Pv n σ' H' → Ex H' H2 → tu { D with nx := Pv (n + 1), ct := Pv (n + 1), bk := tz D } ((σ'.set i (some (.int (n : Int)))).set j (some x)) H2) (hd : ∀ σ' H', Pv xs.length σ' H' → tz D σ' H') :
    tSeq (tFor (iEnum K ta) (gTup K 2 (gCons (gName i) (gCons (gName j) gNil))) tu) tz D σ H := s_forEn (D := { D with nx := tz D }) h hx Pv h0 hl hs hd
end
end Kit

set_option Elab.async false
set_option linter.all false
set_option maxRecDepth 100000
set_option maxHeartbeats 4000000
namespace Kit
open PySem PySem.Spec PyProof.Rows L2 Evl
/-! ### new lists of new tuples -/
def TL (H : Hp) (vs : List V) (rs : List (List V)) : Prop := Paired (fun v r => ∃ a, v = .ref a ∧ H a = some (.tup r)) vs rs
theorem TL.imp {H H' : Hp} (f : ∀ a r, H a = some (.tup r) → H' a = some (.tup r)) : ∀ {vs : List V} {rs : List (List V)}, TL H vs rs → TL H' vs rs
  | _, _, .nil => .nil
  | _, _, .cons ⟨a, e, h⟩ t => .cons ⟨a, e, f a _ h⟩ (TL.imp f t)
theorem TL.ex {H H' : Hp} {vs : List V} {rs : List (List V)} (e : Ex H H') (h : TL H vs rs) : TL H' vs rs := h.imp fun a r x => e a _ x
theorem TL.upd {H : Hp} {l : Addr} {xs : List V} {o : HO} {vs : List V} {rs : List (List V)} (hl : H l = some (.lst xs)) (h : TL H vs rs) : TL (upd H l o) vs rs := h.imp fun a r x => by
  rw [upd_ne (ne_of x hl (by intro z; cases z))]
  exact x
theorem TL.len {H : Hp} : ∀ {vs : List V} {rs : List (List V)}, TL H vs rs → vs.length = rs.length
  | _, _, .nil => rfl
  | _, _, .cons _ t => by rw [List.length_cons, List.length_cons, TL.len t]
theorem TL.app {H : Hp} {v : V} {r : List V} (hv : ∃ a, v = .ref a ∧ H a = some (.tup r)) : ∀ {vs : List V} {rs : List (List V)}, TL H vs rs → TL H (vs ++ [v]) (rs ++ [r])
  | _, _, .nil => .cons hv .nil
  | _, _, .cons q t => .cons q (TL.app hv t)
theorem TL.get {H : Hp} : ∀ {vs : List V} {rs : List (List V)} {i : Nat} {v : V}, TL H vs rs → vs[i]? = some v → ∃ a r, v = .ref a ∧ H a = some (.tup r) ∧ rs[i]? = some r
  | _, _, 0, v, .cons ⟨a, e, h⟩ t, hv => ⟨a, _, (Option.some.inj (by simpa using hv)).symm.trans e, h, rfl⟩
  | _, _, i + 1, v, .cons _ t, hv => by
    obtain ⟨a, r, h1, h2, h3⟩ := TL.get (i := i) t (by simpa using hv)
    exact ⟨a, r, h1, h2, by simpa using h3⟩
  | _, _, 0, v, .nil, hv => by simp at hv
  | _, _, i + 1, v, .nil, hv => by simp at hv
theorem TL.rev {H : Hp} : ∀ {vs : List V} {rs : List (List V)}, TL H vs rs → TL H vs.reverse rs.reverse
  | _, _, .nil => .nil
  | _, _, .cons q t => by
    rw [List.reverse_cons, List.reverse_cons]
    exact TL.app q (TL.rev t)
def EvLT (te : TE) (σ : L2.St) (H : Hp) (rs : List (List V)) : Prop := ∀ H1, Ex H H1 → ∀ Q : VK, (∀ p vs H2, H1 p = none → Ex H1 H2 → H2 p = some (.lst vs) → TL H2 vs rs → Q (.ref p) H2) → te σ H1 Q
section
variable {K : PySem.W.Frag} {σ : L2.St} {H H' : Hp} {te tl : TE} {D : Ends} {tz : TS} {t : TT}
/-- [a new tuple for i in range(n)] -/
theorem elt_R1 {ta : TA} {j : Nat} {vs : List Nat} {n : Int} (f : Nat → List V) (h : EvA ta σ H [.int n]) (hn : 0 ≤ n ∧ n ≤ 40000) (hw : ∀ x, wipe ((wipe σ vs).set j (some x)) vs = wipe σ vs)
    (he : ∀ (i : Nat) H1, Ex H H1 → (i : Int) < n → EvU te ((wipe σ vs).set j (some (.int (i : Int)))) H1 (f i)) : EvLT (tLc (iRng1 ta) (gName j) tYes te vs) σ H ((List.range n.toNat).map f) := fun H0 e Q q => h H0 e _ fun H1 e1 => ⟨n, rfl, by omega, by omega, fun Dl hD =>
  lc_range (lo := 0) (n := n.toNat) (fun i H' => Ex H1 H' ∧ ∃ ws, H' Dl = some (.lst ws) ∧ TL H' ws ((List.range i).map f)) ⟨Ex.new hD, [], upd_same, .nil⟩ (fun i H' hi p => by
    obtain ⟨p1, ws, p2, p3⟩ := p
    have e0 : (0 : Int) + (i : Int) = (i : Int) := Int.zero_add _
    show wipe ((wipe σ vs).set j (some (.int ((0 : Int) + (i : Int))))) vs = wipe σ vs ∧ te ((wipe σ vs).set j (some (.int ((0 : Int) + (i : Int))))) H' fun y H4 => ∃ acc, H4 Dl = some (.lst acc) ∧ acc.length < sizeLine ∧ _
    rw [e0]
    refine ⟨hw _, he i H1 (e.trans e1) (by omega) H' p1 _ fun p H4 hp e4 h4 => ⟨ws, e4 Dl _ p2, sz_lt (by
      have := p3.len
      simp at this
      omega), Ex.mut (p1.trans e4) hD, ws ++ [.ref p], upd_same, ?_⟩⟩
    rw [List.range_succ, List.map_append]
    exact ((p3.ex e4).app ⟨p, rfl, h4⟩).upd (e4 Dl _ p2)) (fun H' p => by
      obtain ⟨p1, ws, p2, p3⟩ := p
      exact q Dl ws H' (fresh_back e1 hD) (e1.trans p1) p2 p3)⟩
/-- [a new tuple for x in xs] -/
theorem elt_map {a : Addr} {xs : List V} {j : Nat} {vs : List Nat} (f : Nat → List V) (h : Ev tl σ H (.ref a)) (hx : SqL K H a xs) (hz : xs.length ≤ 40000) (hw : ∀ x, wipe ((wipe σ vs).set j (some x)) vs = wipe σ vs)
    (he : ∀ (i : Nat) (x : V) H1, Ex H H1 → xs[i]? = some x → EvU te ((wipe σ vs).set j (some x)) H1 (f i)) : EvLT (tLc (iList K tl) (gName j) tYes te vs) σ H ((List.range xs.length).map f) := fun H0 e Q q => h H0 e _ fun H1 e1 => ⟨a, rfl, ⟨xs, ex_l (e.trans e1) hx⟩, fun Dl hD =>
  lc_list (xs := xs) (fun i H' => Ex H1 H' ∧ ∃ ws, H' Dl = some (.lst ws) ∧ TL H' ws ((List.range i).map f)) ⟨Ex.new hD, [], upd_same, .nil⟩ (fun i H' _ p => ex_l ((e.trans e1).trans p.1) hx) (fun i x H' hi p => by
    obtain ⟨p1, ws, p2, p3⟩ := p
    show wipe ((wipe σ vs).set j (some x)) vs = wipe σ vs ∧ te ((wipe σ vs).set j (some x)) H' fun y H4 => ∃ acc, H4 Dl = some (.lst acc) ∧ acc.length < sizeLine ∧ _
    refine ⟨hw _, he i x H1 (e.trans e1) hi H' p1 _ fun p H4 hp e4 h4 => ⟨ws, e4 Dl _ p2, sz_lt (by
      have := p3.len
      have := (List.getElem?_eq_some_iff.mp hi).1
      simp at *
      omega), Ex.mut (p1.trans e4) hD, ws ++ [.ref p], upd_same, ?_⟩⟩
    rw [List.range_succ, List.map_append]
    exact ((p3.ex e4).app ⟨p, rfl, h4⟩).upd (e4 Dl _ p2)) (fun H' p => by
      obtain ⟨p1, ws, p2, p3⟩ := p
      exact q Dl ws H' (fresh_back e1 hD) (e1.trans p1) p2 p3)⟩
theorem range_get {α : Type} (rs : List α) (d : α) : rs = (List.range rs.length).map fun i => rs.getD i d := by
  refine List.ext_getElem (by simp) fun i h1 h2 => ?_
  simp [h1]
theorem paired_map {α β γ : Type} {F : β → γ → Prop} (f : α → β) (g : α → γ) : ∀ l : List α, (∀ x ∈ l, F (f x) (g x)) → Paired F (l.map f) (l.map g)
  | [], _ => .nil
  | x :: r, h => .cons (h x (by simp)) (paired_map f g r fun y hy => h y (by simp [hy]))
/-- [x for x in xs if test(x)], xs a list of tuples, the test P of the tuple's items -/
theorem elt_filter {a : Addr} {xs : List V} {rs : List (List V)} {j : Nat} {vs : List Nat} (P : List V → Bool) (h : Ev tl σ H (.ref a)) (hx : SqL K H a xs) (ht : TL H xs rs) (hz : xs.length ≤ 40000) (hw : ∀ x, wipe ((wipe σ vs).set j (some x)) vs = wipe σ vs) (hj : ∀ x, ((wipe σ vs).set j (some x))[j]? = some (some x))
    (he : ∀ (b : Addr) (r : List V) H1, Ex H H1 → r ∈ rs → H1 b = some (.tup r) → EvT t ((wipe σ vs).set j (some (.ref b))) H1 (P r)) : EvLT (tLc (iList K tl) (gName j) t (tVar j) vs) σ H (rs.filter P) := fun H0 e Q q => by
  refine el_lcL (K := K) (f := fun i => P (rs.getD i [])) (v := fun i => xs.getD i .non) h hx hz hw (fun i x H1 e1 hi => ?_) (fun i x H1 e1 hi hf => ?_) H0 e Q fun p H2 hp e2 h2 => ?_
  · obtain ⟨b, r, rfl, hb, hr⟩ := ht.get hi
    have g : rs.getD i [] = r := by rw [List.getD_eq_getElem?_getD, hr] <;> rfl
    show EvT _ _ _ (P (rs.getD i []))
    rw [g]
    exact he b r H1 e1 (List.mem_of_getElem? hr) (e1 b _ hb)
  · have g : xs.getD i .non = x := by rw [List.getD_eq_getElem?_getD, hi] <;> rfl
    show Ev _ _ _ (xs.getD i .non)
    rw [g]
    exact ev_var (hj x)
  · refine q p _ H2 hp e2 h2 ?_
    have e3 : rs.filter P = ((List.range rs.length).filter fun i => P (rs.getD i [])).map fun i => rs.getD i [] := by
      conv => lhs; rw [range_get rs [], List.filter_map]
      rfl
    unfold given
    rw [e3, ht.len]
    refine paired_map _ _ _ fun i hi => ?_
    have hi := List.mem_range.mp (List.mem_filter.mp hi).1
    have hlx : i < xs.length := by rw [ht.len]; exact hi
    obtain ⟨b, r, h1, h2', h3⟩ := ht.get (List.getElem?_eq_getElem hlx)
    refine ⟨b, ?_, ?_⟩
    · rw [List.getD_eq_getElem?_getD, List.getElem?_eq_getElem hlx, h1]
      rfl
    · rw [List.getD_eq_getElem?_getD, h3]
      exact (e.trans e2) b _ h2'
theorem q_asgLT {i : Nat} {rs : List (List V)} (h : EvLT te σ H rs) (k : ∀ p vs H1, H p = none → Ex H H1 → H1 p = some (.lst vs) → TL H1 vs rs → tz D (σ.set i (some (.ref p))) H1) : tSeq (tAsg te (gName i)) tz D σ H := h H (Ex.refl H) _ fun p vs H1 hp e h1 h2 => k p vs H1 hp e h1 h2
theorem s_retLT {rs : List (List V)} (h : EvLT te σ H rs) (k : ∀ p vs H1, H p = none → Ex H H1 → H1 p = some (.lst vs) → TL H1 vs rs → D.rt (.ref p) H1) : tRet te D σ H := h H (Ex.refl H) _ k
end
end Kit

set_option Elab.async false
set_option linter.all false
set_option maxRecDepth 100000
set_option maxHeartbeats 4000000
namespace Kit
open PySem PySem.Spec PyProof.Rows L2 Evl
/-! ### a promise of a def that shows data (repr): no repr may be under way around it -/
structure FnOkG (P : Program) (w : World) (K : PySem.W.Frag) (mg : Str → Option Value) (base : Heap) (n : Nat) (f : Addr) (fd : FuncData) (names : List Str) (want : Sp) : Prop where
  many : ∀ xs H Q E, want xs H Q E → xs.length = names.length
  go : ∀ (A : Around) (frames : List Env) (st : Shared) (H : Hp) (given : Args) (us : List Value) (xs : List V) (Q : VK) (E : XK), A.guards = some [] → Room n A → Env0 P w K mg base A frames st H →
    BindsTo st fd given (names.zip us) → Vals xs us → want xs H Q E → codeAny (model P w) A (.call (.ref f) given) (CR CX0 frames P w H st Q E) st
section
variable {P : Program} {w : World} {K : PySem.W.Frag} {mg : Str → Option Value} {base : Heap}
theorem FnOkG.mono {j n : Nat} {f : Addr} {fd : FuncData} {names : List Str} {want : Sp} (F : FnOkG P w K mg base j f fd names want) (h : j ≤ n) : FnOkG P w K mg base n f fd names want :=
  ⟨F.many, fun A fr st H g us xs Q E hg r => F.go A fr st H g us xs Q E hg (r.mono h)⟩
/-- the rule for such a def -/
theorem funG {x qual : Str} {d : Stmt} {f : Addr} {fd : FuncData} {N names : List Str} {n : Nat} {want : Sp} (F : Fun K x qual d f fd) (S : FnScope N names (defScope d)) (many : ∀ xs H Q E, want xs H Q E → xs.length = names.length)
    (body : ∀ (cv : Value) (A : Around) (frames : List Env) (st : Shared) (H : Hp) (xs : List V) (Q : VK) (E : XK), A.guards = some [] → Room n (A.deeper (envOfC qual (defScope d) st.heap.objs.size f cv)) → want xs H Q E →
      ∃ t, PSs (cxOf CX0 P w K mg base N qual (defScope d) f cv A frames st H E).nox (defBody d) t ∧ t { nx := fun _ H' => Q .non H', rt := Q } (start N xs) H) : FnOkG P w K mg base (n + 1) f fd names want := by
  obtain ⟨o1, o2, v1, v2, v3, an, cv, ct, sl, rfl, look, code⟩ := F.ex
  refine ⟨many, fun A frames st H given us xs Q E hg room en bind vals hw => ?_⟩
  have size := many _ _ _ _ hw
  have inK : K.In st.heap := en.mod.kin.keeps fun b o q => (en.bs b o q).1
  have noLim : st.heap.NoLimit := en.mod.nolimit.keeps fun b o q => (en.bs b o q).1
  have kinds : ∀ y ∈ names.zip us, (defScope d).names.lookup y.1 = some .local ∨ ((defScope d).names.lookup y.1 = some .cell ∧ ((cellsFrom (st.heap.objs.size + 1) (defScope d).names []).lookup y.1).isSome = true) := by
    rintro ⟨a, b⟩ hy
    exact (S.par a (List.of_mem_zip hy).1).elim .inl fun q => .inr ⟨q, PySem.W.cellsFrom_some _ _ _ (.inl q)⟩
  refine codeAny_call_function room.depth (inK _ _ look) rfl S.co S.gen rfl (PySem.W.codeRec_of inK code) (bind _ _ _ _ (wpAny_newFunctionEnv_cells S.kind kinds fun env eq st1 made => ?_))
  cases eq
  refine ⟨noLim.keeps made.toInCall.keep, codeAny_func ?_⟩
  obtain ⟨t, rule, done⟩ := body cv A frames st H xs Q E hg (room.deeper _) hw
  have J : Inv (cxOf CX0 P w K mg base N qual (defScope d) f cv A frames st H E) [] (start N xs) H st1 := inv_start S room.hd en size vals made
  have back : ∀ {σ' : L2.St} {H' : Hp} {v : V} {u : Value} {st2 : Shared}, Inv (cxOf CX0 P w K mg base N qual (defScope d) f cv A frames st H E) [] σ' H' st2 → RelV v u → Q v H' → CE frames P w H st Q u st2 := fun J2 rv q => ⟨_, _, J2.os, J2.bare, J2.base, J2.hok, rv, q⟩
  refine wpAny_mono (rule.nox.run [] st1 (start N xs) H _ J done) (fun r st2 hs => ?_) fun _ _ hs => hs
  match r, hs with
  | .ret u, ⟨v, σ2, H2, J2, rv, q⟩ => exact back J2 rv q
  | .next, ⟨σ2, H2, J2, q⟩ => exact back (v := V.non) (u := Value.none) J2 rfl q
  | .brk, ⟨_, _, _, q⟩ => exact False.elim q
  | .cont, ⟨_, _, _, q⟩ => exact False.elim q
end
/-- such a def is called -/
theorem pe_callG {X : Cx} {n : Nat} {f : Addr} {fd : FuncData} {names : List Str} {want : Sp} {x : Str} {p pos : Pos} {e : Expr} {es : List Expr} {t : TA} (F : FnOkG X.prog X.w X.K X.mg X.base n f fd names want) (hg : X.A.guards = some []) (room : Room n X.A) (gl : Gl X x)
    (at_ : X.mg x = some (.ref f)) (keep : PySem.W.keepIn X.K (.ref f) = true) (bind : Binds X.K fd names []) (ha : PA X (e :: es) t) (nd : (x == ("__debug__" : Str)) = false := by decide)
    (one : starEach (e :: es) X.env = (false, eval e X.env) :: starEach es X.env := by rfl) (plain : (backTo pos (starEach es X.env)).any (·.1) = false := by rfl) : PE X (.Call (.Name x p) (e :: es) [] pos) (tCall want [] E0 t) := by
  refine ⟨fun pins st σ H Q J h => wpAny_Call_Name_kw (ld_glob J gl at_ ?_ nd)⟩
  refine PySem.W.callWith_K (h₀ := X.base) J.ok.mod.kin keep (thn (ha.run pos pins st σ H _ J h) fun us st1 ⟨vs, H1, J1, r, q⟩ => ⟨J1.kIn, ?_⟩) one plain
  have q : want vs H1 Q E0 := by
    have q' : want (vs ++ []) H1 Q E0 := q
    rwa [List.append_nil] at q'
  have size : us.length = names.length := r.length.symm.trans (F.many _ _ _ _ q)
  have bd := bind st1 us J1.kIn (by rw [List.append_nil]; exact size)
  rw [List.append_nil] at bd
  refine wpAny_call (codeAny_mono (F.go X.A X.stack st1 H1 ⟨us, []⟩ us vs Q E0 hg room J1.env0 bd r q) fun res st2 hq => ?_)
  match res, hq with
  | .error _, hq => exact False.elim hq
  | .ok (.ret _), hq => exact J1.after hq
  | .ok .next, hq => exact False.elim hq
  | .ok .brk, hq => exact False.elim hq
  | .ok .cont, hq => exact False.elim hq
/-- the law's promise, at the heap behind the top -/
theorem headG {P : Program} {w : World} {K : PySem.W.Frag} {mg mb : Str → Option Value} {n : Nat} {fa a : Addr} {fd : FuncData} {x : Str} {want : Sp} {st : Shared} {us : List Value} {ns : List Int}
    (inK : K.In st.heap) (glob : st.heap.Ns mainGlobals mg) (blt : st.heap.Ns builtinsNs mb) (boot : ∀ x : Str, x ≠ "__name__" → mb x = bootBuiltins x) (noLim : st.heap.NoLimit) (gens : st.gens = #[])
    (obj : st.heap.get? a = some { cls := .type "list", data := .seq us.toArray }) (allInt : IntsAre us ns) (short : ns.length ≤ sizeLine) (room : Room n callerA)
    (F : ∀ base : Heap, K.In base → base.Ns mainGlobals mg → FnOkG P w K mg base n fa fd [x] want) (bind : ∀ (s : Shared) (u : Value), BindsTo s fd ⟨[u], []⟩ [(x, u)])
    (ask : ∀ H : Hp, Only H → SqL K H a (ns.map V.int) → want [.ref a] H (fun v _ => v = .bl true) fun _ _ _ => False) :
    codeAny (model P w) callerA (.call (.ref fa) ⟨[.ref a], []⟩) (fun r s' => r = .ok (.ret (.bool true)) ∧ OldK st.heap s'.heap ∧ s'.os = st.os ∧ AllBare s'.gens) st := by
  have vals := vals_ints allInt
  have size := allInt.length
  have main : ∀ H : Hp, Only H → SqL K H a (ns.map V.int) → HOk P w H st.heap → (∀ b, H b ≠ none → b = a) → (H a ≠ none → K.lookup a = none) →
      codeAny (model P w) callerA (.call (.ref fa) ⟨[.ref a], []⟩) (fun r s' => r = .ok (.ret (.bool true)) ∧ OldK st.heap s'.heap ∧ s'.os = st.os ∧ AllBare s'.gens) st := by
    intro H only sq ok one not
    have stay : ∀ {b : Addr} {o : Obj}, st.heap.get? b = some o → H b = none → (hidT st.heap H).get? b = some o := fun q z => hidT_get q z
    have free : ∀ {b : Addr}, (b = a → False) → H b = none := fun {b} ne => by
      cases q : H b with
      | none => rfl
      | some u => exact (ne (one b (by rw [q]; exact Option.some_ne_none u))).elim
    have space : ∀ {b : Addr} {m : Str → Option Value}, st.heap.Ns b m → (hidT st.heap H).Ns b m := fun {b m} ⟨o, es, ep, q, d, r⟩ => ⟨o, es, ep, stay q (free fun z => by
      subst z
      rw [obj] at q
      cases q
      exact Data.noConfusion (show Data.seq us.toArray _ = Data.dict es ep from d)), d, r⟩
    have kin : K.In (hidT st.heap H) := fun b o q => stay (inK b o q) (by
      cases z : H b with
      | none => rfl
      | some u =>
        have ne : H b ≠ none := by rw [z]; exact Option.some_ne_none u
        have ba := one b ne
        subst ba
        rw [not ne] at q
        cases q)
    obtain ⟨mc, l1, l2⟩ := noLim
    have md : Mod K mg (hidT st.heap H) := ⟨kin, space glob, ⟨mb, space blt, boot⟩, ⟨mc, space l1, l2⟩⟩
    have en : Env0 P w K mg (hidT st.heap H) callerA [] st H := ⟨rfl, md, fun b o q => of_hidT q, Nat.le_of_eq (hidT_size _ _), trivial, fun b hb => absurd (show b ∈ ([] : List Addr) from hb) (by simp), ok, .of_eq gens⟩
    refine codeAny_mono ((F _ kin (space glob)).go callerA [] st H ⟨[.ref a], []⟩ [.ref a] [.ref a] _ _ rfl room en (bind st (.ref a)) (.cons rfl .nil) (ask H only sq)) fun r s' h => ?_
    match r, h with
    | .error _, h => exact False.elim h
    | .ok .next, h => exact False.elim h
    | .ok .brk, h => exact False.elim h
    | .ok .cont, h => exact False.elim h
    | .ok (.ret u), ⟨v, H', os, bare, un, ok', rel, q⟩ =>
      have q2 : v = .bl true := q
      cases q2
      have r2 : u = Value.bool true := rel
      cases r2
      refine ⟨rfl, OldK.of_keep fun b o e => ?_, os, bare⟩
      rcases only b with z | ⟨ob, xs, z⟩
      · exact un.keep b o e z (fun t => absurd (show b ∈ ([] : List Addr) from t) (by simp)) (by simp)
      · have z2 := un.frzs b ob _ z
        obtain ⟨g1, _⟩ := ok b _ z
        obtain ⟨g2, _⟩ := ok' b _ z2
        rw [e] at g1
        cases g1
        exact g2
  cases own : K.lookup a with
  | some o =>
    have e := inK a o own
    rw [obj] at e
    cases e
    exact main (fun _ => none) (fun _ => .inl rfl) (.inr ⟨_, us.toArray, _, own, rfl, rfl, rfl, by rw [List.size_toArray, size]; exact short, by simpa using vals⟩) (fun b u z => by have y : (none : Option HO) = some u := z; cases y) (fun b z => absurd rfl z) fun z => absurd rfl z
  | none =>
    have yes : (fun b => if b = a then some (HO.frz { cls := .type "list", data := .seq us.toArray } (.lst (ns.map V.int))) else none) a = some (HO.frz { cls := .type "list", data := .seq us.toArray } (.lst (ns.map V.int))) := if_pos rfl
    have no : ∀ b, b ≠ a → (fun b => if b = a then some (HO.frz { cls := .type "list", data := .seq us.toArray } (.lst (ns.map V.int))) else none) b = none := fun b ne => if_neg ne
    generalize (fun b => if b = a then some (HO.frz { cls := .type "list", data := .seq us.toArray } (.lst (ns.map V.int))) else none) = G at yes no
    refine main G (fun b => ?_) (.inl (.inr ⟨_, yes⟩)) (fun b u z => ?_) (fun b z => ?_) fun _ => own
    · by_cases hb : b = a
      · subst hb
        exact .inr ⟨_, _, yes⟩
      · exact .inl (no b hb)
    · by_cases hb : b = a
      · subst hb
        rw [yes] at z
        cases z
        exact ⟨obj, by rw [List.length_map]; exact short, us, _, vals, obj⟩
      · rw [no b hb] at z
        cases z
    · by_cases hb : b = a
      · exact hb
      · exact absurd (no b hb) z
theorem walk_G {l : PySem.W.OpenLaw} {m n : Nat} {q : Program} {loose : List Str} {XP : (Str → Option Value) → Heap → Prop} {YP : World → Heap → Prop} {d : DefRec} {K : Params → PySem.W.Frag} {want : World → Sp} {x : Str}
    (most : l.most = some m) (most2 : m ≤ sizeLine) (noDef : d.params.defaults = []) (room : Room n callerA) (inK : ∀ (w : World) (h : Heap), YP w h → (K w.params).In h)
    (F : ∀ (w : World) (mg : Str → Option Value) (fa : Addr) (h : Heap), (K w.params).In h → h.Ns mainGlobals mg → mg d.name = some (.ref fa) →
      ∃ fd : FuncData, (∀ (s : Shared) (u : Value), BindsTo s fd ⟨[u], []⟩ [(x, u)]) ∧ ∀ base : Heap, (K w.params).In base → base.Ns mainGlobals mg → FnOkG l.prog w (K w.params) mg base n fa fd [x] (want w))
    (ask : ∀ (w : World) (H : Hp) (a : Addr) (ns : List Int), ns.length ≤ m → Only H → SqL (K w.params) H a (ns.map V.int) → want w [.ref a] H (fun v _ => v = .bl true) fun _ _ _ => False) :
    PySem.W.WalkO q loose XP YP l.row.toRowW d [] (fun f vs => PySem.call f vs) :=
  Att.attach_call most noDef fun w s₀ st mg mb fa o pm cd doc a us ns G Y ho hd hcd named obj allInt short gens => by
    have kin := inK w _ Y
    obtain ⟨fd, bind, FF⟩ := F w mg fa _ kin G.T.g named
    exact headG kin G.T.g G.T.b G.T.builtins G.T.nolimit gens obj allInt (Nat.le_trans short most2) room FF bind fun H only sq => ask w H a ns short only sq
/-! ### repr of data -/
def rRepr (K : PySem.W.Frag) : List V → Hp → VK → Prop := fun xs H Q => ∃ p d, xs = [.ref p] ∧ Dp K H (.ref p) d ∧ d.showable = true ∧ d.hasDict = false ∧ d.depth ≤ 50 ∧ d.shown.length ≤ sizeLine ∧ Q (.str d.shown) H
theorem call_reprD {X : Cx} (hg : X.A.guards = some []) (hu : X.A.units + 64 < cLine) : CallR X (.builtin "repr") (rRepr X.K) := by
  intro pins st σ H xs us Q J r h
  obtain ⟨p, d, rfl, dp, hs, hd, hdp, hz, q⟩ := h
  obtain ⟨u, rfl, hu2⟩ : ∃ u, us = [u] ∧ RelV (.ref p) u := by
    cases r with
    | cons a b =>
      cases b
      exact ⟨_, rfl, a⟩
  have e : u = Value.ref p := hu2
  subst e
  obtain ⟨as, rd⟩ := Dp.reads J d _ _ dp hu2
  refine repr_of_reads' rd hs (fun z => by rw [hd] at z; cases z) hg (by omega) (fun _ _ e => e) (fun h' u tk keep => ?_) hz
  exact ⟨.str d.shown, H, J.turnedL (ch := []) (fun b o _ e => keep b o e) (fun b hb => absurd hb (by simp)), ⟨_, rfl⟩, q⟩
section
variable {K : PySem.W.Frag} {σ : L2.St} {H : Hp} {te : TE}
theorem ev_repr {d : PyData} (h : EvD K te σ H d) (hl : isDisplay d = true) (hs : d.showable = true) (hd : d.hasDict = false) (hdp : d.depth ≤ 50) (hz : d.shown.length ≤ sizeLine) : Ev (tCB (rRepr K) (tCons te tNil)) σ H (.str d.shown) := fun H1 e Q q =>
  h H1 e _ fun v H2 e2 dv => by
    have hp : ∃ p, v = .ref p := by
      cases dv with
      | lst _ _ => exact ⟨_, rfl⟩
      | tup _ _ => exact ⟨_, rfl⟩
      | non => cases hl
      | bl _ => cases hl
      | int _ => cases hl
      | str _ => cases hl
    obtain ⟨p, rfl⟩ := hp
    exact ⟨p, d, rfl, dv, hs, hd, hdp, hz, q H2 e2⟩
end
end Kit

set_option Elab.async false
set_option linter.all false
set_option maxRecDepth 100000
set_option maxHeartbeats 4000000
namespace Kit
open PySem PySem.Spec PyProof.Rows L2 Evl
theorem slot_type_neR : Slot "type" (cmpInfo .NotEq).2.2 "object.__ne__" :=
  .of (owner := "object") (n := "__ne__") (by rw [typeLookup_type, builtinLookup_eq_fast]; kernel_rfl) (by decide +kernel) (by decide +kernel) (by decide +kernel)
    (by first | exact .inl (by decide +kernel) | exact .inr (by decide +kernel)) (by rw [isSubtype_type]; kernel_rfl)
section
variable {M : Model} {A : Around} {E : Value → Shared → Prop} {s : Shared}
theorem ne_decline {a b : Value} {T id : String} {k : Bool} {Q : Value → Shared → Prop} (ta : ∀ s' : Shared, s'.TypeIs a T) (tb : ∀ s' : Shared, s'.TypeIs b T) (l1 : Slot T (cmpInfo .NotEq).2.1 id) (l2 : Slot T (cmpInfo .NotEq).2.2 id)
    (nh : [a, b].any Value.onHeap = false) (same : isSame a b = pure k) (go : wpAny M A (call (.builtin id) [a, b]) (fun v t => v = .notImplemented ∧ wpAny M A (call (.builtin id) [b, a]) (fun v t2 => v = .notImplemented ∧ Q (.bool (!k)) t2) E t) E s) :
    wpAny M A (richCompare .NotEq a b) Q E s := by
  rcases eq : cmpInfo CmpOp.NotEq with ⟨n1, n2, n3⟩
  rw [eq] at l1 l2
  simp only [richCompare, eq, (ta s).oneThing_none]
  try with_reducible refine wpAny_holding ?_
  refine wpAny_bind (wpAny_cRoomFor_or (.inl nh) (wpAny_bind (wpAny_typeOf (ta s) (wpAny_bind (wpAny_typeOf (tb s) ?_)))))
  simp only [bne_self_eq_false, Bool.false_eq_true, if_false, pure_bind, Bool.not_false, if_true]
  refine wpAny_bind (m := tryCompare a _ b) (wpAny_tryCompare_declines (ta s) l1 (wpAny_mono go (fun v t z => ⟨z.1, ?_⟩) fun _ _ x => x))
  refine wpAny_bind (m := tryCompare b _ a) (wpAny_tryCompare_declines (tb t) l2 (wpAny_mono z.2 (fun v t2 z2 => ⟨z2.1, ?_⟩) fun _ _ x => x))
  refine wpAny_bind (wpAny_rule (wpAny_bind (wpAny_of_eq same (wpAny_pure z2.2))))
end
section
variable {prog : Program} {w : World} {A : Around} {E : Value → Shared → Prop} {s : Shared} {Q : Value → Shared → Prop}
theorem obj_ne_other {X Y : String} (hX : ∀ s' : Shared, s'.TypeIs (.type X) "type") (ne : (Value.type X == Value.type Y) = false) (hu : A.units + 1 < cLine) (h : Q .notImplemented s) : wpAny (model prog w) A (call (.builtin "object.__ne__") [.type X, .type Y]) Q E s := by
  refine wpAny_call_entry slot_type_ne (hX s) PySem.F.cmpEntry_ne ?_ (PySem.F.cmpArgs_ne _ _)
  unfold Builtin.«object.__ne__»
  have key : wpAny (model prog w) A.in1 (call (.builtin "object.__eq__") [.type X, .type Y]) (fun v s' => v = .notImplemented ∧ s' = s) E s :=
    call_gives slot_type_eqN (hX s) F.entry_object_eq (F.args_object_eq_2 _ _) (PySem.TypeEq.object_eq_other rfl ne) ⟨rfl, rfl⟩
  repeat (first
    | with_reducible refine wpAny_cRoomFor (by show A.units + 1 < cLine; exact hu) ?_
    | (refine wpAny_bind (m := callSpecialIfBound? (.type X) (Str.ofString "__eq__") [.type Y])
        (wpAny_callSpecialIfBound?_slot (hX _) slot_type_eqN (wpAny_mono key (fun r s' hr => by
          obtain ⟨rfl, rfl⟩ := hr
          have hq : Q .notImplemented s' := h
          repeat (first | exact hq | exact ⟨_, rfl, hq⟩ | exact wpAny_pure hq | wp_step)) fun _ _ e => e)))
    | wp_step)
theorem ne_type_other {X Y : String} (hX : ∀ s' : Shared, s'.TypeIs (.type X) "type") (hY : ∀ s' : Shared, s'.TypeIs (.type Y) "type") (ne : (Value.type X == Value.type Y) = false) (hu : A.units + 1 < cLine) (h : Q (.bool true) s) : wpAny (model prog w) A (compareOp .NotEq (.type X) (.type Y)) Q E s := by
  have ne' : (Value.type Y == Value.type X) = false := by
    rw [beq_eq_false_iff_ne] at ne ⊢
    exact fun z => ne z.symm
  show wpAny _ A (richCompare .NotEq _ _) Q E s
  exact ne_decline (T := "type") (k := false) hX hY slot_type_ne slot_type_neR rfl (by rw [isSame_plain rfl, ne]) (obj_ne_other hX ne hu ⟨rfl, obj_ne_other hY ne' hu ⟨rfl, h⟩⟩)
end
end Kit

set_option Elab.async false
set_option linter.all false
set_option maxRecDepth 100000
set_option maxHeartbeats 4000000
namespace Kit
open PySem PySem.Spec PyProof.Rows L2 Evl
theorem meets_enum_new1 {v : Value} {o : Obj} {H : Heap → Prop} (B : Begins v o H) :
    Meets (Builtin.«enumerate.__new__» ⟨[.type "enumerate", v], []⟩) (fun _ R s => H s.heap ∧
      R (.ok (.ret (.ref (s.heap.push o).objs.size))) { s with heap := (s.heap.push o).push { cls := .type "enumerate", data := .fields #[.none, .bool false, .ref s.heap.objs.size, rawInt 0, .none, .none] } }) :=
  .of_wp fun prog w A R s h => by
    obtain ⟨hp, g, d, tk, os⟩ := s; obtain ⟨h1, h⟩ := h
    have hsub := sub_enumerate
    have q1 : ∀ {A' : Around} {E : Value → Shared → Prop} {Q : Value → Shared → Prop}, Q (.ref hp.objs.size) ⟨hp.push o, g, d, tk, os⟩ → wpAny (model prog w) A' (pyIter v) Q E ⟨hp, g, d, tk, os⟩ :=
      fun q => B.iter prog w _ _ ⟨hp, g, d, tk, os⟩ _ h1 q
    wp_walk using q1
    refine wpAny_stack_any fun st => wpAny_pure ?_
    split
    · rename_i c _ _ _ _ _
      cases (c == Value.type "enumerate")
      · wp_walk using q1
        exact ⟨_, rfl, h⟩
      · wp_walk using q1
        exact ⟨_, rfl, h⟩
    · wp_walk using q1
      exact ⟨_, rfl, h⟩
section
variable {prog : Program} {w : World} {A : Around} {E : Value → Shared → Prop} {s : Shared}
theorem enum_begins1 {v : Value} {o : Obj} {H : Heap → Prop} {Q : Value → Shared → Prop} (B : Begins v o H) (h1 : H s.heap)
    (h : ∀ h', IsEnum h' (s.heap.objs.size + 1) s.heap.objs.size 0 .none → h'.get? s.heap.objs.size = some o → h'.objs.size = s.heap.objs.size + 2 →
      (∀ b o, s.heap.get? b = some o → h'.get? b = some o) → Q (.ref (s.heap.objs.size + 1)) { s with heap := h' }) :
    wpAny (model prog w) A (call (.type "enumerate") [v]) Q E s := by
  refine callType_new F.called_enumerate (by decide) (F.typeCall_enumerate_1 _) (F.newCall_enumerate_1 _) (fun obj => F.args_object_init_2 obj _) F.entry_enumerate_new
    (meets_enum_new1 B) ⟨h1, ?_⟩
  have hz : (s.heap.push o).objs.size = s.heap.objs.size + 1 := Heap.size_push ..
  show _ ∧ _
  rw [hz]
  have he : IsEnum ((s.heap.push o).push { cls := .type "enumerate", data := .fields #[.none, .bool false, .ref s.heap.objs.size, rawInt 0, .none, .none] }) (s.heap.objs.size + 1) s.heap.objs.size 0 .none := by
    have := Heap.get?_push_size (s.heap.push o) (o := { cls := .type "enumerate", data := .fields #[.none, .bool false, .ref s.heap.objs.size, rawInt 0, .none, .none] }) rfl
    rw [hz] at this; exact this
  refine ⟨⟨_, he, rfl⟩, h _ he (Heap.get?_push_of_some _ (Heap.get?_push_size _ B.free)) (by rw [Heap.size_push, hz]) fun b o x => Heap.get?_push_of_some _ (Heap.get?_push_of_some _ x)⟩
end
end Kit

set_option Elab.async false
set_option linter.all false
set_option maxRecDepth 100000
set_option maxHeartbeats 4000000
namespace Kit
open PySem PySem.Spec PyProof.Rows L2 Evl
/-- the tuple at a, each item in a new pair -/
def IteT (K : PySem.W.Frag) (a : Addr) : It :=
  ⟨fun i H => ∃ (xs : List V) (x : V), SqT K H a xs ∧ xs[i]? = some x, fun i H v H' => ∃ T x, v = .ref T ∧ H T = none ∧ H' = upd H T (.tup [.int (i : Nat), x]) ∧ ∀ xs, SqT K H a xs → xs[i]? = some x, fun i H => ∃ xs : List V, SqT K H a xs ∧ xs.length = i⟩
theorem enum_ne {h : Heap} {e it t : Addr} {i : Int} {old : Value} {vs : Array Value} (he : IsEnum h e it i old) (ht : h.IsTuple t vs) : e ≠ t := fun z => by
  subst z
  obtain ⟨o, ho, hc, _⟩ := ht
  have he' : h.get? e = _ := he
  rw [he'] at ho
  cases ho
  exact absurd hc (by show ¬ (Value.type "enumerate" = Value.type "tuple"); decide +kernel)
theorem turn_enumT {P : Program} {w : World} {K : PySem.W.Frag} {elts : List Expr} {kk : Nat} {tpos : Pos} (a e it : Addr) :
    Turn P w K (.Tuple elts kk tpos) (IteT K a) [e, it] e (fun i h => (∃ old, IsEnum h e it ((i : Nat) : Int) old) ∧ h.IsTupleIter it a i ∧ e ≠ it) where
  mem := by simp
  obj := fun i h st b hb => by
    obtain ⟨⟨old, he⟩, ⟨o, ho, hc, hd⟩, _⟩ := st
    have e' : b = e ∨ b = it := by simpa using hb
    rcases e' with z | z
    · rw [z]; exact ⟨_, he, fun v q => nomatch q⟩
    · rw [z]; exact ⟨o, ho, fun v q => by rw [hd] at q; cases q⟩
  keep := fun i h h' st k => by
    obtain ⟨⟨old, he⟩, ⟨o, ho, hr⟩, hne⟩ := st
    exact ⟨⟨old, k e (by simp) _ he⟩, ⟨o, k it (by simp) o ho, hr⟩, hne⟩
  item := by
    intro X hP hw hK hc i pins s σ H E I hf st hg
    subst hP hw hK
    obtain ⟨⟨old, he⟩, hit, hne⟩ := st
    obtain ⟨xs, x, hq, hx⟩ := hg
    obtain ⟨its, rv, p, hz⟩ := I.tuple hq
    obtain ⟨u, hu, ru⟩ := rv.get hx
    have hel : e < s.heap.objs.size := Heap.lt_size he
    have hil : it < s.heap.objs.size := by obtain ⟨_, q, _⟩ := hit; exact Heap.lt_size q
    have pT : s.heap.IsTuple a its.toArray := p
    have nea : e ≠ a := enum_ne he pT
    have nit : a ≠ it := fun z => by
      subst z
      obtain ⟨o, ho, hc', _⟩ := pT
      obtain ⟨o', ho', hc'', _⟩ := hit
      rw [ho] at ho'
      cases ho'
      rw [hc'] at hc''
      exact absurd hc'' (by decide +kernel)
    have hlt : i < its.toArray.size := by
      have := (List.getElem?_eq_some_iff.mp hu).1
      simpa using this
    refine wpAny_pyNext_enum_itemD (Draws.tuple (by exact I.ok.hd hc) it a nit its.toArray) he ⟨hit, pT⟩ hlt hne (by simp [hne, nea]) fun x' h' tk hx' ho hst' hT hsz hk => ?_
    have eu : u = x' := by
      have : its[i]? = some x' := by simpa using hx'
      rw [hu] at this
      exact Option.some.inj this
    subst eu
    refine ⟨_, rfl, wpAny_letOwnedTupleGo_enum (s := { s with heap := h', toks := tk + 1 }) ho fun h'' he' sb => ?_⟩
    have hT2 : h''.get? s.heap.objs.size = some { cls := .type "tuple", data := .seq #[.int i tk, u] } := (sb.2 _ (Nat.ne_of_gt hel)).trans hT
    have new : ObjOk X.prog X.w (upd H s.heap.objs.size (.tup [.int (i : Nat), x])) h'' s.heap.objs.size (.tup [.int (i : Nat), x]) :=
      ⟨by show 2 ≤ sizeLine; decide, [.int i tk, u], .cons ⟨_, rfl⟩ (.cons ru .nil), ⟨_, hT2, rfl, _, rfl⟩⟩
    have I1 : Inv X pins σ (upd H s.heap.objs.size (.tup [.int (i : Nat), x])) { s with heap := h'', toks := tk + 1 } :=
      I.turnedNew (ch := [e, it]) (fun b ob hb q => (sb.2 b (fun z => hb (by simp [z]))).trans (hk b ob (fun z => hb (by simp [z])) (fun z => hb (by simp [z])) q)) hf (Nat.le_refl _) new
    refine ⟨.ref s.heap.objs.size, _, I1, rfl, ⟨_, x, rfl, I.hok.fresh (Nat.le_refl _), rfl, fun ys hy => by rw [I.tuple_inj hy hq]; exact hx⟩, ⟨⟨u, ?_⟩, ?_, hne⟩, fun b hb => ?_⟩
    · have e1 : ((i + 1 : Nat) : Int) = (i : Int) + 1 := by omega
      rw [e1]; exact he'
    · obtain ⟨o, q, r⟩ := hst'.1
      exact ⟨o, (sb.2 it (Ne.symm hne)).trans q, r⟩
    · have hb' : b < s.heap.objs.size := by
        have e' : b = e ∨ b = it := by simpa using hb
        rcases e' with z | z
        · rw [z]; exact hel
        · rw [z]; exact hil
      rw [upd_ne (Nat.ne_of_lt hb')]
      exact (hf b hb).1
  done := by
    intro X hP hw hK hc i pins s σ H E I hf st hg
    subst hP hw hK
    obtain ⟨⟨old, he⟩, hit, hne⟩ := st
    obtain ⟨xs, hq, hx⟩ := hg
    obtain ⟨its, rv, p, hz⟩ := I.tuple hq
    obtain ⟨f0, f1, f2, f3, f4, f5⟩ := hf it (by simp)
    have hl := rv.length
    have pT : s.heap.IsTuple a its.toArray := p
    have nit : a ≠ it := fun z => by
      subst z
      obtain ⟨o, ho, hc', _⟩ := pT
      obtain ⟨o', ho', hc'', _⟩ := hit
      rw [ho] at ho'
      cases ho'
      rw [hc'] at hc''
      exact absurd hc'' (by decide +kernel)
    have hn : its.toArray.size = i := by
      rw [← hx, hl]
      simp
    subst hn
    exact wpAny_pyNext_enum_endD (Draws.tuple (by exact I.ok.hd hc) it a nit its.toArray) he ⟨hit, pT⟩ fun h' eb => ⟨rfl, I.turned (t' := s.toks) (fun b o hb q => eb b o hb q) f0 f1 f3 f4 f5⟩
  self := fun A i s Q E st h => let ⟨⟨_, he⟩, _⟩ := st; wpAny_pyIter_enum he h
def iEnumS (K : PySem.W.Frag) (ta : TA) : TI := fun σ H R => ta σ H fun vs H1 => ∃ a xs, vs = [.ref a] ∧ ((SqL K H1 a xs ∧ R (Ite K a) H1) ∨ (SqT K H1 a xs ∧ R (IteT K a) H1))
theorem pi_enumS {X : Cx} {e : Expr} {ta : TA} {p pos tpos : Pos} {elts : List Expr} {kk : Nat} (hg : Gl X "enumerate") (hm : X.mg "enumerate" = none) (ha : PA X [e] ta) (hs : starEach [e] X.env = [(false, eval e X.env)] := by rfl) :
    PI X (.Tuple elts kk tpos) (.Call (.Name "enumerate" p) [e] [] pos) (iEnumS X.K ta) := by
  refine ⟨fun pins s σ H R I h => ?_⟩
  refine Call_ (ld_blt I hg hm boot_enumerate (PyProof.Rows.callWith_type1 (thn (ha.run pos pins s σ H _ I h) fun us s1 ⟨vs, H1, I1, r1, q1⟩ => ?_) hs rfl))
  obtain ⟨a, xs, ex, q1⟩ := q1
  subst ex
  cases r1 with
  | cons r rr =>
    cases rr
    cases r
    have fin : ∀ (h' : Heap) (itx : Addr), itx = s1.heap.objs.size → (∀ b o, s1.heap.get? b = some o → h'.get? b = some o) → ∀ b ∈ [s1.heap.objs.size + 1, itx], FpOk X pins H1 b := fun h' itx ei hk b hb => by
      have hle : s1.heap.objs.size ≤ b := by
        have e' : b = s1.heap.objs.size + 1 ∨ b = itx := by simpa using hb
        rcases e' with z | z
        · rw [z]; exact Nat.le_add_right _ _
        · rw [z, ei]; exact Nat.le_refl _
      exact I1.fpOk hle (I1.hok.fresh hle)
    rcases q1 with ⟨hq, q⟩ | ⟨hq, q⟩
    · obtain ⟨its, rv, p', hz⟩ := I1.list hq
      refine call_enumerate_list p'.isList fun h' he hit hsz hk => wpAny_pyIter_enum he ?_
      have I2 : Inv X pins σ H1 { s1 with heap := h' } := I1.kept (t' := s1.toks) hk
      exact ⟨s1.heap.objs.size + 1, [s1.heap.objs.size + 1, s1.heap.objs.size], _, _, H1, rfl, I2, turn_enum a (s1.heap.objs.size + 1) s1.heap.objs.size, ⟨⟨.none, he⟩, hit, Nat.succ_ne_self _⟩, fin h' _ rfl hk, q⟩
    · obtain ⟨its, rv, p', hz⟩ := I1.tuple hq
      refine enum_begins1 (begins_tuple a its.toArray) (show s1.heap.IsTuple a its.toArray from p') fun h' he hit hsz hk => wpAny_pyIter_enum he ?_
      have I2 : Inv X pins σ H1 { s1 with heap := h' } := I1.kept (t' := s1.toks) hk
      exact ⟨s1.heap.objs.size + 1, [s1.heap.objs.size + 1, s1.heap.objs.size], _, _, H1, rfl, I2, turn_enumT a (s1.heap.objs.size + 1) s1.heap.objs.size, ⟨⟨.none, he⟩, ⟨_, hit, rfl, rfl⟩, Nat.succ_ne_self _⟩, fin h' _ rfl hk, q⟩
theorem walk_enumT {K : PySem.W.Frag} {a : Addr} {xs : List V} : Walk (IteT K a) xs.length (fun H => SqT K H a xs) (YPair (fun i => some (.int (i : Nat))) (fun i => xs[i]?)) := by
  refine ⟨fun i _ hi q => ⟨xs, xs[i], q, by simp [hi]⟩, fun _ q => ⟨xs, q, rfl⟩, fun i H v H' _ q y => ?_⟩
  obtain ⟨T, x, h1, h2, h3, h4⟩ := y
  exact ⟨T, .int (i : Nat), x, h1, h2, h3, rfl, h4 xs q⟩
section
variable {K : PySem.W.Frag} {σ : L2.St} {H H' : Hp} {D : Ends} {tu tz : TS}
/-- for i, x in enumerate(xs), xs a list or a tuple -/
theorem s_forEnS {ta : TA} {i j : Nat} {a : Addr} {xs : List V} (h : EvA ta σ H [.ref a]) (G : Hp → Prop) (hG : (∀ H, G H → SqL K H a xs) ∨ (∀ H, G H → SqT K H a xs)) (hx : ∀ H1, Ex H H1 → G H1) (Pv : Nat → L2.St → Hp → Prop) (h0 : ∀ H1, Ex H H1 → Pv 0 σ H1) (hl : ∀ n σ' H', n ≤ xs.length → Pv n σ' H' → G H')
    (hs : ∀ n x σ' H' H2, xs[n]? = some x → Pv n σ' H' → Ex H' H2 → tu { D with nx := Pv (n + 1), ct := Pv (n + 1), bk := D.nx } ((σ'.set i (some (.int (n : Int)))).set j (some x)) H2) (hd : ∀ σ' H', Pv xs.length σ' H' → D.nx σ' H') :
    tFor (iEnumS K ta) (gTup K 2 (gCons (gName i) (gCons (gName j) gNil))) tu D σ H := h H (Ex.refl H) _ fun H1 e => by
  have turn : ∀ n v σ' Hh H2, n < xs.length → Pv n σ' Hh → YPair (fun i => some (.int (i : Nat))) (fun i => xs[i]?) n Hh v H2 → gTup K 2 (gCons (gName i) (gCons (gName j) gNil)) v σ' H2 fun σ2 H3 => tu { D with nx := Pv (n + 1), ct := Pv (n + 1), bk := D.nx } σ2 H3 := by
    rintro n v σ' Hh H2 hn p ⟨T, x, y, rfl, nT, rfl, g1, g2⟩
    have ex : V.int (n : Nat) = x := Option.some.inj g1
    subst ex
    exact ⟨T, [.int (n : Nat), y], rfl, st_of upd_same, rfl, _, [y], rfl, y, [], rfl, rfl, hs n y σ' Hh _ g2 p (Ex.new nT)⟩
  rcases hG with hG | hG
  · exact ⟨a, xs, rfl, .inl ⟨hG _ (hx H1 e), for_it walk_enum Pv (h0 H1 e) (fun n σ' H' hn p => hG _ (hl n σ' H' hn p)) (fun n v σ' Hh H2 => turn n v σ' Hh H2) hd⟩⟩
  · exact ⟨a, xs, rfl, .inr ⟨hG _ (hx H1 e), for_it walk_enumT Pv (h0 H1 e) (fun n σ' H' hn p => hG _ (hl n σ' H' hn p)) (fun n v σ' Hh H2 => turn n v σ' Hh H2) hd⟩⟩
end
end Kit

set_option Elab.async false
set_option linter.all false
set_option maxRecDepth 100000
set_option maxHeartbeats 4000000
namespace Kit
open PySem PySem.Spec PyProof.Rows L2 Evl
/-! list(range(a, b, c)) -/
def rgC (i c : Int) (n : Nat) : List V := (List.range n).map fun k => V.int (i + (k : Nat) * c)
def PRgC (X : Cx) (e : Expr) (t : L2.St → Hp → (Int → Int → Int → Hp → Prop) → Prop) : Prop :=
  ∀ (pins : List (Addr × Obj)) (s : Shared) (σ : L2.St) (H : Hp) (Q : Int → Int → Int → Hp → Prop), Inv X pins σ H s → t σ H Q →
    wpAny (model X.prog X.w) X.A (eval e X.env) (fun x s' => ∃ r a b c t u v H', x = .ref r ∧ IsRange s'.heap r a b c t u v ∧ Inv X pins σ H' s' ∧ Q a b c H') X.xe s
def tRg3 (ta : TA) : L2.St → Hp → (Int → Int → Int → Hp → Prop) → Prop := fun σ H Q => ta σ H fun vs H1 => ∃ i j c, vs = [.int i, .int j, .int c] ∧ (c ≠ 0 ∧ c.natAbs < 1073741824) ∧ Q i j c H1
section
variable {X : Cx}
theorem prg_3 {a b c : Expr} {ta : TA} {p pos : Pos} (hg : Gl X "range") (hm : X.mg "range" = none) (ha : PA X [a, b, c] ta)
    (hs : starEach [a, b, c] X.env = (false, eval a X.env) :: starEach [b, c] X.env := by rfl) (hpl : (backTo pos (starEach [b, c] X.env)).any (·.1) = false := by rfl) : PRgC X (.Call (.Name "range" p) [a, b, c] [] pos) (tRg3 ta) := by
  intro pins s σ H Q I h
  refine Call_ (ld_blt I hg hm boot_range (PyProof.Rows.callWith_type1 (thn (ha.run pos pins s σ H _ I h) fun us s1 ⟨vs, H1, I1, r1, q1⟩ => ?_) hs hpl))
  obtain ⟨i, j, k, e, ⟨c0, c1⟩, q⟩ := q1
  subst e
  cases r1 with
  | cons r rr =>
    cases rr with
    | cons r' rr =>
      cases rr with
      | cons r'' rr =>
        cases rr
        obtain ⟨t, rfl⟩ := r
        obtain ⟨t', rfl⟩ := r'
        obtain ⟨t'', rfl⟩ := r''
        exact call_range_3 c0 ⟨_, i, j, k, _, _, _, H1, rfl, IsRange.new _ _ _ _ _ _ _, I1.kept fun b u e => Heap.get?_push_of_some _ e, q⟩ (.inl (PyProof.noPylong_small c1))
theorem vals_rgC {a c : Int} {n : Nat} {acc : Array Value} (h : ItemsOf (fun i v => ∃ t, v = .int (a + i * c) t) acc n) : Vals (rgC a c n) acc.toList := by
  have e : acc.toList.length = n := by rw [Array.length_toList]; exact h.1
  unfold rgC
  rw [← e]
  refine vals_of_get acc.toList _ fun j u hj => ?_
  obtain ⟨t, rfl⟩ := h.2 j u (by rw [← hj, Array.getElem?_toList])
  exact ⟨t, rfl⟩
def tLstRgC (te : L2.St → Hp → (Int → Int → Int → Hp → Prop) → Prop) : TE := fun σ H Q => te σ H fun a b c H1 => ∃ n : Nat, (Builtin.Range.small a b c = true ∧ Builtin.Range.rangeSize a b c = n ∧ n ≤ 2 ^ 24) ∧ ∀ q, H1 q = none → Q (.ref q) (upd H1 q (.lst (rgC a c n)))
theorem pe_listRgC {e : Expr} {te : L2.St → Hp → (Int → Int → Int → Hp → Prop) → Prop} {p pos : Pos} (hc : X.calm = true) (hg : Gl X "list") (hm : X.mg "list" = none) (he : PRgC X e te) (na : starEach [e] X.env = (false, eval e X.env) :: starEach [] X.env := by rfl) : PE X (.Call (.Name "list" p) [e] [] pos) (tLstRgC te) := by
  refine ⟨fun pins s σ H Q I h => ?_⟩
  refine Call_ (ld_blt I hg hm boot_list (PyProof.Rows.callWith_type1 (args_cons (thn (he pins s σ H _ I h) fun x s1 ⟨r, a, b, c, t, u, v, H1, ex, hr, I1, n, ⟨ok1, ok2, ok3⟩, q⟩ => args_nil ?_) na) na))
  subst ex
  refine call_list_range (n := n) (I1.ok.hd hc) hr ok1 ok2 ok3 fun h' tk acc c' hk e' hi => ?_
  refine ⟨.ref s1.heap.objs.size, upd H1 s1.heap.objs.size (.lst (rgC a c n)), I1.laid hk (Nat.le_refl _) (show ObjOk X.prog X.w _ _ _ (.lst (rgC a c n)) from ⟨?_, acc.toList, c', vals_rgC hi, ?_⟩), rfl, q _ (I1.hok.fresh (Nat.le_refl _))⟩
  · unfold rgC
    rw [List.length_map, List.length_range, sizeLine_eq]
    omega
  · rw [Array.toArray_toList]; exact e'
end
theorem el_down {σ : L2.St} {H : Hp} {ta : TA} {i j : Int} (h : EvA ta σ H [.int i, .int j, .int (-1)]) (hi : 0 ≤ i ∧ i ≤ 1000) (hj : -1 ≤ j ∧ j ≤ 1000) : EvL (tLstRgC (tRg3 ta)) σ H (rgC i (-1) (i - j).toNat) := fun H1 e Q q =>
  h H1 e _ fun H2 e2 => ⟨i, j, -1, rfl, ⟨by decide, by decide⟩, (i - j).toNat, ⟨(RgC.neg (by omega) (by omega) (by omega) (by omega)).2.2.1, (RgC.neg (by omega) (by omega) (by omega) (by omega)).2.2.2, by omega⟩, fun l hl => q l _ (fresh_back e2 hl) (e2.trans (Ex.new hl)) upd_same⟩
end Kit

set_option Elab.async false
set_option linter.all false
set_option maxRecDepth 100000
set_option maxHeartbeats 4000000
namespace Kit
open PySem PySem.Spec PyProof.Rows L2 Evl
/-! ### any thing: none, bools, ints, texts, tuples, dicts, lists of data -/
inductive It (K : PySem.W.Frag) (H : Hp) : V → PyData → Prop
  | non : It K H .non .none
  | bl (b : Bool) : It K H (.bl b) (.bool b)
  | int (i : Int) : It K H (.int i) (.int i)
  | str (x : Str) : It K H (.str x) (.str x)
  | lst {a : Addr} {xs : List V} {ds : List PyData} (h : H a = some (.lst xs)) (hd : DpAll K H xs ds) : It K H (.ref a) (.list ds)
theorem It.ex {K : PySem.W.Frag} {H H' : Hp} {v : V} {d : PyData} (e : Ex H H') (h : It K H v d) : It K H' v d := by
  cases h with
  | non => exact .non
  | bl b => exact .bl b
  | int i => exact .int i
  | str x => exact .str x
  | lst h hd => exact .lst (e _ _ h) (DpAll.ex e _ _ hd)
theorem It.dp {K : PySem.W.Frag} {H : Hp} {v : V} {d : PyData} (h : It K H v d) : Dp K H v d := by
  cases h with
  | non => exact .non
  | bl b => exact .bl b
  | int i => exact .int i
  | str x => exact .str x
  | lst h hd => exact .lst (sq_of h) hd
def ItAll (K : PySem.W.Frag) (H : Hp) (vs : List V) (ds : List PyData) : Prop := Paired (It K H) vs ds
theorem ItAll.ex {K : PySem.W.Frag} {H H' : Hp} (e : Ex H H') : ∀ {vs : List V} {ds : List PyData}, ItAll K H vs ds → ItAll K H' vs ds
  | _, _, .nil => .nil
  | _, _, .cons h t => .cons (h.ex e) (ItAll.ex e t)
theorem ItAll.dp {K : PySem.W.Frag} {H : Hp} : ∀ {vs : List V} {ds : List PyData}, ItAll K H vs ds → DpAll K H vs ds
  | _, _, .nil => .nil
  | _, _, .cons h t => .cons h.dp (ItAll.dp t)
theorem ItAll.app {K : PySem.W.Frag} {H : Hp} : ∀ {vs ws : List V} {ds es : List PyData}, ItAll K H vs ds → ItAll K H ws es → ItAll K H (vs ++ ws) (ds ++ es)
  | _, _, _, _, .nil, q => q
  | _, _, _, _, .cons h t, q => .cons h (ItAll.app t q)
theorem ItAll.len {K : PySem.W.Frag} {H : Hp} {vs : List V} {ds : List PyData} (h : ItAll K H vs ds) : vs.length = ds.length := Paired.length h
theorem ita_ints {K : PySem.W.Frag} {H : Hp} : ∀ ns : List Int, ItAll K H (ns.map V.int) (ns.map PyData.int)
  | [] => .nil
  | n :: r => .cons (.int n) (ita_ints r)
def Fine (ds : List PyData) : Prop := ∀ d ∈ ds, d.canLay0 = true ∧ d.depth ≤ 5
theorem fine_nil : Fine [] := fun d h => by cases h
theorem fine_cons {d : PyData} {ds : List PyData} (h : d.canLay0 = true) (h2 : d.depth ≤ 5) (t : Fine ds) : Fine (d :: ds) := fun x hx => by
  rcases List.mem_cons.mp hx with e | e
  · rw [e]
    exact ⟨h, h2⟩
  · exact t x e
theorem fine_app {ds es : List PyData} (h : Fine ds) (h2 : Fine es) : Fine (ds ++ es) := fun x hx => (List.mem_append.mp hx).elim (h x) (h2 x)
theorem fine_ints : ∀ ns : List Int, Fine (ns.map PyData.int)
  | [] => fine_nil
  | n :: r => fine_cons rfl (Nat.zero_le _) (fine_ints r)
theorem Fine.sub {ds es : List PyData} (h : Fine ds) (s : ∀ x ∈ es, x ∈ ds) : Fine es := fun x hx => h x (s x hx)
theorem Fine.shaped {ds : List PyData} (h : Fine ds) : SeqAt.shaped (.list ds) = true := by
  have : PyData.canLayAll0 ds = true ∧ PyData.depthAll ds ≤ 5 := by
    induction ds with
    | nil => exact ⟨rfl, Nat.zero_le _⟩
    | cons d r ih =>
      obtain ⟨a, b⟩ := ih fun x hx => h x (List.mem_cons_of_mem _ hx)
      obtain ⟨c, e⟩ := h d List.mem_cons_self
      refine ⟨by simp [PyData.canLayAll0, a, c], ?_⟩
      simp [PyData.depthAll]
      omega
  simp [SeqAt.shaped, PyData.canLay0, this.1, PyData.depth]
  omega
inductive Th (K : PySem.W.Frag) (H : Hp) : V → Option (List PyData) → Prop
  | non : Th K H .non none
  | bl (b : Bool) : Th K H (.bl b) none
  | int (i : Int) : Th K H (.int i) none
  | str (x : Str) : Th K H (.str x) none
  | tup {a : Addr} {xs : List V} (h : H a = some (.tup xs)) : Th K H (.ref a) none
  | dct {a : Addr} {kvs : List (Key × V)} (h : H a = some (.dK kvs)) : Th K H (.ref a) none
  | lst {a : Addr} {xs : List V} {ds : List PyData} (h : H a = some (.lst xs)) (hd : ItAll K H xs ds) (hf : Fine ds) : Th K H (.ref a) (some ds)
def AT (K : PySem.W.Frag) (H : Hp) (v : V) : Prop := ∃ o, Th K H v o
section
variable {K : PySem.W.Frag} {σ : L2.St} {H H' : Hp} {te ta tb : TE} {t tr : TA}
theorem Th.ex {v : V} {o : Option (List PyData)} (e : Ex H H') (h : Th K H v o) : Th K H' v o := by
  cases h with
  | non => exact .non
  | bl b => exact .bl b
  | int i => exact .int i
  | str x => exact .str x
  | tup h => exact .tup (e _ _ h)
  | dct h => exact .dct (e _ _ h)
  | lst h hd hf => exact .lst (e _ _ h) (hd.ex e) hf
theorem AT.ex {v : V} (e : Ex H H') (h : AT K H v) : AT K H' v := h.imp fun _ x => x.ex e
def EvTh (K : PySem.W.Frag) (te : TE) (σ : L2.St) (H : Hp) : Prop := ∀ H1, Ex H H1 → ∀ Q : VK, (∀ v H2, Ex H1 H2 → AT K H2 v → Q v H2) → te σ H1 Q
def EvThA (K : PySem.W.Frag) (ta : TA) (σ : L2.St) (H : Hp) (n : Nat) : Prop := ∀ H1, Ex H H1 → ∀ Q : List V → Hp → Prop, (∀ vs H2, Ex H1 H2 → vs.length = n → (∀ v ∈ vs, AT K H2 v) → Q vs H2) → ta σ H1 Q
theorem tha_nil : EvThA K tNil σ H 0 := fun H1 _ _ q => q [] H1 (Ex.refl H1) rfl (by simp)
theorem tha_cons {n : Nat} (h : EvTh K te σ H) (hr : EvThA K tr σ H n) : EvThA K (tCons te tr) σ H (n + 1) := fun H1 e _ q =>
  h H1 e _ fun v H2 e2 hv => hr H2 (e.trans e2) _ fun vs H3 e3 hl hvs => q (v :: vs) H3 (e2.trans e3) (by simp [hl]) fun x hx => by
    rcases List.mem_cons.mp hx with z | z
    · rw [z]
      exact hv.ex e3
    · exact hvs x z
theorem th_non (h : Ev te σ H .non) : EvTh K te σ H := fun H1 e Q q => h H1 e Q fun H2 e2 => q _ H2 e2 ⟨_, .non⟩
theorem th_bl {b : Bool} (h : Ev te σ H (.bl b)) : EvTh K te σ H := fun H1 e Q q => h H1 e Q fun H2 e2 => q _ H2 e2 ⟨_, .bl b⟩
theorem th_int {i : Int} (h : Ev te σ H (.int i)) : EvTh K te σ H := fun H1 e Q q => h H1 e Q fun H2 e2 => q _ H2 e2 ⟨_, .int i⟩
theorem th_str {x : Str} (h : Ev te σ H (.str x)) : EvTh K te σ H := fun H1 e Q q => h H1 e Q fun H2 e2 => q _ H2 e2 ⟨_, .str x⟩
theorem th_U {xs : List V} (h : EvU te σ H xs) : EvTh K te σ H := fun H1 e Q q => h H1 e Q fun p H2 _ e2 h2 => q _ H2 e2 ⟨_, .tup h2⟩
theorem th_L {xs : List V} (h : EvL te σ H xs) (hd : ∃ ds, ItAll K H xs ds ∧ Fine ds) : EvTh K te σ H := fun H1 e Q q => h H1 e Q fun p H2 _ e2 h2 => q _ H2 e2 (by
  obtain ⟨ds, d, f⟩ := hd
  exact ⟨_, .lst h2 (d.ex (e.trans e2)) f⟩)
def EvIA (K : PySem.W.Frag) (ta : TA) (σ : L2.St) (H : Hp) (ds : List PyData) : Prop := ∀ H1, Ex H H1 → ∀ Q : List V → Hp → Prop, (∀ vs H2, Ex H1 H2 → ItAll K H2 vs ds → Q vs H2) → ta σ H1 Q
def EvI (K : PySem.W.Frag) (te : TE) (σ : L2.St) (H : Hp) (d : PyData) : Prop := ∀ H1, Ex H H1 → ∀ Q : VK, (∀ v H2, Ex H1 H2 → It K H2 v d → Q v H2) → te σ H1 Q
theorem ia_nil : EvIA K tNil σ H [] := fun H1 _ _ q => q [] H1 (Ex.refl H1) .nil
theorem ia_cons {d : PyData} {ds : List PyData} (h : EvI K te σ H d) (hr : EvIA K tr σ H ds) : EvIA K (tCons te tr) σ H (d :: ds) := fun H1 e _ q =>
  h H1 e _ fun v H2 e2 dv => hr H2 (e.trans e2) _ fun vs H3 e3 dvs => q (v :: vs) H3 (e2.trans e3) (.cons (dv.ex e3) dvs)
theorem it_of {v : V} {d : PyData} (h : Ev te σ H v) (k : It K H v d) : EvI K te σ H d := fun H1 e Q q => h H1 e Q fun H2 e2 => q v H2 e2 (k.ex (e.trans e2))
theorem it_D {ds : List PyData} (h : EvDA K t σ H ds) (hl : ds.length ≤ 100000) : EvI K (tLst t) σ H (.list ds) := fun H1 e Q q =>
  h H1 e _ fun vs H2 e2 dv => ⟨sz_of (by rw [DpAll.len dv]; exact hl), fun p hp => q _ _ (e2.trans (Ex.new hp)) (.lst upd_same (DpAll.ex (Ex.new hp) ds vs dv))⟩
theorem th_D {ds : List PyData} (h : EvIA K t σ H ds) (hf : Fine ds) (hl : ds.length ≤ 100000) : EvTh K (tLst t) σ H := fun H1 e Q q =>
  h H1 e _ fun vs H2 e2 dv => ⟨sz_of (by rw [dv.len]; exact hl), fun p hp => q _ _ (e2.trans (Ex.new hp)) ⟨_, .lst upd_same (dv.ex (Ex.new hp)) hf⟩⟩
theorem th_var {i : Nat} {v : V} (h : σ[i]? = some (some v)) (hv : AT K H v) : EvTh K (tVar i) σ H := fun H1 e Q q => ⟨v, h, q v H1 (Ex.refl _) (hv.ex e)⟩
theorem th_dnew : EvTh K tDNewK σ H := fun H1 e Q q p hp => q _ _ (Ex.new hp) ⟨_, .dct upd_same⟩
theorem th_disp {x : Str} {i : Int} : EvTh K (tDisp [(tC (.str x), tC (.int i))]) σ H := fun H1 e Q q p hp =>
  ⟨upd_same, [(.inr x, .int i)], rfl, Nat.le_of_ble_eq_true rfl, q _ _ (Ex.mut (Ex.new hp) hp) ⟨_, .dct upd_same⟩⟩
/-- [.., ..] of things: a new list -/
def EvTL (K : PySem.W.Frag) (te : TE) (σ : L2.St) (H : Hp) (n : Nat) : Prop := ∀ H1, Ex H H1 → ∀ Q : VK, (∀ p vs H2, H1 p = none → Ex H1 H2 → H2 p = some (.lst vs) → vs.length = n → (∀ v ∈ vs, AT K H2 v) → Q (.ref p) H2) → te σ H1 Q
theorem tl_lst {n : Nat} (h : EvThA K t σ H n) (hn : n ≤ 100000) : EvTL K (tLst t) σ H n := fun H1 e Q q =>
  h H1 e _ fun vs H2 e2 hl hv => ⟨sz_of (by omega), fun p hp => q p vs _ (fresh_back e2 hp) (e2.trans (Ex.new hp)) upd_same hl fun v z => (hv v z).ex (Ex.new hp)⟩
theorem tl_cat {a : Addr} {xs : List V} {n : Nat} (h : Ev ta σ H (.ref a)) (ha : H a = some (.lst xs)) (hx : ∀ v ∈ xs, AT K H v) (h2 : EvTL K tb σ H n) (hz : xs.length + n ≤ 1000) : EvTL K (tOp rCat ta tb) σ H (xs.length + n) := fun H1 e Q q =>
  h H1 e _ fun H2 e2 => h2 H2 (e.trans e2) _ fun p vs H3 _ e3 h3 hl hv =>
    ⟨a, p, xs, vs, rfl, rfl, e3 a _ (e2 a _ (e a _ ha)), h3, sz_of (by omega), fun l hl' => q l _ _ (fresh_back (e2.trans e3) hl') ((e2.trans e3).trans (Ex.new hl')) upd_same (by rw [List.length_append, hl]) fun v z => by
      rcases List.mem_append.mp z with z | z
      · exact (hx v z).ex (e.trans (e2.trans (e3.trans (Ex.new hl'))))
      · exact (hv v z).ex (Ex.new hl')⟩
/-- x + ys, x an old list -/
theorem el_catO {a : Addr} {xs ys : List V} (h : Ev ta σ H (.ref a)) (ha : H a = some (.lst xs)) (h2 : EvL tb σ H ys) (hz : xs.length + ys.length ≤ 1000) : EvL (tOp rCat ta tb) σ H (xs ++ ys) := fun H1 e Q q =>
  h H1 e _ fun H2 e2 => h2 H2 (e.trans e2) _ fun p H3 _ e3 h3 =>
    ⟨a, p, xs, ys, rfl, rfl, e3 a _ (e2 a _ (e a _ ha)), h3, sz_of (by omega), fun l hl' => q l _ (fresh_back (e2.trans e3) hl') ((e2.trans e3).trans (Ex.new hl')) upd_same⟩
end
/-! ### the type of any thing -/
def kTyp2 (x : V) (H : Hp) (Q : VK) : Prop := ∃ n, (zTyV x H = some n ∨ (n = "dict" ∧ ∃ a kvs, x = .ref a ∧ H a = some (.dK kvs))) ∧ Q (.ty n) H
def rNeTyG : R2 := fun x y H Q => ∃ m n, x = .ty m ∧ y = .ty n ∧ Meta m ∧ Meta n ∧ Q (.bl (!decide (m = n))) H
section
variable {X : Cx} {ta : TE} {a : Expr}
theorem rl_type2 (pins : List (Addr × Obj)) (st : Shared) (σ : L2.St) (H : Hp) (x : V) (u : Value) (Q : VK) (J : Inv X pins σ H st) (r : RelV x u) (h : kTyp2 x H Q) :
    wpAny (model X.prog X.w) X.A (call (.type "type") [u]) (EP X pins σ Q) X.xe st := by
  obtain ⟨n, e | ⟨rfl, a, kvs, rfl, ha⟩, q⟩ := h
  · exact rl_type pins st σ H x u Q J r ⟨n, e, q⟩
  · cases (show u = Value.ref a from r)
    obtain ⟨_, _, vs, _, o, es, ep, h1, h2, _⟩ := (show ObjOk X.prog X.w H st.heap a (.dK kvs) from J.hok a _ ha)
    exact call_type_of (Tx := "dict") ⟨o, h1, h2.1⟩ (by decide +kernel) ⟨.ty "dict", H, J, rfl, q⟩
theorem pe_typeOf2 {p pos : Pos} (hg : Gl X "type") (hm : X.mg "type" = none) (ha : PE X a ta) (na : starEach [a] X.env = (false, eval a X.env) :: starEach [] X.env := by rfl) :
    PE X (.Call (.Name "type" p) [a] [] pos) (tThenZ ta kTyp2) := pe_callTy (call_r1 rl_type2) hg hm (by decide +kernel) (pa_cons ha pa_nil na) (he := na)
theorem op_neTyG (hu : X.A.units + 1 < cLine) : OpR X (compareOp .NotEq) rNeTyG := by
  intro pins st σ H x y v u Q J rx ry h
  obtain ⟨m, n, rfl, rfl, hm, hn, q⟩ := h
  cases (show v = Value.type m from rx)
  cases (show u = Value.type n from ry)
  by_cases e : m = n
  · subst e
    exact ne_type_same hm hu ⟨.bl false, H, J, rfl, by simpa using q⟩
  · exact ne_type_other hm hn (by rw [beq_eq_false_iff_ne]; exact fun z => e (Value.type.inj z)) hu ⟨.bl true, H, J, rfl, by simpa [e] using q⟩
end
section
variable {K : PySem.W.Frag} {σ : L2.St} {H : Hp} {ta tb : TE}
/-- the name of a thing's type -/
theorem th_type {v : V} {o : Option (List PyData)} (h : Th K H v o) : ∃ n, (zTyV v H = some n ∨ (n = "dict" ∧ ∃ a kvs, v = .ref a ∧ H a = some (.dK kvs))) ∧ Meta n ∧ (n = "list" ↔ o.isSome = true) := by
  cases h with
  | non => exact ⟨"NoneType", .inl rfl, PySem.TypeEq.meta_NoneType, by simp⟩
  | bl b => exact ⟨"bool", .inl rfl, PySem.TypeEq.meta_bool, by simp⟩
  | int i => exact ⟨"int", .inl rfl, PySem.TypeEq.meta_int, by simp⟩
  | str x => exact ⟨"str", .inl rfl, PySem.TypeEq.meta_str, by simp⟩
  | tup h => exact ⟨"tuple", .inl (by simp [zTyV, h]), PySem.TypeEq.meta_tuple, by simp⟩
  | dct h => exact ⟨"dict", .inr ⟨rfl, _, _, rfl, h⟩, PySem.TypeEq.meta_dict, by simp⟩
  | lst h _ _ => exact ⟨"list", .inl (by simp [zTyV, h]), PySem.TypeEq.meta_list, by simp⟩
/-- type(v) != list -/
theorem ev_noList {v : V} {o : Option (List PyData)} (h : Ev ta σ H v) (hv : Th K H v o) : Ev (tOp rNeTyG (tThenZ ta kTyp2) (tC (.ty "list"))) σ H (.bl (!o.isSome)) := fun H1 e Q q => h H1 e _ fun H2 e2 => by
  obtain ⟨n, hn, mt, iff⟩ := th_type (hv.ex (e.trans e2))
  refine ⟨n, hn, n, "list", rfl, rfl, mt, PySem.TypeEq.meta_list, ?_⟩
  have : decide (n = "list") = o.isSome := by
    rw [Bool.eq_iff_iff, decide_eq_true_iff]
    exact iff
  rw [this]
  exact q H2 e2
theorem th_is {v : V} {o : Option (List PyData)} (h : Th K H v o) : ∃ n, TyX K H v (.type n) ∧ PySem.W.kitOne K (.type n) (.type "list") = some o.isSome := by
  cases h with
  | non => exact ⟨_, .base .non, rfl⟩
  | bl b => exact ⟨_, .base (.bl b), rfl⟩
  | int i => exact ⟨_, .base (.int i), rfl⟩
  | str x => exact ⟨_, .base (.str x), rfl⟩
  | tup h => exact ⟨_, .base (.tup h), rfl⟩
  | dct h => exact ⟨_, .base (.dK h), rfl⟩
  | lst h _ _ => exact ⟨_, .base (.lst h), rfl⟩
/-- isinstance(v, list) -/
theorem ev_isList {v : V} {o : Option (List PyData)} (h : Ev ta σ H v) (hv : Th K H v o) : Ev (tCB (rIsi K) (tCons ta (tCons (tC (.ty "list")) tNil))) σ H (.bl o.isSome) := fun H1 e Q q => h H1 e _ fun H2 e2 => by
  obtain ⟨n, ht, hk⟩ := th_is (hv.ex (e.trans e2))
  exact ⟨v, .ty "list", .type n, .type "list", o.isSome, rfl, .ty "list", ht, hk, q H2 e2⟩
def isI : PyData → Bool
  | .int _ => true
  | _ => false
theorem it_type {v : V} {d : PyData} (h : It K H v d) : ∃ n, zTyV v H = some n ∧ Meta n ∧ decide (n = "int") = isI d := by
  cases h with
  | non => exact ⟨"NoneType", rfl, PySem.TypeEq.meta_NoneType, by simp [isI]⟩
  | bl b => exact ⟨"bool", rfl, PySem.TypeEq.meta_bool, by simp [isI]⟩
  | int i => exact ⟨"int", rfl, PySem.TypeEq.meta_int, by simp [isI]⟩
  | str x => exact ⟨"str", rfl, PySem.TypeEq.meta_str, by simp [isI]⟩
  | lst h _ => exact ⟨"list", by simp [zTyV, h], PySem.TypeEq.meta_list, by simp [isI]⟩
/-- type(v) == int -/
theorem ev_isWhole {v : V} {d : PyData} (h : Ev ta σ H v) (hv : It K H v d) : Ev (tOp rEqTy (tThenZ ta kTyp) (tC (.ty "int"))) σ H (.bl (isI d)) := fun H1 e Q q => h H1 e _ fun H2 e2 => by
  obtain ⟨n, hn, mt, iff⟩ := it_type (hv.ex (e.trans e2))
  refine ⟨n, hn, n, "int", rfl, rfl, mt, PySem.TypeEq.meta_int, ?_⟩
  rw [iff]
  exact q H2 e2
def isB : PyData → Bool
  | .bool _ => true
  | _ => false
theorem it_isB {v : V} {d : PyData} (h : It K H v d) : ∃ n, TyX K H v (.type n) ∧ PySem.W.kitOne K (.type n) (.type "bool") = some (isB d) := by
  cases h with
  | non => exact ⟨_, .base .non, rfl⟩
  | bl b => exact ⟨_, .base (.bl b), rfl⟩
  | int i => exact ⟨_, .base (.int i), rfl⟩
  | str x => exact ⟨_, .base (.str x), rfl⟩
  | lst h _ => exact ⟨_, .base (.lst h), rfl⟩
theorem it_isI {v : V} {d : PyData} (h : It K H v d) : ∃ n, TyX K H v (.type n) ∧ PySem.W.kitOne K (.type n) (.type "int") = some (isI d || isB d) := by
  cases h with
  | non => exact ⟨_, .base .non, rfl⟩
  | bl b => exact ⟨_, .base (.bl b), rfl⟩
  | int i => exact ⟨_, .base (.int i), rfl⟩
  | str x => exact ⟨_, .base (.str x), rfl⟩
  | lst h _ => exact ⟨_, .base (.lst h), rfl⟩
/-- isinstance(v, bool) or not isinstance(v, int) -/
theorem et_noInt {v : V} {d : PyData} (h : Ev ta σ H v) (hv : It K H v d) : EvT (tOr (tB (tCB (rIsi K) (tCons ta (tCons (tC (.ty "bool")) tNil)))) (tNot (tB (tCB (rIsi K) (tCons ta (tCons (tC (.ty "int")) tNil)))))) σ H (!isI d) := by
  have one : Ev (tCB (rIsi K) (tCons ta (tCons (tC (.ty "bool")) tNil))) σ H (.bl (isB d)) := fun H1 e Q q => h H1 e _ fun H2 e2 => by
    obtain ⟨n, ht, hb⟩ := it_isB (hv.ex (e.trans e2))
    exact ⟨v, .ty "bool", _, .type "bool", _, rfl, .ty "bool", ht, hb, q H2 e2⟩
  have two : Ev (tCB (rIsi K) (tCons ta (tCons (tC (.ty "int")) tNil))) σ H (.bl (isI d || isB d)) := fun H1 e Q q => h H1 e _ fun H2 e2 => by
    obtain ⟨n, ht, hb⟩ := it_isI (hv.ex (e.trans e2))
    exact ⟨v, .ty "int", _, .type "int", _, rfl, .ty "int", ht, hb, q H2 e2⟩
  refine et_is (et_or (et_B one) fun _ => et_not (et_B two)) ?_
  cases d <;> rfl
end
/-! tuple(range(a, b, c)) -/
def tTupRgC (te : L2.St → Hp → (Int → Int → Int → Hp → Prop) → Prop) : TE := fun σ H Q => te σ H fun a b c H1 => ∃ n : Nat, (Builtin.Range.small a b c = true ∧ Builtin.Range.rangeSize a b c = n ∧ n ≤ 2 ^ 24) ∧ ∀ q, H1 q = none → Q (.ref q) (upd H1 q (.tup (rgC a c n)))
theorem pe_tupRgC {X : Cx} {e : Expr} {te : L2.St → Hp → (Int → Int → Int → Hp → Prop) → Prop} {p pos : Pos} (calm : X.calm = true) (hg : Gl X "tuple") (hm : X.mg "tuple" = none) (he : PRgC X e te) (na : starEach [e] X.env = (false, eval e X.env) :: starEach [] X.env := by rfl) : PE X (.Call (.Name "tuple" p) [e] [] pos) (tTupRgC te) := by
  refine ⟨fun pins st σ H Q J h => ?_⟩
  refine Call_ (ld_blt J hg hm boot_tuple (PyProof.Rows.callWith_type1 (args_cons (thn (he pins st σ H _ J h) fun x s1 ⟨r, a, b, c, t, u, v, H1, ex, hr, J1, n, ⟨o1, o2, o3⟩, q⟩ => args_nil ?_) na) na))
  subst ex
  refine call_tuple_range (n := n) (J1.ok.hd calm) hr o1 o2 o3 fun h' tk acc keep its => ?_
  have J2 : Inv X pins σ H1 { s1 with heap := h', toks := tk } := J1.kept keep
  refine ⟨.ref h'.objs.size, upd H1 h'.objs.size (.tup (rgC a c n)), J2.laid (t' := tk) (fun z o e => Heap.get?_push_of_some _ e) (Nat.le_refl _) (show ObjOk X.prog X.w _ _ _ (.tup (rgC a c n)) from ⟨?_, acc.toList, vals_rgC its, ?_⟩), rfl, q _ (J2.hok.fresh (Nat.le_refl _))⟩
  · unfold rgC
    rw [List.length_map, List.length_range, sizeLine_eq]
    omega
  · rw [Array.toArray_toList]
    exact IsTup.new _ _
theorem eu_down {σ : L2.St} {H : Hp} {ta : TA} {i j : Int} (h : EvA ta σ H [.int i, .int j, .int (-1)]) (hi : 0 ≤ i ∧ i ≤ 1000) (hj : -1 ≤ j ∧ j ≤ 1000) : EvU (tTupRgC (tRg3 ta)) σ H (rgC i (-1) (i - j).toNat) := fun H1 e Q q =>
  h H1 e _ fun H2 e2 => ⟨i, j, -1, rfl, ⟨by decide, by decide⟩, (i - j).toNat, ⟨(RgC.neg (by omega) (by omega) (by omega) (by omega)).2.2.1, (RgC.neg (by omega) (by omega) (by omega) (by omega)).2.2.2, by omega⟩, fun l hl => q l _ (fresh_back e2 hl) (e2.trans (Ex.new hl)) upd_same⟩
/-! xs.index(x) where the written part must be said -/
theorem pe_indexK {X : Cx} {K : PySem.W.Frag} {o e : Expr} {to te : TE} {apos cpos : Pos} (hK : X.K = K) (ho : PE X o to) (he : PE X e te) (b : attributeBase o "index" X.env (eval o X.env) = eval o X.env := by rfl)
    (few : ((backTo cpos (starEach [e] X.env)).all (fun x => !x.1) && (backToKw cpos (keywordEach [] X.env)).all (fun x => x.1.isSome) && decide ([e].length + ([] : List Keyword).length + (if ([] : List Keyword).isEmpty then 0 else 1) < 30)) = true := by rfl)
    (line : (apos.endLine == cpos.line) = true := by rfl) (st : starEach [e] X.env = (false, eval e X.env) :: starEach [] X.env := by rfl) (pl : (backTo cpos (starEach [] X.env)).any (·.1) = false := by rfl) :
    PE X (.Call (.Attribute o "index" apos) [e] [] cpos) (tBM K "list" (rIndex K) to (tCons te tNil)) := by
  subst hK
  exact pe_bm PySem.F.plainAttrs_list PySem.F.slot_list_index PySem.F.type_list_index mt_index ho (pa_cons he pa_nil st) b few line st pl
theorem pe_revLK {X : Cx} {K : PySem.W.Frag} {e : Expr} {te : TE} {k : Nat} {p1 p2 p3 pos : Pos} (hK : X.K = K) (he : PE X e te) : PE X (.Subscript e (.Slice none none (some (.UnaryOp .USub (.Constant (.int 1) k p1) p2)) p3) pos) (tRevL K te) := by
  subst hK
  exact pe_revL he
end Kit

set_option Elab.async false
set_option linter.all false
set_option maxRecDepth 100000
set_option maxHeartbeats 4000000
namespace Kit
open PySem PySem.Spec PyProof.Rows L2 Evl
/-! ### data that repr shows, with long ints: at most n signs -/
structure ShN (d : PyData) (n : Nat) : Prop where
  shw : d.showable = true
  nod : d.hasDict = false
  len : d.shown.length ≤ n
  dep : d.depth ≤ 20
theorem shn_int {i : Int} (h : i.natAbs.log2 < 1920) : ShN (.int i) 1921 := ⟨decide_eq_true h, rfl, int_text_len_1921 h, Nat.zero_le _⟩
theorem shn_int2 {i : Int} (h : i.natAbs < 2 ^ 1900) : ShN (.int i) 1921 := shn_int (by
  by_cases z : i.natAbs = 0
  · rw [z]
    decide
  · exact Nat.lt_of_lt_of_le ((Nat.log2_lt z).mpr h) (by decide))
theorem shn_all {n : Nat} : ∀ {ds : List PyData}, (∀ d ∈ ds, ShN d n ∧ d.depth ≤ 19) → PyData.showableAll ds = true ∧ PyData.hasDictAll ds = false ∧ ((PyData.shownAll ds).map (·.length)).sum ≤ n * ds.length ∧ (PyData.shownAll ds).length = ds.length ∧ PyData.depthAll ds ≤ 19
  | [], _ => ⟨rfl, rfl, Nat.zero_le _, rfl, Nat.zero_le _⟩
  | d :: r, h => by
    obtain ⟨a, b, c, e, f⟩ := shn_all fun x hx => h x (List.mem_cons_of_mem _ hx)
    obtain ⟨⟨p, q, s, _⟩, t⟩ := h d List.mem_cons_self
    refine ⟨by simp [PyData.showableAll, a, p], by simp [PyData.hasDictAll, b, q], ?_, by simp [PyData.shownAll, e], by simp only [PyData.depthAll]; omega⟩
    simp only [PyData.shownAll, List.map_cons, List.sum_cons, List.length_cons, Nat.mul_succ]
    omega
theorem shn_list {ds : List PyData} {n : Nat} (h : ∀ d ∈ ds, ShN d n ∧ d.depth ≤ 19) : ShN (.list ds) ((n + 2) * ds.length + 3) := by
  obtain ⟨a, b, c, e, f⟩ := shn_all h
  refine ⟨by simpa [PyData.showable] using a, by simpa [PyData.hasDict] using b, ?_, by simp only [PyData.depth]; omega⟩
  have := listText_len_le (PyData.shownAll ds)
  show (listText (PyData.shownAll ds)).length ≤ _
  rw [e] at this
  rw [Nat.add_mul]
  omega
theorem shn_tup {ds : List PyData} {n : Nat} (h : ∀ d ∈ ds, ShN d n ∧ d.depth ≤ 19) : ShN (.tuple ds) ((n + 2) * ds.length + 3) := by
  obtain ⟨a, b, c, e, f⟩ := shn_all h
  refine ⟨by simpa [PyData.showable] using a, by simpa [PyData.hasDict] using b, ?_, by simp only [PyData.depth]; omega⟩
  have := tupleText_len_le (PyData.shownAll ds)
  show (tupleText (PyData.shownAll ds)).length ≤ _
  rw [e] at this
  rw [Nat.add_mul]
  omega
section
variable {K : PySem.W.Frag} {σ : L2.St} {H : Hp} {te : TE}
theorem ev_reprN {d : PyData} {n : Nat} (h : EvD K te σ H d) (hl : isDisplay d = true) (s : ShN d n) (hn : n ≤ 1000000) : Ev (tCB (rRepr K) (tCons te tNil)) σ H (.str d.shown) :=
  ev_repr h hl s.shw s.nod (by have := s.dep; omega) (Nat.le_trans s.len (Nat.le_trans hn (by rw [sizeLine_eq]; decide)))
end
end Kit

set_option Elab.async false
set_option linter.all false
set_option maxRecDepth 100000
set_option maxHeartbeats 4000000
namespace Kit
open PySem PySem.Spec PyProof.Rows L2 Evl
section
variable {K : PySem.W.Frag} {σ : L2.St} {H : Hp} {ta tb te : TE} {t : TT}
/-- max(xs), told by what it is -/
theorem ev_maxV {a : Addr} {ns : List Int} {m : Int} (h : Ev ta σ H (.ref a)) (ha : SqL K H a (ns.map V.int)) (hm : m ∈ ns) (hl : ∀ y ∈ ns, y ≤ m) : Ev (tCB (rMax K) (tCons ta tNil)) σ H (.int m) := fun H1 e Q q =>
  h H1 e _ fun H2 e2 => ⟨a, ns, rfl, ex_l (e.trans e2) ha, List.length_pos_of_mem hm, fun m' hm' hl' => by
    have h1 := hl m' hm'
    have h2 := hl' m hm
    have : m' = m := by omega
    rw [this]
    exact q H2 e2⟩
/-- [e for i, x in enumerate(xs) if t] -/
theorem el_en {ta : TA} {i j : Nat} {vs : List Nat} {a : Addr} {xs : List V} (f : Nat → Bool) (v : Nat → V) (h : EvA ta σ H [.ref a]) (hx : SqL K H a xs) (hz : xs.length ≤ 40000) (hw : ∀ x y, wipe (((wipe σ vs).set i (some x)).set j (some y)) vs = wipe σ vs)
    (ht : ∀ (n : Nat) x H1, Ex H H1 → xs[n]? = some x → EvT t (((wipe σ vs).set i (some (.int (n : Int)))).set j (some x)) H1 (f n))
    (he : ∀ (n : Nat) x H1, Ex H H1 → xs[n]? = some x → f n = true → Ev te (((wipe σ vs).set i (some (.int (n : Int)))).set j (some x)) H1 (v n)) :
    EvL (tLc (iEnum K ta) (gTup K 2 (gCons (gName i) (gCons (gName j) gNil))) t te vs) σ H (given xs.length f v) := fun H0 e Q q => h H0 e _ fun H1 e1 => ⟨a, xs, rfl, ex_l (e.trans e1) hx, fun Dl hD => by
  refine lc_it walk_enum (Cw H1 f v Dl) ⟨hD, Ex.new hD, upd_same⟩ (fun n H' _ p => ex_l ((e.trans e1).trans p.2.1) hx) ?_ fun H' p => q Dl H' (fresh_back e1 p.1) (e1.trans p.2.1) p.2.2
  rintro n w Hh H' hn p ⟨T, x, y, rfl, nT, rfl, g1, g2⟩
  have ex : V.int (n : Nat) = x := Option.some.inj g1
  subst ex
  have eT : Ex Hh (upd Hh T (.tup [.int (n : Nat), y])) := Ex.new nT
  refine ⟨T, [.int (n : Nat), y], rfl, st_of upd_same, rfl, _, [y], rfl, y, [], rfl, rfl, hw _ y, ?_⟩
  exact cw_turn (H := H1) ⟨p.1, p.2.1.trans eT, eT Dl _ p.2.2⟩ (by omega) (ht n y H1 (e.trans e1) g2) fun hf => he n y H1 (e.trans e1) g2 hf⟩
/-- [e for x, y in zip(xs, ys)], both new lists -/
theorem el_zipN {i j : Nat} {vs : List Nat} {xs ys : List V} (F : V → V → V) (h : EvL ta σ H xs) (h2 : EvL tb σ H ys) (hl : xs.length = ys.length) (hz : xs.length ≤ 40000) (hw : ∀ x y, wipe (((wipe σ vs).set i (some x)).set j (some y)) vs = wipe σ vs)
    (he : ∀ (n : Nat) x y H1, Ex H H1 → xs[n]? = some x → ys[n]? = some y → Ev te (((wipe σ vs).set i (some x)).set j (some y)) H1 (F x y)) :
    EvL (tLc (iZip K (tCons ta (tCons tb tNil))) (gTup K 2 (gCons (gName i) (gCons (gName j) gNil))) tYes te vs) σ H (List.zipWith F xs ys) := fun H0 e Q q =>
  h H0 e _ fun a H1 na e1 ha => h2 H1 (e.trans e1) _ fun b H2 nb e2 hb => by
    have := el_zip (K := K) (H := H2) (ta := fun _ H' R => R [.ref a, .ref b] H') (te := te) (vs := vs) F (fun H3 _ Q q => q H3 (Ex.refl _)) (sq_of (e2 a _ ha)) (sq_of hb) hl hz hw fun n x y H3 e3 g1 g2 => he n x y H3 (e.trans (e1.trans (e2.trans e3))) g1 g2
    exact this H2 (Ex.refl _) Q fun p H3 hp e3 h3 => q p H3 (fresh_back (e1.trans e2) hp) (e1.trans (e2.trans e3)) h3
/-- xs + y, y an old list; x + ys, x an old list -/
theorem el_catR {a : Addr} {xs ys : List V} (h : EvL ta σ H xs) (h2 : Ev tb σ H (.ref a)) (ha : H a = some (.lst ys)) (hz : xs.length + ys.length ≤ 1000) : EvL (tOp rCat ta tb) σ H (xs ++ ys) := fun H1 e Q q =>
  h H1 e _ fun p H2 _ e2 h3 => h2 H2 (e.trans e2) _ fun H3 e3 => ⟨p, a, xs, ys, rfl, rfl, e3 p _ h3, e3 a _ (e2 a _ (e a _ ha)), sz_of (by omega), fun l hl => q l _ (fresh_back (e2.trans e3) hl) ((e2.trans e3).trans (Ex.new hl)) upd_same⟩
theorem el_catL {a : Addr} {xs ys : List V} (h : Ev ta σ H (.ref a)) (ha : H a = some (.lst xs)) (h2 : EvL tb σ H ys) (hz : xs.length + ys.length ≤ 1000) : EvL (tOp rCat ta tb) σ H (xs ++ ys) := fun H1 e Q q =>
  h H1 e _ fun H2 e2 => h2 H2 (e.trans e2) _ fun p H3 _ e3 h3 => ⟨a, p, xs, ys, rfl, rfl, e3 a _ (e2 a _ (e a _ ha)), h3, sz_of (by omega), fun l hl => q l _ (fresh_back (e2.trans e3) hl) ((e2.trans e3).trans (Ex.new hl)) upd_same⟩
end
end Kit

set_option Elab.async false
set_option linter.all false
set_option maxRecDepth 100000
namespace Kit
open PySem PySem.Spec PyProof.Rows L2 Evl
def fac (n : Nat) : Nat := Builtin.Math.factorialNat n
theorem fac_succ (n : Nat) : fac (n + 1) = fac n * (n + 1) := PySem.W.mc_fac_succ n
theorem fac_pos (n : Nat) : 1 ≤ fac n := PySem.W.mc_fac_pos n
theorem fac_mono : ∀ {m n : Nat}, m ≤ n → fac m ≤ fac n := fun {m n} h => by
  induction h with
  | refl => exact Nat.le_refl _
  | step _ ih =>
    rw [Nat.succ_eq_add_one, fac_succ]
    exact Nat.le_trans ih (Nat.le_mul_of_pos_right _ (Nat.succ_pos _))
theorem fac20 : fac 20 < 2 ^ 64 := by decide +kernel
def rFac : List V → Hp → VK → Prop := fun vs H Q => ∃ n : Nat, vs = [.int (n : Int)] ∧ n ≤ 20000 ∧ Q (.int ((fac n : Nat) : Int)) H
section
variable {X : Cx}
theorem cr_factorial : CallR X (.builtin "math.factorial") rFac := by
  intro pins s σ H vs us Q I r h
  obtain ⟨n, rfl, hn, q⟩ := h
  cases r with
  | cons ru rt =>
    cases rt
    obtain ⟨t, rfl⟩ := ru
    refine PySem.W.mc_factorial (Int.natCast_nonneg n) (by omega) fun _ => ?_
    rw [Int.toNat_natCast]
    exact ⟨.int _, H, I.tok _, ⟨_, rfl⟩, q⟩
def rDivmod : List V → Hp → VK → Prop := fun xs H Q => ∃ i j, xs = [.int i, .int j] ∧ CDivP i j ∧ ∀ p, H p = none → Q (.ref p) (upd H p (.tup [.int (i / j), .int (i % j)]))
theorem call_divmodR : CallR X (.builtin "divmod") rDivmod := call_divmodW
end
section
variable {K : PySem.W.Frag} {σ : L2.St} {H : Hp} {ta tb te tl : TE} {D : Ends} {tu tz : TS}
theorem ev_fac {n : Nat} (h : Ev ta σ H (.int (n : Int))) (hn : n ≤ 20000) : Ev (tCB rFac (tCons ta tNil)) σ H (.int ((fac n : Nat) : Int)) := fun H1 e Q q => h H1 e _ fun H2 e2 => ⟨n, rfl, hn, q H2 e2⟩
theorem divp_small {i j : Int} (h : 0 < j) (hj : j.natAbs < 2 ^ 8000) : CDivP i j := ⟨h, PyProof.noPylong_of_log2 (by
  have h2 := (Nat.log2_lt (n := j.natAbs) (k := 8000) (by omega)).mpr hj
  omega)⟩
theorem eu_divmod {a b : Nat} (h : Ev ta σ H (.int (a : Int))) (h2 : Ev tb σ H (.int (b : Int))) (hb : 0 < b) (hb2 : b < 2 ^ 8000) : EvU (tCB rDivmod (tCons ta (tCons tb tNil))) σ H [.int ((a / b : Nat) : Int), .int ((a % b : Nat) : Int)] := fun H1 e Q q =>
  h H1 e _ fun H2 e2 => h2 H2 (e.trans e2) _ fun H3 e3 => ⟨a, b, rfl, divp_small (by omega) (by rw [Int.natAbs_natCast]; exact hb2), fun p hp => q p _ (fresh_back (e2.trans e3) hp) ((e2.trans e3).trans (Ex.new hp)) (by rw [upd_same, Int.natCast_ediv, Int.natCast_emod])⟩
end
end Kit

set_option Elab.async false
set_option linter.all false
set_option maxRecDepth 100000
set_option maxHeartbeats 4000000
namespace Kit
open PySem PySem.Spec PyProof.Rows L2 Evl
section
variable {K : PySem.W.Frag} {σ : L2.St} {H : Hp} {ta tb te tl : TE} {D : Ends} {tu tz : TS} {t : TT}
/-- for i in reversed(range(n)) -/
theorem s_forRev {j n : Nat} (h : Ev ta σ H (.int (n : Int))) (hn : n ≤ 40000) (Pv : Nat → L2.St → Hp → Prop) (h0 : ∀ H1, Ex H H1 → Pv 0 σ H1)
    (hs : ∀ (i : Nat) σ' H', i < n → Pv i σ' H' → tu { D with nx := Pv (i + 1), ct := Pv (i + 1), bk := D.nx } (σ'.set j (some (.int ((n - 1 - i : Nat) : Int)))) H') (hd : ∀ σ' H', Pv n σ' H' → D.nx σ' H') : tFor (iRevR (tRg1 ta)) (gName j) tu D σ H :=
  h H (Ex.refl H) _ fun H1 e => ⟨n, rfl, by
    have e0 : ((n : Int) - 0).toNat = n := by omega
    refine ⟨by omega, by omega, by omega, by omega, ?_⟩
    rw [e0]
    exact for_rangeC Pv (h0 H1 e) (fun i σ' H' hi p => by
      have e1 : (0 : Int) + (n : Int) - 1 + (i : Nat) * (-1) = ((n - 1 - i : Nat) : Int) := by omega
      rw [e1]
      exact hs i σ' H' hi p) hd⟩
theorem q_forRev {j n : Nat} (h : Ev ta σ H (.int (n : Int))) (hn : n ≤ 40000) (Pv : Nat → L2.St → Hp → Prop) (h0 : ∀ H1, Ex H H1 → Pv 0 σ H1)
    (hs : ∀ (i : Nat) σ' H', i < n → Pv i σ' H' → tu { D with nx := Pv (i + 1), ct := Pv (i + 1), bk := tz D } (σ'.set j (some (.int ((n - 1 - i : Nat) : Int)))) H') (hd : ∀ σ' H', Pv n σ' H' → tz D σ' H') : tSeq (tFor (iRevR (tRg1 ta)) (gName j) tu) tz D σ H := s_forRev (D := { D with nx := tz D }) h hn Pv h0 hs hd
/-- [a new tuple for i in range(lo, n)] -/
theorem elt_R2 {ta : TA} {j : Nat} {vs : List Nat} {lo n : Int} (f : Nat → List V) (h : EvA ta σ H [.int lo, .int n]) (hn : 0 ≤ lo ∧ lo ≤ 40000 ∧ -40000 ≤ n ∧ n ≤ 40000) (hw : ∀ x, wipe ((wipe σ vs).set j (some x)) vs = wipe σ vs)
    (he : ∀ (i : Nat) H1, Ex H H1 → lo + (i : Int) < n → EvU te ((wipe σ vs).set j (some (.int (lo + (i : Int))))) H1 (f i)) : EvLT (tLc (iRng2 ta) (gName j) tYes te vs) σ H ((List.range (n - lo).toNat).map f) := fun H0 e Q q => h H0 e _ fun H1 e1 => ⟨lo, n, rfl, ⟨by omega, by omega, by omega, by omega⟩, fun Dl hD =>
  lc_range (lo := lo) (n := (n - lo).toNat) (fun i H' => Ex H1 H' ∧ ∃ ws, H' Dl = some (.lst ws) ∧ TL H' ws ((List.range i).map f)) ⟨Ex.new hD, [], upd_same, .nil⟩ (fun i H' hi p => by
    obtain ⟨p1, ws, p2, p3⟩ := p
    show wipe ((wipe σ vs).set j (some (.int (lo + (i : Int))))) vs = wipe σ vs ∧ te ((wipe σ vs).set j (some (.int (lo + (i : Int))))) H' fun y H4 => ∃ acc, H4 Dl = some (.lst acc) ∧ acc.length < sizeLine ∧ _
    refine ⟨hw _, he i H1 (e.trans e1) (by omega) H' p1 _ fun p H4 hp e4 h4 => ⟨ws, e4 Dl _ p2, sz_lt (by
      have := p3.len
      simp at this
      omega), Ex.mut (p1.trans e4) hD, ws ++ [.ref p], upd_same, ?_⟩⟩
    rw [List.range_succ, List.map_append]
    exact ((p3.ex e4).app ⟨p, rfl, h4⟩).upd (e4 Dl _ p2)) (fun H' p => by
      obtain ⟨p1, ws, p2, p3⟩ := p
      exact q Dl ws H' (fresh_back e1 hD) (e1.trans p1) p2 p3)⟩
end
end Kit

set_option Elab.async false
set_option linter.all false
set_option maxRecDepth 100000
set_option maxHeartbeats 4000000
namespace Kit
open PySem PySem.Spec PyProof.Rows L2 Evl
/-! ### choosing -/
def cho : Nat → Nat → Nat
  | _, 0 => 1
  | 0, _ + 1 => 0
  | n + 1, k + 1 => cho n k + cho n (k + 1)
theorem fac_zero : fac 0 = 1 := rfl
theorem cho_zero (n : Nat) : cho n 0 = 1 := by cases n <;> rfl
theorem cho_gt : ∀ {n k : Nat}, n < k → cho n k = 0
  | 0, _ + 1, _ => rfl
  | n + 1, k + 1, h => by
    show cho n k + cho n (k + 1) = 0
    rw [cho_gt (by omega : n < k), cho_gt (by omega : n < k + 1)]
theorem cho_self : ∀ n : Nat, cho n n = 1
  | 0 => rfl
  | n + 1 => by
    show cho n n + cho n (n + 1) = 1
    rw [cho_self n, cho_gt (Nat.lt_succ_self n)]
theorem cho_next : ∀ n k : Nat, cho n (k + 1) * (k + 1) = cho n k * (n - k)
  | 0, k => by
    rw [Nat.zero_sub, Nat.mul_zero]
    show 0 * (k + 1) = 0
    rw [Nat.zero_mul]
  | n + 1, 0 => by
    have a := cho_next n 0
    show (cho n 0 + cho n 1) * (0 + 1) = cho (n + 1) 0 * (n + 1 - 0)
    rw [cho_zero, cho_zero] at *
    simp only [Nat.zero_add, Nat.mul_one, Nat.sub_zero, Nat.one_mul] at *
    omega
  | n + 1, k + 1 => by
    have a := cho_next n (k + 1)
    have b := cho_next n k
    show (cho n (k + 1) + cho n (k + 2)) * (k + 1 + 1) = (cho n k + cho n (k + 1)) * (n + 1 - (k + 1))
    rcases Nat.lt_or_ge k n with h | h
    · obtain ⟨d, rfl⟩ : ∃ d, n = k + 1 + d := ⟨n - (k + 1), by omega⟩
      rw [show k + 1 + d - (k + 1) = d by omega] at a
      rw [show k + 1 + d - k = d + 1 by omega] at b
      rw [show k + 1 + d + 1 - (k + 1) = d + 1 by omega]
      generalize cho (k + 1 + d) (k + 1) = x at *
      generalize cho (k + 1 + d) k = y at *
      generalize cho (k + 1 + d) (k + 1 + 1) = z at *
      grind
    · rw [show n + 1 - (k + 1) = 0 by omega, cho_gt (by omega : n < k + 1), cho_gt (by omega : n < k + 2)]
      simp
/-- k of n: n! = C(n, k) k! (n - k)! -/
theorem cho_fac : ∀ {n k : Nat}, k ≤ n → cho n k * (fac k * fac (n - k)) = fac n
  | n, 0, _ => by
    rw [cho_zero, Nat.sub_zero]
    rw [fac_zero]
    omega
  | n, k + 1, h => by
    have ih := cho_fac (n := n) (k := k) (by omega)
    have a := cho_next n k
    rw [show n - k = (n - (k + 1)) + 1 by omega, fac_succ] at ih
    rw [show n - k = n - (k + 1) + 1 by omega] at a
    rw [fac_succ]
    generalize fac (n - (k + 1)) = y at *
    generalize fac n = v at *
    generalize cho n (k + 1) = z at *
    generalize cho n k = x at *
    generalize fac k = u at *
    generalize n - (k + 1) = d at *
    have e : z * (u * (k + 1) * y) = z * (k + 1) * (u * y) := by grind
    rw [e, a, ← ih]
    grind
theorem cho_pos {n k : Nat} (h : k ≤ n) : 1 ≤ cho n k := by
  have a := cho_fac h
  have b := fac_pos n
  rcases Nat.eq_zero_or_pos (cho n k) with z | z
  · rw [z, Nat.zero_mul] at a
    omega
  · exact z
theorem cho_le : ∀ n k : Nat, cho n k ≤ 2 ^ n
  | n, 0 => by rw [cho_zero]; exact Nat.one_le_two_pow
  | 0, _ + 1 => Nat.zero_le _
  | n + 1, k + 1 => by
    have a := cho_le n k
    have b := cho_le n (k + 1)
    rw [Nat.pow_succ]
    show cho n k + cho n (k + 1) ≤ _
    omega
theorem fp_fac (n : Nat) : ∀ k : Nat, k ≤ n → Builtin.Math.fallingProduct (n : Int) k * (fac (n - k) : Int) = (fac n : Int)
  | 0, _ => by
    rw [PySem.W.mc_fp_zero, Nat.sub_zero, Int.one_mul]
  | k + 1, h => by
    have ih := fp_fac n k (by omega)
    rw [show n - k = n - (k + 1) + 1 by omega, fac_succ] at ih
    rw [PySem.W.mc_fp_succ, ← ih, show (n : Int) - (k : Int) = ((n - (k + 1) + 1 : Nat) : Int) by omega]
    push_cast
    generalize (fac (n - (k + 1)) : Int) = x
    generalize Builtin.Math.fallingProduct (n : Int) k = y
    grind
theorem fp_self (n : Nat) : Builtin.Math.fallingProduct (n : Int) n = (fac n : Int) := by
  have := fp_fac n n (Nat.le_refl _)
  rw [Nat.sub_self, fac_zero] at this
  simpa using this
theorem cho_sym {n k : Nat} (h : k ≤ n) : cho n k = cho n (n - k) := by
  have a := cho_fac h
  have b := cho_fac (n := n) (k := n - k) (by omega)
  rw [show n - (n - k) = k by omega, Nat.mul_comm (fac (n - k))] at b
  have p : 0 < fac k * fac (n - k) := Nat.mul_pos (fac_pos _) (fac_pos _)
  exact Nat.eq_of_mul_eq_mul_right p (a.trans b.symm)
theorem comb_cho (n k : Nat) : PySem.W.mcComb (n : Int) (k : Int) = (cho n k : Int) := by
  by_cases h : k ≤ n
  · have key : ∀ m : Nat, m ≤ n → Builtin.Math.fallingProduct (n : Int) m / Builtin.Math.fallingProduct (m : Int) m = (cho n m : Int) := fun m hm => by
      have a := fp_fac n m hm
      have b := cho_fac hm
      have f := fac_pos m
      have g := fac_pos (n - m)
      rw [fp_self]
      have e : Builtin.Math.fallingProduct (n : Int) m = (cho n m : Int) * (fac m : Int) := by
        refine Int.eq_of_mul_eq_mul_right (a := (fac (n - m) : Int)) (by omega) ?_
        rw [a, ← b]
        push_cast
        grind
      rw [e]
      exact Int.mul_ediv_cancel _ (by omega)
    rw [PySem.W.mcComb_at (m := ((min k (n - k) : Nat) : Int)) (by omega) (by omega) (by omega), Int.toNat_natCast, key _ (by omega)]
    rcases Nat.le_total k (n - k) with q | q
    · rw [Nat.min_eq_left q]
    · rw [Nat.min_eq_right q, ← cho_sym h]
  · rw [PySem.W.mcComb_above (by omega), cho_gt (by omega)]
    rfl
def prm (n k : Nat) : Int := PySem.W.mcPerm (n : Int) (k : Int)
theorem prm_fac {n k : Nat} (h : k ≤ n) : prm n k * (fac (n - k) : Int) = (fac n : Int) := by
  unfold prm
  rw [PySem.W.mcPerm_at (by omega), Int.toNat_natCast]
  exact fp_fac n k h
theorem prm_pos {n k : Nat} (h : k ≤ n) : 1 ≤ prm n k := PySem.W.mcPerm_pos (by omega) (by omega)
def rComb : List V → Hp → VK → Prop := fun vs H Q => ∃ n k : Nat, vs = [.int (n : Int), .int (k : Int)] ∧ n ≤ 10000 ∧ Q (.int (cho n k : Int)) H
def rPerm : List V → Hp → VK → Prop := fun vs H Q => ∃ n k : Nat, vs = [.int (n : Int), .int (k : Int)] ∧ n ≤ 10000 ∧ k ≤ 10000 ∧ Q (.int (prm n k)) H
section
variable {X : Cx}
theorem cr_comb : CallR X (.builtin "math.comb") rComb := by
  intro pins s σ H vs us Q I r h
  obtain ⟨n, k, rfl, hn, q⟩ := h
  cases r with
  | cons ru r2 =>
    cases r2 with
    | cons rv rt =>
      cases rt
      obtain ⟨t, rfl⟩ := ru
      obtain ⟨u, rfl⟩ := rv
      refine PySem.W.mc_comb_v (Int.natCast_nonneg n) (Int.natCast_nonneg k) (by omega) (by omega) (comb_cho n k) ?_
      exact ⟨.int _, H, I.tok _, ⟨_, rfl⟩, q⟩
theorem cr_perm : CallR X (.builtin "math.perm") rPerm := by
  intro pins s σ H vs us Q I r h
  obtain ⟨n, k, rfl, hn, hk, q⟩ := h
  cases r with
  | cons ru r2 =>
    cases r2 with
    | cons rv rt =>
      cases rt
      obtain ⟨t, rfl⟩ := ru
      obtain ⟨u, rfl⟩ := rv
      refine PySem.W.mc_perm_v (Int.natCast_nonneg n) (Int.natCast_nonneg k) (by omega) (by omega) rfl ?_
      exact ⟨.int _, H, I.tok _, ⟨_, rfl⟩, q⟩
end
section
variable {K : PySem.W.Frag} {σ : L2.St} {H : Hp} {ta tb te tl : TE} {D : Ends} {tu tz : TS}
theorem ev_comb {n k : Nat} (h : Ev ta σ H (.int (n : Int))) (h2 : Ev tb σ H (.int (k : Int))) (hn : n ≤ 10000) : Ev (tCB rComb (tCons ta (tCons tb tNil))) σ H (.int (cho n k : Int)) := fun H1 e Q q => h H1 e _ fun H2 e2 => h2 H2 (e.trans e2) _ fun H3 e3 => ⟨n, k, rfl, hn, q H3 (e2.trans e3)⟩
theorem ev_perm {n k : Nat} (h : Ev ta σ H (.int (n : Int))) (h2 : Ev tb σ H (.int (k : Int))) (hn : n ≤ 10000) (hk : k ≤ 10000) : Ev (tCB rPerm (tCons ta (tCons tb tNil))) σ H (.int (prm n k)) := fun H1 e Q q => h H1 e _ fun H2 e2 => h2 H2 (e.trans e2) _ fun H3 e3 => ⟨n, k, rfl, hn, hk, q H3 (e2.trans e3)⟩
/-- for x, y in zip(xs, ys): the pair is a new tuple -/
theorem s_forZip {ta : TA} {i j n : Nat} {a b : Addr} {xs ys : List V} (h : EvA ta σ H [.ref a, .ref b]) (hx : SqL K H a xs) (hy : SqL K H b ys) (hn : n = min xs.length ys.length) (Pv : Nat → L2.St → Hp → Prop) (h0 : ∀ H1, Ex H H1 → Pv 0 σ H1) (hl : ∀ k σ' H', k ≤ n → Pv k σ' H' → SqL K H' a xs ∧ SqL K H' b ys)
    (hs : ∀ k x y σ' H' H2, xs[k]? = some x → ys[k]? = some y → Pv k σ' H' → Ex H' H2 → tu { D with nx := Pv (k + 1), ct := Pv (k + 1), bk := D.nx } ((σ'.set i (some x)).set j (some y)) H2) (hd : ∀ σ' H', Pv n σ' H' → D.nx σ' H') :
    tFor (iZip K ta) (gTup K 2 (gCons (gName i) (gCons (gName j) gNil))) tu D σ H := h H (Ex.refl H) _ fun H1 e => ⟨a, b, xs, ys, rfl, ex_l e hx, ex_l e hy, by
  refine for_it (walk_zip (n := n) hn) Pv (h0 H1 e) (fun k σ' H' hk p => hl k σ' H' hk p) ?_ hd
  rintro k v σ' Hh H2 hk p ⟨T, x, y, rfl, nT, rfl, g1, g2⟩
  exact ⟨T, [x, y], rfl, st_of upd_same, rfl, x, [y], rfl, y, [], rfl, rfl, hs k x y σ' Hh _ g1 g2 p (Ex.new nT)⟩⟩
theorem q_forZip {ta : TA} {i j n : Nat} {a b : Addr} {xs ys : List V} (h : EvA ta σ H [.ref a, .ref b]) (hx : SqL K H a xs) (hy : SqL K H b ys) (hn : n = min xs.length ys.length) (Pv : Nat → L2.St → Hp → Prop) (h0 : ∀ H1, Ex H H1 → Pv 0 σ H1) (hl : ∀ k σ' H', k ≤ n → Pv k σ' H' → SqL K H' a xs ∧ SqL K H' b ys)
    (hs : ∀ k x y σ' H' H2, xs[k]? = some x → ys[k]? = some y → Pv k σ' H' → Ex H' H2 → tu { D with nx := Pv (k + 1), ct := Pv (k + 1), bk := tz D } ((σ'.set i (some x)).set j (some y)) H2) (hd : ∀ σ' H', Pv n σ' H' → tz D σ' H') :
    tSeq (tFor (iZip K ta) (gTup K 2 (gCons (gName i) (gCons (gName j) gNil))) tu) tz D σ H := s_forZip (D := { D with nx := tz D }) h hx hy hn Pv h0 hl hs hd
/-- [e for x, y in zip(xs, ys)], xs an old list, ys a new one -/
theorem el_zipO {i j : Nat} {vs : List Nat} {a : Addr} {xs ys : List V} (F : V → V → V) (h : Ev ta σ H (.ref a)) (hx : SqL K H a xs) (h2 : EvL tb σ H ys) (hl : xs.length = ys.length) (hz : xs.length ≤ 40000) (hw : ∀ x y, wipe (((wipe σ vs).set i (some x)).set j (some y)) vs = wipe σ vs)
    (he : ∀ (n : Nat) x y H1, Ex H H1 → xs[n]? = some x → ys[n]? = some y → Ev te (((wipe σ vs).set i (some x)).set j (some y)) H1 (F x y)) :
    EvL (tLc (iZip K (tCons ta (tCons tb tNil))) (gTup K 2 (gCons (gName i) (gCons (gName j) gNil))) tYes te vs) σ H (List.zipWith F xs ys) := fun H0 e Q q =>
  h H0 e _ fun H1 e1 => h2 H1 (e.trans e1) _ fun b H2 nb e2 hb => by
    have := el_zip (K := K) (H := H2) (ta := fun _ H' R => R [.ref a, .ref b] H') (te := te) (vs := vs) F (fun H3 _ Q q => q H3 (Ex.refl _)) (ex_l (e.trans (e1.trans e2)) hx) (sq_of hb) hl hz hw fun n x y H3 e3 g1 g2 => he n x y H3 (e.trans (e1.trans (e2.trans e3))) g1 g2
    exact this H2 (Ex.refl _) Q fun p H3 hp e3 h3 => q p H3 (fresh_back (e1.trans e2) hp) (e1.trans (e2.trans e3)) h3
end
end Kit

set_option Elab.async false
set_option linter.all false
set_option maxRecDepth 100000
set_option maxHeartbeats 4000000
namespace Kit
open PySem PySem.Spec PyProof.Rows L2 Evl
/-! ### data that is laid in the heap, by its depth -/
inductive Flat : V → PyData → Prop
  | non : Flat .non .none
  | bl (b : Bool) : Flat (.bl b) (.bool b)
  | int (i : Int) : Flat (.int i) (.int i)
  | str (x : Str) (ok : PyData.strOk x = true) : Flat (.str x) (.str x)
def Tk : Nat → Hp → V → PyData → Prop
  | 0, _, v, d => Flat v d
  | n + 1, H, v, d => Flat v d ∨ (∃ a xs ds, v = .ref a ∧ d = .list ds ∧ H a = some (.lst xs) ∧ xs.length ≤ 40000 ∧ Paired (Tk n H) xs ds) ∨ (∃ a xs ds, v = .ref a ∧ d = .tuple ds ∧ H a = some (.tup xs) ∧ xs.length ≤ 40000 ∧ Paired (Tk n H) xs ds)
theorem Tk.flat {v : V} {d : PyData} (h : Flat v d) : ∀ {n : Nat} {H : Hp}, Tk n H v d
  | 0, _ => h
  | _ + 1, _ => .inl h
theorem tk_imp {A B : V → PyData → Prop} (f : ∀ v d, A v d → B v d) : ∀ {xs : List V} {ds : List PyData}, Paired A xs ds → Paired B xs ds
  | _, _, .nil => .nil
  | _, _, .cons h t => .cons (f _ _ h) (tk_imp f t)
theorem Tk.ex {H H' : Hp} (e : Ex H H') : ∀ {n : Nat} {v : V} {d : PyData}, Tk n H v d → Tk n H' v d
  | 0, _, _, h => h
  | _ + 1, _, _, .inl h => .inl h
  | _ + 1, _, _, .inr (.inl ⟨a, xs, ds, h1, h2, h3, hz, h4⟩) => .inr (.inl ⟨a, xs, ds, h1, h2, e a _ h3, hz, tk_imp (fun _ _ => Tk.ex e) h4⟩)
  | _ + 1, _, _, .inr (.inr ⟨a, xs, ds, h1, h2, h3, hz, h4⟩) => .inr (.inr ⟨a, xs, ds, h1, h2, e a _ h3, hz, tk_imp (fun _ _ => Tk.ex e) h4⟩)
theorem Tk.mono {H : Hp} : ∀ {n m : Nat} {v : V} {d : PyData}, n ≤ m → Tk n H v d → Tk m H v d
  | 0, _, _, _, _, h => Tk.flat h
  | _ + 1, 0, _, _, e, _ => absurd e (by omega)
  | _ + 1, _ + 1, _, _, _, .inl h => .inl h
  | _ + 1, _ + 1, _, _, e, .inr (.inl ⟨a, xs, ds, h1, h2, h3, hz, h4⟩) => .inr (.inl ⟨a, xs, ds, h1, h2, h3, hz, tk_imp (fun _ _ => Tk.mono (by omega)) h4⟩)
  | _ + 1, _ + 1, _, _, e, .inr (.inr ⟨a, xs, ds, h1, h2, h3, hz, h4⟩) => .inr (.inr ⟨a, xs, ds, h1, h2, h3, hz, tk_imp (fun _ _ => Tk.mono (by omega)) h4⟩)
theorem tk_int {n : Nat} {H : Hp} (i : Int) : Tk n H (.int i) (.int i) := .flat (.int i)
theorem tk_ints {n : Nat} {H : Hp} : ∀ ns : List Int, Paired (Tk n H) (ns.map V.int) (ns.map PyData.int)
  | [] => .nil
  | i :: r => .cons (tk_int i) (tk_ints r)
theorem tk_lst {n : Nat} {H : Hp} {a : Addr} {xs : List V} {ds : List PyData} (h : H a = some (.lst xs)) (hd : Paired (Tk n H) xs ds) (hz : ds.length ≤ 40000) : Tk (n + 1) H (.ref a) (.list ds) := .inr (.inl ⟨a, xs, ds, rfl, rfl, h, by rw [Paired.length hd]; exact hz, hd⟩)
theorem tk_tup {n : Nat} {H : Hp} {a : Addr} {xs : List V} {ds : List PyData} (h : H a = some (.tup xs)) (hd : Paired (Tk n H) xs ds) (hz : ds.length ≤ 40000) : Tk (n + 1) H (.ref a) (.tuple ds) := .inr (.inr ⟨a, xs, ds, rfl, rfl, h, by rw [Paired.length hd]; exact hz, hd⟩)
theorem flat_dp {K : PySem.W.Frag} {H : Hp} {v : V} {d : PyData} (h : Flat v d) : Dp K H v d := by
  cases h with
  | non => exact .non
  | bl b => exact .bl b
  | int i => exact .int i
  | str x _ => exact .str x
def isSeq : PyData → Bool
  | .list _ => true
  | .tuple _ => true
  | _ => false
def isLs : PyData → Bool
  | .list _ => true
  | _ => false
def isIt : PyData → Bool
  | .int _ => true
  | .bool _ => true
  | _ => false
def isBo : PyData → Bool
  | .bool _ => true
  | _ => false
def isSt : PyData → Bool
  | .str _ => true
  | _ => false
section
variable {K : PySem.W.Frag} {σ : L2.St} {H H' : Hp} {ta tb te : TE} {n : Nat} {v : V} {d : PyData}
theorem tk_kind {f : PyData → Bool} {g : Value → Option Bool} (h : Tk n H v d) (non : g (.type "NoneType") = some (f .none)) (bl : ∀ b, g (.type "bool") = some (f (.bool b))) (it : ∀ i, g (.type "int") = some (f (.int i))) (st : ∀ i, g (.type "str") = some (f (.str i)))
    (ls : ∀ ds, g (.type "list") = some (f (.list ds))) (tu : ∀ ds, g (.type "tuple") = some (f (.tuple ds))) : ∃ t, TyX K H v t ∧ g t = some (f d) := by
  have fl : Flat v d → ∃ t, TyX K H v t ∧ g t = some (f d) := fun h => by
    cases h with
    | non => exact ⟨_, .base .non, non⟩
    | bl b => exact ⟨_, .base (.bl b), bl b⟩
    | int i => exact ⟨_, .base (.int i), it i⟩
    | str x _ => exact ⟨_, .base (.str x), st x⟩
  match n, h with
  | 0, h => exact fl h
  | _ + 1, .inl h => exact fl h
  | _ + 1, .inr (.inl ⟨a, xs, ds, h1, h2, h3, hz, h4⟩) =>
    subst h1 h2
    exact ⟨_, .base (.lst h3), ls ds⟩
  | _ + 1, .inr (.inr ⟨a, xs, ds, h1, h2, h3, hz, h4⟩) =>
    subst h1 h2
    exact ⟨_, .base (.tup h3), tu ds⟩
theorem ev_isOne {T : String} {f : PyData → Bool} (h : Ev ta σ H v) (hv : Tk n H v d) (non : PySem.W.kitOne K (.type "NoneType") (.type T) = some (f .none)) (bl : ∀ b, PySem.W.kitOne K (.type "bool") (.type T) = some (f (.bool b))) (it : ∀ i, PySem.W.kitOne K (.type "int") (.type T) = some (f (.int i))) (st : ∀ i, PySem.W.kitOne K (.type "str") (.type T) = some (f (.str i)))
    (ls : ∀ ds, PySem.W.kitOne K (.type "list") (.type T) = some (f (.list ds))) (tu : ∀ ds, PySem.W.kitOne K (.type "tuple") (.type T) = some (f (.tuple ds))) : Ev (tCB (rIsi K) (tCons ta (tCons (tC (.ty T)) tNil))) σ H (.bl (f d)) := fun H1 e Q q => h H1 e _ fun H2 e2 => by
  obtain ⟨t, ty, k⟩ := tk_kind (K := K) (f := f) (g := fun t => PySem.W.kitOne K t (.type T)) (hv.ex (e.trans e2)) non bl it st ls tu
  exact ⟨v, .ty T, t, .type T, _, rfl, .ty T, ty, k, q H2 e2⟩
theorem ev_isLs (h : Ev ta σ H v) (hv : Tk n H v d) : Ev (tCB (rIsi K) (tCons ta (tCons (tC (.ty "list")) tNil))) σ H (.bl (isLs d)) := ev_isOne (f := isLs) h hv rfl (fun _ => rfl) (fun _ => rfl) (fun _ => rfl) (fun _ => rfl) (fun _ => rfl)
theorem ev_isIt (h : Ev ta σ H v) (hv : Tk n H v d) : Ev (tCB (rIsi K) (tCons ta (tCons (tC (.ty "int")) tNil))) σ H (.bl (isIt d)) := ev_isOne (f := isIt) h hv rfl (fun _ => rfl) (fun _ => rfl) (fun _ => rfl) (fun _ => rfl) (fun _ => rfl)
theorem ev_isBo (h : Ev ta σ H v) (hv : Tk n H v d) : Ev (tCB (rIsi K) (tCons ta (tCons (tC (.ty "bool")) tNil))) σ H (.bl (isBo d)) := ev_isOne (f := isBo) h hv rfl (fun _ => rfl) (fun _ => rfl) (fun _ => rfl) (fun _ => rfl) (fun _ => rfl)
theorem ev_isSt (h : Ev ta σ H v) (hv : Tk n H v d) : Ev (tCB (rIsi K) (tCons ta (tCons (tC (.ty "str")) tNil))) σ H (.bl (isSt d)) := ev_isOne (f := isSt) h hv rfl (fun _ => rfl) (fun _ => rfl) (fun _ => rfl) (fun _ => rfl) (fun _ => rfl)
theorem ev_isSeq (h : Ev ta σ H v) (hv : Tk n H v d) : Ev (tCB (rIsiT K) (tCons ta (tCons (tTup (tCons (tC (.ty "list")) (tCons (tC (.ty "tuple")) tNil))) tNil))) σ H (.bl (isSeq d)) := fun H1 e Q q => h H1 e _ fun H2 e2 =>
  (eu_tup (ea_cons (x := .ty "list") ev_c (ea_cons (x := .ty "tuple") ev_c ea_nil)) (Nat.le_of_ble_eq_true rfl)) H2 (Ex.refl _) _ fun p H3 _ e3 h3 => by
    obtain ⟨t, ty, k⟩ := tk_kind (K := K) (f := isSeq) (g := fun t => PySem.W.kitAny K t [.type "list", .type "tuple"]) (hv.ex (e.trans (e2.trans e3))) rfl (fun _ => rfl) (fun _ => rfl) (fun _ => rfl) (fun _ => rfl) (fun _ => rfl)
    exact ⟨v, p, _, t, [.type "list", .type "tuple"], _, rfl, h3, .cons (.ty _) (.cons (.ty _) .nil), ty, k, q H3 (e2.trans e3)⟩
theorem tk_flat (h : Tk n H v d) (hs : isSeq d = false) : Flat v d := by
  match n, h with
  | 0, h => exact h
  | _ + 1, .inl h => exact h
  | _ + 1, .inr (.inl ⟨_, _, _, _, h2, _⟩) =>
    subst h2
    cases hs
  | _ + 1, .inr (.inr ⟨_, _, _, _, h2, _⟩) =>
    subst h2
    cases hs
theorem tk_seq (h : Tk n H v d) (hs : isSeq d = true) : ∃ m, n = m + 1 ∧ ((∃ a xs ds, v = .ref a ∧ d = .list ds ∧ H a = some (.lst xs) ∧ xs.length ≤ 40000 ∧ Paired (Tk m H) xs ds) ∨ (∃ a xs ds, v = .ref a ∧ d = .tuple ds ∧ H a = some (.tup xs) ∧ xs.length ≤ 40000 ∧ Paired (Tk m H) xs ds)) := by
  have no : Flat v d → False := fun f => by cases f <;> cases hs
  match n, h with
  | 0, h => exact (no h).elim
  | _ + 1, .inl h => exact (no h).elim
  | m + 1, .inr h => exact ⟨m, rfl, h⟩
theorem rv_ixQL {a : Addr} {xs : List V} {i : Int} {x : V} (s : SqL K H a xs) (h : atI xs i = some x) : RV (rIx K) (.ref a) (.int i) H x := fun H1 e Q q => .inl (rv_ixL s h H1 e Q q)
theorem rv_ixQT {a : Addr} {xs : List V} {i : Int} {x : V} (s : SqT K H a xs) (h : atI xs i = some x) : RV (rIx K) (.ref a) (.int i) H x := fun H1 e Q q => .inr (.inl (rv_ixT s h H1 e Q q))
/-! ### expressions that give such data -/
def EvK (n : Nat) (te : TE) (σ : L2.St) (H : Hp) (d : PyData) : Prop := ∀ H1, Ex H H1 → ∀ Q : VK, (∀ v H2, Ex H1 H2 → Tk n H2 v d → Q v H2) → te σ H1 Q
def EvKA (n : Nat) (ta : TA) (σ : L2.St) (H : Hp) (ds : List PyData) : Prop := ∀ H1, Ex H H1 → ∀ Q : List V → Hp → Prop, (∀ vs H2, Ex H1 H2 → Paired (Tk n H2) vs ds → Q vs H2) → ta σ H1 Q
variable {t tr : TA} {ds : List PyData}
theorem ek_of (h : Ev te σ H v) (k : Tk n H v d) : EvK n te σ H d := fun H1 e Q q => h H1 e Q fun H2 e2 => q v H2 e2 (k.ex (e.trans e2))
theorem ek_int {i : Int} (h : Ev te σ H (.int i)) : EvK n te σ H (.int i) := ek_of h (tk_int i)
theorem ek_bl {b : Bool} (h : Ev te σ H (.bl b)) : EvK n te σ H (.bool b) := ek_of h (.flat (.bl b))
theorem ek_non (h : Ev te σ H .non) : EvK n te σ H .none := ek_of h (.flat .non)
theorem ek_str {x : Str} (h : Ev te σ H (.str x)) (ok : PyData.strOk x = true) : EvK n te σ H (.str x) := ek_of h (.flat (.str x ok))
theorem ek_mono {m : Nat} (h : EvK n te σ H d) (e : n ≤ m) : EvK m te σ H d := fun H1 a Q q => h H1 a Q fun v H2 e2 k => q v H2 e2 (k.mono e)
theorem ek_is {e : PyData} (h : EvK n te σ H d) (q : d = e) : EvK n te σ H e := q ▸ h
theorem paired_len {A : V → PyData → Prop} {xs : List V} (h : Paired A xs ds) : xs.length = ds.length := Paired.length h
theorem eka_nil : EvKA n tNil σ H [] := fun H1 _ _ q => q [] H1 (Ex.refl H1) .nil
theorem eka_cons (h : EvK n te σ H d) (hr : EvKA n tr σ H ds) : EvKA n (tCons te tr) σ H (d :: ds) := fun H1 e _ q =>
  h H1 e _ fun v H2 e2 dv => hr H2 (e.trans e2) _ fun vs H3 e3 dvs => q (v :: vs) H3 (e2.trans e3) (.cons (dv.ex e3) dvs)
theorem ek_lst (h : EvKA n t σ H ds) (hl : ds.length ≤ 40000) : EvK (n + 1) (tLst t) σ H (.list ds) := fun H1 e Q q =>
  h H1 e _ fun vs H2 e2 dv => ⟨sz_of (by rw [paired_len dv]; omega), fun p hp => q _ _ (e2.trans (Ex.new hp)) (tk_lst upd_same (tk_imp (fun _ _ => Tk.ex (Ex.new hp)) dv) hl)⟩
theorem ek_tup (h : EvKA n t σ H ds) (hl : ds.length ≤ 40000) : EvK (n + 1) (tTup t) σ H (.tuple ds) := fun H1 e Q q =>
  h H1 e _ fun vs H2 e2 dv => ⟨sz_of (by rw [paired_len dv]; omega), fun p hp => q _ _ (e2.trans (Ex.new hp)) (tk_tup upd_same (tk_imp (fun _ _ => Tk.ex (Ex.new hp)) dv) hl)⟩
theorem ek_L {xs : List V} (h : EvL te σ H xs) (k : Paired (Tk n H) xs ds) (hz : ds.length ≤ 40000) : EvK (n + 1) te σ H (.list ds) := fun H1 e Q q => h H1 e Q fun p H2 _ e2 h2 => q _ H2 e2 (tk_lst h2 (tk_imp (fun _ _ => Tk.ex (e.trans e2)) k) hz)
theorem ek_U {xs : List V} (h : EvU te σ H xs) (k : Paired (Tk n H) xs ds) (hz : ds.length ≤ 40000) : EvK (n + 1) te σ H (.tuple ds) := fun H1 e Q q => h H1 e Q fun p H2 _ e2 h2 => q _ H2 e2 (tk_tup h2 (tk_imp (fun _ _ => Tk.ex (e.trans e2)) k) hz)
theorem ek_LI {ns : List Int} (h : EvL te σ H (ns.map V.int)) (hz : ns.length ≤ 40000) : EvK (n + 1) te σ H (.list (ns.map PyData.int)) := ek_L h (tk_ints ns) (by simpa using hz)
theorem ek_UI {ns : List Int} (h : EvU te σ H (ns.map V.int)) (hz : ns.length ≤ 40000) : EvK (n + 1) te σ H (.tuple (ns.map PyData.int)) := ek_U h (tk_ints ns) (by simpa using hz)
theorem s_asgK {D : Ends} {i : Nat} (h : EvK n te σ H d) (k : ∀ v H1, Ex H H1 → Tk n H1 v d → D.nx (σ.set i (some v)) H1) : tAsg te (gName i) D σ H := h H (Ex.refl H) _ k
theorem q_asgK {D : Ends} {tz : TS} {i : Nat} (h : EvK n te σ H d) (k : ∀ v H1, Ex H H1 → Tk n H1 v d → tz D (σ.set i (some v)) H1) : tSeq (tAsg te (gName i)) tz D σ H := h H (Ex.refl H) _ k
end
end Kit

set_option Elab.async false
set_option linter.all false
set_option maxRecDepth 100000
set_option maxHeartbeats 4000000
namespace Kit
open PySem PySem.Spec PyProof.Rows L2 Evl
/-! ### dicts of whole numbers by whole numbers -/
def enc (ps : List (Int × Int)) : List (Key × V) := ps.map fun p => (.inl p.1, .int p.2)
def gI (ps : List (Int × Int)) (x : Int) : Int := ((ps.find? fun p => decide (p.1 = x)).map (·.2)).getD 0
def putI (ps : List (Int × Int)) (x v : Int) : List (Int × Int) := if ps.any (fun p => decide (p.1 = x)) then ps.map (fun p => if p.1 = x then (p.1, v) else p) else ps ++ [(x, v)]
theorem inl_eq (a x : Int) : decide ((Sum.inl a : Key) = .inl x) = decide (a = x) := by
  rw [Bool.eq_iff_iff, decide_eq_true_iff, decide_eq_true_iff]
  exact ⟨fun h => Sum.inl.inj h, fun h => by rw [h]⟩
theorem enc_val : ∀ (ps : List (Int × Int)) (x : Int), valV (enc ps) (.inl x) = ((ps.find? fun p => decide (p.1 = x)).map (·.2)).map V.int
  | [], _ => rfl
  | p :: r, x => by
    have ih := enc_val r x
    by_cases h : p.1 = x
    · rw [List.find?_cons_of_pos (by simpa using h)]
      exact valV_pos (by show (Sum.inl p.1 : Key) = .inl x; rw [h])
    · rw [List.find?_cons_of_neg (by simpa using h), ← ih]
      exact valV_neg fun z => h (Sum.inl.inj z)
theorem enc_get (ps : List (Int × Int)) (x : Int) : (valV (enc ps) (.inl x)).getD (.int 0) = .int (gI ps x) := by
  rw [enc_val]
  unfold gI
  cases (ps.find? fun p => decide (p.1 = x)).map (·.2) <;> rfl
theorem enc_put (ps : List (Int × Int)) (x v : Int) : putK (enc ps) (.inl x) (.int v) = enc (putI ps x v) := by
  have ea : ((enc ps).any fun kv => decide (kv.1 = .inl x)) = ps.any fun p => decide (p.1 = x) := by
    unfold enc
    rw [List.any_map]
    congr 1
    funext p
    exact inl_eq p.1 x
  unfold putK putI
  rw [ea]
  split
  · unfold enc
    rw [List.map_map, List.map_map]
    refine List.map_congr_left fun p _ => ?_
    show (if (Sum.inl p.1 : Key) = .inl x then _ else _) = _
    by_cases h : p.1 = x
    · rw [if_pos (by rw [h])]
      show _ = (Sum.inl (if p.1 = x then (p.1, v) else p).1, V.int (if p.1 = x then (p.1, v) else p).2)
      rw [if_pos h]
    · rw [if_neg fun z => h (Sum.inl.inj z)]
      show _ = (Sum.inl (if p.1 = x then (p.1, v) else p).1, V.int (if p.1 = x then (p.1, v) else p).2)
      rw [if_neg h]
  · unfold enc
    rw [List.map_append]
    rfl
theorem put_keys (ps : List (Int × Int)) (x v : Int) : (putI ps x v).map (·.1) = if x ∈ ps.map (·.1) then ps.map (·.1) else ps.map (·.1) ++ [x] := by
  have hm : (ps.any fun p => decide (p.1 = x)) = true ↔ x ∈ ps.map (·.1) := by
    rw [List.any_eq_true, List.mem_map]
    exact ⟨fun ⟨p, h, e⟩ => ⟨p, h, of_decide_eq_true e⟩, fun ⟨p, h, e⟩ => ⟨p, h, decide_eq_true e⟩⟩
  unfold putI
  by_cases h : x ∈ ps.map (·.1)
  · rw [if_pos h, if_pos (hm.mpr h), List.map_map]
    refine List.map_congr_left fun p _ => ?_
    show (if p.1 = x then (p.1, v) else p).1 = p.1
    split <;> rfl
  · rw [if_neg h, if_neg fun z => h (hm.mp z), List.map_append]
    rfl
theorem put_nodup {ps : List (Int × Int)} (h : (ps.map (·.1)).Nodup) (x v : Int) : ((putI ps x v).map (·.1)).Nodup := by
  rw [put_keys]
  split
  · exact h
  · rename_i n
    exact List.nodup_append.mpr ⟨h, by simp, fun a ha b hb => by
      rw [List.mem_singleton.mp hb]
      intro z
      exact n (z ▸ ha)⟩
theorem put_len (ps : List (Int × Int)) (x v : Int) : (putI ps x v).length ≤ ps.length + 1 := by
  unfold putI
  split
  · rw [List.length_map]
    omega
  · simp
theorem gI_nil (x : Int) : gI [] x = 0 := rfl
theorem gI_eq {ps : List (Int × Int)} {x : Int} : V.int (gI ps x) = (valV (enc ps) (.inl x)).getD (.int 0) := (enc_get ps x).symm
theorem gI_put (ps : List (Int × Int)) (x v y : Int) : gI (putI ps x v) y = if y = x then v else gI ps y := by
  have h := enc_get (putI ps x v) y
  rw [← enc_put, valV_put] at h
  have e : V.int (gI (putI ps x v) y) = V.int (if y = x then v else gI ps y) := by
    rw [← h]
    by_cases z : y = x
    · rw [if_pos (by rw [z]), if_pos z]
      rfl
    · rw [if_neg fun w => z (Sum.inl.inj w), if_neg z, enc_get]
  exact V.int.inj e
theorem gI_no {ps : List (Int × Int)} {x : Int} (h : x ∉ ps.map (·.1)) : gI ps x = 0 := by
  unfold gI
  have : (ps.find? fun p => decide (p.1 = x)) = none := List.find?_eq_none.mpr fun p hp z => h (List.mem_map.mpr ⟨p, hp, of_decide_eq_true z⟩)
  rw [this]
  rfl
theorem gI_sum : ∀ {ps : List (Int × Int)} (s : Int), (ps.map (·.1)).Nodup → (ps.map fun p => if p.1 = s then p.2 else 0).sum = gI ps s
  | [], _, _ => rfl
  | p :: r, s, h => by
    rw [List.map_cons, List.nodup_cons] at h
    rw [List.map_cons, List.sum_cons, gI_sum s h.2]
    by_cases z : p.1 = s
    · rw [if_pos z, gI_no (z ▸ h.1)]
      unfold gI
      rw [List.find?_cons_of_pos (by simpa using z)]
      show p.2 + 0 = p.2
      omega
    · rw [if_neg z]
      unfold gI
      rw [List.find?_cons_of_neg (by simpa using z)]
      omega
theorem val_at {ps : List (Int × Int)} {i : Nat} {a v : Int} (h : ps[i]? = some (a, v)) (nd : (ps.map (·.1)).Nodup) : valV (enc ps) (.inl a) = some (.int v) := by
  rw [enc_val]
  have : (ps.find? fun p => decide (p.1 = a)) = some (a, v) := by
    induction ps generalizing i with
    | nil => simp at h
    | cons p r ih =>
      rw [List.map_cons, List.nodup_cons] at nd
      cases i with
      | zero =>
        have : p = (a, v) := by simpa using h
        subst this
        exact List.find?_cons_of_pos (by simp)
      | succ i =>
        have h' : r[i]? = some (a, v) := by simpa using h
        have : p.1 ≠ a := fun z => nd.1 (z ▸ List.mem_map.mpr ⟨(a, v), List.mem_of_getElem? h', rfl⟩)
        rw [List.find?_cons_of_neg (by simpa using this)]
        exact ih h' nd.2
  rw [this]
  rfl
section
variable {K : PySem.W.Frag} {σ : L2.St} {H : Hp} {ta tb tc te td : TE} {D : Ends} {tu tz : TS} {ps : List (Int × Int)} {x v : Int}
theorem ev_getI {a : Addr} (h : Ev ta σ H (.ref a)) (hx : Ev tb σ H (.int x)) (h0 : Ev tc σ H (.int 0)) (ha : H a = some (.dK (enc ps))) : Ev (tDGet2 ta tb tc) σ H (.int (gI ps x)) := fun H1 e Q q =>
  h H1 e _ fun H2 e2 => ⟨a, rfl, .inl ⟨_, .inl (e2 a _ (e a _ ha))⟩, hx H2 (e.trans e2) _ fun H3 e3 => h0 H3 (e.trans (e2.trans e3)) _ fun H4 e4 => ⟨_, DGet.k (k := .inl x) (e4 a _ (e3 a _ (e2 a _ (e a _ ha)))), by
    rw [enc_get]
    exact q H4 (e2.trans (e3.trans e4))⟩⟩
theorem s_putI {a : Addr} (h : Ev ta σ H (.ref a)) (hx : Ev tb σ H (.int x)) (hv : Ev te σ H (.int v)) (ha : H a = some (.dK (enc ps))) (hl : ps.length < 10000) (k : ∀ H1, Ex H H1 → D.nx σ (upd H1 a (.dK (enc (putI ps x v))))) : sDPut ta tb te D σ H :=
  hv H (Ex.refl _) _ fun H1 e1 => h H1 e1 _ fun H2 e2 => hx H2 (e1.trans e2) _ fun H3 e3 => ⟨a, _, rfl, DPut.k (k := .inl x) (e3 a _ (e2 a _ (e1 a _ ha))) (sz_lt (by unfold enc; rw [List.length_map]; omega)), by
    rw [enc_put]
    exact k H3 (e1.trans (e2.trans e3))⟩
theorem q_putI {a : Addr} (h : Ev ta σ H (.ref a)) (hx : Ev tb σ H (.int x)) (hv : Ev te σ H (.int v)) (ha : H a = some (.dK (enc ps))) (hl : ps.length < 10000) (k : ∀ H1, Ex H H1 → tz D σ (upd H1 a (.dK (enc (putI ps x v))))) : tSeq (sDPut ta tb te) tz D σ H := s_putI (D := { D with nx := tz D }) h hx hv ha hl k
theorem q_dnewI {i : Nat} (k : ∀ p H1, H p = none → Ex H H1 → H1 p = some (.dK (enc [])) → tz D (σ.set i (some (.ref p))) H1) : tSeq (tAsg tDNewK (gName i)) tz D σ H := fun p hp => k p _ hp (Ex.new hp) upd_same
theorem q_dispI {i : Nat} (hk : Ev ta σ H (.int x)) (hv : Ev tb σ H (.int v)) (k : ∀ p H1, H p = none → Ex H H1 → H1 p = some (.dK (enc [(x, v)])) → tz D (σ.set i (some (.ref p))) H1) : tSeq (tAsg (tDisp [(ta, tb)]) (gName i)) tz D σ H := fun p hp => hk _ (Ex.new hp) _ fun H1 e1 => hv H1 ((Ex.new hp).trans e1) _ fun H2 e2 =>
  ⟨e2 p _ (e1 p _ upd_same), [(.inl x, .int v)], rfl, Nat.le_of_ble_eq_true rfl, k p _ hp (Ex.mut ((Ex.new hp).trans (e1.trans e2)) hp) upd_same⟩
theorem ev_dgetL {a : Addr} {o : Obj} {i : Nat} (h : Ev ta σ H (.ref a)) (hx : Ev tb σ H (.int x)) (ha : H a = some (.frz o (.dK (enc ps)))) (hi : ps[i]? = some (x, v)) (nd : (ps.map (·.1)).Nodup) : Ev (tDGet ta tb) σ H (.int v) := fun H1 e Q q =>
  h H1 e _ fun H2 e2 => hx H2 (e.trans e2) _ fun H3 e3 => ⟨a, .int v, rfl, .inl ⟨enc ps, .inl x, .inr ⟨o, e3 a _ (e2 a _ (e a _ ha))⟩, rfl, (val_at hi nd).symm⟩, q H3 (e2.trans e3)⟩
/-- for x in a dict -/
theorem s_forKeys {j : Nat} {d : Addr} (h : ∀ H1, Ev td σ H1 (.ref d)) (hd : H d = some (.dK (enc ps))) (Pv : Obj → Nat → L2.St → Hp → Prop) (h0 : ∀ o H1, Ex (upd H d (.frz o (.dK (enc ps)))) H1 → Pv o 0 σ H1) (hl : ∀ o k σ' H', k ≤ ps.length → Pv o k σ' H' → H' d = some (.frz o (.dK (enc ps))))
    (hs : ∀ o k a v σ' H', ps[k]? = some (a, v) → Pv o k σ' H' → tu { nx := Pv o (k + 1), ct := Pv o (k + 1), bk := fun σ' H' => H' d = some (.frz o (.dK (enc ps))) ∧ D.nx σ' (upd H' d (.dK (enc ps))), rt := fun v H' => H' d = some (.frz o (.dK (enc ps))) ∧ D.rt v (upd H' d (.dK (enc ps))) } (σ'.set j (some (.int a))) H')
    (he : ∀ o σ' H', Pv o ps.length σ' H' → D.nx σ' (upd H' d (.dK (enc ps)))) : tLock (tFor (iKeys td) (gName j) tu) D σ H := ⟨d, .dK (enc ps), hd, True.intro, fun o => h _ _ (Ex.refl _) _ fun H1 e => ⟨d, o, rfl, .inl ⟨enc ps, e d _ upd_same, by
  have le : (enc ps).length = ps.length := List.length_map ..
  refine for_it walk_keys (Pv o) (h0 o H1 e) (fun k σ' H' hk p => hl o k σ' H' (by omega) p) ?_ (fun σ' H' p => by
    rw [le] at p
    exact ⟨hl o _ σ' H' (Nat.le_refl _) p, he o σ' H' p⟩)
  rintro k v σ' Hh H2 hk p ⟨rfl, key, x, g1, rfl⟩
  unfold enc at g1
  rw [List.getElem?_map] at g1
  obtain ⟨q, hq, eq⟩ := Option.map_eq_some_iff.mp g1
  cases eq
  exact hs o k q.1 q.2 σ' _ hq p⟩⟩⟩
theorem q_forKeys {j : Nat} {d : Addr} (h : ∀ H1, Ev td σ H1 (.ref d)) (hd : H d = some (.dK (enc ps))) (Pv : Obj → Nat → L2.St → Hp → Prop) (h0 : ∀ o H1, Ex (upd H d (.frz o (.dK (enc ps)))) H1 → Pv o 0 σ H1) (hl : ∀ o k σ' H', k ≤ ps.length → Pv o k σ' H' → H' d = some (.frz o (.dK (enc ps))))
    (hs : ∀ o k a v σ' H', ps[k]? = some (a, v) → Pv o k σ' H' → tu { nx := Pv o (k + 1), ct := Pv o (k + 1), bk := fun σ' H' => H' d = some (.frz o (.dK (enc ps))) ∧ tz D σ' (upd H' d (.dK (enc ps))), rt := fun v H' => H' d = some (.frz o (.dK (enc ps))) ∧ D.rt v (upd H' d (.dK (enc ps))) } (σ'.set j (some (.int a))) H')
    (he : ∀ o σ' H', Pv o ps.length σ' H' → tz D σ' (upd H' d (.dK (enc ps)))) : tSeq (tLock (tFor (iKeys td) (gName j) tu)) tz D σ H := s_forKeys (D := { D with nx := tz D }) h hd Pv h0 hl hs he
end
end Kit

set_option Elab.async false
set_option linter.all false
set_option maxRecDepth 100000
set_option maxHeartbeats 4000000
namespace Kit
open PySem PySem.Spec PyProof.Rows L2 Evl
/-! ### xs[i] += e -/
section
variable {X : Cx}
theorem get_listR : PGet X (rIxL X.K) := by
  intro pins s σ H o i ov iv Q I ro ri h
  obtain ⟨p, xs, k, z, rfl, rfl, hq, he, q⟩ := h
  cases ro
  obtain ⟨t, rfl⟩ := ri
  obtain ⟨its, r, pl, hz⟩ := I.list hq
  obtain ⟨j, h1, h2, h3, h4, h5⟩ := atI_get he
  obtain ⟨w, ew, rw'⟩ := r.get h2
  have hl := r.length
  have hn := line63
  have fin : EP X pins σ Q w s := ⟨z, H, I, rw', q⟩
  by_cases h0 : 0 ≤ k
  · have hj : k.toNat = j := by
      rw [seqIndex_of h0 h5] at h1
      exact Option.some.inj h1
    exact wpAny_getItem_list pl.isList h0 (by omega) (by rw [hj]; simpa using ew) fin
  · have hj : (k + (its.toArray.size : Int)).toNat = j := by
      rw [seqIndex_neg (by omega) h4] at h1
      rw [List.size_toArray, ← hl]
      exact Option.some.inj h1
    exact wpAny_getItem_list_neg pl.isList (by omega) (by rw [List.size_toArray] <;> omega) (by omega) (by rw [hj]; simpa using ew) fin
end
section
variable {K : PySem.W.Frag} {σ : L2.St} {H : Hp} {ta tb te : TE} {D : Ends} {tz : TS}
theorem s_augL {f : Int → Int → Int} {l : Addr} {xs : List V} {j : Nat} {a b : Int} (hl : H l = some (.lst xs)) (ho : Ev ta σ H (.ref l)) (hi : Ev tb σ H (.int (j : Int))) (hx : xs[j]? = some (.int a)) (he : Ev te σ H (.int b)) (k : ∀ H1, Ex H H1 → D.nx σ (upd H1 l (.lst (xs.set j (.int (f a b)))))) :
    tAugS ta tb te (rIxL K) (ipI f) rSetL D σ H := ho H (Ex.refl H) _ fun H1 e1 => hi H1 e1 _ fun H2 e2 => ⟨l, xs, (j : Int), .int a, rfl, rfl, sq_of (e2 l _ (e1 l _ hl)), atI_nat hx, he H2 (e1.trans e2) _ fun H3 e3 =>
  ⟨a, b, rfl, rfl, l, xs, (j : Int), j, rfl, rfl, e3 l _ (e2 l _ (e1 l _ hl)), ixN_nat (List.getElem?_eq_some_iff.mp hx).1, k H3 (e1.trans (e2.trans e3))⟩⟩
theorem q_augL {f : Int → Int → Int} {l : Addr} {xs : List V} {j : Nat} {a b : Int} (hl : H l = some (.lst xs)) (ho : Ev ta σ H (.ref l)) (hi : Ev tb σ H (.int (j : Int))) (hx : xs[j]? = some (.int a)) (he : Ev te σ H (.int b)) (k : ∀ H1, Ex H H1 → tz D σ (upd H1 l (.lst (xs.set j (.int (f a b)))))) :
    tSeq (tAugS ta tb te (rIxL K) (ipI f) rSetL) tz D σ H := s_augL (D := { D with nx := tz D }) hl ho hi hx he k
end
end Kit

namespace K43
open PySem PySem.Spec PyProof.Rows L2 Evl Kit
def topS (i : Nat) : Stmt := PySem.Challenge.pw_newtables_k43_leaving_by_all_seatings.main.body.getD i (.Pass ⟨0, 0, 0, 0⟩)
abbrev s_is_whole : Stmt := topS 12
abbrev n_is_whole : List Str := ["thing"]
theorem sc_is_whole : FnScope n_is_whole ["thing"] (defScope s_is_whole) := ⟨rfl, rfl, rfl, by decide +kernel, rfl, by decide +kernel, by decide +kernel⟩
abbrev s_is_within : Stmt := topS 13
abbrev n_is_within : List Str := ["thing", "least", "most"]
theorem sc_is_within : FnScope n_is_within ["thing", "least", "most"] (defScope s_is_within) := ⟨rfl, rfl, rfl, by decide +kernel, rfl, by decide +kernel, by decide +kernel⟩
abbrev s_is_order : Stmt := topS 14
abbrev n_is_order : List Str := ["thing", "item"]
theorem sc_is_order : FnScope n_is_order ["thing"] (defScope s_is_order) := ⟨rfl, rfl, rfl, by decide +kernel, rfl, by decide +kernel, by decide +kernel⟩
abbrev s_check_guests : Stmt := topS 15
abbrev n_check_guests : List Str := ["guests"]
theorem sc_check_guests : FnScope n_check_guests ["guests"] (defScope s_check_guests) := ⟨rfl, rfl, rfl, by decide +kernel, rfl, by decide +kernel, by decide +kernel⟩
abbrev s_check_weight : Stmt := topS 16
abbrev n_check_weight : List Str := ["weight"]
theorem sc_check_weight : FnScope n_check_weight ["weight"] (defScope s_check_weight) := ⟨rfl, rfl, rfl, by decide +kernel, rfl, by decide +kernel, by decide +kernel⟩
abbrev s_check_guest : Stmt := topS 17
abbrev n_check_guest : List Str := ["guest", "guests"]
theorem sc_check_guest : FnScope n_check_guest ["guest", "guests"] (defScope s_check_guest) := ⟨rfl, rfl, rfl, by decide +kernel, rfl, by decide +kernel, by decide +kernel⟩
abbrev s_fraction : Stmt := topS 18
abbrev n_fraction : List Str := ["top", "bottom", "common"]
theorem sc_fraction : FnScope n_fraction ["top", "bottom"] (defScope s_fraction) := ⟨rfl, rfl, rfl, by decide +kernel, rfl, by decide +kernel, by decide +kernel⟩
abbrev s_is_seating : Stmt := topS 20
abbrev n_is_seating : List Str := ["thing"]
theorem sc_is_seating : FnScope n_is_seating ["thing"] (defScope s_is_seating) := ⟨rfl, rfl, rfl, by decide +kernel, rfl, by decide +kernel, by decide +kernel⟩
abbrev s_check_seating : Stmt := topS 21
abbrev n_check_seating : List Str := ["seating"]
theorem sc_check_seating : FnScope n_check_seating ["seating"] (defScope s_check_seating) := ⟨rfl, rfl, rfl, by decide +kernel, rfl, by decide +kernel, by decide +kernel⟩
abbrev s_is_coming : Stmt := topS 23
abbrev n_is_coming : List Str := ["thing", "guest", "item"]
theorem sc_is_coming : FnScope n_is_coming ["thing"] (defScope s_is_coming) := ⟨rfl, rfl, rfl, by decide +kernel, rfl, by decide +kernel, by decide +kernel⟩
abbrev s_coming_of : Stmt := topS 24
abbrev n_coming_of : List Str := ["seating", "rest", "items", "right"]
theorem sc_coming_of : FnScope n_coming_of ["seating"] (defScope s_coming_of) := ⟨rfl, rfl, rfl, by decide +kernel, rfl, by decide +kernel, by decide +kernel⟩
abbrev s_seating_by : Stmt := topS 25
abbrev n_seating_by : List Str := ["coming", "seating", "guest", "right"]
theorem sc_seating_by : FnScope n_seating_by ["coming"] (defScope s_seating_by) := ⟨rfl, rfl, rfl, by decide +kernel, rfl, by decide +kernel, by decide +kernel⟩
abbrev s_check_coming : Stmt := topS 26
abbrev n_check_coming : List Str := ["coming"]
theorem sc_check_coming : FnScope n_check_coming ["coming"] (defScope s_check_coming) := ⟨rfl, rfl, rfl, by decide +kernel, rfl, by decide +kernel, by decide +kernel⟩
abbrev s_without : Stmt := topS 28
abbrev n_without : List Str := ["seating", "guest"]
theorem sc_without : FnScope n_without ["seating", "guest"] (defScope s_without) := ⟨rfl, rfl, rfl, by decide +kernel, rfl, by decide +kernel, by decide +kernel⟩
abbrev s_coming_without : Stmt := topS 29
abbrev n_coming_without : List Str := ["coming", "guest"]
theorem sc_coming_without : FnScope n_coming_without ["coming", "guest"] (defScope s_coming_without) := ⟨rfl, rfl, rfl, by decide +kernel, rfl, by decide +kernel, by decide +kernel⟩
abbrev s_sits_alone : Stmt := topS 30
abbrev n_sits_alone : List Str := ["seating", "guest"]
theorem sc_sits_alone : FnScope n_sits_alone ["seating", "guest"] (defScope s_sits_alone) := ⟨rfl, rfl, rfl, by decide +kernel, rfl, by decide +kernel, by decide +kernel⟩
abbrev s_is_traceless : Stmt := topS 31
abbrev n_is_traceless : List Str := ["seating", "guest"]
theorem sc_is_traceless : FnScope n_is_traceless ["seating", "guest"] (defScope s_is_traceless) := ⟨rfl, rfl, rfl, by decide +kernel, rfl, by decide +kernel, by decide +kernel⟩
abbrev s_traceless : Stmt := topS 32
abbrev n_traceless : List Str := ["seating", "coming", "guest"]
theorem sc_traceless : FnScope n_traceless ["seating"] (defScope s_traceless) := ⟨rfl, rfl, rfl, by decide +kernel, rfl, by decide +kernel, by decide +kernel⟩
abbrev s_traceless_share : Stmt := topS 33
abbrev n_traceless_share : List Str := ["guests", "weight", "guest"]
theorem sc_traceless_share : FnScope n_traceless_share ["guests", "weight", "guest"] (defScope s_traceless_share) := ⟨rfl, rfl, rfl, by decide +kernel, rfl, by decide +kernel, by decide +kernel⟩
abbrev s_traceless_counts : Stmt := topS 34
abbrev n_traceless_counts : List Str := ["guests", "weight", "sums", "guest", "grown", "many", "part"]
theorem sc_traceless_counts : FnScope n_traceless_counts ["guests", "weight"] (defScope s_traceless_counts) := ⟨rfl, rfl, rfl, by decide +kernel, rfl, by decide +kernel, by decide +kernel⟩
abbrev s_joined : Stmt := topS 35
abbrev n_joined : List Str := ["seating", "mate", "guests", "grown"]
theorem sc_joined : FnScope n_joined ["seating", "mate"] (defScope s_joined) := ⟨rfl, rfl, rfl, by decide +kernel, rfl, by decide +kernel, by decide +kernel⟩
abbrev s_seating_without : Stmt := topS 36
abbrev n_seating_without : List Str := ["seating", "guest", "closed", "left"]
theorem sc_seating_without : FnScope n_seating_without ["seating", "guest"] (defScope s_seating_without) := ⟨rfl, rfl, rfl, by decide +kernel, rfl, by decide +kernel, by decide +kernel⟩
abbrev s_law_bag : Stmt := topS 38
abbrev n_law_bag : List Str := ["script", "stir", "cell"]
theorem sc_law_bag : FnScope n_law_bag ["script"] (defScope s_law_bag) := ⟨rfl, rfl, rfl, by decide +kernel, rfl, by decide +kernel, by decide +kernel⟩
abbrev s_law_stirred : Stmt := topS 39
abbrev n_law_stirred : List Str := ["bag", "wide", "found", "k", "mixed"]
theorem sc_law_stirred : FnScope n_law_stirred ["bag", "wide"] (defScope s_law_stirred) := ⟨rfl, rfl, rfl, by decide +kernel, rfl, by decide +kernel, by decide +kernel⟩
abbrev s_law_draw : Stmt := topS 40
abbrev n_law_draw : List Str := ["bag", "wide", "found"]
theorem sc_law_draw : FnScope n_law_draw ["bag", "wide"] (defScope s_law_draw) := ⟨rfl, rfl, rfl, by decide +kernel, rfl, by decide +kernel, by decide +kernel⟩
abbrev s_law_alike : Stmt := topS 41
abbrev n_law_alike : List Str := ["found", "due", "k"]
theorem sc_law_alike : FnScope n_law_alike ["found", "due"] (defScope s_law_alike) := ⟨rfl, rfl, rfl, by decide +kernel, rfl, by decide +kernel, by decide +kernel⟩
abbrev s_law_all : Stmt := topS 42
abbrev n_law_all : List Str := ["wide", "found", "k", "longer", "some", "c"]
theorem sc_law_all : FnScope n_law_all ["wide"] (defScope s_law_all) := ⟨rfl, rfl, rfl, by decide +kernel, rfl, by decide +kernel, by decide +kernel⟩
abbrev s_law_coming : Stmt := topS 43
abbrev n_law_coming : List Str := ["some", "here", "found", "k", "near"]
theorem sc_law_coming : FnScope n_law_coming ["some"] (defScope s_law_coming) := ⟨rfl, rfl, rfl, by decide +kernel, rfl, by decide +kernel, by decide +kernel⟩
abbrev s_law_tables : Stmt := topS 44
abbrev n_law_tables : List Str := ["some", "seen", "found", "k", "table", "x"]
theorem sc_law_tables : FnScope n_law_tables ["some"] (defScope s_law_tables) := ⟨rfl, rfl, rfl, by decide +kernel, rfl, by decide +kernel, by decide +kernel⟩
abbrev s_law_lowest : Stmt := topS 45
abbrev n_law_lowest : List Str := ["top", "bottom", "a", "b"]
theorem sc_law_lowest : FnScope n_law_lowest ["top", "bottom"] (defScope s_law_lowest) := ⟨rfl, rfl, rfl, by decide +kernel, rfl, by decide +kernel, by decide +kernel⟩
abbrev s_law_out : Stmt := topS 46
abbrev n_law_out : List Str := ["some", "k", "found", "table", "x", "rest", "spot"]
theorem sc_law_out : FnScope n_law_out ["some", "k"] (defScope s_law_out) := ⟨rfl, rfl, rfl, by decide +kernel, rfl, by decide +kernel, by decide +kernel⟩
abbrev s_law_seating_right : Stmt := topS 47
abbrev n_law_seating_right : List Str := ["some", "before", "row", "k", "c", "gone", "told", "due", "less"]
theorem sc_law_seating_right : FnScope n_law_seating_right ["some"] (defScope s_law_seating_right) := ⟨rfl, rfl, rfl, by decide +kernel, rfl, by decide +kernel, by decide +kernel⟩
abbrev s_law_joined_right : Stmt := topS 48
abbrev n_law_joined_right : List Str := ["some", "wide", "near", "told", "due"]
theorem sc_law_joined_right : FnScope n_law_joined_right ["some"] (defScope s_law_joined_right) := ⟨rfl, rfl, rfl, by decide +kernel, rfl, by decide +kernel, by decide +kernel⟩
abbrev s_law : Stmt := topS 49
abbrev n_law : List Str := ["script", "bag", "wide", "every", "turn", "some", "w", "sums", "shares", "size", "row", "table", "k", "gone", "told"]
theorem sc_law : FnScope n_law ["script"] (defScope s_law) := ⟨rfl, rfl, rfl, by decide +kernel, rfl, by decide +kernel, by decide +kernel⟩
def g_K43_kb_joined_0_mate_seating : List Value → List Value → List Value := fun us ws => match us, ws with
  | [], [b0, b1] => [b1, b0]
  | _, _ => []
def v_K43_kb_joined_0_mate_seating : List V → List V → List V := fun us ws => match us, ws with
  | [], [b0, b1] => [b1, b0]
  | _, _ => []
def g_K43_kb_coming_without_0_guest_coming : List Value → List Value → List Value := fun us ws => match us, ws with
  | [], [b0, b1] => [b1, b0]
  | _, _ => []
def v_K43_kb_coming_without_0_guest_coming : List V → List V → List V := fun us ws => match us, ws with
  | [], [b0, b1] => [b1, b0]
  | _, _ => []
def g_K43_kb_without_0_guest_seating : List Value → List Value → List Value := fun us ws => match us, ws with
  | [], [b0, b1] => [b1, b0]
  | _, _ => []
def v_K43_kb_without_0_guest_seating : List V → List V → List V := fun us ws => match us, ws with
  | [], [b0, b1] => [b1, b0]
  | _, _ => []
def g_K43_kb_sits_alone_0_guest_seating : List Value → List Value → List Value := fun us ws => match us, ws with
  | [], [b0, b1] => [b1, b0]
  | _, _ => []
def v_K43_kb_sits_alone_0_guest_seating : List V → List V → List V := fun us ws => match us, ws with
  | [], [b0, b1] => [b1, b0]
  | _, _ => []
def g_K43_kb_is_traceless_0_guest_seating : List Value → List Value → List Value := fun us ws => match us, ws with
  | [], [b0, b1] => [b1, b0]
  | _, _ => []
def v_K43_kb_is_traceless_0_guest_seating : List V → List V → List V := fun us ws => match us, ws with
  | [], [b0, b1] => [b1, b0]
  | _, _ => []
def g_K43_kb_traceless_0_seating : List Value → List Value → List Value := fun us ws => match us, ws with
  | [], [b0] => [b0]
  | _, _ => []
def v_K43_kb_traceless_0_seating : List V → List V → List V := fun us ws => match us, ws with
  | [], [b0] => [b0]
  | _, _ => []
def g_K43_kb_traceless_share_0_guest_weight_guests : List Value → List Value → List Value := fun us ws => match us, ws with
  | [], [b0, b1, b2] => [b2, b1, b0]
  | _, _ => []
def v_K43_kb_traceless_share_0_guest_weight_guests : List V → List V → List V := fun us ws => match us, ws with
  | [], [b0, b1, b2] => [b2, b1, b0]
  | _, _ => []
def g_K43_kb_traceless_counts_0_weight_guests : List Value → List Value → List Value := fun us ws => match us, ws with
  | [], [b0, b1] => [b1, b0]
  | _, _ => []
def v_K43_kb_traceless_counts_0_weight_guests : List V → List V → List V := fun us ws => match us, ws with
  | [], [b0, b1] => [b1, b0]
  | _, _ => []
/-! what the top has written -/
structure Tx (K : PySem.W.Frag) (mg : Str → Option Value) where
  f_is_whole : Addr
  d_is_whole : FuncData
  F_is_whole : Fun K "is_whole" "is_whole" s_is_whole f_is_whole d_is_whole
  g_is_whole : mg "is_whole" = some (.ref f_is_whole)
  b_is_whole : Binds K d_is_whole ["thing"] []
  f_is_within : Addr
  d_is_within : FuncData
  F_is_within : Fun K "is_within" "is_within" s_is_within f_is_within d_is_within
  g_is_within : mg "is_within" = some (.ref f_is_within)
  b_is_within : Binds K d_is_within ["thing", "least", "most"] []
  f_is_order : Addr
  d_is_order : FuncData
  F_is_order : Fun K "is_order" "is_order" s_is_order f_is_order d_is_order
  g_is_order : mg "is_order" = some (.ref f_is_order)
  b_is_order : Binds K d_is_order ["thing"] []
  f_check_guests : Addr
  d_check_guests : FuncData
  F_check_guests : Fun K "check_guests" "check_guests" s_check_guests f_check_guests d_check_guests
  g_check_guests : mg "check_guests" = some (.ref f_check_guests)
  b_check_guests : Binds K d_check_guests ["guests"] []
  f_check_weight : Addr
  d_check_weight : FuncData
  F_check_weight : Fun K "check_weight" "check_weight" s_check_weight f_check_weight d_check_weight
  g_check_weight : mg "check_weight" = some (.ref f_check_weight)
  b_check_weight : Binds K d_check_weight ["weight"] []
  f_check_guest : Addr
  d_check_guest : FuncData
  F_check_guest : Fun K "check_guest" "check_guest" s_check_guest f_check_guest d_check_guest
  g_check_guest : mg "check_guest" = some (.ref f_check_guest)
  b_check_guest : Binds K d_check_guest ["guest", "guests"] []
  f_fraction : Addr
  d_fraction : FuncData
  F_fraction : Fun K "fraction" "fraction" s_fraction f_fraction d_fraction
  g_fraction : mg "fraction" = some (.ref f_fraction)
  b_fraction : Binds K d_fraction ["top", "bottom"] []
  f_is_seating : Addr
  d_is_seating : FuncData
  F_is_seating : Fun K "is_seating" "is_seating" s_is_seating f_is_seating d_is_seating
  g_is_seating : mg "is_seating" = some (.ref f_is_seating)
  b_is_seating : Binds K d_is_seating ["thing"] []
  f_check_seating : Addr
  d_check_seating : FuncData
  F_check_seating : Fun K "check_seating" "check_seating" s_check_seating f_check_seating d_check_seating
  g_check_seating : mg "check_seating" = some (.ref f_check_seating)
  b_check_seating : Binds K d_check_seating ["seating"] []
  f_is_coming : Addr
  d_is_coming : FuncData
  F_is_coming : Fun K "is_coming" "is_coming" s_is_coming f_is_coming d_is_coming
  g_is_coming : mg "is_coming" = some (.ref f_is_coming)
  b_is_coming : Binds K d_is_coming ["thing"] []
  f_coming_of : Addr
  d_coming_of : FuncData
  F_coming_of : Fun K "coming_of" "coming_of" s_coming_of f_coming_of d_coming_of
  g_coming_of : mg "coming_of" = some (.ref f_coming_of)
  b_coming_of : Binds K d_coming_of ["seating"] []
  f_seating_by : Addr
  d_seating_by : FuncData
  F_seating_by : Fun K "seating_by" "seating_by" s_seating_by f_seating_by d_seating_by
  g_seating_by : mg "seating_by" = some (.ref f_seating_by)
  b_seating_by : Binds K d_seating_by ["coming"] []
  f_check_coming : Addr
  d_check_coming : FuncData
  F_check_coming : Fun K "check_coming" "check_coming" s_check_coming f_check_coming d_check_coming
  g_check_coming : mg "check_coming" = some (.ref f_check_coming)
  b_check_coming : Binds K d_check_coming ["coming"] []
  f_without : Addr
  d_without : FuncData
  F_without : Fun K "without" "without" s_without f_without d_without
  g_without : mg "without" = some (.ref f_without)
  b_without : Binds K d_without ["seating", "guest"] []
  f_coming_without : Addr
  d_coming_without : FuncData
  F_coming_without : Fun K "coming_without" "coming_without" s_coming_without f_coming_without d_coming_without
  g_coming_without : mg "coming_without" = some (.ref f_coming_without)
  b_coming_without : Binds K d_coming_without ["coming", "guest"] []
  f_sits_alone : Addr
  d_sits_alone : FuncData
  F_sits_alone : Fun K "sits_alone" "sits_alone" s_sits_alone f_sits_alone d_sits_alone
  g_sits_alone : mg "sits_alone" = some (.ref f_sits_alone)
  b_sits_alone : Binds K d_sits_alone ["seating", "guest"] []
  f_is_traceless : Addr
  d_is_traceless : FuncData
  F_is_traceless : Fun K "is_traceless" "is_traceless" s_is_traceless f_is_traceless d_is_traceless
  g_is_traceless : mg "is_traceless" = some (.ref f_is_traceless)
  b_is_traceless : Binds K d_is_traceless ["seating", "guest"] []
  f_traceless : Addr
  d_traceless : FuncData
  F_traceless : Fun K "traceless" "traceless" s_traceless f_traceless d_traceless
  g_traceless : mg "traceless" = some (.ref f_traceless)
  b_traceless : Binds K d_traceless ["seating"] []
  f_traceless_share : Addr
  d_traceless_share : FuncData
  F_traceless_share : Fun K "traceless_share" "traceless_share" s_traceless_share f_traceless_share d_traceless_share
  g_traceless_share : mg "traceless_share" = some (.ref f_traceless_share)
  b_traceless_share : Binds K d_traceless_share ["guests", "weight", "guest"] []
  f_traceless_counts : Addr
  d_traceless_counts : FuncData
  F_traceless_counts : Fun K "traceless_counts" "traceless_counts" s_traceless_counts f_traceless_counts d_traceless_counts
  g_traceless_counts : mg "traceless_counts" = some (.ref f_traceless_counts)
  b_traceless_counts : Binds K d_traceless_counts ["guests", "weight"] []
  f_joined : Addr
  d_joined : FuncData
  F_joined : Fun K "joined" "joined" s_joined f_joined d_joined
  g_joined : mg "joined" = some (.ref f_joined)
  b_joined : Binds K d_joined ["seating", "mate"] []
  f_seating_without : Addr
  d_seating_without : FuncData
  F_seating_without : Fun K "seating_without" "seating_without" s_seating_without f_seating_without d_seating_without
  g_seating_without : mg "seating_without" = some (.ref f_seating_without)
  b_seating_without : Binds K d_seating_without ["seating", "guest"] []
  f_law_bag : Addr
  d_law_bag : FuncData
  F_law_bag : Fun K "_law_bag" "_law_bag" s_law_bag f_law_bag d_law_bag
  g_law_bag : mg "_law_bag" = some (.ref f_law_bag)
  b_law_bag : Binds K d_law_bag ["script"] []
  f_law_stirred : Addr
  d_law_stirred : FuncData
  F_law_stirred : Fun K "_law_stirred" "_law_stirred" s_law_stirred f_law_stirred d_law_stirred
  g_law_stirred : mg "_law_stirred" = some (.ref f_law_stirred)
  b_law_stirred : Binds K d_law_stirred ["bag", "wide"] []
  f_law_draw : Addr
  d_law_draw : FuncData
  F_law_draw : Fun K "_law_draw" "_law_draw" s_law_draw f_law_draw d_law_draw
  g_law_draw : mg "_law_draw" = some (.ref f_law_draw)
  b_law_draw : Binds K d_law_draw ["bag", "wide"] []
  f_law_alike : Addr
  d_law_alike : FuncData
  F_law_alike : Fun K "_law_alike" "_law_alike" s_law_alike f_law_alike d_law_alike
  g_law_alike : mg "_law_alike" = some (.ref f_law_alike)
  b_law_alike : Binds K d_law_alike ["found", "due"] []
  f_law_all : Addr
  d_law_all : FuncData
  F_law_all : Fun K "_law_all" "_law_all" s_law_all f_law_all d_law_all
  g_law_all : mg "_law_all" = some (.ref f_law_all)
  b_law_all : Binds K d_law_all ["wide"] []
  f_law_coming : Addr
  d_law_coming : FuncData
  F_law_coming : Fun K "_law_coming" "_law_coming" s_law_coming f_law_coming d_law_coming
  g_law_coming : mg "_law_coming" = some (.ref f_law_coming)
  b_law_coming : Binds K d_law_coming ["some"] []
  f_law_tables : Addr
  d_law_tables : FuncData
  F_law_tables : Fun K "_law_tables" "_law_tables" s_law_tables f_law_tables d_law_tables
  g_law_tables : mg "_law_tables" = some (.ref f_law_tables)
  b_law_tables : Binds K d_law_tables ["some"] []
  f_law_lowest : Addr
  d_law_lowest : FuncData
  F_law_lowest : Fun K "_law_lowest" "_law_lowest" s_law_lowest f_law_lowest d_law_lowest
  g_law_lowest : mg "_law_lowest" = some (.ref f_law_lowest)
  b_law_lowest : Binds K d_law_lowest ["top", "bottom"] []
  f_law_out : Addr
  d_law_out : FuncData
  F_law_out : Fun K "_law_out" "_law_out" s_law_out f_law_out d_law_out
  g_law_out : mg "_law_out" = some (.ref f_law_out)
  b_law_out : Binds K d_law_out ["some", "k"] []
  f_law_seating_right : Addr
  d_law_seating_right : FuncData
  F_law_seating_right : Fun K "_law_seating_right" "_law_seating_right" s_law_seating_right f_law_seating_right d_law_seating_right
  g_law_seating_right : mg "_law_seating_right" = some (.ref f_law_seating_right)
  b_law_seating_right : Binds K d_law_seating_right ["some"] []
  f_law_joined_right : Addr
  d_law_joined_right : FuncData
  F_law_joined_right : Fun K "_law_joined_right" "_law_joined_right" s_law_joined_right f_law_joined_right d_law_joined_right
  g_law_joined_right : mg "_law_joined_right" = some (.ref f_law_joined_right)
  b_law_joined_right : Binds K d_law_joined_right ["some"] []
  f_law : Addr
  d_law : FuncData
  F_law : Fun K "law" "law" s_law f_law d_law
  g_law : mg "law" = some (.ref f_law)
  b_law : Binds K d_law ["script"] []
  m_abs : mg "abs" = none
  m_all : mg "all" = none
  m_bool : mg "bool" = none
  m_enumerate : mg "enumerate" = none
  m_int : mg "int" = none
  m_isinstance : mg "isinstance" = none
  m_len : mg "len" = none
  m_list : mg "list" = none
  m_range : mg "range" = none
  m_sorted : mg "sorted" = none
  m_str : mg "str" = none
  m_sum : mg "sum" = none
  m_tuple : mg "tuple" = none
  m_type : mg "type" = none
  c_MOST_GUESTS : ∃ u, mg "MOST_GUESTS" = some u ∧ RelV (.int 20) u
  c_MOST_WEIGHT : ∃ u, mg "MOST_WEIGHT" = some u ∧ RelV (.int 1000000000000) u
  i_gcd : mg "gcd" = some (.builtin "math.gcd")
  kb_joined_0_mate_seating : KBinds K d_joined ["seating", "mate"] ["mate", "seating"] g_K43_kb_joined_0_mate_seating v_K43_kb_joined_0_mate_seating
  kb_coming_without_0_guest_coming : KBinds K d_coming_without ["coming", "guest"] ["guest", "coming"] g_K43_kb_coming_without_0_guest_coming v_K43_kb_coming_without_0_guest_coming
  kb_without_0_guest_seating : KBinds K d_without ["seating", "guest"] ["guest", "seating"] g_K43_kb_without_0_guest_seating v_K43_kb_without_0_guest_seating
  kb_sits_alone_0_guest_seating : KBinds K d_sits_alone ["seating", "guest"] ["guest", "seating"] g_K43_kb_sits_alone_0_guest_seating v_K43_kb_sits_alone_0_guest_seating
  kb_is_traceless_0_guest_seating : KBinds K d_is_traceless ["seating", "guest"] ["guest", "seating"] g_K43_kb_is_traceless_0_guest_seating v_K43_kb_is_traceless_0_guest_seating
  kb_traceless_0_seating : KBinds K d_traceless ["seating"] ["seating"] g_K43_kb_traceless_0_seating v_K43_kb_traceless_0_seating
  kb_traceless_share_0_guest_weight_guests : KBinds K d_traceless_share ["guests", "weight", "guest"] ["guest", "weight", "guests"] g_K43_kb_traceless_share_0_guest_weight_guests v_K43_kb_traceless_share_0_guest_weight_guests
  kb_traceless_counts_0_weight_guests : KBinds K d_traceless_counts ["guests", "weight"] ["weight", "guests"] g_K43_kb_traceless_counts_0_weight_guests v_K43_kb_traceless_counts_0_weight_guests
/-! readings that go by themselves -/
local macro_rules | `(tactic| walk_at "side") => `(tactic| first | with_reducible assumption | with_reducible rfl | omega | decide | (constructor <;> first | assumption | omega | decide))
local macro_rules | `(tactic| walk_at "ev") => `(tactic| first
  | ((with_reducible refine' ev_var ?e1); (case e1 => rfl))
  | (with_reducible exact ev_c)
  | ((with_reducible refine' ev_op ?e1 ?e2 rv_I0); (case e1 => walk_at "ev"); (case e2 => walk_at "ev"))
  | ((with_reducible refine' ev_op ?e1 ?e2 (rv_I ?e3)); (case e1 => walk_at "ev"); (case e2 => walk_at "ev"); (case e3 => walk_at "side"))
  | ((with_reducible refine' ev_op ?e1 ?e2 (rv_eq ?e3)); (case e1 => walk_at "ev"); (case e2 => walk_at "ev"); (case e3 => rfl))
  | ((with_reducible refine' ev_op ?e1 ?e2 (rv_ne ?e3)); (case e1 => walk_at "ev"); (case e2 => walk_at "ev"); (case e3 => rfl))
  | ((with_reducible refine' ev_op ?e1 ?e2 (rv_ixL ?e3 ?e4)); (case e1 => walk_at "ev"); (case e2 => walk_at "ev"); (case e3 => walk_at "sq"); (case e4 => walk_at "at"))
  | ((with_reducible refine' ev_op ?e1 ?e2 (rv_ixT ?e3 ?e4)); (case e1 => walk_at "ev"); (case e2 => walk_at "ev"); (case e3 => walk_at "sq"); (case e4 => walk_at "at"))
  | ((with_reducible refine' ev_op ?e1 ?e2 rv_isN); (case e1 => walk_at "ev"); (case e2 => walk_at "ev"))
  | ((with_reducible refine' ev_op ?e1 ?e2 rv_notN); (case e1 => walk_at "ev"); (case e2 => walk_at "ev"))
  | ((with_reducible refine' ev_op ?e1 ?e2 (rv_eqTy ?e3 ?e4)); (case e1 => walk_at "ev"); (case e2 => walk_at "ev"); (case e3 => exact PySem.TypeEq.meta_int); (case e4 => exact PySem.TypeEq.meta_int))
  | ((with_reducible refine' ev_un ?e1 ru_neg); (case e1 => walk_at "ev"))
  | ((with_reducible refine' ev_intI ?e1); (case e1 => walk_at "ev"))
  | ((with_reducible refine' ev_intB ?e1); (case e1 => walk_at "ev"))
  | ((with_reducible refine' ev_typeI ?e1); (case e1 => walk_at "ev"))
  | ((with_reducible refine' ev_abs ?e1); (case e1 => walk_at "ev"))
  | ((with_reducible refine' ev_max2 ?e1 ?e2); (case e1 => walk_at "ev"); (case e2 => walk_at "ev"))
  | ((with_reducible refine' ev_min2 ?e1 ?e2); (case e1 => walk_at "ev"); (case e2 => walk_at "ev"))
  | ((with_reducible refine' ev_gcd ?e1 ?e2); (case e1 => walk_at "ev"); (case e2 => walk_at "ev"))
  | ((with_reducible refine' ev_len ?e1 ?e2); (case e1 => walk_at "ev"); (case e2 => walk_at "sq"))
  | ((with_reducible refine' ev_chainI ?e1 ?e2 ?e3); (case e1 => walk_at "ev"); (case e2 => walk_at "ev"); (case e3 => walk_at "ev"))
  | ((with_reducible refine' ev_chain3I ?e1 ?e2 ?e3 ?e4); (case e1 => walk_at "ev"); (case e2 => walk_at "ev"); (case e3 => walk_at "ev"); (case e4 => walk_at "ev"))
  | ((with_reducible refine' ev_notV ?e1); (case e1 => walk_at "ev"))
  | ((with_reducible refine' ev_andV ?e1 ?e2); (case e1 => walk_at "ev"); (case e2 => (intro _; walk_at "ev")))
  | ((with_reducible refine' ev_orV ?e1 ?e2); (case e1 => walk_at "ev"); (case e2 => (intro _; walk_at "ev")))
  | ((with_reducible refine' ev_if ?e1 ?e2 ?e3); (case e1 => walk_at "et"); (case e2 => (intro _; walk_at "ev")); (case e3 => (intro _; walk_at "ev")))
  | ((with_reducible refine' ev_call ?e1 ?e2); (case e1 => walk_at "ea"); (case e2 => walk_at "call")))
local macro_rules | `(tactic| walk_at "ea") => `(tactic| first
  | (with_reducible exact ea_nil)
  | ((with_reducible refine' ea_cons ?e1 ?e2); (case e1 => walk_at "ev"); (case e2 => walk_at "ea")))
local macro_rules | `(tactic| walk_at "et") => `(tactic| first
  | ((with_reducible refine' et_test ?e1); (case e1 => walk_at "ev"))
  | ((with_reducible refine' et_B ?e1); (case e1 => walk_at "ev"))
  | ((with_reducible refine' et_not ?e1); (case e1 => walk_at "et"))
  | ((with_reducible refine' et_and ?e1 ?e2); (case e1 => walk_at "et"); (case e2 => (intro _; walk_at "et")))
  | ((with_reducible refine' et_or ?e1 ?e2); (case e1 => walk_at "et"); (case e2 => (intro _; walk_at "et"))))
local macro_rules | `(tactic| walk_at "eu") => `(tactic| first
  | ((with_reducible refine' eu_tup ?e1 ?e2); (case e1 => walk_at "ea"); (case e2 => exact Nat.le_of_ble_eq_true rfl))
  | ((with_reducible refine' eu_call ?e1 ?e2); (case e1 => walk_at "ea"); (case e2 => walk_at "callU")))
local macro_rules | `(tactic| walk_at "el") => `(tactic| first
  | ((with_reducible refine' el_call ?e1 ?e2); (case e1 => walk_at "ea"); (case e2 => walk_at "callL"))
  | ((with_reducible refine' el_lst ?e1 ?e2); (case e1 => walk_at "ea"); (case e2 => exact Nat.le_of_ble_eq_true rfl)))
local macro_rules | `(tactic| walk_at "sq") => `(tactic| first | assumption | exact sq_of (by assumption) | exact st_of (by assumption))
local macro_rules | `(tactic| walk_at "at") => `(tactic| first | assumption | rfl | (apply atI_nat; rfl))
local macro_rules | `(tactic| walk_at "call") => `(tactic| assumption)

/-! ### _law_alike -/
def sp_law_alike (n : Nat) : Sp := fun vs H Q _ => ∃ (v w : V) (d : PyData), vs = [v, w] ∧ Tk n H v d ∧ Tk n H w d ∧ RetV (.bl true) H Q
def sp_alikeB : Nat → Sp
  | 0 => fun _ _ _ _ => False
  | n + 1 => sp_law_alike n
theorem sv_alike {n : Nat} {H : Hp} {v w : V} {d : PyData} (hv : Tk n H v d) (hw : Tk n H w d) : SpV (sp_law_alike n) ([v, w] ++ []) H (.bl true) := fun H1 e Q q E => ⟨v, w, d, rfl, hv.ex e, hw.ex e, q⟩
theorem given_true (n : Nat) : given n (fun _ => true) (fun _ => V.bl true) = (List.replicate n true).map V.bl := by
  unfold given
  rw [List.filter_eq_self.mpr (fun _ _ => rfl), List.map_replicate]
  refine List.ext_getElem? fun i => ?_
  rw [List.getElem?_map, List.getElem?_replicate]
  by_cases h : i < n
  · rw [List.getElem?_range h, if_pos h]
    rfl
  · rw [List.getElem?_eq_none (by simpa using h), if_neg h]
    rfl
theorem all_true (n : Nat) : (List.replicate n true).all id = true := by
  rw [List.all_eq_true]
  intro x hx
  rw [(List.mem_replicate.mp hx).2]
  rfl
section
variable {P : Program} {w : World} {K : PySem.W.Frag} {mg : Str → Option Value} {base : Heap}
theorem alike_step (T : Tx K mg) (n k : Nat) (ih : FnOk P w K mg base CX0 k T.f_law_alike T.d_law_alike ["found", "due"] (sp_alikeB n)) : FnOk P w K mg base CX0 (k + 1) T.f_law_alike T.d_law_alike ["found", "due"] (sp_law_alike n) := by
  refine T.F_law_alike.ok sc_law_alike (fun vs H Q E h => ?_) (fun cdv A outer s H vs Q E hr h => ?_)
  · obtain ⟨v, w, d, rfl, _⟩ := h
    rfl
  · obtain ⟨v, u, d, rfl, hv, hu, kk⟩ := h
    refine ⟨_, (pss_cons (ps_if (pt_val (pe_callB call_isiT (by rfl) T.m_isinstance (by decide +kernel) (pa_cons (pv 1) (pa_cons (pe_tup (pa_cons (pe_bltn (v := .ty "list") (by rfl) T.m_list (by decide +kernel) rfl) (pa_cons (pe_bltn (v := .ty "tuple") (by rfl) T.m_tuple (by decide +kernel) rfl) pa_nil))) pa_nil)))) (pss_cons (ps_if (PW.pt (pw_or (pt_not (pt_val (pe_callB call_isiT (by rfl) T.m_isinstance (by decide +kernel) (pa_cons (pv 0) (pa_cons (pe_tup (pa_cons (pe_bltn (v := .ty "list") (by rfl) T.m_list (by decide +kernel) rfl) (pa_cons (pe_bltn (v := .ty "tuple") (by rfl) T.m_tuple (by decide +kernel) rfl) pa_nil))) pa_nil))))) (pw_or1 (pt_cmpR op_ne (pe_callB call_isi (by rfl) T.m_isinstance (by decide +kernel) (pa_cons (pv 0) (pa_cons (pe_bltn (v := .ty "list") (by rfl) T.m_list (by decide +kernel) rfl) pa_nil))) (pe_callB call_isi (by rfl) T.m_isinstance (by decide +kernel) (pa_cons (pv 1) (pa_cons (pe_bltn (v := .ty "list") (by rfl) T.m_list (by decide +kernel) rfl) pa_nil))) (nomark _))))) (pss_one (ps_ret pe_bl)) pss_nil)
      (pss_cons (ps_if (pt_cmpR op_ne (pe_callB call_lenR (by rfl) T.m_len (by decide +kernel) (pa_cons (pv 0) pa_nil)) (pe_callB call_lenR (by rfl) T.m_len (by decide +kernel) (pa_cons (pv 1) pa_nil)) (nomark _)) (pss_one (ps_ret pe_bl)) pss_nil)
      (pss_one (ps_ret (pe_callB (cr_all rfl) (by rfl) T.m_all (by decide +kernel) (pa_cons (pe_lc (own := [("k", 2)]) (g := (gName 2)) (tt := tYes) rfl sc_law_alike.nd (pi_range1 (by rfl) T.m_range (pa_cons (pe_callB (id := "len") (r := rLenS K) call_lenR (by rfl) T.m_len (by decide +kernel) (pa_cons (pv 1) pa_nil)) pa_nil)) (blkOk_by (own := [("k", 2)]) (N := n_law_alike) (sc := defScope s_law_alike) (by decide +kernel)) (fun _ _ _ _ _ => (pg_name (i := 2) sc_law_alike.nd rfl (Or.inl rfl))) (fun _ _ _ _ _ => pts_nil) (fun _ _ _ _ _ => (pe_call ih hr (by rfl) T.g_law_alike T.F_law_alike.kp T.b_law_alike .nil pass0 (pa_cons (pe_ix (r := rIx K) ix_seq (pv 0) (pv 2) (fun _ _ => rfl)) (pa_cons (pe_ix (r := rIx K) ix_seq (pv 1) (pv 2) (fun _ _ => rfl)) pa_nil))))) pa_nil)))))) pss_nil)
      (pss_cons (ps_if (PW.pt (pw_or (pt_cmpR op_ne (pe_callB call_isi (by rfl) T.m_isinstance (by decide +kernel) (pa_cons (pv 0) (pa_cons (pe_bltn (v := .ty "bool") (by rfl) T.m_bool (by decide +kernel) rfl) pa_nil))) (pe_callB call_isi (by rfl) T.m_isinstance (by decide +kernel) (pa_cons (pv 1) (pa_cons (pe_bltn (v := .ty "bool") (by rfl) T.m_bool (by decide +kernel) rfl) pa_nil))) (nomark _)) (pw_or1 (pt_cmpR op_ne (pe_callB call_isi (by rfl) T.m_isinstance (by decide +kernel) (pa_cons (pv 0) (pa_cons (pe_bltn (v := .ty "int") (by rfl) T.m_int (by decide +kernel) rfl) pa_nil))) (pe_callB call_isi (by rfl) T.m_isinstance (by decide +kernel) (pa_cons (pv 1) (pa_cons (pe_bltn (v := .ty "int") (by rfl) T.m_int (by decide +kernel) rfl) pa_nil))) (nomark _))))) (pss_one (ps_ret pe_bl)) pss_nil)
      (pss_one (ps_ret (pe_and (pe_cmpR op_eq (pe_callB call_isi (by rfl) T.m_isinstance (by decide +kernel) (pa_cons (pv 0) (pa_cons (pe_bltn (v := .ty "str") (by rfl) T.m_str (by decide +kernel) rfl) pa_nil))) (pe_callB call_isi (by rfl) T.m_isinstance (by decide +kernel) (pa_cons (pv 1) (pa_cons (pe_bltn (v := .ty "str") (by rfl) T.m_str (by decide +kernel) rfl) pa_nil))) (nomark _)) (pe_one (pe_cmpR (op_eqD hr.units) (pv 0) (pv 1) (nomark _)))))))), ?_⟩
    have seqs : ∀ {xs ys : List V} {ds : List PyData} {m : Nat}, n = m + 1 → Paired (Tk m H) xs ds → Paired (Tk m H) ys ds → xs.length ≤ 40000 → ∀ (ta tb : TE) (σ : L2.St) (H1 : Hp) (hw : ∀ x, wipe ((wipe σ [2]).set 2 (some x)) [2] = wipe σ [2]), Ex H H1 → Ev (tCB (rLenS K) (tCons (tVar 1) tNil)) σ H1 (.int (ds.length : Int)) →
        (∀ (i : Nat) (x y : V) (H2 : Hp), Ex H1 H2 → xs[i]? = some x → ys[i]? = some y → Ev ta ((wipe σ [2]).set 2 (some (.int (i : Int)))) H2 x ∧ Ev tb ((wipe σ [2]).set 2 (some (.int (i : Int)))) H2 y) →
        Ev (tCB (rAll K) (tCons (tLc (iRng1 (tCons (tCB (rLenS K) (tCons (tVar 1) tNil)) tNil)) (gName 2) tYes (tCall (sp_alikeB n) [] E0 (tCons ta (tCons tb tNil))) [2]) tNil)) σ H1 (.bl true) := by
      intro xs ys ds m en hx hy hz ta tb σ H1 hw e1 hlen hit
      have xl : xs.length = ds.length := Paired.length hx
      have yl : ys.length = ds.length := Paired.length hy
      have el := el_lcR1 (te := tCall (sp_alikeB n) [] E0 (tCons ta (tCons tb tNil))) (t := tYes) (j := 2) (vs := [2]) (σ := σ) (H := H1) (n := (ds.length : Int)) (fun _ => true) (fun _ => .bl true) (ea_cons hlen ea_nil) (by omega) hw (fun _ _ _ _ => et_yes) fun i H2 e2 hi _ => ?_
      · rw [Int.toNat_natCast, given_true] at el
        exact ev_is (ev_allN el) (by rw [all_true])
      · have hi' : i < ds.length := by omega
        obtain ⟨a, ha⟩ : ∃ a, xs[i]? = some a := ⟨_, List.getElem?_eq_getElem (by omega)⟩
        obtain ⟨b, hb⟩ : ∃ b, ys[i]? = some b := ⟨_, List.getElem?_eq_getElem (by omega)⟩
        obtain ⟨c, hc, pa⟩ := paired_get hx ha
        obtain ⟨c', hc', pb⟩ := paired_get hy hb
        rw [hc] at hc'
        cases hc'
        obtain ⟨e3, e4⟩ := hit i a b H2 e2 ha hb
        refine ev_call (ea_cons e3 (ea_cons e4 ea_nil)) ?_
        rw [en]
        exact sv_alike (pa.ex (e1.trans e2)) (pb.ex (e1.trans e2))
    cases hs : isSeq d with
    | false =>
      have fv := tk_flat hv hs
      have fu := tk_flat hu hs
      have sd : SeqAt.shaped d = true := by cases fv <;> simp [SeqAt.shaped, PyData.canLay0, PyData.depth, *]
      refine q_when (b := false) (et_is (et_B (ev_isSeq (ev_var rfl) hu)) hs) (fun hb => Bool.noConfusion hb) fun _ H1 e1 => ?_
      refine q_when (b := false) (et_is (et_or (et_test (ev_op (ev_isBo (ev_var rfl) (hv.ex e1)) (ev_isBo (ev_var rfl) (hu.ex e1)) (rv_ne rfl))) fun _ => et_test (ev_op (ev_isIt (ev_var rfl) (hv.ex e1)) (ev_isIt (ev_var rfl) (hu.ex e1)) (rv_ne rfl))) (by simp)) (fun hb => Bool.noConfusion hb) fun _ H2 e2 => ?_
      have e12 := e1.trans e2
      exact s_ret (v := .bl true) (ev_is (ev_andV (ev_op (ev_isSt (ev_var rfl) (hv.ex e12)) (ev_isSt (ev_var rfl) (hu.ex e12)) (rv_eq rfl)) fun _ => ev_eqD (K := K) (ed_of (ev_var rfl) (flat_dp fv)) (ed_of (ev_var rfl) (flat_dp fu)) sd sd) (by rw [eqv_same sd]; simp)) fun H3 e3 => kk H3 (e12.trans e3)
    | true =>
      refine q_when (b := true) (et_is (et_B (ev_isSeq (ev_var rfl) hu)) hs) (fun _ H1 e1 => ?_) fun hb => Bool.noConfusion hb
      refine q_when (b := false) (et_is (et_or (et_is (et_not (et_B (ev_isSeq (ev_var rfl) (hv.ex e1)))) (show (!isSeq d) = false by rw [hs]; rfl)) fun _ => et_test (ev_op (ev_isLs (ev_var rfl) (hv.ex e1)) (ev_isLs (ev_var rfl) (hu.ex e1)) (rv_ne rfl))) (by simp)) (fun hb => Bool.noConfusion hb) fun _ H2 e2 => ?_
      have e12 := e1.trans e2
      obtain ⟨m, en, hv'⟩ := tk_seq hv hs
      obtain ⟨m', en', hu'⟩ := tk_seq hu hs
      obtain rfl : m' = m := by omega
      rcases hv' with ⟨a, xs, ds, rfl, rfl, ha, hz, hx⟩ | ⟨a, xs, ds, rfl, rfl, ha, hz, hx⟩
      · rcases hu' with ⟨b, ys, ds', rfl, ed, hb, hzb, hy⟩ | ⟨b, ys, ds', rfl, ed, hb, hzb, hy⟩
        · cases ed
          have xl : xs.length = ds.length := Paired.length hx
          have yl : ys.length = ds.length := Paired.length hy
          have lv : ∀ H3, Ex H H3 → Ev (tCB (rLenS K) (tCons (tVar 0) tNil)) (start n_law_alike [.ref a, .ref b]) H3 (.int (ds.length : Int)) := fun H3 e => ev_is (ev_len (K := K) (ev_var (i := 0) rfl) (sq_of (e a _ ha))) (by rw [xl])
          have lu : ∀ H3, Ex H H3 → Ev (tCB (rLenS K) (tCons (tVar 1) tNil)) (start n_law_alike [.ref a, .ref b]) H3 (.int (ds.length : Int)) := fun H3 e => ev_is (ev_len (K := K) (ev_var (i := 1) rfl) (sq_of (e b _ hb))) (by rw [yl])
          refine q_when (b := false) (et_is (et_test (ev_op (lv H2 e12) (lu H2 e12) (rv_ne rfl))) (by simp)) (fun hb => Bool.noConfusion hb) fun _ H3 e3 => ?_
          have e13 := e12.trans e3
          refine s_ret (v := .bl true) (seqs en hx hy hz _ _ _ H3 (fun _ => rfl) e13 (lu H3 e13) fun i x y H4 e4 hxi hyi => ⟨ev_op (ev_var rfl) (ev_var rfl) (rv_ixQL (sq_of ((e13.trans e4) a _ ha)) (atI_nat hxi)), ev_op (ev_var rfl) (ev_var rfl) (rv_ixQL (sq_of ((e13.trans e4) b _ hb)) (atI_nat hyi))⟩) fun H4 e4 => kk H4 (e13.trans e4)
        · cases ed
      · rcases hu' with ⟨b, ys, ds', rfl, ed, hb, hzb, hy⟩ | ⟨b, ys, ds', rfl, ed, hb, hzb, hy⟩
        · cases ed
        · cases ed
          have xl : xs.length = ds.length := Paired.length hx
          have yl : ys.length = ds.length := Paired.length hy
          have lv : ∀ H3, Ex H H3 → Ev (tCB (rLenS K) (tCons (tVar 0) tNil)) (start n_law_alike [.ref a, .ref b]) H3 (.int (ds.length : Int)) := fun H3 e => ev_is (ev_lenT (K := K) (ev_var (i := 0) rfl) (st_of (e a _ ha))) (by rw [xl])
          have lu : ∀ H3, Ex H H3 → Ev (tCB (rLenS K) (tCons (tVar 1) tNil)) (start n_law_alike [.ref a, .ref b]) H3 (.int (ds.length : Int)) := fun H3 e => ev_is (ev_lenT (K := K) (ev_var (i := 1) rfl) (st_of (e b _ hb))) (by rw [yl])
          refine q_when (b := false) (et_is (et_test (ev_op (lv H2 e12) (lu H2 e12) (rv_ne rfl))) (by simp)) (fun hb => Bool.noConfusion hb) fun _ H3 e3 => ?_
          have e13 := e12.trans e3
          refine s_ret (v := .bl true) (seqs en hx hy hz _ _ _ H3 (fun _ => rfl) e13 (lu H3 e13) fun i x y H4 e4 hxi hyi => ⟨ev_op (ev_var rfl) (ev_var rfl) (rv_ixQT (st_of ((e13.trans e4) a _ ha)) (atI_nat hxi)), ev_op (ev_var rfl) (ev_var rfl) (rv_ixQT (st_of ((e13.trans e4) b _ hb)) (atI_nat hyi))⟩) fun H4 e4 => kk H4 (e13.trans e4)
theorem alike_at (T : Tx K mg) : ∀ n, FnOk P w K mg base CX0 (n + 1) T.f_law_alike T.d_law_alike ["found", "due"] (sp_law_alike n)
  | 0 => alike_step T 0 0 ⟨fun _ _ _ _ h => h.elim, fun _ _ _ _ _ _ _ _ _ _ _ _ _ h => h.elim⟩
  | n + 1 => alike_step T (n + 1) (n + 1) (alike_at T n)
theorem ok_law_alike (T : Tx K mg) : FnOk P w K mg base CX0 5 T.f_law_alike T.d_law_alike ["found", "due"] (sp_law_alike 4) := alike_at T 4
end
section
variable {σ : L2.St} {H : Hp} {ta tb : TE}
theorem ev_alike {n : Nat} {E : XK} {d e : PyData} (h : EvK n ta σ H d) (h2 : EvK n tb σ H e) (q : d = e) : Ev (tCall (sp_law_alike n) [] E (tCons ta (tCons tb tNil))) σ H (.bl true) := fun H1 e1 Q k => h H1 e1 _ fun v H2 e2 hv => h2 H2 (e1.trans e2) _ fun w H3 e3 hw => by
  subst q
  exact ⟨v, w, d, rfl, hv.ex e3, hw, fun H4 e4 => k H4 (e2.trans (e3.trans e4))⟩
end



/-! ### the bag -/
/-- H without p -/
def Hm (p : Addr) (H : Hp) : Hp := fun b => if b = p then none else H b
theorem hm_p {p : Addr} {H : Hp} : Hm p H p = none := if_pos rfl
theorem hm_sub {p : Addr} {H : Hp} : Ex (Hm p H) H := fun a o h => by
  unfold Hm at h
  split at h
  · cases h
  · exact h
theorem hm_mono {p : Addr} {H H' : Hp} (e : Ex H H') : Ex (Hm p H) (Hm p H') := fun a o h => by
  unfold Hm at h ⊢
  split at h
  · cases h
  · rename_i ne
    rw [if_neg ne]
    exact e a o h
theorem ex_hm {p : Addr} {H0 H : Hp} (e : Ex H0 H) (h : H0 p = none) : Ex H0 (Hm p H) := fun a o ha => by
  unfold Hm
  rw [if_neg (ne_of_none ha h)]
  exact e a o ha
/-- a bag after at most n draws -/
def Po (p l : Addr) (n : Nat) (H : Hp) : Prop := ∃ (ns : List Int) (i c s t : Int), H p = some (.lst [.ref l, .int i, .int c, .int s, .int t]) ∧ H l = some (.lst (ns.map V.int)) ∧ l ≠ p ∧ (0 ≤ i ∧ (∀ z ∈ ns, 0 ≤ z) ∧ 0 ≤ c) ∧ (0 ≤ s ∧ s < 2147483647) ∧ 0 ≤ t ∧ t ≤ 10 * n
theorem Po.ex {p l : Addr} {n : Nat} {H H' : Hp} (h : Po p l n H) (e : Ex H H') : Po p l n H' := by
  obtain ⟨ns, i, c, s, t, h1, h2, h3⟩ := h
  exact ⟨ns, i, c, s, t, e p _ h1, e l _ h2, h3⟩
theorem Po.mono {p l : Addr} {n m : Nat} {H : Hp} (h : Po p l n H) (e : n ≤ m) : Po p l m H := by
  obtain ⟨ns, i, c, s, t, h1, h2, h3, h4, h5, h6, h7⟩ := h
  exact ⟨ns, i, c, s, t, h1, h2, h3, h4, h5, h6, by omega⟩
theorem ev_bits {σ : L2.St} {H : Hp} {ta : TE} {i : Int} (h : Ev ta σ H (.int i)) : Ev (tBits ta) σ H (.int ((Builtin.Int.intBits i : Nat) : Int)) := fun H1 e Q q => h H1 e _ fun H2 e2 => ⟨i, rfl, q H2 e2⟩
def fI (f : Int → Int) : V → V
  | .int c => .int (f c)
  | _ => .non
theorem map_fI (f : Int → Int) (ns : List Int) : (ns.map V.int).map (fI f) = (ns.map f).map V.int := by
  rw [List.map_map, List.map_map]
  rfl
theorem s_retC {σ : L2.St} {H : Hp} {t : TA} {sp : Sp} {E : XK} {D : Ends} {vs : List V} (h : EvA t σ H vs) (k : ∀ H1, Ex H H1 → sp (vs ++ []) H1 D.rt E) : tRet (tCall sp [] E t) D σ H := h H (Ex.refl H) _ k
theorem s_retLL {σ : L2.St} {H : Hp} {te : TE} {tr : TA} {D : Ends} {xs ys : List V} (h : EvL te σ H xs) (hr : ∀ H1, Ex H H1 → EvA tr σ H1 ys) (hz : ys.length < 1000) (k : ∀ p l H1, H p = none → H l = none → l ≠ p → Ex H H1 → H1 l = some (.lst xs) → H1 p = some (.lst (.ref l :: ys)) → D.rt (.ref p) H1) : tRet (tLst (tCons te tr)) D σ H :=
  h H (Ex.refl H) _ fun l H1 nl e1 hl => hr H1 e1 H1 (Ex.refl _) _ fun H2 e2 => ⟨sz_of (by rw [List.length_cons]; omega), fun p hp =>
    k p l _ (fresh_back (e1.trans e2) hp) nl (fun z => by
      rw [← z, e2 l _ hl] at hp
      cases hp) ((e1.trans e2).trans (Ex.new hp)) (Ex.new hp l _ (e2 l _ hl)) upd_same⟩
theorem pow3_ok {i : Int} (h : i.natAbs < 2 ^ 250) : CPowX i 3 := by
  have := PyProof.Rows.intBits_le h
  unfold CPowX
  omega
theorem divw_ok {i j : Int} (h : 0 < j) (hb : j < 2 ^ 200) : CDivW i j := wide_div (b := 200) h (by omega) (by decide) (by decide)
theorem mulk_ok {i j : Int} (h : i.natAbs < 2 ^ 100000) (hb : j.natAbs < 2 ^ 100000) : CMulX i j := mulx_ok h hb (by decide)
def sp_law_bag (K : PySem.W.Frag) : Sp := fun vs H Q _ => ∃ (s : Addr) (ns : List Int), vs = [.ref s] ∧ SqL K H s (ns.map V.int) ∧ ns.length ≤ 63 ∧ ∀ p l H', H p = none → H l = none → Ex H H' → Po p l 0 H' → Q (.ref p) H'
def sp_law_stirred : Sp := fun vs H Q _ => ∃ (p l : Addr) (n : Nat) (w : Int), vs = [.ref p, .int w] ∧ Po p l n H ∧ n < 1000000000 ∧ 0 < w ∧ w < 2 ^ 200 ∧
  ∀ r H', 0 ≤ r → r < w → Po p l (n + 1) H' → Ex (Hm p H) H' → Q (.int r) H'
def sp_law_draw : Sp := fun vs H Q _ => ∃ (p l : Addr) (n : Nat) (w : Int), vs = [.ref p, .int w] ∧ Po p l n H ∧ n < 1000000000 ∧ 0 < w ∧ w < 2 ^ 200 ∧
  ∀ r H', 0 ≤ r → r < w → Po p l (n + 1) H' → Ex (Hm p H) H' → Q (.int r) H'
section
variable {P : Program} {w : World} {K : PySem.W.Frag} {mg : Str → Option Value} {base : Heap}
theorem ok_law_bag (T : Tx K mg) : FnOk P w K mg base CX0 1 T.f_law_bag T.d_law_bag ["script"] (sp_law_bag K) := by
  refine T.F_law_bag.ok sc_law_bag (fun vs H Q E h => ?_) (fun cdv A outer s H vs Q E hr h => ?_)
  · obtain ⟨a, ns, rfl, _⟩ := h
    rfl
  · obtain ⟨a, ns, rfl, hs, hn, k⟩ := h
    refine ⟨_, (pss_cons (ps_set (i := 1) sc_law_bag.nd rfl (Or.inl rfl) pe_int)
      (pss_cons (ps_for PassesOwn.never rfl (pi_list (pe_slice sl_list (pv 0) po_none (po_some pe_int))) (pg_name (i := 2) sc_law_bag.nd rfl (Or.inl rfl)) (pss_one (ps_set (i := 1) sc_law_bag.nd rfl (Or.inl rfl) (pe_op op_mod (pe_callTy call_intI (by rfl) T.m_int (by decide +kernel) (pa_cons (pe_op op_add (pe_op op_add (pe_op op_mulX (pv 1) pe_int) (pe_op op_mod (pe_callTy call_intI (by rfl) T.m_int (by decide +kernel) (pa_cons (pv 2) pa_nil)) pe_int)) pe_int) pa_nil)) pe_int))))
      (pss_one (ps_ret (pe_lst (pa_cons (pe_lc (own := [("cell", 2)]) (g := (gName 2)) (tt := tYes) rfl sc_law_bag.nd (pi_list (pe_slice (r := rSlL K) sl_list (pv 0) po_none (po_some pe_int))) (blkOk_by (own := [("cell", 2)]) (N := n_law_bag) (sc := defScope s_law_bag) (by decide +kernel)) (fun _ _ _ _ _ => (pg_name (i := 2) sc_law_bag.nd rfl (Or.inl rfl))) (fun _ _ _ _ _ => pts_nil) (fun _ _ _ _ _ => (pe_op op_mod (pe_callTy call_intI (by rfl) T.m_int (by decide +kernel) (pa_cons (pe_callB call_absR (by rfl) T.m_abs (by decide +kernel) (pa_cons (pv 2) pa_nil)) pa_nil)) (pe_op op_powX (pe_op op_powX pe_int pe_int) pe_int)))) (pa_cons pe_int (pa_cons pe_int (pa_cons (pv 1) (pa_cons pe_int pa_nil)))))))))), ?_⟩
    have hlen : (ns.map V.int).length = ns.length := List.length_map ..
    have cutA : cutV (ns.map V.int) none (some 63) = ns.map V.int := by
      unfold cutV
      rw [HT.sIx_none, show (63 : Int) = ((63 : Nat) : Int) from rfl, HT.sIx_nat, List.drop_zero]
      exact List.take_of_length_le (by omega)
    refine q_asg (v := .int 223) ev_c fun H1 e1 => ?_
    have hs1 := ex_l e1 hs
    have slc : ∀ (σ : L2.St) (H' : Hp), σ[0]? = some (some (.ref a)) → Ex H1 H' → EvL (tSl (rSlL K) (tVar 0) tNoPart (tPart (tC (.int 63)))) σ H' (ns.map V.int) := fun σ H' h0 e' => by
      have := el_sl (K := K) (te := tVar 0) (tl := tNoPart) (th := tPart (tC (.int 63))) (σ := σ) (H := H') (ev_var (i := 0) h0) eo_none (eo_some (ev_c (v := .int 63))) (ex_l e' hs1)
      rw [cutA] at this
      exact this
    have mod0 : (0 : Int) < (10 ^ (60 : Int).toNat) ^ (10 : Int).toNat := Int.pow_pos (Int.pow_pos (by decide))
    have pw1 : CPowX 10 60 := by constructor <;> decide +kernel
    have pw2 : CPowX (10 ^ (60 : Int).toNat) 10 := by constructor <;> decide +kernel
    refine q_forNL (xs := ns.map V.int) (slc _ H1 rfl (Ex.refl _)) (fun q i σ' H' => ∃ (st : Int) (y : Option V), σ' = [some (.ref a), some (.int st), y] ∧ Ex H1 H' ∧ 0 ≤ st ∧ st < 2147483647 ∧ H' q = some (.lst (ns.map V.int))) (fun q H2 _ e2 hq => ⟨223, none, rfl, e2, by decide, by decide, hq⟩) (fun q i σ' H' _ ⟨_, _, _, _, _, _, hq⟩ => sq_of hq) ?_ ?_
    · rintro q i v σ' H' hv ⟨st, y, rfl, e, s0, s1, hq⟩
      rw [List.getElem?_map] at hv
      obtain ⟨c, _, rfl⟩ := Option.map_eq_some_iff.mp hv
      have m1 : CMulX st 48271 := mulx_ok (a := 64) (b := 64) (by omega) (by decide) (by decide)
      exact s_asg (v := .int ((st * 48271 + c % 2147483629 + 1) % 2147483647)) (ev_op (ev_intI (ev_op (ev_op (ev_op (ev_var rfl) ev_c (rv_I m1)) (ev_op (ev_intI (ev_var rfl)) ev_c (rv_I (by decide))) rv_I0) ev_c rv_I0)) ev_c (rv_I (by decide))) fun H2 e2 => ⟨_, _, rfl, e.trans e2, Int.emod_nonneg _ (by decide), Int.emod_lt_of_pos _ (by decide), e2 q _ hq⟩
    · rintro q σ' H' ⟨st, y, rfl, e, s0, s1, hq⟩
      have el := el_mapN (K := K) (te := tOp (rI (fun _ j => 0 < j) fun i j => .int (i % j)) (tCB rIntI (tCons (tCB rAbs (tCons (tVar 2) tNil)) tNil)) (tOp (rI CPowX fun i j => .int (i ^ j.toNat)) (tOp (rI CPowX fun i j => .int (i ^ j.toNat)) (tC (.int 10)) (tC (.int 60))) (tC (.int 10)))) (j := 2) (vs := [2]) (fI fun c => (if c < 0 then -c else c) % (10 ^ (60 : Int).toNat) ^ (10 : Int).toNat) (slc [some (.ref a), some (.int st), y] H' rfl e) (by rw [List.length_map]; omega) (fun _ => rfl) fun i v H2 e2 hv => ?_
      · rw [map_fI] at el
        refine s_retLL el (fun H2 e2 => ea_cons ev_c (ea_cons ev_c (ea_cons (ev_var rfl) (ea_cons ev_c ea_nil)))) (by simp) fun p l H2 hp hl0 lp e2 hl2 hp2 => ?_
        refine k p l H2 (fresh_back (e1.trans e) hp) (fresh_back (e1.trans e) hl0) (e1.trans (e.trans e2)) ⟨_, 0, 0, st, 0, hp2, hl2, lp, ⟨by decide, fun z hz => ?_, by decide⟩, ⟨s0, s1⟩, by decide, by decide⟩
        obtain ⟨c, _, rfl⟩ := List.mem_map.mp hz
        exact Int.emod_nonneg _ (by omega)
      · rw [List.getElem?_map] at hv
        obtain ⟨c, _, rfl⟩ := Option.map_eq_some_iff.mp hv
        exact ev_op (ev_intI (ev_abs (ev_var rfl))) (ev_op (ev_op ev_c ev_c (rv_I pw1)) ev_c (rv_I pw2)) (rv_I mod0)
theorem ok_law_stirred (T : Tx K mg) : FnOk P w K mg base CX0 1 T.f_law_stirred T.d_law_stirred ["bag", "wide"] sp_law_stirred := by
  refine T.F_law_stirred.ok sc_law_stirred (fun vs H Q E h => ?_) (fun cdv A outer s H vs Q E hr h => ?_)
  · obtain ⟨p, l, n, w, rfl, _⟩ := h
    rfl
  · obtain ⟨p, l, n, w, rfl, ⟨ns, i, c, s0, t, hp, hl, lp, ⟨hi, hns, hc⟩, ⟨hs0, hs1⟩, ht0, ht1⟩, hn, hw0, hw1, k⟩ := h
    refine ⟨_, (pss_cons (ps_set (i := 2) sc_law_stirred.nd rfl (Or.inl rfl) pe_int)
      (pss_cons (ps_for PassesOwn.never rfl (pi_range1 (by rfl) T.m_range (pa_cons (pe_op op_add pe_int (pe_op op_fdivW (pe_bits (pv 1)) pe_int)) pa_nil)) (pg_name (i := 3) sc_law_stirred.nd rfl (Or.inl rfl)) (pss_cons (ps_asg (pe_op op_add (pe_ix ix_list (pv 0) pe_int (fun _ _ => rfl)) pe_int) (pg_sub (pv 0) pe_int set_list))
      (pss_cons (ps_set (i := 4) sc_law_stirred.nd rfl (Or.inl rfl) (pe_op op_add (pe_op op_add (pe_op op_add (pe_op op_powX (pe_ix ix_list (pv 0) pe_int (fun _ _ => rfl)) pe_int) (pe_op op_mulX pe_int (pe_ix ix_list (pv 0) pe_int (fun _ _ => rfl)))) (pe_op op_mulX pe_int (pe_ix ix_list (pv 0) pe_int (fun _ _ => rfl)))) pe_int))
      (pss_cons (ps_asg (pe_op op_mod (pe_callTy call_intI (by rfl) T.m_int (by decide +kernel) (pa_cons (pv 4) pa_nil)) pe_int) (pg_sub (pv 0) pe_int set_list))
      (pss_one (ps_set (i := 2) sc_law_stirred.nd rfl (Or.inl rfl) (pe_op op_add (pe_op op_mulX (pv 2) pe_int) (pe_op op_fdivW (pe_ix ix_list (pv 0) pe_int (fun _ _ => rfl)) pe_int))))))))
      (pss_one (ps_ret (pe_op op_mod (pe_callTy call_intI (by rfl) T.m_int (by decide +kernel) (pa_cons (pv 2) pa_nil)) (pv 1)))))), ?_⟩
    have hp0 : Hm p H p = none := hm_p
    have hlm : Hm p H l = some (.lst (ns.map V.int)) := by
      unfold Hm
      rw [if_neg lp]
      exact hl
    have bits : Builtin.Int.intBits w ≤ 200 := PyProof.Rows.intBits_le (by omega)
    refine q_asg (v := .int 0) ev_c fun H1 e1 => ?_
    have d27 : CDivW ((Builtin.Int.intBits w : Nat) : Int) 27 := divw_ok (by decide) (by decide)
    refine q_forR1 (n := 1 + ((Builtin.Int.intBits w : Nat) : Int) / 27) (ea_cons (ev_op ev_c (ev_op (ev_bits (ev_var rfl)) ev_c (rv_I d27)) rv_I0) ea_nil) ⟨by omega, by omega⟩ (fun j σ' H' => ∃ (f s' : Int) (y z : Option V), σ' = [some (.ref p), some (.int w), some (.int f), y, z] ∧ H' p = some (.lst [.ref l, .int i, .int c, .int s', .int (t + j)]) ∧ Ex (Hm p H) H' ∧ 0 ≤ f ∧ f.natAbs < 2 ^ (28 * j + 1) ∧ 0 ≤ s' ∧ s' < 2147483647) (fun H2 e2 => ⟨0, s0, none, none, rfl, by
      rw [show t + ((0 : Nat) : Int) = t by omega]
      exact e2 p _ (e1 p _ hp), hm_sub.trans (e1.trans e2), by decide, by decide, hs0, hs1⟩) ?_ ?_
    · rintro j σ' H' hj ⟨f, s', y, z, rfl, hp', e', hf0, hf1, hs0', hs1'⟩
      have j8 : j < 9 := by omega
      refine q_setL (j := 4) hp' (by walk_at "ev") (by walk_at "ev") ev_c (by show 4 < 5; decide) fun H2 e2 => ?_
      have hp2 : ∀ H3, Ex (upd H2 p (.lst ([V.ref l, .int i, .int c, .int s', .int (t + j)].set 4 (.int (t + j + 1))))) H3 → H3 p = some (.lst [.ref l, .int i, .int c, .int s', .int (t + j + 1)]) := fun H3 e => e p _ upd_same
      have hq := hp2 _ (Ex.refl _)
      have m1 : CMulX 69621 s' := mulx_ok (a := 64) (b := 64) (by decide) (by omega) (by decide)
      have m2 : CMulX 1031 (t + j + 1) := mulx_ok (a := 64) (b := 64) (by decide) (by omega) (by decide)
      have p3 : CPowX s' 3 := pow3_ok (by omega)
      refine q_asg (by walk_at "ev") fun H3 e3 => ?_
      have hq3 := hp2 _ e3
      generalize hx : s' ^ (3 : Int).toNat + 69621 * s' + 1031 * (t + (j : Int) + 1) + 1 = x
      refine q_setL (j := 3) hq3 (by walk_at "ev") (by walk_at "ev") ev_c (by show 3 < 5; decide) fun H4 e4 => ?_
      have r0 := Int.emod_nonneg x (show (2147483647 : Int) ≠ 0 by decide)
      have r1 := Int.emod_lt_of_pos x (show (0 : Int) < 2147483647 by decide)
      generalize x % 2147483647 = s2 at r0 r1 ⊢
      have hp4 : ∀ H5, Ex (upd H4 p (.lst ([V.ref l, .int i, .int c, .int s', .int (t + j + 1)].set 3 (.int s2)))) H5 → H5 p = some (.lst [.ref l, .int i, .int c, .int s2, .int (t + j + 1)]) := fun H5 e => e p _ upd_same
      have hq4 := hp4 _ (Ex.refl _)
      have d16 : CDivW s2 16 := divw_ok (by decide) (by decide)
      have m3 : CMulX f 134217728 := mulx_ok (a := 300) (b := 64) (lt2_mono hf1 (by omega)) (by decide) (by decide)
      have f2 : (f * 134217728 + s2 / 16).natAbs < 2 ^ (28 * (j + 1) + 1) := by
        have a1 : (f * 134217728).natAbs < 2 ^ (28 * j + 1) * 134217728 := by
          rw [Int.natAbs_mul]
          exact Nat.mul_lt_mul_of_pos_right hf1 (by decide)
        have a2 : 2 ^ (28 * (j + 1) + 1) = 2 ^ (28 * j + 1) * 268435456 := by
          rw [show 28 * (j + 1) + 1 = 28 * j + 1 + 28 by omega, Nat.pow_add]
        have a3 : 1 ≤ 2 ^ (28 * j + 1) := Nat.one_le_two_pow
        omega
      refine s_asg (by walk_at "ev") fun H5 e5 => ⟨_, s2, _, _, rfl, ?_, ?_, ?_, f2, r0, r1⟩
      · rw [show t + ((j + 1 : Nat) : Int) = t + j + 1 by omega]
        exact hp4 _ e5
      · exact (Ex.mut ((Ex.mut (e'.trans e2) hp0).trans (e3.trans e4)) hp0).trans e5
      · have := Int.mul_nonneg hf0 (show (0 : Int) ≤ 134217728 by decide)
        omega
    · rintro σ' H' ⟨f, s', y, z, rfl, hp', e', hf0, hf1, hs0', hs1'⟩
      refine s_ret (by walk_at "ev") fun H2 e2 => ?_
      refine k _ _ (Int.emod_nonneg _ (by omega)) (Int.emod_lt_of_pos _ hw0) ⟨ns, i, c, s', _, e2 p _ hp', (e'.trans e2) l _ hlm, lp, ⟨hi, hns, hc⟩, ⟨hs0', hs1'⟩, by omega, ?_⟩ (e'.trans e2)
      omega
theorem ok_law_draw (T : Tx K mg) : FnOk P w K mg base CX0 2 T.f_law_draw T.d_law_draw ["bag", "wide"] sp_law_draw := by
  refine T.F_law_draw.ok sc_law_draw (fun vs H Q E h => ?_) (fun cdv A outer s H vs Q E hr h => ?_)
  · obtain ⟨p, l, n, w, rfl, _⟩ := h
    rfl
  · obtain ⟨p, l, n, w, rfl, hpo, hn, hw0, hw1, k⟩ := h
    refine ⟨_, (pss_cons (ps_if (PW.pt (pw_and (pt_cmpR op_eq (pe_ix ix_list (pv 0) pe_int (fun _ _ => rfl)) pe_int (nomark _)) (pw_and1 (pt_cmpR op_lt (pe_ix ix_list (pv 0) pe_int (fun _ _ => rfl)) (pe_callB call_lenR (by rfl) T.m_len (by decide +kernel) (pa_cons (pe_ix ix_list (pv 0) pe_int (fun _ _ => rfl)) pa_nil)) (nomark _))))) (pss_cons (ps_asg (pe_ix ix_list (pe_ix ix_list (pv 0) pe_int (fun _ _ => rfl)) (pe_ix ix_list (pv 0) pe_int (fun _ _ => rfl)) (fun _ _ => rfl)) (pg_sub (pv 0) pe_int set_list))
      (pss_one (ps_asg (pe_op op_add (pe_ix ix_list (pv 0) pe_int (fun _ _ => rfl)) pe_int) (pg_sub (pv 0) pe_int set_list)))) (pss_one (ps_if (pt_cmpR op_eq (pe_ix ix_list (pv 0) pe_int (fun _ _ => rfl)) pe_int (nomark _)) (pss_one (ps_ret (pe_call (ok_law_stirred T) (hr.mono (by decide)) (by rfl) T.g_law_stirred T.F_law_stirred.kp T.b_law_stirred .nil pass0 (pa_cons (pv 0) (pa_cons (pv 1) pa_nil))))) pss_nil)))
      (pss_cons (ps_set (i := 2) sc_law_draw.nd rfl (Or.inl rfl) (pe_op op_mod (pe_callTy call_intI (by rfl) T.m_int (by decide +kernel) (pa_cons (pe_ix ix_list (pv 0) pe_int (fun _ _ => rfl)) pa_nil)) (pv 1)))
      (pss_cons (ps_asg (pe_op op_fdivW (pe_ix ix_list (pv 0) pe_int (fun _ _ => rfl)) (pv 1)) (pg_sub (pv 0) pe_int set_list))
      (pss_one (ps_ret (pv 2)))))), ?_⟩
    obtain ⟨ns, i, c, s0, t, hp, hl, lp, ⟨hi, hns, hc⟩, ⟨hs0, hs1⟩, ht0, ht1⟩ := hpo
    have hp0 : Hm p H p = none := hm_p
    have hlm : Hm p H l = some (.lst (ns.map V.int)) := by
      unfold Hm
      rw [if_neg lp]
      exact hl
    obtain ⟨i, rfl⟩ : ∃ z : Nat, i = z := ⟨i.toNat, by omega⟩
    have ix : ∀ {σ : L2.St} {H' : Hp} {i c s t : Int} (j : Nat) {v : V}, σ[0]? = some (some (.ref p)) → H' p = some (.lst [.ref l, .int i, .int c, .int s, .int t]) → [V.ref l, .int i, .int c, .int s, .int t][j]? = some v → Ev (tOp (rIxL K) (tVar 0) (tC (.int (j : Int)))) σ H' v := fun j v h0 h1 h2 => ev_op (ev_var h0) ev_c (rv_ixL (K := K) (sq_of h1) (atI_nat h2))
    have tail : ∀ (H' : Hp) (i' : Nat) (c' : Int), 0 ≤ c' → H' p = some (.lst [.ref l, .int (i' : Int), .int c', .int s0, .int t]) → Ex (Hm p H) H' →
        tSeq (tAsg (tOp (rI (fun _ j => 0 < j) fun i j => .int (i % j)) (tCB rIntI (tCons (tOp (rIxL K) (tVar 0) (tC (.int 2))) tNil)) (tVar 1)) (gName 2)) (tSeq (tAsg (tOp (rI CDivW fun i j => .int (i / j)) (tOp (rIxL K) (tVar 0) (tC (.int 2))) (tVar 1)) (gSub (tVar 0) (tC (.int 2)) rSetL)) (tRet (tVar 2))) { nx := fun _ H' => Q .non H', rt := Q } [some (.ref p), some (.int w), none] H' := fun H' i' c' c0 hq e => by
      refine q_asg (v := .int (c' % w)) (ev_op (ev_intI (ix 2 rfl hq rfl)) (ev_var rfl) (rv_I hw0)) fun H2 e2 => ?_
      have hq2 := e2 p _ hq
      refine q_setL (j := 2) hq2 (v := .int (c' / w)) (ev_op (ix 2 rfl hq2 rfl) (ev_var rfl) (rv_I (divw_ok hw0 hw1))) (ev_var rfl) ev_c (by show 2 < 5; decide) fun H3 e3 => ?_
      refine s_ret (v := .int (c' % w)) (ev_var rfl) fun H4 e4 => k _ _ (Int.emod_nonneg _ (by omega)) (Int.emod_lt_of_pos _ hw0) ?_ ?_
      · refine ⟨ns, i', c' / w, s0, t, e4 p _ upd_same, e4 l _ (by rw [upd_ne lp]; exact (e.trans (e2.trans e3)) l _ hlm), lp, ⟨by omega, hns, Int.ediv_nonneg c0 (by omega)⟩, ⟨hs0, hs1⟩, ht0, by omega⟩
      · exact (Ex.mut (e.trans (e2.trans e3)) hp0).trans e4
    refine q_if (b := decide (V.int c = V.int 0) && decide (((i : Nat) : Int) < ((ns.map V.int).length : Int))) (et_and (et_test (ev_op (ix 2 rfl hp rfl) ev_c (rv_eq rfl))) fun _ => et_test (ev_op (ix 1 rfl hp rfl) (ev_len (ix 0 rfl hp rfl) (sq_of hl)) rv_I0)) (fun hb H1 e1 => ?_) fun hb H1 e1 => ?_
    · rw [Bool.and_eq_true, decide_eq_true_iff, decide_eq_true_iff, List.length_map] at hb
      have hp1 := e1 p _ hp
      have hil : i < ns.length := by omega
      obtain ⟨z, hz⟩ : ∃ z, ns[i]? = some z := ⟨_, List.getElem?_eq_getElem hil⟩
      refine q_setL (j := 2) hp1 (v := .int z) (ev_op (ix 0 rfl hp1 rfl) (ix 1 rfl hp1 rfl) (rv_ixL (K := K) (sq_of (e1 l _ hl)) (atI_nat (j := i) (by rw [List.getElem?_map, hz]; rfl)))) (ev_var rfl) ev_c (by show 2 < 5; decide) fun H2 e2 => ?_
      refine s_setL (j := 1) (xs := [.ref l, .int (i : Int), .int z, .int s0, .int t]) (v := .int ((i + 1 : Nat) : Int)) upd_same (ev_is (ev_op (ix 1 rfl upd_same rfl) ev_c rv_I0) (by congr 1)) (ev_var rfl) ev_c (by show 1 < 5; decide) fun H3 e3 => ?_
      exact tail _ (i + 1) z (hns z (List.mem_of_getElem? hz)) upd_same (Ex.mut ((Ex.mut (hm_sub.trans (e1.trans e2)) hp0).trans e3) hp0)
    · refine s_when (b := decide (V.int c = V.int 0)) (et_test (ev_op (ix 2 rfl (e1 p _ hp) rfl) ev_c (rv_eq rfl))) (fun hb2 H2 e2 => ?_) fun hb2 H2 e2 => ?_
      · have ee := e1.trans e2
        refine s_retC (vs := [.ref p, .int w]) (ea_cons (ev_var rfl) (ea_cons (ev_var rfl) ea_nil)) fun H3 e3 => ?_
        have e13 := ee.trans e3
        exact ⟨p, l, n, w, rfl, ⟨ns, i, c, s0, t, e13 p _ hp, e13 l _ hl, lp, ⟨by omega, hns, hc⟩, ⟨hs0, hs1⟩, ht0, ht1⟩, hn, hw0, hw1, fun r H4 r0 r1 p4 e4 => k r H4 r0 r1 p4 ((hm_mono e13).trans e4)⟩
      · exact tail H2 i c hc ((e1.trans e2) p _ hp) (hm_sub.trans (e1.trans e2))
end
/-! ### expressions that draw -/
theorem hm_trans {p : Addr} {H H1 H2 : Hp} (a : Ex (Hm p H) H1) (b : Ex (Hm p H1) H2) : Ex (Hm p H) H2 := fun x o h => by
  have ne : x ≠ p := fun z => by
    subst z
    rw [hm_p] at h
    cases h
  have h1 := a x o h
  refine b x o ?_
  unfold Hm
  rw [if_neg ne]
  exact h1
theorem hm_next {p : Addr} {H0 H H1 : Hp} (h0 : H0 p = none) (e : Ex H0 H) (s : Ex (Hm p H) H1) : Ex H0 H1 := (ex_hm e h0).trans s
theorem hm_of {p : Addr} {H H1 : Hp} (e : Ex H H1) : Ex (Hm p H) H1 := hm_sub.trans e
theorem hm_at {p a : Addr} {H H1 : Hp} {o : HO} (s : Ex (Hm p H) H1) (ne : a ≠ p) (h : H a = some o) : H1 a = some o := s a o (by
  unfold Hm
  rw [if_neg ne]
  exact h)
theorem Po.ne {p l b : Addr} {n : Nat} {H : Hp} (h : Po p l n H) (hb : H b = none) : b ≠ p := fun z => by
  subst z
  obtain ⟨_, _, _, _, _, h1, _⟩ := h
  rw [hb] at h1
  cases h1
theorem Po.nl {p l b : Addr} {n : Nat} {H : Hp} (h : Po p l n H) (hb : H b = none) : b ≠ l := fun z => by
  subst z
  obtain ⟨_, _, _, _, _, _, h1, _⟩ := h
  rw [hb] at h1
  cases h1
theorem Po.upd {p l b : Addr} {n : Nat} {H : Hp} {o : HO} (h : Po p l n H) (ne : b ≠ p) (nl : b ≠ l) : Po p l n (upd H b o) := by
  obtain ⟨ns, i, c, s, t, h1, h2, h3⟩ := h
  exact ⟨ns, i, c, s, t, by rw [upd_ne (Ne.symm ne)]; exact h1, by rw [upd_ne (Ne.symm nl)]; exact h2, h3⟩
def EvP (p L : Addr) (k : Nat) (te : TE) (σ : L2.St) (H0 : Hp) (R : V → Hp → Prop) : Prop := ∀ n H1, Ex H0 H1 → Po p L n H1 → n + k ≤ 1000000000 →
  ∀ Q : VK, (∀ v H2, R v H2 → Po p L (n + k) H2 → Ex (Hm p H1) H2 → Q v H2) → te σ H1 Q
def Stb (p : Addr) (R : V → Hp → Prop) : Prop := ∀ v H H', R v H → Ex (Hm p H) H' → R v H'
section
variable {K : PySem.W.Frag} {σ : L2.St} {H0 H : Hp} {p L : Addr} {k k1 k2 : Nat} {te ta tb : TE} {R Ra Rb : V → Hp → Prop}
theorem ep_ev {v : V} (h : Ev te σ H0 v) : EvP p L 0 te σ H0 (fun x _ => x = v) := fun n H1 e hp _ Q q => h H1 e Q fun H2 e2 => q v H2 rfl (hp.ex e2) (hm_of e2)
theorem ep_L {xs : List V} (h : EvL te σ H0 xs) : EvP p L 0 te σ H0 (fun x H => ∃ l, l ≠ p ∧ x = .ref l ∧ H l = some (.lst xs)) := fun n H1 e hp _ Q q => h H1 e Q fun l H2 hl e2 h2 => q _ H2 ⟨l, hp.ne hl, rfl, h2⟩ (hp.ex e2) (hm_of e2)
theorem stb_L {xs : List V} : Stb p (fun x H => ∃ l, l ≠ p ∧ x = .ref l ∧ H l = some (.lst xs)) := fun v H H' ⟨l, ne, e, h⟩ s => ⟨l, ne, e, hm_at s ne h⟩
theorem stb_c {C : V → Prop} : Stb p (fun x _ => C x) := fun _ _ _ h _ => h
theorem ep_op {r : R2} (h0 : H0 p = none) (ha : EvP p L k1 ta σ H0 Ra) (hb : EvP p L k2 tb σ H0 Rb) (s1 : Stb p Ra) (s : Stb p R) (hr : ∀ x y H, Ra x H → Rb y H → ∃ z, R z H ∧ RV r x y H z) : EvP p L (k1 + k2) (tOp r ta tb) σ H0 R :=
  fun n H1 e hp hn Q q => ha n H1 e hp (by omega) _ fun x H2 hx p2 e2 => hb (n + k1) H2 (hm_next h0 e e2) p2 (by omega) _ fun y H3 hy p3 e3 => by
    obtain ⟨z, hz, hv⟩ := hr x y H3 (s1 x H2 H3 hx e3) hy
    refine hv H3 (Ex.refl H3) Q fun H4 e4 => q z H4 (s z H3 H4 hz (hm_of e4)) ?_ (hm_trans (hm_trans e2 e3) (hm_of e4))
    rw [← Nat.add_assoc]
    exact p3.ex e4
theorem ep_dip {tw : TE} {E : XK} {C : Int → Prop} (h0 : H0 p = none) (hp : Ev ta σ H0 (.ref p)) (hw : EvP p L k tw σ H0 (fun v _ => ∃ w, v = .int w ∧ 0 < w ∧ w < 2 ^ 200 ∧ C w)) :
    EvP p L (k + 1) (tCall sp_law_draw [] E (tCons ta (tCons tw tNil))) σ H0 (fun v _ => ∃ r w, v = .int r ∧ 0 ≤ r ∧ r < w ∧ C w) :=
  fun n H1 e hpo hn Q q => hp H1 e _ fun H2 e2 => hw n H2 (e.trans e2) (hpo.ex e2) (by omega) _ fun y H3 hy p3 e3 => by
    obtain ⟨w, rfl, w0, w1, c⟩ := hy
    exact ⟨p, L, n + k, w, rfl, p3, by omega, w0, w1, fun r H' r0 r1 p4 e4 => q _ H' ⟨r, w, rfl, r0, r1, c⟩ p4 (hm_trans (hm_trans (hm_of e2) e3) e4)⟩
theorem ep_is {R' : V → Hp → Prop} (h : EvP p L k te σ H0 R) (e : ∀ v H, R v H → R' v H) : EvP p L k te σ H0 R' := fun n H1 a b c Q q => h n H1 a b c Q fun v H2 hv => q v H2 (e v H2 hv)
/-- the width is a pure int -/
theorem ep_dipI {tw : TE} {E : XK} {w : Int} (h0 : H0 p = none) (hp : Ev ta σ H0 (.ref p)) (hw : Ev tw σ H0 (.int w)) (w0 : 0 < w) (w1 : w < 2 ^ 200) :
    EvP p L 1 (tCall sp_law_draw [] E (tCons ta (tCons tw tNil))) σ H0 (fun v _ => ∃ r, v = .int r ∧ 0 ≤ r ∧ r < w) :=
  ep_is (ep_dip (k := 0) (C := fun z => z = w) h0 hp (ep_is (ep_ev hw) fun v H e => ⟨w, e, w0, w1, rfl⟩)) fun v H ⟨r, z, e, r0, r1, e2⟩ => ⟨r, e, r0, e2 ▸ r1⟩
/-- a + b, b drawn -/
theorem ep_add {a : Int} {C : Int → Prop} (h0 : H0 p = none) (ha : Ev ta σ H0 (.int a)) (hb : EvP p L k tb σ H0 (fun v _ => ∃ r, v = .int r ∧ C r)) : EvP p L (0 + k) (tOp (rI0 fun i j => .int (i + j)) ta tb) σ H0 (fun v _ => ∃ r, v = .int (a + r) ∧ C r) :=
  ep_op h0 (ep_ev ha) hb stb_c stb_c fun x y H e ⟨r, e2, c⟩ => ⟨.int (a + r), ⟨r, rfl, c⟩, by
    subst e
    subst e2
    exact rv_I0⟩
theorem p_asg {i n : Nat} {D : Ends} (h : EvP p L k te σ H0 R) (e : Ex H0 H) (hp : Po p L n H) (hn : n + k ≤ 1000000000) (q : ∀ v H2, R v H2 → Po p L (n + k) H2 → Ex (Hm p H) H2 → D.nx (σ.set i (some v)) H2) : tAsg te (gName i) D σ H := h n H e hp hn _ q
theorem pq_asg {i n : Nat} {D : Ends} {tz : TS} (h : EvP p L k te σ H0 R) (e : Ex H0 H) (hp : Po p L n H) (hn : n + k ≤ 1000000000) (q : ∀ v H2, R v H2 → Po p L (n + k) H2 → Ex (Hm p H) H2 → tz D (σ.set i (some v)) H2) : tSeq (tAsg te (gName i)) tz D σ H := h n H e hp hn _ q
/-- tests that draw -/
def EtP (p L : Addr) (k : Nat) (t : TT) (σ : L2.St) (H0 : Hp) (b : Bool) : Prop := ∀ n H1, Ex H0 H1 → Po p L n H1 → n + k ≤ 1000000000 →
  ∀ Q : Bool → Hp → Prop, (∀ H2, Po p L (n + k) H2 → Ex (Hm p H1) H2 → Q b H2) → t σ H1 Q
variable {t u : TT} {b c : Bool}
theorem tp_B (h : EvP p L k te σ H0 (fun v _ => v = .bl b)) : EtP p L k (tB te) σ H0 b := fun n H1 e hp hn Q q => h n H1 e hp hn _ fun v H2 hv p2 e2 => ⟨b, hv, q H2 p2 e2⟩
theorem tp_not (h : EtP p L k t σ H0 b) : EtP p L k (tNot t) σ H0 (!b) := fun n H1 e hp hn Q q => h n H1 e hp hn _ fun H2 p2 e2 => q H2 p2 e2
theorem tp_is (h : EtP p L k t σ H0 b) (e : b = c) : EtP p L k t σ H0 c := e ▸ h
theorem tp_or (h0 : H0 p = none) (h : EtP p L k1 t σ H0 false) (h' : EtP p L k2 u σ H0 b) : EtP p L (k1 + k2) (tOr t u) σ H0 b := fun n H1 e hp hn Q q => h n H1 e hp (by omega) _ fun H2 p2 e2 => by
  show u σ H2 Q
  refine h' (n + k1) H2 (hm_next h0 e e2) p2 (by omega) Q fun H3 p3 e3 => q H3 ?_ (hm_trans e2 e3)
  rw [← Nat.add_assoc]
  exact p3
theorem tp_et (h : EvT t σ H0 b) : EtP p L 0 t σ H0 b := fun n H1 e hp _ Q q => h H1 e Q fun H2 e2 => q H2 (hp.ex e2) (hm_of e2)
/-- a test that is false: what follows -/
theorem pq_no {n : Nat} {D : Ends} {tu tz : TS} (h : EtP p L k t σ H0 false) (e : Ex H0 H) (hp : Po p L n H) (hn : n + k ≤ 1000000000) (q : ∀ H2, Po p L (n + k) H2 → Ex (Hm p H) H2 → tz D σ H2) : tSeq (tIfS t tu tNext) tz D σ H := h n H e hp hn _ q
theorem ps_no {n : Nat} {D : Ends} {tu : TS} (h : EtP p L k t σ H0 false) (e : Ex H0 H) (hp : Po p L n H) (hn : n + k ≤ 1000000000) (q : ∀ H2, Po p L (n + k) H2 → Ex (Hm p H) H2 → D.nx σ H2) : tIfS t tu tNext D σ H := h n H e hp hn _ q
end


/-! ### lists of guests -/
def iz (xs : List Nat) : List Int := xs.map fun x : Nat => (x : Int)
def nv (xs : List Nat) : List V := (iz xs).map V.int
theorem nv_len (xs : List Nat) : (nv xs).length = xs.length := by simp [nv, iz]
theorem nv_get {xs : List Nat} {i x : Nat} (h : xs[i]? = some x) : (nv xs)[i]? = some (.int x) := by simp [nv, iz, h]
theorem nv_app (xs ys : List Nat) : nv (xs ++ ys) = nv xs ++ nv ys := by simp [nv, iz]
theorem nv_eq (xs : List Nat) : nv xs = xs.map fun x : Nat => V.int (x : Int) := by simp [nv, iz]
def Ord (h : List Nat) : Prop := h.Perm (List.range h.length) ∧ 1 ≤ h.length ∧ h.length ≤ 20
theorem el_mapI {K : PySem.W.Frag} {σ : L2.St} {H : Hp} {te tl : TE} {a : Addr} {xs : List V} {j : Nat} {vs : List Nat} (f : Nat → V) (h : Ev tl σ H (.ref a)) (hx : SqL K H a xs) (hz : xs.length ≤ 40000) (hw : ∀ x, wipe ((wipe σ vs).set j (some x)) vs = wipe σ vs)
    (he : ∀ (i : Nat) (x : V) H1, Ex H H1 → xs[i]? = some x → Ev te ((wipe σ vs).set j (some x)) H1 (f i)) : EvL (tLc (iList K tl) (gName j) tYes te vs) σ H ((List.range xs.length).map f) := by
  have e : (List.range xs.length).map f = given xs.length (fun _ => true) f := by
    unfold given
    rw [List.filter_eq_self.mpr (fun _ _ => rfl)]
  rw [e]
  exact el_lcL _ _ h hx hz hw (fun _ _ _ _ _ => et_yes) fun i x H1 e hi _ => he i x H1 e hi
def sp_is_whole (K : PySem.W.Frag) : Sp := fun vs H Q _ => ∃ (v : V) (d : PyData), vs = [v] ∧ It K H v d ∧ RetV (.bl (isI d)) H Q
theorem sv_whole {K : PySem.W.Frag} {H : Hp} {x : Int} : SpV (sp_is_whole K) ([.int x] ++ []) H (.bl true) := fun H1 _ Q q E => ⟨.int x, .int x, rfl, .int x, q⟩
theorem sv_wholeD {K : PySem.W.Frag} {H : Hp} {v : V} {d : PyData} (h : It K H v d) : SpV (sp_is_whole K) ([v] ++ []) H (.bl (isI d)) := fun H1 e Q q E => ⟨v, d, rfl, h.ex e, q⟩
local macro_rules | `(tactic| walk_at "call") => `(tactic| (with_reducible exact sv_whole))
def sp_ord (v : V) : Sp := fun vs H Q _ => ∃ (a : Addr) (h : List Nat), vs = [.ref a] ∧ H a = some (.lst (nv h)) ∧ Ord h ∧ RetV v H Q
theorem sv_ord {H : Hp} {v : V} {a : Addr} {h : List Nat} (ha : H a = some (.lst (nv h))) (o : Ord h) : SpV (sp_ord v) ([.ref a] ++ []) H v := fun H1 e Q q E => ⟨a, h, rfl, e a _ ha, o, q⟩
section
variable {P : Program} {w : World} {K : PySem.W.Frag} {mg : Str → Option Value} {base : Heap}
theorem ok_is_whole (T : Tx K mg) : FnOk P w K mg base CX0 1 T.f_is_whole T.d_is_whole ["thing"] (sp_is_whole K) := by
  refine T.F_is_whole.ok sc_is_whole (fun vs H Q E h => ?_) (fun cdv A outer s H vs Q E hr h => ?_)
  · obtain ⟨v, d, rfl, _⟩ := h
    rfl
  · obtain ⟨v, d, rfl, hv, k⟩ := h
    refine ⟨_, (pss_one (ps_ret (pe_cmpR op_eqTy (pe_typeOf (by rfl) T.m_type (pv 0)) (pe_bltn (v := .ty "int") (by rfl) T.m_int (by decide +kernel) rfl) (nomark _)))), ?_⟩
    exact s_ret (ev_isWhole (ev_var rfl) hv) fun H1 e1 => k _ e1
theorem range_iz (n : Nat) : rgV 0 (n : Int) = nv (List.range n) := by
  rw [nv_eq]
  unfold rgV
  simp
/-- the ints of data -/
def intsOf (ds : List PyData) : List Int := ds.map fun
  | .int i => i
  | _ => 0
def sortI (ns : List Int) : List Int := ns.mergeSort fun a b => decide (a ≤ b)
theorem sortI_perm (ns : List Int) : (sortI ns).Perm ns := List.mergeSort_perm ns _
theorem sortI_sorted (ns : List Int) : (sortI ns).Pairwise (· ≤ ·) := by
  have := List.pairwise_mergeSort (le := fun a b : Int => decide (a ≤ b)) (fun a b c h1 h2 => by
    have h1 := of_decide_eq_true h1
    have h2 := of_decide_eq_true h2
    exact decide_eq_true (by omega)) (fun a b => by
    rw [Bool.or_eq_true, decide_eq_true_iff, decide_eq_true_iff]
    omega) ns
  exact this.imp fun h => of_decide_eq_true h
theorem ints_of {K : PySem.W.Frag} {H : Hp} : ∀ {xs : List V} {ds : List PyData}, ItAll K H xs ds → ds.all isI = true → xs = (intsOf ds).map V.int
  | _, _, .nil, _ => rfl
  | _, _, .cons h t, ha => by
    rw [List.all_cons, Bool.and_eq_true] at ha
    have := ints_of t ha.2
    cases h with
    | int i =>
      rw [this]
      rfl
    | non => exact Bool.noConfusion ha.1
    | bl b => exact Bool.noConfusion ha.1
    | str x => exact Bool.noConfusion ha.1
    | lst _ _ => exact Bool.noConfusion ha.1
theorem ita_get {K : PySem.W.Frag} {H : Hp} : ∀ {xs : List V} {ds : List PyData} {i : Nat} {x : V}, ItAll K H xs ds → xs[i]? = some x → ∃ d, ds[i]? = some d ∧ It K H x d
  | _, _, 0, x, .cons h t, e => ⟨_, rfl, (Option.some.inj (show some _ = some x from e)) ▸ h⟩
  | _, _, i + 1, x, .cons h t, e => ita_get (i := i) t e
  | _, _, 0, x, .nil, e => by simp at e
  | _, _, i + 1, x, .nil, e => by simp at e
def lenOk (n : Nat) : Bool := decide ((1 : Int) ≤ (n : Int)) && decide ((n : Int) ≤ 20)
def sorts (ds : List PyData) : Bool := PyData.eqv (.list ((sortI (intsOf ds)).map PyData.int)) (.list ((iz (List.range ds.length)).map PyData.int))
/-- whether a thing is a list with 0, 1, .. once each -/
def judge : Option (List PyData) → Bool
  | none => false
  | some ds => lenOk ds.length && (ds.all isI && sorts ds)
def sp_any (K : PySem.W.Frag) : Sp := fun vs H Q _ => ∃ (v : V) (o : Option (List PyData)), vs = [v] ∧ Th K H v o ∧ RetV (.bl (judge o)) H Q
def sp_is_order (K : PySem.W.Frag) : Sp := fun vs H Q E => sp_ord (.bl true) vs H Q E ∨ sp_any K vs H Q E
theorem sv_order {K : PySem.W.Frag} {H : Hp} {a : Addr} {h : List Nat} (ha : H a = some (.lst (nv h))) (o : Ord h) : SpV (sp_is_order K) ([.ref a] ++ []) H (.bl true) := fun H1 e Q q E => .inl (sv_ord ha o H1 e Q q E)
theorem sv_any {K : PySem.W.Frag} {H : Hp} {v : V} {o : Option (List PyData)} (hv : Th K H v o) : SpV (sp_is_order K) ([v] ++ []) H (.bl (judge o)) := fun H1 e Q q E => .inr ⟨v, o, rfl, hv.ex e, q⟩
theorem judge_ord {h : List Nat} (o : Ord h) : judge (some ((iz h).map PyData.int)) = true := by
  have e : intsOf ((iz h).map PyData.int) = iz h := by
    unfold intsOf
    rw [List.map_map]
    exact List.map_id _
  have el : ((iz h).map PyData.int).length = h.length := by simp [iz]
  have s : sortI (iz h) = iz (List.range h.length) := List.Perm.eq_of_pairwise (le := fun a b : Int => a ≤ b) (fun a b _ _ h1 h2 => by omega) (sortI_sorted _) (by
    unfold iz
    rw [List.pairwise_map]
    exact List.Pairwise.imp (fun {a b} h => by omega) List.pairwise_lt_range) ((sortI_perm _).trans (o.1.map (fun x : Nat => (x : Int))))
  unfold judge sorts lenOk
  simp only
  rw [e, el, s, eqv_same (shaped_ints _)]
  have hl := o.2
  have : ((iz h).map PyData.int).all isI = true := by
    rw [List.all_map, List.all_eq_true]
    intro x _
    rfl
  rw [this]
  simp
  omega
theorem Ord.th {K : PySem.W.Frag} {H : Hp} {a : Addr} {h : List Nat} (ha : H a = some (.lst (nv h))) : Th K H (.ref a) (some ((iz h).map PyData.int)) := .lst ha (ita_ints _) (fine_ints _)
theorem ok_is_order (T : Tx K mg) : FnOk P w K mg base CX0 2 T.f_is_order T.d_is_order ["thing"] (sp_is_order K) := by
  refine FnOk.imp (sp := sp_any K) ?_ (fun vs H Q E h => ?_)
  · refine T.F_is_order.ok sc_is_order (fun vs H Q E h => ?_) (fun cdv A outer s H vs Q E hr h => ?_)
    · obtain ⟨v, o, rfl, _⟩ := h
      rfl
    · obtain ⟨v, o, rfl, hv, k⟩ := h
      refine ⟨_, (pss_cons (ps_if (PW.pt (pw_or (pt_cmpR (op_neTyG (hu_of hr)) (pe_typeOf2 (by rfl) T.m_type (pv 0)) (pe_bltn (v := .ty "list") (by rfl) T.m_list (by decide +kernel) rfl) (nomark _)) (pw_or1 (pt_not (pt_chain op_le op_le pe_int (pe_callB call_lenR (by rfl) T.m_len (by decide +kernel) (pa_cons (pv 0) pa_nil)) (pe_gc (by rfl) T.c_MOST_GUESTS)))))) (pss_one (ps_ret pe_bl)) pss_nil)
      (pss_cons (ps_if (pt_not (pt_val (pe_callB (cr_all rfl) (by rfl) T.m_all (by decide +kernel) (pa_cons (pe_lc (own := [("item", 1)]) (g := (gName 1)) (tt := tYes) rfl sc_is_order.nd (pi_list (pv 0)) (blkOk_by (own := [("item", 1)]) (N := n_is_order) (sc := defScope s_is_order) (by decide +kernel)) (fun _ _ _ _ _ => (pg_name (i := 1) sc_is_order.nd rfl (Or.inl rfl))) (fun _ _ _ _ _ => pts_nil) (fun _ _ _ _ _ => (pe_call (ok_is_whole T) (hr.mono (by decide)) (by rfl) T.g_is_whole T.F_is_whole.kp T.b_is_whole .nil pass0 (pa_cons (pv 1) pa_nil)))) pa_nil)))) (pss_one (ps_ret pe_bl)) pss_nil)
      (pss_one (ps_ret (pe_cmpR (op_eqD hr.units) (pe_callB cr_sorted (by rfl) T.m_sorted (by decide +kernel) (pa_cons (pv 0) pa_nil)) (pe_listRg rfl (by rfl) T.m_list (prg_1 (by rfl) T.m_range (pe_callB call_lenR (by rfl) T.m_len (by decide +kernel) (pa_cons (pv 0) pa_nil)))) (nomark _)))))), ?_⟩
      cases o with
      | none =>
        refine q_when (b := true) (et_is (et_or (b := false) (et_test (ev_noList (ev_var rfl) hv)) fun z => Bool.noConfusion z) rfl) (fun _ H1 e1 => ?_) fun hb => Bool.noConfusion hb
        exact s_ret ev_c fun H2 e2 => k _ (e1.trans e2)
      | some ds =>
        have hv0 := hv
        cases hv with
        | @lst a xs _ ha hd hf =>
          have hl : xs.length = ds.length := hd.len
          refine q_when (b := !lenOk ds.length) (et_is (et_or (et_test (ev_noList (ev_var rfl) hv0)) fun _ => et_not (et_test (ev_chainI ev_c (ev_len (ev_var rfl) (sq_of ha)) ev_c))) (by rw [hl]; rfl)) (fun hb H1 e1 => ?_) fun hb H1 e1 => ?_
          · have hb : lenOk ds.length = false := by simpa using hb
            have ej : judge (some ds) = false := by
              unfold judge
              simp only
              rw [hb]
              rfl
            rw [ej] at k
            exact s_ret ev_c fun H2 e2 => k _ (e1.trans e2)
          · have hb : lenOk ds.length = true := by simpa using hb
            have hn : 1 ≤ ds.length ∧ ds.length ≤ 20 := by
              unfold lenOk at hb
              simp at hb
              omega
            have h1 := e1 a _ ha
            refine q_when (b := !(ds.all isI)) (et_is (et_not (et_B (ev_allN (bs := ds.map isI) ?_))) (by rw [List.all_map]; rfl)) (fun hb2 H2 e2 => ?_) fun hb2 H2 e2 => ?_
            · have g := el_mapI (K := K) (te := tCall (sp_is_whole K) [] E0 (tCons (tVar 1) tNil)) (j := 1) (vs := [1]) (σ := start n_is_order [.ref a]) (H := H1) (fun i => V.bl (isI (ds.getD i .none))) (ev_var (i := 0) rfl) (sq_of h1) (by omega) (fun _ => rfl) fun i x H2 e2 hx => ?_
              · have e : (List.range xs.length).map (fun i => V.bl (isI (ds.getD i .none))) = (ds.map isI).map V.bl := by
                  rw [hl]
                  conv => rhs; rw [range_get ds .none]
                  rw [List.map_map, List.map_map]
                  rfl
                rw [e] at g
                exact g
              · obtain ⟨d, hd1, hd2⟩ := ita_get hd hx
                have gd : ds.getD i .none = d := by rw [List.getD_eq_getElem?_getD, hd1] <;> rfl
                show Ev _ _ _ (V.bl (isI (ds.getD i .none)))
                rw [gd]
                exact ev_call (ea_cons (ev_var rfl) ea_nil) (sv_wholeD (hd2.ex (e1.trans e2)))
            · have hb2 : ds.all isI = false := by simpa using hb2
              have ej : judge (some ds) = false := by
                unfold judge
                simp only
                rw [hb2, Bool.false_and, Bool.and_false]
              rw [ej] at k
              exact s_ret ev_c fun H3 e3 => k _ (e1.trans (e2.trans e3))
            · have hb2 : ds.all isI = true := by simpa using hb2
              have ex := ints_of hd hb2
              have il : (intsOf ds).length = ds.length := by simp [intsOf]
              have h2 := e2 a _ h1
              have sr : EvD K (tCB (rSorted K) (tCons (tVar 0) tNil)) (start n_is_order [.ref a]) H2 (.list ((sortI (intsOf ds)).map PyData.int)) :=
                ed_sorted (ns := intsOf ds) (ev_var rfl) (sq_of (by rw [← ex]; exact h2)) (by omega) (sortI_perm _) (sortI_sorted _)
              have rg : EvD K (tLstRg (tRg1 (tCB (rLenS K) (tCons (tVar 0) tNil)))) (start n_is_order [.ref a]) H2 (.list ((iz (List.range ds.length)).map PyData.int)) :=
                ed_ofL (xs := nv (List.range ds.length)) (by
                  have g := el_rg1 (σ := start n_is_order [.ref a]) (ev_len (K := K) (ta := tVar 0) (ev_var (i := 0) (v := .ref a) rfl) (sq_of h2)) (RgOk.of_le (by decide) (by omega) (by decide) (by omega))
                  rw [hl, range_iz] at g
                  exact g) (dpa_ints _)
              have ej : judge (some ds) = sorts ds := by
                unfold judge
                simp only
                rw [hb, hb2, Bool.true_and, Bool.true_and]
              rw [ej] at k
              exact s_ret (ev_eqD sr rg (shaped_ints _) (shaped_ints _)) fun H3 e3 => k _ (e1.trans (e2.trans e3))
  · rcases h with ⟨a, g, rfl, ha, o, k⟩ | h
    · refine ⟨.ref a, _, rfl, Ord.th ha, ?_⟩
      rw [judge_ord o]
      exact k
    · exact h
local macro_rules | `(tactic| walk_at "call") => `(tactic| ((with_reducible refine' sv_order ?c1 ?c2); (case c1 => assumption); (case c2 => assumption)))
theorem ok_is_seating (T : Tx K mg) : FnOk P w K mg base CX0 3 T.f_is_seating T.d_is_seating ["thing"] (sp_is_order K) := by
  refine T.F_is_seating.ok sc_is_seating (fun vs H Q E h => ?_) (fun cdv A outer s H vs Q E hr h => ?_)
  · rcases h with ⟨a, g, rfl, _⟩ | ⟨v, o, rfl, _⟩
    · rfl
    · rfl
  · rcases h with ⟨a, g, rfl, ha, o, k⟩ | ⟨v, o, rfl, hv, k⟩
    · refine ⟨_, (pss_one (ps_ret (pe_call (ok_is_order T) (hr.mono (by decide)) (by rfl) T.g_is_order T.F_is_order.kp T.b_is_order .nil pass0 (pa_cons (pv 0) pa_nil)))), ?_⟩
      exact s_ret (by walk_at "ev") fun H1 e1 => k _ e1
    · refine ⟨_, (pss_one (ps_ret (pe_call (ok_is_order T) (hr.mono (by decide)) (by rfl) T.g_is_order T.F_is_order.kp T.b_is_order .nil pass0 (pa_cons (pv 0) pa_nil)))), ?_⟩
      exact s_ret (ev_call (ea_cons (ev_var rfl) ea_nil) (sv_any hv)) fun H1 e1 => k _ e1
theorem ok_check_seating (T : Tx K mg) : FnOk P w K mg base CX0 4 T.f_check_seating T.d_check_seating ["seating"] (sp_ord .non) := by
  refine T.F_check_seating.ok sc_check_seating (fun vs H Q E h => ?_) (fun cdv A outer s H vs Q E hr h => ?_)
  · obtain ⟨a, h, rfl, _⟩ := h
    rfl
  · obtain ⟨a, h, rfl, ha, o, k⟩ := h
    refine ⟨_, (pss_one (ps_if (pt_not (pt_val (pe_call (ok_is_seating T) (hr.mono (by decide)) (by rfl) T.g_is_seating T.F_is_seating.kp T.b_is_seating .nil pass0 (pa_cons (pv 0) pa_nil)))) (pss_one ps_never) pss_nil)), ?_⟩
    exact s_when (b := false) (et_is (by walk_at "et") (by rfl)) (fun hb => Bool.noConfusion hb) fun _ H1 e1 => k _ e1
end
local macro_rules | `(tactic| walk_at "call") => `(tactic| (with_reducible exact sv_whole))
local macro_rules | `(tactic| walk_at "call") => `(tactic| ((with_reducible refine' sv_order ?c1 ?c2); (case c1 => assumption); (case c2 => assumption)))
local macro_rules | `(tactic| walk_at "call") => `(tactic| ((with_reducible refine' sv_ord ?c1 ?c2); (case c1 => assumption); (case c2 => assumption)))


local macro_rules | `(tactic| walk_at "call") => `(tactic| (with_reducible exact sv_whole))
local macro_rules | `(tactic| walk_at "call") => `(tactic| ((with_reducible refine' sv_order ?c1 ?c2); (case c1 => assumption); (case c2 => assumption)))
local macro_rules | `(tactic| walk_at "call") => `(tactic| ((with_reducible refine' sv_ord ?c1 ?c2); (case c1 => assumption); (case c2 => assumption)))

/-! ### rings: the mathematics -/
/-- r is a whole table of the seating h, from its first guest on to the left -/
structure Rg (h r : List Nat) : Prop where
  ne : 0 < r.length
  nd : r.Nodup
  st : ∀ i, i < r.length → ∃ x y, r[i]? = some x ∧ r[(i + 1) % r.length]? = some y ∧ h[x]? = some y
def rot (r : List Nat) (k : Nat) : List Nat := r.drop k ++ r.take k
theorem rot_len {r : List Nat} {k : Nat} (hk : k ≤ r.length) : (rot r k).length = r.length := by
  unfold rot
  rw [List.length_append, List.length_drop, List.length_take]
  omega
theorem rot_get {r : List Nat} {k i : Nat} (hk : k < r.length) (hi : i < r.length) : (rot r k)[i]? = r[(i + k) % r.length]? := by
  unfold rot
  by_cases h : i < r.length - k
  · rw [List.getElem?_append_left (by rw [List.length_drop]; exact h), List.getElem?_drop, Nat.mod_eq_of_lt (by omega), Nat.add_comm]
  · rw [List.getElem?_append_right (by rw [List.length_drop]; omega), List.length_drop, List.getElem?_take_of_lt (by omega)]
    have e : (i + k) % r.length = i - (r.length - k) := by
      rw [Nat.mod_eq_sub_mod (by omega), Nat.mod_eq_of_lt (by omega)]
      omega
    rw [e]
theorem rot_perm (r : List Nat) (k : Nat) : (rot r k).Perm r := by
  unfold rot
  exact List.perm_append_comm.trans (List.Perm.of_eq (List.take_append_drop k r))
theorem Rg.rot {h r : List Nat} (R : Rg h r) {k : Nat} (hk : k < r.length) : Rg h (rot r k) := by
  have hl := rot_len (r := r) (k := k) (by omega)
  refine ⟨by have := R.ne; omega, (rot_perm r k).nodup_iff.mpr R.nd, fun i hi => ?_⟩
  rw [hl] at hi ⊢
  obtain ⟨x, y, h1, h2, h3⟩ := R.st ((i + k) % r.length) (Nat.mod_lt _ R.ne)
  refine ⟨x, y, by rw [rot_get hk hi]; exact h1, ?_, h3⟩
  rw [rot_get hk (Nat.mod_lt _ R.ne), ← h2, Nat.mod_add_mod, Nat.mod_add_mod]
  congr 2
  omega
structure Rings (h : List Nat) (rs : List (List Nat)) : Prop where
  rg : ∀ r ∈ rs, Rg h r
  low : ∀ r ∈ rs, ∀ x ∈ r, r.headD 0 ≤ x
  asc : (rs.map (·.headD 0)).Pairwise (· < ·)
  all : rs.flatten.Perm (List.range h.length)
def leads (r : List Nat) : Bool := decide (∀ x ∈ r, r.headD 0 ≤ x)
theorem Rings.turn {h : List Nat} {rs : List (List Nat)} (R : Rings h rs) {g : Nat} (hg : g < h.length) : ∃ w : List Nat, (∃ r ∈ rs, ∃ k, r[k]? = some g ∧ w = rot r k) := by
  have hm : g ∈ rs.flatten := R.all.mem_iff.mpr (List.mem_range.mpr hg)
  obtain ⟨r, hr, hgr⟩ := List.mem_flatten.mp hm
  obtain ⟨k, hk⟩ := List.mem_iff_getElem?.mp hgr
  exact ⟨rot r k, r, hr, k, hk, rfl⟩
theorem Rings.walks {h : List Nat} {rs : List (List Nat)} (R : Rings h rs) : ∃ f : Nat → List Nat, ∀ g, g < h.length → ∃ r ∈ rs, ∃ k, r[k]? = some g ∧ f g = rot r k :=
  ⟨fun g => if hg : g < h.length then Classical.choose (R.turn hg) else [], fun g hg => by
    have := Classical.choose_spec (R.turn hg)
    simp only [dif_pos hg]
    exact this⟩
theorem head_rot {r : List Nat} {k g : Nat} (hk : r[k]? = some g) : (rot r k).headD 0 = g := by
  obtain ⟨hl, e⟩ := List.getElem?_eq_some_iff.mp hk
  unfold rot
  rw [List.drop_eq_getElem_cons hl]
  exact e
theorem leads_rot {r : List Nat} {k g : Nat} (hk : r[k]? = some g) (lo : ∀ x ∈ r, r.headD 0 ≤ x) (ne : 0 < r.length) : leads (rot r k) = decide (g = r.headD 0) := by
  unfold leads
  rw [head_rot hk]
  have hmem : ∀ x, x ∈ rot r k ↔ x ∈ r := fun x => (rot_perm r k).mem_iff
  have h0 : r.headD 0 ∈ r := by
    cases r with
    | nil => simp at ne
    | cons a l => simp
  have hg : g ∈ r := List.mem_of_getElem? hk
  apply decide_eq_decide.mpr
  constructor
  · intro a
    have := a _ ((hmem _).mpr h0)
    have := lo g hg
    omega
  · intro a x hx
    rw [a]
    exact lo x ((hmem x).mp hx)
theorem rot_zero (r : List Nat) : rot r 0 = r := by
  unfold rot
  simp
theorem nodup_flat {rs : List (List Nat)} (h : rs.flatten.Nodup) {r r' : List Nat} {x : Nat} (hr : r ∈ rs) (hr' : r' ∈ rs) (hx : x ∈ r) (hx' : x ∈ r') : r = r' := by
  induction rs with
  | nil => cases hr
  | cons a l ih =>
    rw [List.flatten_cons, List.nodup_append] at h
    obtain ⟨h1, h2, h3⟩ := h
    rcases List.mem_cons.mp hr with e | q
    · rcases List.mem_cons.mp hr' with e' | q'
      · rw [e, e']
      · exact absurd rfl (h3 x (e ▸ hx) x (List.mem_flatten.mpr ⟨r', q', hx'⟩))
    · rcases List.mem_cons.mp hr' with e' | q'
      · exact absurd rfl (h3 x (e' ▸ hx') x (List.mem_flatten.mpr ⟨r, q, hx⟩))
      · exact ih h2 q q'
theorem Rings.nodup {h : List Nat} {rs : List (List Nat)} (R : Rings h rs) : rs.flatten.Nodup := R.all.nodup_iff.mpr List.nodup_range
/-- the walks that begin with their least guest are the rings -/
theorem Rings.lead {h : List Nat} {rs : List (List Nat)} (R : Rings h rs) {f : Nat → List Nat} (hf : ∀ g, g < h.length → ∃ r ∈ rs, ∃ k, r[k]? = some g ∧ f g = rot r k) : ((List.range h.length).map f).filter leads = rs := by
  rw [List.filter_map]
  have hd : ∀ g, g < h.length → leads (f g) = decide (g ∈ rs.map (·.headD 0)) := fun g hg => by
    obtain ⟨r, hr, k, hk, e⟩ := hf g hg
    rw [e, leads_rot hk (R.low r hr) (R.rg r hr).ne]
    apply decide_eq_decide.mpr
    constructor
    · intro a
      exact List.mem_map.mpr ⟨r, hr, a.symm⟩
    · intro a
      obtain ⟨r', hr', e'⟩ := List.mem_map.mp a
      have h0 : g ∈ r' := by
        have := (R.rg r' hr').ne
        cases r' with
        | nil => simp at this
        | cons b l => simp at e'; simp [e']
      have := nodup_flat R.nodup hr hr' (List.mem_of_getElem? hk) h0
      rw [this]
      exact e'.symm
  have hs : (List.range h.length).filter (leads ∘ f) = rs.map (·.headD 0) := by
    have e : (List.range h.length).filter (leads ∘ f) = (List.range h.length).filter (fun g => decide (g ∈ rs.map (·.headD 0))) := List.filter_congr fun g hg => hd g (List.mem_range.mp hg)
    rw [e]
    refine List.Perm.eq_of_pairwise (le := fun a b : Nat => a < b) (fun a b _ _ h1 h2 => by omega) (List.Pairwise.filter _ List.pairwise_lt_range) R.asc ?_
    refine (List.perm_ext_iff_of_nodup (List.Pairwise.filter _ List.nodup_range) (R.asc.imp fun h => Nat.ne_of_lt h)).mpr fun g => ?_
    rw [List.mem_filter]
    constructor
    · intro a
      exact of_decide_eq_true a.2
    · intro a
      refine ⟨?_, decide_eq_true a⟩
      obtain ⟨r', hr', e'⟩ := List.mem_map.mp a
      refine R.all.mem_iff.mp (List.mem_flatten.mpr ⟨r', hr', ?_⟩)
      have := (R.rg r' hr').ne
      cases r' with
      | nil => simp at this
      | cons b l => simp at e'; simp [e']
  rw [hs, List.map_map]
  refine (List.map_congr_left fun r hr => ?_).trans (List.map_id _)
  have ne := (R.rg r hr).ne
  have hm : r.headD 0 < h.length := List.mem_range.mp (R.all.mem_iff.mp (List.mem_flatten.mpr ⟨r, hr, by
    cases r with
    | nil => simp at ne
    | cons b l => simp⟩))
  obtain ⟨r', hr', k, hk, e⟩ := hf (r.headD 0) hm
  have e2 := nodup_flat R.nodup hr' hr (List.mem_of_getElem? hk) (by
    cases r with
    | nil => simp at ne
    | cons b l => simp)
  subst e2
  have k0 : k = 0 := by
    have h0 : r'[0]? = some (r'.headD 0) := by
      cases r' with
      | nil => simp at ne
      | cons b l => simp
    exact nd_ix (R.rg r' hr').nd hk h0
  show f (r'.headD 0) = r'
  rw [e, k0, rot_zero]

/-! ### rings by entries: the mathematics -/
def insr (pal one : Nat) (r : List Nat) : List Nat := if pal ∈ r ∧ pal ≠ one then r.take (r.idxOf pal + 1) ++ [one] ++ r.drop (r.idxOf pal + 1) else r
def rstep (rs : List (List Nat)) (one pal : Nat) : List (List Nat) := (if one = pal then rs ++ [[one]] else rs).map (insr pal one)
def ringsTo (e : List Nat) : Nat → List (List Nat)
  | 0 => []
  | i + 1 => rstep (ringsTo e i) i (e.getD i 0)
structure RI (m : Nat) (rs : List (List Nat)) : Prop where
  all : rs.flatten.Perm (List.range m)
  ne : ∀ r ∈ rs, 0 < r.length
  low : ∀ r ∈ rs, ∀ x ∈ r, r.headD 0 ≤ x
  asc : (rs.map (·.headD 0)).Pairwise (· < ·)
theorem insr_perm {pal one : Nat} {r : List Nat} (h : pal ∈ r) (ne : pal ≠ one) : (insr pal one r).Perm (one :: r) := by
  unfold insr
  rw [if_pos ⟨h, ne⟩, List.append_assoc]
  refine (List.Perm.append_left _ List.perm_append_comm).trans ?_
  rw [← List.append_assoc, List.take_append_drop]
  exact List.perm_append_comm
theorem insr_no {pal one : Nat} {r : List Nat} (h : pal ∉ r) : insr pal one r = r := if_neg fun q => h q.1
theorem insr_same {pal one : Nat} {r : List Nat} (h : pal = one) : insr pal one r = r := if_neg fun q => q.2 h
theorem insr_head {pal one : Nat} {r : List Nat} : (insr pal one r).headD 0 = r.headD 0 := by
  by_cases h : pal ∈ r ∧ pal ≠ one
  · unfold insr
    rw [if_pos h]
    cases r with
    | nil => simp at h
    | cons x l => simp
  · unfold insr
    rw [if_neg h]
theorem insr_len {pal one : Nat} {r : List Nat} (h : 0 < r.length) : 0 < (insr pal one r).length := by
  unfold insr
  split
  · simp
    omega
  · exact h
theorem insr_mem {pal one x : Nat} {r : List Nat} (h : x ∈ insr pal one r) : x ∈ r ∨ x = one := by
  by_cases q : pal ∈ r ∧ pal ≠ one
  · have := (insr_perm q.1 q.2).mem_iff.mp h
    rcases List.mem_cons.mp this with z | z
    · exact .inr z
    · exact .inl z
  · unfold insr at h
    rw [if_neg q] at h
    exact .inl h
theorem insr_all {pal one : Nat} (ne : pal ≠ one) : ∀ {rs : List (List Nat)}, rs.flatten.Nodup → pal ∈ rs.flatten → (rs.map (insr pal one)).flatten.Perm (one :: rs.flatten)
  | [], _, h => by simp at h
  | r :: l, nd, h => by
    rw [List.flatten_cons, List.nodup_append] at nd
    rw [List.map_cons, List.flatten_cons, List.flatten_cons]
    by_cases q : pal ∈ r
    · have hn : ∀ s ∈ l, pal ∉ s := fun s hs z => absurd rfl (nd.2.2 pal q pal (List.mem_flatten.mpr ⟨s, hs, z⟩))
      have e : l.map (insr pal one) = l := (List.map_congr_left fun s hs => insr_no (hn s hs)).trans (List.map_id _)
      rw [e]
      exact (List.Perm.append_right _ (insr_perm q ne))
    · rw [insr_no q]
      have h' : pal ∈ l.flatten := by
        rw [List.flatten_cons] at h
        rcases List.mem_append.mp h with z | z
        · exact absurd z q
        · exact z
      refine (List.Perm.append_left _ (insr_all ne nd.2.1 h')).trans ?_
      exact List.perm_middle
theorem RI.nd {m : Nat} {rs : List (List Nat)} (R : RI m rs) : rs.flatten.Nodup := R.all.nodup_iff.mpr List.nodup_range
theorem RI.mem {m x : Nat} {rs : List (List Nat)} (R : RI m rs) {r : List Nat} (hr : r ∈ rs) (hx : x ∈ r) : x < m := List.mem_range.mp (R.all.mem_iff.mp (List.mem_flatten.mpr ⟨r, hr, hx⟩))
theorem head_mem {r : List Nat} (h : 0 < r.length) : r.headD 0 ∈ r := by
  cases r with
  | nil => simp at h
  | cons x l => simp
theorem RI.step {one pal : Nat} {rs : List (List Nat)} (R : RI one rs) (h : pal ≤ one) : RI (one + 1) (rstep rs one pal) := by
  unfold rstep
  by_cases q : one = pal
  · rw [if_pos q]
    have e : (rs ++ [[one]]).map (insr pal one) = rs ++ [[one]] := (List.map_congr_left fun s _ => insr_same q.symm).trans (List.map_id _)
    rw [e]
    refine ⟨?_, ?_, ?_, ?_⟩
    · rw [List.flatten_append, List.range_succ]
      exact List.Perm.append_right _ R.all
    · intro r hr
      rcases List.mem_append.mp hr with z | z
      · exact R.ne r z
      · rw [List.mem_singleton.mp z]; simp
    · intro r hr
      rcases List.mem_append.mp hr with z | z
      · exact R.low r z
      · rw [List.mem_singleton.mp z]; simp
    · rw [List.map_append, List.pairwise_append]
      refine ⟨R.asc, by simp, fun a ha b hb => ?_⟩
      obtain ⟨r, hr, rfl⟩ := List.mem_map.mp ha
      have := R.mem hr (head_mem (R.ne r hr))
      simp at hb
      omega
  · rw [if_neg q]
    have hp : pal ∈ rs.flatten := R.all.mem_iff.mpr (List.mem_range.mpr (by omega))
    have eh : (rs.map (insr pal one)).map (·.headD 0) = rs.map (·.headD 0) := by
      rw [List.map_map]
      exact List.map_congr_left fun r _ => insr_head
    refine ⟨?_, ?_, ?_, ?_⟩
    · refine (insr_all (Ne.symm q) R.nd hp).trans ?_
      rw [List.range_succ]
      exact (List.Perm.cons _ R.all).trans (List.perm_append_comm (l₁ := [one]))
    · intro r hr
      obtain ⟨s, hs, rfl⟩ := List.mem_map.mp hr
      exact insr_len (R.ne s hs)
    · intro r hr x hx
      obtain ⟨s, hs, rfl⟩ := List.mem_map.mp hr
      rw [insr_head]
      rcases insr_mem hx with z | z
      · exact R.low s hs x z
      · have := R.mem hs (head_mem (R.ne s hs))
        omega
    · rw [eh]
      exact R.asc
theorem ringsTo_ok {e : List Nat} (h : ∀ (i x : Nat), e[i]? = some x → x ≤ i) : ∀ m, m ≤ e.length → RI m (ringsTo e m)
  | 0, _ => ⟨List.Perm.refl _, by simp [ringsTo], by simp [ringsTo], by simp [ringsTo]⟩
  | m + 1, hm => by
    have ih := ringsTo_ok h m (by omega)
    refine ih.step ?_
    have : e[m]? = some (e.getD m 0) := by
      rw [List.getD_eq_getElem?_getD, List.getElem?_eq_getElem (by omega)]
      rfl
    exact h m _ this
/-! the seating of rings -/
def succ (rs : List (List Nat)) (x : Nat) : Nat := match rs.find? (fun r => decide (x ∈ r)) with
  | some r => r.getD ((r.idxOf x + 1) % r.length) 0
  | none => 0
theorem succ_at {rs : List (List Nat)} (nd : rs.flatten.Nodup) {r : List Nat} (hr : r ∈ rs) {i x : Nat} (hx : r[i]? = some x) : succ rs x = r.getD ((i + 1) % r.length) 0 := by
  have hm := List.mem_of_getElem? hx
  have hf : rs.find? (fun r => decide (x ∈ r)) = some r := by
    cases hq : rs.find? (fun r => decide (x ∈ r)) with
    | none => exact absurd (decide_eq_true hm) (by simpa using List.find?_eq_none.mp hq r hr)
    | some s =>
      have h1 := List.mem_of_find?_eq_some hq
      have h2 := List.find?_some hq
      rw [nodup_flat nd h1 hr (of_decide_eq_true h2) hm]
  have ndr : r.Nodup := List.Pairwise.sublist (List.sublist_flatten_of_mem hr) nd
  have hi : r.idxOf x = i := by
    have hl := List.idxOf_lt_length_of_mem hm
    have := List.getElem_idxOf hl
    have h1 : r[r.idxOf x]? = some x := by rw [List.getElem?_eq_getElem hl, this]
    exact nd_ix ndr h1 hx
  unfold succ
  rw [hf]
  show r.getD ((r.idxOf x + 1) % r.length) 0 = _
  rw [hi]
def seat (rs : List (List Nat)) (n : Nat) : List Nat := (List.range n).map (succ rs)
theorem seat_rg {rs : List (List Nat)} {n : Nat} (hp : rs.flatten.Perm (List.range n)) {r : List Nat} (hr : r ∈ rs) (ne : 0 < r.length) : Rg (seat rs n) r := by
  have nd : rs.flatten.Nodup := hp.nodup_iff.mpr List.nodup_range
  refine ⟨ne, List.Pairwise.sublist (List.sublist_flatten_of_mem hr) nd, fun i hi => ?_⟩
  have hx : r[i]? = some r[i] := List.getElem?_eq_getElem hi
  have hm := Nat.mod_lt (i + 1) ne
  refine ⟨r[i], r[(i + 1) % r.length], hx, List.getElem?_eq_getElem hm, ?_⟩
  have hn : r[i] < n := List.mem_range.mp (hp.mem_iff.mp (List.mem_flatten.mpr ⟨r, hr, List.getElem_mem hi⟩))
  unfold seat
  rw [List.getElem?_map, List.getElem?_range hn]
  show some (succ rs r[i]) = _
  rw [succ_at nd hr hx, List.getD_eq_getElem?_getD, List.getElem?_eq_getElem hm]
  rfl
theorem seat_len (rs : List (List Nat)) (n : Nat) : (seat rs n).length = n := by simp [seat]
theorem map_rot {rs : List (List Nat)} (nd : rs.flatten.Nodup) {r : List Nat} (hr : r ∈ rs) (ne : 0 < r.length) : r.map (succ rs) = rot r (1 % r.length) := by
  have hk := Nat.mod_lt 1 ne
  refine List.ext_getElem? fun i => ?_
  by_cases hi : i < r.length
  · have hx : r[i]? = some r[i] := List.getElem?_eq_getElem hi
    have hm := Nat.mod_lt (i + 1) ne
    rw [List.getElem?_map, hx, rot_get hk hi, Nat.add_mod_mod]
    show some (succ rs r[i]) = _
    rw [succ_at nd hr hx, List.getD_eq_getElem?_getD, List.getElem?_eq_getElem hm]
    rfl
  · rw [List.getElem?_eq_none (by simp; omega), List.getElem?_eq_none (by rw [rot_len (by omega)]; omega)]
theorem flat_map_perm {g : Nat → Nat} : ∀ {rs : List (List Nat)}, (∀ r ∈ rs, (r.map g).Perm r) → (rs.flatten.map g).Perm rs.flatten
  | [], _ => List.Perm.refl _
  | r :: l, h => by
    rw [List.flatten_cons, List.map_append]
    exact List.Perm.append (h r (by simp)) (flat_map_perm fun s hs => h s (by simp [hs]))
theorem seat_perm {rs : List (List Nat)} {n : Nat} (hp : rs.flatten.Perm (List.range n)) (hne : ∀ r ∈ rs, 0 < r.length) : (seat rs n).Perm (List.range n) := by
  have nd : rs.flatten.Nodup := hp.nodup_iff.mpr List.nodup_range
  unfold seat
  refine ((hp.symm.map (succ rs)).trans (flat_map_perm fun r hr => ?_)).trans hp
  rw [map_rot nd hr (hne r hr)]
  exact rot_perm r _
theorem RI.rings {m : Nat} {rs : List (List Nat)} (R : RI m rs) : Rings (seat rs m) rs := ⟨fun r hr => seat_rg R.all hr (R.ne r hr), R.low, R.asc, by rw [seat_len]; exact R.all⟩
theorem seat_ord {rs : List (List Nat)} {n : Nat} (hp : rs.flatten.Perm (List.range n)) (hne : ∀ r ∈ rs, 0 < r.length) (h1 : 1 ≤ n) (h2 : n ≤ 20) : Ord (seat rs n) := by
  unfold Ord
  rw [seat_len]
  exact ⟨seat_perm hp hne, h1, h2⟩

/-! ### coming lists: the mathematics -/
def Cm (c : List Nat) : Prop := 1 ≤ c.length ∧ c.length ≤ 20 ∧ ∀ (i x : Nat), c[i]? = some x → x ≤ i
theorem Cm.get {c : List Nat} (h : Cm c) (k : Nat) : c.getD k 0 ≤ k := by
  rw [List.getD_eq_getElem?_getD]
  cases e : c[k]? with
  | none => exact Nat.zero_le _
  | some x => exact h.2.2 k x e
/-- one more guest at the left of x, or alone -/
def sits (h : List Nat) (k x : Nat) : List Nat := if x = k then h ++ [k] else ((h ++ [k]).set k (h.getD x 0)).set x k
def sby (c : List Nat) : Nat → List Nat
  | 0 => []
  | k + 1 => sits (sby c k) k (c.getD k 0)
theorem sits_len {h : List Nat} {k x : Nat} : (sits h k x).length = h.length + 1 := by
  unfold sits
  split <;> simp
theorem sby_len (c : List Nat) : ∀ k, (sby c k).length = k
  | 0 => rfl
  | k + 1 => by
    show (sits _ _ _).length = _
    rw [sits_len, sby_len c k]
theorem sby_take (c : List Nat) {w : Nat} (hw : w ≤ c.length) : ∀ k, k ≤ w → sby (c.take w) k = sby c k
  | 0, _ => rfl
  | k + 1, h => by
    show sits (sby (c.take w) k) k _ = sits (sby c k) k _
    rw [sby_take c hw k (by omega)]
    congr 1
    rw [List.getD_eq_getElem?_getD, List.getD_eq_getElem?_getD, List.getElem?_take]
    rw [if_pos (by omega)]
theorem insr_at {pal one : Nat} {r : List Nat} {j : Nat} (nd : r.Nodup) (hj : r[j]? = some pal) (ne : pal ≠ one) : insr pal one r = r.take (j + 1) ++ [one] ++ r.drop (j + 1) := by
  have hm := List.mem_of_getElem? hj
  have e : r.idxOf pal = j := by
    have hl := List.idxOf_lt_length_of_mem hm
    have h1 : r[r.idxOf pal]? = some pal := by rw [List.getElem?_eq_getElem hl, List.getElem_idxOf hl]
    exact nd_ix nd h1 hj
  unfold insr
  rw [if_pos ⟨hm, ne⟩, e]
theorem ins_get {r : List Nat} {j one t : Nat} (hj : j < r.length) : (r.take (j + 1) ++ [one] ++ r.drop (j + 1))[t]? = if t ≤ j then r[t]? else if t = j + 1 then some one else r[t - 1]? := by
  have l1 : (r.take (j + 1)).length = j + 1 := by rw [List.length_take]; omega
  split
  · rename_i h
    rw [List.getElem?_append_left (by simp; omega), List.getElem?_append_left (by omega), List.getElem?_take, if_pos (by omega)]
  · split
    · rename_i h1 h2
      subst h2
      rw [List.getElem?_append_left (by simp; omega), List.getElem?_append_right (by omega), l1, Nat.sub_self]
      rfl
    · rename_i h1 h2
      rw [List.getElem?_append_right (by simp; omega), List.getElem?_drop]
      congr 1
      simp
      omega
theorem ins_len {r : List Nat} {j one : Nat} (hj : j < r.length) : (r.take (j + 1) ++ [one] ++ r.drop (j + 1)).length = r.length + 1 := by
  simp
  omega
theorem mod_next {i L : Nat} (h : i < L) : (i + 1) % L = if i + 1 = L then 0 else i + 1 := by
  split
  · rename_i e
    rw [e, Nat.mod_self]
  · exact Nat.mod_eq_of_lt (by omega)
theorem getD_of {r : List Nat} {i x : Nat} (h : r[i]? = some x) : r.getD i 0 = x := by
  rw [List.getD_eq_getElem?_getD, h]
  rfl
/-- the left neighbours when one more guest has sat down -/
theorem succ_step {one pal : Nat} {rs : List (List Nat)} (R : RI one rs) (lt : pal < one) : succ (rstep rs one pal) pal = one ∧ succ (rstep rs one pal) one = succ rs pal ∧ ∀ x, x < one → x ≠ pal → succ (rstep rs one pal) x = succ rs x := by
  have ne : pal ≠ one := by omega
  have R2 := R.step (pal := pal) (by omega)
  have nd2 := R2.nd
  have nd := R.nd
  have e : rstep rs one pal = rs.map (insr pal one) := by
    unfold rstep
    rw [if_neg (by omega)]
  have hp : pal ∈ rs.flatten := R.all.mem_iff.mpr (List.mem_range.mpr lt)
  obtain ⟨r, hr, hpr⟩ := List.mem_flatten.mp hp
  obtain ⟨j, hj⟩ := List.mem_iff_getElem?.mp hpr
  have jl := (List.getElem?_eq_some_iff.mp hj).1
  have ndr : r.Nodup := List.Pairwise.sublist (List.sublist_flatten_of_mem hr) nd
  have ei := insr_at (one := one) ndr hj ne
  have mem2 : r.take (j + 1) ++ [one] ++ r.drop (j + 1) ∈ rstep rs one pal := by
    rw [e, ← ei]
    exact List.mem_map.mpr ⟨r, hr, rfl⟩
  have L := ins_len (one := one) jl
  have G := fun t => ins_get (one := one) (t := t) jl
  generalize hq : r.take (j + 1) ++ [one] ++ r.drop (j + 1) = q at *
  have atj : q[j]? = some pal := by rw [G, if_pos (Nat.le_refl _)]; exact hj
  have atj1 : q[j + 1]? = some one := by rw [G, if_neg (by omega), if_pos rfl]
  have s1 := succ_at nd2 mem2 atj
  have s2 := succ_at nd2 mem2 atj1
  have s0 := succ_at nd hr hj
  refine ⟨?_, ?_, ?_⟩
  · rw [s1, L, mod_next (by omega), if_neg (by omega)]
    exact getD_of atj1
  · rw [s2, L, s0, mod_next (by omega), mod_next jl]
    by_cases z : j + 1 = r.length
    · rw [if_pos (by omega), if_pos z, List.getD_eq_getElem?_getD, List.getD_eq_getElem?_getD, G, if_pos (by omega)]
    · rw [if_neg (by omega), if_neg z, List.getD_eq_getElem?_getD, List.getD_eq_getElem?_getD, G, if_neg (by omega), if_neg (by omega)]
      rfl
  · intro x hx nx
    have hxm : x ∈ rs.flatten := R.all.mem_iff.mpr (List.mem_range.mpr hx)
    obtain ⟨s, hs, hxs⟩ := List.mem_flatten.mp hxm
    obtain ⟨i, hi⟩ := List.mem_iff_getElem?.mp hxs
    have il := (List.getElem?_eq_some_iff.mp hi).1
    have t0 := succ_at nd hs hi
    by_cases hps : pal ∈ s
    · have : s = r := nodup_flat nd hs hr hps hpr
      subst this
      rw [t0, mod_next il]
      rcases Nat.lt_trichotomy i j with h | h | h
      · have t1 := succ_at nd2 mem2 (i := i) (x := x) (by rw [G, if_pos (by omega)]; exact hi)
        rw [t1, L, mod_next (by omega), if_neg (by omega), if_neg (by omega), List.getD_eq_getElem?_getD, List.getD_eq_getElem?_getD, G, if_pos (by omega)]
      · subst h
        rw [hj] at hi
        exact absurd (Option.some.inj hi).symm nx
      · have t1 := succ_at nd2 mem2 (i := i + 1) (x := x) (by
          rw [G, if_neg (by omega), if_neg (by omega)]
          exact hi)
        rw [t1, L, mod_next (by omega)]
        by_cases z : i + 1 = s.length
        · rw [if_pos (by omega), if_pos z, List.getD_eq_getElem?_getD, List.getD_eq_getElem?_getD, G, if_pos (by omega)]
        · rw [if_neg (by omega), if_neg z, List.getD_eq_getElem?_getD, List.getD_eq_getElem?_getD, G, if_neg (by omega), if_neg (by omega)]
          rfl
    · have mem3 : s ∈ rstep rs one pal := by
        rw [e]
        exact List.mem_map.mpr ⟨s, hs, insr_no hps⟩
      rw [succ_at nd2 mem3 hi, t0]
theorem succ_open {one : Nat} {rs : List (List Nat)} (R : RI one rs) : succ (rstep rs one one) one = one ∧ ∀ x, x < one → succ (rstep rs one one) x = succ rs x := by
  have R2 := R.step (pal := one) (Nat.le_refl _)
  have nd2 := R2.nd
  have nd := R.nd
  have e : rstep rs one one = rs ++ [[one]] := by
    unfold rstep
    rw [if_pos rfl]
    exact (List.map_congr_left fun s _ => insr_same rfl).trans (List.map_id _)
  refine ⟨?_, fun x hx => ?_⟩
  · have := succ_at nd2 (r := [one]) (by rw [e]; simp) (i := 0) (x := one) rfl
    rw [this]
    simp
  · have hxm : x ∈ rs.flatten := R.all.mem_iff.mpr (List.mem_range.mpr hx)
    obtain ⟨s, hs, hxs⟩ := List.mem_flatten.mp hxm
    obtain ⟨i, hi⟩ := List.mem_iff_getElem?.mp hxs
    rw [succ_at nd2 (r := s) (by rw [e]; simp [hs]) hi, succ_at nd hs hi]
theorem sby_seat {c : List Nat} (h : ∀ (i x : Nat), c[i]? = some x → x ≤ i) : ∀ k, k ≤ c.length → sby c k = seat (ringsTo c k) k
  | 0, _ => rfl
  | k + 1, hk => by
    have ih := sby_seat h k (by omega)
    have R := ringsTo_ok h k (by omega)
    have hx : c.getD k 0 ≤ k := by
      have : c[k]? = some (c.getD k 0) := by
        rw [List.getD_eq_getElem?_getD, List.getElem?_eq_getElem (by omega)]
        rfl
      exact h k _ this
    show sits (sby c k) k (c.getD k 0) = (List.range (k + 1)).map (succ (rstep (ringsTo c k) k (c.getD k 0)))
    rw [ih]
    generalize c.getD k 0 = x at *
    generalize ringsTo c k = rs at *
    have sl := seat_len rs k
    refine List.ext_getElem? fun i => ?_
    rw [List.getElem?_map]
    unfold sits
    by_cases hxk : x = k
    · subst hxk
      obtain ⟨s1, s2⟩ := succ_open R
      rw [if_pos rfl]
      rcases Nat.lt_trichotomy i x with q | q | q
      · rw [List.getElem?_append_left (by omega), List.getElem?_range (by omega)]
        unfold seat
        rw [List.getElem?_map, List.getElem?_range q]
        show some _ = some _
        rw [s2 i q]
      · subst q
        rw [List.getElem?_append_right (by omega), sl, Nat.sub_self, List.getElem?_range (by omega)]
        show some i = some _
        rw [s1]
      · rw [List.getElem?_eq_none (by simp [sl]; omega), List.getElem?_eq_none (by simp; omega)]
        rfl
    · have xl : x < k := by omega
      obtain ⟨s1, s2, s3⟩ := succ_step R xl
      rw [if_neg hxk]
      have hgx : (seat rs k).getD x 0 = succ rs x := by
        refine getD_of ?_
        unfold seat
        rw [List.getElem?_map, List.getElem?_range xl]
        rfl
      rw [hgx, List.getElem?_set, List.getElem?_set]
      by_cases q1 : x = i
      · subst q1
        rw [if_pos rfl, if_pos (by simp [sl]; omega), List.getElem?_range (by omega)]
        show some k = some _
        rw [s1]
      · rw [if_neg q1]
        rcases Nat.lt_trichotomy i k with q | q | q
        · rw [if_neg (by omega), List.getElem?_append_left (by omega), List.getElem?_range (by omega)]
          unfold seat
          rw [List.getElem?_map, List.getElem?_range q]
          show some _ = some _
          rw [s3 i q (fun z => q1 z.symm)]
        · subst q
          rw [if_pos rfl, if_pos (by simp [sl]), List.getElem?_range (by omega)]
          show some _ = some _
          rw [s2]
        · rw [if_neg (by omega), List.getElem?_eq_none (by simp [sl]; omega), List.getElem?_eq_none (by simp; omega)]
          rfl
theorem sby_lt {c : List Nat} (h : ∀ (i x : Nat), c[i]? = some x → x ≤ i) {k : Nat} (hk : k ≤ c.length) {y : Nat} (hy : y ∈ sby c k) : y < k := by
  rw [sby_seat h k hk] at hy
  have R := ringsTo_ok h k hk
  have := (seat_perm R.all R.ne).mem_iff.mp hy
  exact List.mem_range.mp this
/-- the last guest's right neighbour, and the others without it -/
theorem sits_last {h : List Nat} {k x : Nat} (hl : h.length = k) (hlt : ∀ y ∈ h, y < k) (hx : x ≤ k) :
    (sits h k x)[x]? = some k ∧ (∀ m, m < x → (sits h k x)[m]? ≠ some k) ∧ ((sits h k x).set x ((sits h k x).getD k 0)).dropLast = h := by
  have at' : ∀ (m y : Nat), h[m]? = some y → y < k := fun m y hy => hlt y (List.mem_of_getElem? hy)
  unfold sits
  by_cases hxk : x = k
  · subst hxk
    rw [if_pos rfl]
    have g : (h ++ [x])[x]? = some x := by
      rw [List.getElem?_append_right (by omega), hl, Nat.sub_self]
      rfl
    refine ⟨g, fun m hm z => ?_, ?_⟩
    · rw [List.getElem?_append_left (by omega)] at z
      have := at' m x z
      omega
    · rw [getD_of g, List.set_append_right _ _ (by omega), hl, Nat.sub_self]
      simp
  · have xl : x < k := by omega
    rw [if_neg hxk]
    have l1 : ((h ++ [k]).set k (h.getD x 0)).length = k + 1 := by simp [hl]
    refine ⟨by rw [List.getElem?_set, if_pos rfl, if_pos (by omega)], fun m hm z => ?_, ?_⟩
    · rw [List.getElem?_set, if_neg (by omega), List.getElem?_set, if_neg (by omega), List.getElem?_append_left (by omega)] at z
      have := at' m k z
      omega
    · have g : (((h ++ [k]).set k (h.getD x 0)).set x k).getD k 0 = h.getD x 0 := by
        refine getD_of ?_
        rw [List.getElem?_set, if_neg (by omega), List.getElem?_set, if_pos rfl, if_pos (by simp [hl])]
      rw [g, List.set_set]
      have e1 : (h ++ [k]).set k (h.getD x 0) = h ++ [h.getD x 0] := by
        rw [List.set_append_right _ _ (by omega), hl, Nat.sub_self]
        rfl
      rw [e1, List.set_append_left _ _ (by omega), List.dropLast_concat]
      refine List.ext_getElem (by simp) fun i h1 h2 => ?_
      rw [List.getElem_set]
      split
      · rename_i q
        subst q
        exact getD_of (List.getElem?_eq_getElem h2)
      · rfl
/-- who opened the tables -/
theorem rings_heads (c : List Nat) : ∀ k, (ringsTo c k).map (·.headD 0) = (List.range k).filter fun i => decide (c.getD i 0 = i)
  | 0 => rfl
  | k + 1 => by
    have ih := rings_heads c k
    rw [List.range_succ, List.filter_append, ← ih]
    show (rstep (ringsTo c k) k (c.getD k 0)).map (·.headD 0) = _
    have eh : ∀ rs : List (List Nat), (rs.map (insr (c.getD k 0) k)).map (·.headD 0) = rs.map (·.headD 0) := fun rs => by
      rw [List.map_map]
      exact List.map_congr_left fun r _ => insr_head
    unfold rstep
    rw [eh]
    by_cases h : c.getD k 0 = k
    · have q : decide (c.getD k 0 = k) = true := decide_eq_true h
      rw [if_pos h.symm, List.map_append, List.filter_cons, q]
      rfl
    · have q : decide (c.getD k 0 = k) = false := decide_eq_false h
      rw [if_neg (fun z => h z.symm), List.filter_cons, q]
      simp


theorem given_at {n : Nat} (v : Nat → V) : given n (fun _ => true) v = (List.range n).map v := by
  unfold given
  rw [List.filter_eq_self.mpr fun _ _ => rfl]
theorem et_tru {K : PySem.W.Frag} {σ : L2.St} {H : Hp} {ta : TE} {a : Addr} {xs : List V} (h : Ev ta σ H (.ref a)) (hx : SqL K H a xs) : EvT (fun σ H Q => ta σ H fun x H' => ∃ k, TruV K x H' k ∧ Q k H') σ H (!xs.isEmpty) := fun H1 e Q q => h H1 e _ fun H2 e2 => ⟨_, .inl ⟨xs, ex_l (e.trans e2) hx, rfl⟩, q H2 e2⟩
section
variable {K : PySem.W.Frag} {σ : L2.St} {H : Hp} {ta te : TE} {tr : TA} {D : Ends}
theorem nv_flat (r : List Nat) : (nv r).all flatV = true := by
  rw [nv_eq, List.all_map, List.all_eq_true]
  intro x _
  rfl
theorem nv_in (r : List Nat) (x : Nat) : inV (.int x) (nv r) = decide (x ∈ r) := by
  unfold inV
  rw [nv_eq, List.any_map, Bool.eq_iff_iff, List.any_eq_true, decide_eq_true_iff]
  constructor
  · rintro ⟨y, hy, e⟩
    have : ((y : Int) == (x : Int)) = true := e
    have := eq_of_beq this
    have : y = x := by omega
    exact this ▸ hy
  · intro h
    exact ⟨x, h, beq_self_eq_true _⟩
theorem s_dropBM {r : V → List V → Hp → VK → Prop} {l : Addr} {xs : List V} (hl : H l = some (.lst xs)) (ha : Ev ta σ H (.ref l)) (k : ∀ H1, Ex H H1 → tr σ H1 fun vs H2 => r (.ref l) vs H2 fun _ H3 => D.nx σ H3) : tDrop (tBM K "list" r ta tr) D σ H :=
  ha H (Ex.refl H) _ fun H1 e1 => ⟨Or.inl ⟨rfl, xs, sq_of (e1 l _ hl)⟩, k H1 e1⟩
theorem ev_index {l : Addr} {r : List Nat} {x : Nat} (hl : H l = some (.lst (nv r))) (ha : Ev ta σ H (.ref l)) (he : Ev te σ H (.int (x : Int))) (hx : x ∈ r) : Ev (tBM K "list" (rIndex K) ta (tCons te tNil)) σ H (.int (r.idxOf x : Nat)) := fun H1 e Q q =>
  ha H1 e _ fun H2 e2 => ⟨Or.inl ⟨rfl, _, sq_of (e2 l _ (e l _ hl))⟩, he H2 (e.trans e2) _ fun H3 e3 => by
    have hlt := List.idxOf_lt_length_of_mem hx
    refine ⟨l, nv r, .int x, r.idxOf x, .int x, rfl, rfl, sq_of (e3 l _ (e2 l _ (e l _ hl))), rfl, nv_flat r, nv_get (by rw [List.getElem?_eq_getElem hlt, List.getElem_idxOf hlt]), beq_self_eq_true _, fun m z hm hz => ?_, q H3 (e2.trans e3)⟩
    have hml : m < r.length := by omega
    have := nv_get (List.getElem?_eq_getElem hml)
    rw [hz] at this
    have ez := Option.some.inj this
    subst ez
    show ((r[m] : Int) == (x : Int)) = false
    rw [beq_eq_false_iff_ne]
    intro ee
    have ee' : r[m] = x := by omega
    have h1 : r.idxOf x ≤ m := by
      have hh : r.findIdx (· == x) ≤ m := by
        refine Nat.le_of_not_lt fun hlt2 => ?_
        have := List.not_of_lt_findIdx hlt2
        rw [ee'] at this
        simp at this
      exact hh
    omega⟩
end

local macro_rules | `(tactic| walk_at "call") => `(tactic| (with_reducible exact sv_whole))
local macro_rules | `(tactic| walk_at "call") => `(tactic| ((with_reducible refine' sv_order ?c1 ?c2); (case c1 => assumption); (case c2 => assumption)))
local macro_rules | `(tactic| walk_at "call") => `(tactic| ((with_reducible refine' sv_ord ?c1 ?c2); (case c1 => assumption); (case c2 => assumption)))

/-! ### is_within of anything, is_coming of anything -/
def inD (l m : Int) : PyData → Bool
  | .int i => decide (l ≤ i) && decide (i ≤ m)
  | _ => false
def sp_is_within (K : PySem.W.Frag) : Sp := fun vs H Q _ => ∃ (v : V) (d : PyData) (l m : Int), vs = [v, .int l, .int m] ∧ It K H v d ∧ RetV (.bl (inD l m d)) H Q
theorem sv_within {K : PySem.W.Frag} {H : Hp} {v : V} {d : PyData} {l m : Int} (h : It K H v d) : SpV (sp_is_within K) ([v, .int l, .int m] ++ []) H (.bl (inD l m d)) := fun H1 e Q q E => ⟨v, d, l, m, rfl, h.ex e, q⟩
theorem sv_between {K : PySem.W.Frag} {H : Hp} {x l m : Int} : SpV (sp_is_within K) ([.int x, .int l, .int m] ++ []) H (.bl (decide (l ≤ x) && decide (x ≤ m))) := fun H1 _ Q q E => ⟨.int x, .int x, l, m, rfl, .int x, q⟩
def allIn : Nat → List PyData → Bool
  | _, [] => true
  | k, d :: r => inD 0 (k : Int) d && allIn (k + 1) r
/-- whether a thing is a coming list -/
def judgeC : Option (List PyData) → Bool
  | none => false
  | some ds => lenOk ds.length && allIn 0 ds
theorem allIn_eq : ∀ (k : Nat) (ds : List PyData), allIn k ds = ((List.range ds.length).map fun i => inD 0 ((k + i : Nat) : Int) (ds.getD i .none)).all id
  | _, [] => rfl
  | k, d :: r => by
    rw [List.length_cons, List.range_succ_eq_map, List.map_cons, List.all_cons, List.map_map]
    show (inD 0 (k : Int) d && allIn (k + 1) r) = (inD 0 ((k + 0 : Nat) : Int) d && _)
    rw [allIn_eq (k + 1) r, Nat.add_zero]
    congr 3
    funext i
    show inD 0 ((k + 1 + i : Nat) : Int) (r.getD i .none) = inD 0 ((k + (i + 1) : Nat) : Int) (r.getD i .none)
    rw [show k + 1 + i = k + (i + 1) by omega]
theorem allIn_isI : ∀ {k : Nat} {ds : List PyData}, allIn k ds = true → ds.all isI = true
  | _, [], _ => rfl
  | k, d :: r, h => by
    have h : (inD 0 (k : Int) d && allIn (k + 1) r) = true := h
    rw [Bool.and_eq_true] at h
    rw [List.all_cons, Bool.and_eq_true]
    refine ⟨?_, allIn_isI h.2⟩
    cases d <;> first | rfl | exact Bool.noConfusion h.1
def sp_anyC (K : PySem.W.Frag) : Sp := fun vs H Q _ => ∃ (v : V) (o : Option (List PyData)), vs = [v] ∧ Th K H v o ∧ RetV (.bl (judgeC o)) H Q
theorem sv_anyC {K : PySem.W.Frag} {H : Hp} {v : V} {o : Option (List PyData)} (hv : Th K H v o) : SpV (sp_anyC K) ([v] ++ []) H (.bl (judgeC o)) := fun H1 e Q q E => ⟨v, o, rfl, hv.ex e, q⟩
theorem allIn_cm : ∀ {c : List Nat} {k : Nat}, (∀ (i x : Nat), c[i]? = some x → x ≤ k + i) → allIn k ((iz c).map PyData.int) = true
  | [], _, _ => rfl
  | x :: r, k, h => by
    show (inD 0 (k : Int) (.int (x : Int)) && allIn (k + 1) ((iz r).map PyData.int)) = true
    have h0 := h 0 x rfl
    rw [allIn_cm (c := r) (k := k + 1) fun i y hy => by have := h (i + 1) y hy; omega]
    show ((decide ((0 : Int) ≤ (x : Int)) && decide ((x : Int) ≤ (k : Int))) && true) = true
    rw [decide_eq_true (by omega), decide_eq_true (by omega)]
    rfl
theorem judgeC_cm {c : List Nat} (o : Cm c) : judgeC (some ((iz c).map PyData.int)) = true := by
  have el : ((iz c).map PyData.int).length = c.length := by simp [iz]
  have e := allIn_cm (c := c) (k := 0) fun i x hx => by have := o.2.2 i x hx; omega
  have o1 := o.1
  have o2 := o.2.1
  unfold judgeC lenOk
  simp only
  rw [el, e, decide_eq_true (by omega), decide_eq_true (by omega)]
  rfl
theorem th_row {K : PySem.W.Frag} {H : Hp} {a : Addr} {h : List Nat} (ha : H a = some (.lst (nv h))) : Th K H (.ref a) (some ((iz h).map PyData.int)) := .lst ha (ita_ints _) (fine_ints _)
theorem sv_coming {K : PySem.W.Frag} {H : Hp} {a : Addr} {c : List Nat} (ha : H a = some (.lst (nv c))) (o : Cm c) : SpV (sp_anyC K) ([.ref a] ++ []) H (.bl true) := by
  have := sv_anyC (K := K) (th_row ha)
  rw [judgeC_cm o] at this
  exact this
def sp_com (v : V) : Sp := fun vs H Q _ => ∃ (a : Addr) (c : List Nat), vs = [.ref a] ∧ H a = some (.lst (nv c)) ∧ Cm c ∧ RetV v H Q
theorem sv_com {H : Hp} {v : V} {a : Addr} {c : List Nat} (ha : H a = some (.lst (nv c))) (o : Cm c) : SpV (sp_com v) ([.ref a] ++ []) H v := fun H1 e Q q E => ⟨a, c, rfl, e a _ ha, o, q⟩
def sp_seating_by : Sp := fun vs H Q _ => ∃ (a : Addr) (c : List Nat), vs = [.ref a] ∧ H a = some (.lst (nv c)) ∧ Cm c ∧ RetL (nv (sby c c.length)) H Q
theorem sl_seating_by {H : Hp} {a : Addr} {c : List Nat} (ha : H a = some (.lst (nv c))) (o : Cm c) : SpL sp_seating_by ([.ref a] ++ []) H (nv (sby c c.length)) := fun H1 e Q q E => ⟨a, c, rfl, e a _ ha, o, q⟩
def sp_coming_of : Sp := fun vs H Q _ => ∃ (a : Addr) (c : List Nat), vs = [.ref a] ∧ H a = some (.lst (nv (sby c c.length))) ∧ Cm c ∧ RetL (nv c) H Q
theorem sl_coming_of {H : Hp} {a : Addr} {c : List Nat} (ha : H a = some (.lst (nv (sby c c.length)))) (o : Cm c) : SpL sp_coming_of ([.ref a] ++ []) H (nv c) := fun H1 e Q q E => ⟨a, c, rfl, e a _ ha, o, q⟩
def opens (c : List Nat) : List Nat := (List.range c.length).filter fun i => decide (c.getD i 0 = i)
theorem Cm.ord {c : List Nat} (o : Cm c) : Ord (sby c c.length) := by
  rw [sby_seat o.2.2 _ (Nat.le_refl _)]
  have R := ringsTo_ok o.2.2 c.length (Nat.le_refl _)
  exact seat_ord R.all R.ne o.1 o.2.1
theorem Cm.rings {c : List Nat} (o : Cm c) : Rings (sby c c.length) (ringsTo c c.length) := by
  rw [sby_seat o.2.2 _ (Nat.le_refl _)]
  exact (ringsTo_ok o.2.2 c.length (Nat.le_refl _)).rings
theorem last_some {xs : List V} {i : Nat} (h : xs.length = i + 1) : xs[xs.length - 1]? = some (xs.getD i .non) := by
  rw [h, show i + 1 - 1 = i by omega, List.getD_eq_getElem?_getD, List.getElem?_eq_getElem (by omega)]
  rfl
theorem idx_first {l : List Nat} {k x : Nat} (h1 : l[x]? = some k) (h2 : ∀ m, m < x → l[m]? ≠ some k) : l.idxOf k = x := by
  have hm := List.mem_of_getElem? h1
  have hl := List.idxOf_lt_length_of_mem hm
  have h3 : l[l.idxOf k]? = some k := by rw [List.getElem?_eq_getElem hl, List.getElem_idxOf hl]
  have le : l.idxOf k ≤ x := by
    rcases Nat.lt_or_ge x (l.idxOf k) with q | q
    · have := List.not_of_lt_findIdx (p := (· == k)) (xs := l) (i := x) (by simpa [List.idxOf] using q)
      have xl := (List.getElem?_eq_some_iff.mp h1).1
      have ex := (List.getElem?_eq_some_iff.mp h1).2
      simp [ex] at this
    · exact q
  rcases Nat.lt_or_eq_of_le le with q | q
  · exact absurd h3 (h2 _ q)
  · exact q
section
variable {K : PySem.W.Frag} {σ : L2.St} {H : Hp} {ta te tl : TE} {D : Ends} {tz : TS}
theorem el_by1 {c : List Nat} {E : XK} (h : EvL ta σ H (nv c)) (o : Cm c) : EvL (tCall sp_seating_by [] E (tCons ta tNil)) σ H (nv (sby c c.length)) := fun H1 e Q q => h H1 e _ fun b H2 nb e2 hb => ⟨b, c, rfl, hb, o, fun r H3 nr e3 hr => q r H3 (fresh_back e2 nr) (e2.trans e3) hr⟩
theorem s_pop0 {l : Addr} {xs : List V} {y : V} (hl : H l = some (.lst xs)) (hy : xs[xs.length - 1]? = some y) (ha : Ev ta σ H (.ref l)) (k : ∀ H1, Ex H H1 → D.nx σ (upd H1 l (.lst xs.dropLast))) : tDrop (tBM0 K "list" rPop ta) D σ H :=
  ha H (Ex.refl H) _ fun H1 e1 => ⟨Or.inl ⟨rfl, xs, sq_of (e1 l _ hl)⟩, ⟨l, xs, y, rfl, rfl, e1 l _ hl, hy, k H1 e1⟩⟩
end
section
variable {P : Program} {w : World} {K : PySem.W.Frag} {mg : Str → Option Value} {base : Heap}
theorem ok_is_within (T : Tx K mg) : FnOk P w K mg base CX0 2 T.f_is_within T.d_is_within ["thing", "least", "most"] (sp_is_within K) := by
  refine T.F_is_within.ok sc_is_within (fun vs H Q E h => ?_) (fun cdv A outer s H vs Q E hr h => ?_)
  · obtain ⟨v, d, l, m, rfl, _⟩ := h
    rfl
  · obtain ⟨v, d, l, m, rfl, hv, k⟩ := h
    refine ⟨_, (pss_one (ps_ret (pe_and (pe_call (ok_is_whole T) (hr.mono (by decide)) (by rfl) T.g_is_whole T.F_is_whole.kp T.b_is_whole .nil pass0 (pa_cons (pv 0) pa_nil)) (pe_one (pe_chain op_le op_le (pv 1) (pv 0) (pv 2)))))), ?_⟩
    cases hd : isI d with
    | false =>
      have e : inD l m d = false := by cases d <;> first | rfl | exact Bool.noConfusion hd
      rw [e] at k
      have wh := ev_call (E := E0) (ea_cons (ev_var (i := 0) (v := v) (σ := start n_is_within [v, .int l, .int m]) (H := H) rfl) ea_nil) (sv_wholeD hv)
      rw [hd] at wh
      exact s_ret (ev_is (ev_andV (b := false) wh fun z => Bool.noConfusion z) rfl) fun H1 e1 => k _ e1
    | true =>
      cases hv with
      | int i =>
        refine s_ret (v := .bl (inD l m (.int i))) (ev_is (by walk_at "ev") (by rfl)) fun H1 e1 => k _ e1
      | non => exact Bool.noConfusion hd
      | bl b => exact Bool.noConfusion hd
      | str x => exact Bool.noConfusion hd
      | lst _ _ => exact Bool.noConfusion hd
local macro_rules | `(tactic| walk_at "call") => `(tactic| (with_reducible exact sv_between))
theorem ok_is_coming (T : Tx K mg) : FnOk P w K mg base CX0 3 T.f_is_coming T.d_is_coming ["thing"] (sp_anyC K) := by
  refine T.F_is_coming.ok sc_is_coming (fun vs H Q E h => ?_) (fun cdv A outer s H vs Q E hr h => ?_)
  · obtain ⟨v, o, rfl, _⟩ := h
    rfl
  · obtain ⟨v, o, rfl, hv, k⟩ := h
    refine ⟨_, (pss_cons (ps_if (PW.pt (pw_or (pt_cmpR (op_neTyG (hu_of hr)) (pe_typeOf2 (by rfl) T.m_type (pv 0)) (pe_bltn (v := .ty "list") (by rfl) T.m_list (by decide +kernel) rfl) (nomark _)) (pw_or1 (pt_not (pt_chain op_le op_le pe_int (pe_callB call_lenR (by rfl) T.m_len (by decide +kernel) (pa_cons (pv 0) pa_nil)) (pe_gc (by rfl) T.c_MOST_GUESTS)))))) (pss_one (ps_ret pe_bl)) pss_nil)
      (pss_one (ps_ret (pe_callB (cr_all rfl) (by rfl) T.m_all (by decide +kernel) (pa_cons (pe_lc (own := [("guest", 1), ("item", 2)]) (g := (gTup _ 2 (gCons (gName 1) (gCons (gName 2) gNil)))) (tt := tYes) rfl sc_is_coming.nd (pi_enum (by rfl) T.m_enumerate (pa_cons (pv 0) pa_nil)) (blkOk_by (own := [("guest", 1), ("item", 2)]) (N := n_is_coming) (sc := defScope s_is_coming) (by decide +kernel)) (fun _ _ _ _ _ => (pg_tup rfl (pgs_cons (pg_name (i := 1) sc_is_coming.nd rfl (Or.inl rfl)) (pgs_cons (pg_name (i := 2) sc_is_coming.nd rfl (Or.inl rfl)) pgs_nil)))) (fun _ _ _ _ _ => pts_nil) (fun _ _ _ _ _ => (pe_call (ok_is_within T) (hr.mono (by decide)) (by rfl) T.g_is_within T.F_is_within.kp T.b_is_within .nil pass0 (pa_cons (pv 2) (pa_cons pe_int (pa_cons (pv 1) pa_nil)))))) pa_nil))))), ?_⟩
    cases o with
    | none =>
      refine q_when (b := true) (et_is (et_or (b := false) (et_test (ev_noList (ev_var rfl) hv)) fun z => Bool.noConfusion z) rfl) (fun _ H1 e1 => ?_) fun hb => Bool.noConfusion hb
      exact s_ret ev_c fun H2 e2 => k _ (e1.trans e2)
    | some ds =>
      have hv0 := hv
      cases hv with
      | @lst a xs _ ha hd hf =>
        have hl : xs.length = ds.length := hd.len
        refine q_when (b := !lenOk ds.length) (et_is (et_or (et_test (ev_noList (ev_var rfl) hv0)) fun _ => et_not (et_test (ev_chainI ev_c (ev_len (ev_var rfl) (sq_of ha)) ev_c))) (by rw [hl]; rfl)) (fun hb H1 e1 => ?_) fun hb H1 e1 => ?_
        · have hb : lenOk ds.length = false := by simpa using hb
          have ej : judgeC (some ds) = false := by
            unfold judgeC
            simp only
            rw [hb]
            rfl
          rw [ej] at k
          exact s_ret ev_c fun H2 e2 => k _ (e1.trans e2)
        · have hb : lenOk ds.length = true := by simpa using hb
          have hn : 1 ≤ ds.length ∧ ds.length ≤ 20 := by
            unfold lenOk at hb
            simp at hb
            omega
          have h1 := e1 a _ ha
          have ej : judgeC (some ds) = ((List.range ds.length).map fun i : Nat => inD 0 (i : Int) (ds.getD i .none)).all id := by
            unfold judgeC
            simp only
            rw [hb, allIn_eq, Bool.true_and]
            congr 2
            funext i
            rw [Nat.zero_add]
          rw [ej] at k
          refine s_ret (ev_allN (K := K) ?_) fun H2 e2 => k _ (e1.trans e2)
          have g := el_en (K := K) (te := tCall (sp_is_within K) [] E0 (tCons (tVar 2) (tCons (tC (.int 0)) (tCons (tVar 1) tNil)))) (ta := tCons (tVar 0) tNil) (t := tYes) (i := 1) (j := 2) (vs := [1, 2]) (H := H1) (σ := start n_is_coming [.ref a]) (a := a) (xs := xs) (fun _ => true) (fun i : Nat => V.bl (inD 0 (i : Int) (ds.getD i .none))) (ea_cons (ev_var (i := 0) rfl) ea_nil) (sq_of h1) (by omega) (fun _ _ => rfl) (fun n x H2 e2 hx => et_yes) fun n x H2 e2 hx _ => ?_
          · have e : given xs.length (fun _ => true) (fun i : Nat => V.bl (inD 0 (i : Int) (ds.getD i .none))) = (((List.range ds.length).map fun i : Nat => inD 0 (i : Int) (ds.getD i .none))).map V.bl := by
              rw [given_at, hl, List.map_map]
              rfl
            rw [e] at g
            exact g
          · obtain ⟨d, hd1, hd2⟩ := ita_get hd hx
            have gd : ds.getD n .none = d := by rw [List.getD_eq_getElem?_getD, hd1] <;> rfl
            show Ev _ _ _ (V.bl (inD 0 (n : Int) (ds.getD n .none)))
            rw [gd]
            exact ev_call (ea_cons (ev_var rfl) (ea_cons ev_c (ea_cons (ev_var rfl) ea_nil))) (sv_within (hd2.ex (e1.trans e2)))
theorem ok_check_coming (T : Tx K mg) : FnOk P w K mg base CX0 4 T.f_check_coming T.d_check_coming ["coming"] (sp_com .non) := by
  refine T.F_check_coming.ok sc_check_coming (fun vs H Q E h => ?_) (fun cdv A outer s H vs Q E hr h => ?_)
  · obtain ⟨a, h, rfl, _⟩ := h
    rfl
  · obtain ⟨a, h, rfl, ha, o, k⟩ := h
    refine ⟨_, (pss_one (ps_if (pt_not (pt_val (pe_call (ok_is_coming T) (hr.mono (by decide)) (by rfl) T.g_is_coming T.F_is_coming.kp T.b_is_coming .nil pass0 (pa_cons (pv 0) pa_nil)))) (pss_one ps_never) pss_nil)), ?_⟩
    exact s_when (b := false) (et_is (et_not (et_B (ev_call (ea_cons (ev_var rfl) ea_nil) (sv_coming ha o)))) (by rfl)) (fun hb => Bool.noConfusion hb) fun _ H1 e1 => k _ e1
theorem ok_seating_by (T : Tx K mg) : FnOk P w K mg base CX0 5 T.f_seating_by T.d_seating_by ["coming"] sp_seating_by := by
  refine T.F_seating_by.ok sc_seating_by (fun vs H Q E h => ?_) (fun cdv A outer s H vs Q E hr h => ?_)
  · obtain ⟨a, c, rfl, _⟩ := h
    rfl
  · obtain ⟨a, c, rfl, ha, o, k⟩ := h
    refine ⟨_, (pss_cons (ps_expr (pe_call (ok_check_coming T) (hr.mono (by decide)) (by rfl) T.g_check_coming T.F_check_coming.kp T.b_check_coming .nil pass0 (pa_cons (pv 0) pa_nil)))
      (pss_cons (ps_set (i := 1) sc_seating_by.nd rfl (Or.inl rfl) (pe_lst pa_nil))
      (pss_cons (ps_for PassesOwn.never rfl (pi_enum (by rfl) T.m_enumerate (pa_cons (pv 0) pa_nil)) (pg_tup rfl (pgs_cons (pg_name (i := 2) sc_seating_by.nd rfl (Or.inl rfl)) (pgs_cons (pg_name (i := 3) sc_seating_by.nd rfl (Or.inl rfl)) pgs_nil))) (pss_cons (ps_expr (pe_bm PySem.F.plainAttrs_list PySem.F.slot_list_append PySem.F.type_list_append mt_append (pv 1) (pa_cons (pv 2) pa_nil)))
      (pss_one (ps_if (pt_cmpR op_ne (pv 3) (pv 2) (nomark _)) (pss_cons (ps_asg (pe_ix ix_list (pv 1) (pv 3) (fun _ _ => rfl)) (pg_sub (pv 1) (pv 2) set_list))
      (pss_one (ps_asg (pv 2) (pg_sub (pv 1) (pv 3) set_list)))) pss_nil))))
      (pss_one (ps_ret (pv 1)))))), ?_⟩
    have o2 := o.2.1
    refine q_drop (ev_call (ea_cons (ev_var rfl) ea_nil) (sv_com ha o)) fun H1 e1 => ?_
    refine q_asgL (xs := []) (el_lst ea_nil (Nat.le_of_ble_eq_true rfl)) fun p H2 hp e2 hp2 => ?_
    have np : H p = none := fresh_back e1 hp
    have ha2 := e2 a _ (e1 a _ ha)
    have lc := nv_len c
    refine q_forEn (ea_cons (ev_var rfl) ea_nil) (sq_of ha2) (fun i σ' H' => ∃ y z, σ' = [some (.ref a), some (.ref p), y, z] ∧ Ex H H' ∧ H' p = some (.lst (nv (sby c i)))) (fun H3 e3 => ⟨none, none, rfl, e1.trans (e2.trans e3), e3 p _ hp2⟩) (fun n σ' H' _ ⟨y, z, _, e, _⟩ => sq_of (e a _ ha)) ?_ ?_
    · rintro i x σ' H' H3 hx ⟨y, z, rfl, e, hl⟩ e3
      rw [nv_eq, List.getElem?_map] at hx
      obtain ⟨q, hq, rfl⟩ := Option.map_eq_some_iff.mp hx
      have hqi := o.2.2 i q hq
      have ci : c.getD i 0 = q := getD_of hq
      have il := (List.getElem?_eq_some_iff.mp hq).1
      have hl3 := e3 p _ hl
      have sl := sby_len c i
      refine q_app (xs := nv (sby c i)) hl3 (ev_var rfl) (ev_var rfl) (by rw [nv_len]; omega) fun H4 e4 => ?_
      have es : nv (sby c i) ++ [V.int (i : Int)] = nv (sby c i ++ [i]) := by rw [nv_app]; rfl
      rw [es]
      have eX : Ex H (upd H4 p (.lst (nv (sby c i ++ [i])))) := Ex.mut (e.trans (e3.trans e4)) np
      refine s_when (b := decide (q ≠ i)) (et_is (et_test (ev_op (ev_var rfl) (ev_var rfl) (rv_ne rfl))) ?_) (fun hb H5 e5 => ?_) fun hb H5 e5 => ?_
      · rw [Bool.eq_iff_iff]
        simp only [Bool.not_eq_true', decide_eq_false_iff_not, decide_eq_true_eq]
        constructor
        · intro h1 h2
          exact h1 (by rw [h2])
        · intro h1 h2
          exact h1 (by have := V.int.inj h2; omega)
      · have nq := of_decide_eq_true hb
        have ql : q < i := by omega
        have h5 := e5 p _ upd_same
        have at1 : (sby c i ++ [i])[q]? = some ((sby c i).getD q 0) := by
          rw [List.getElem?_append_left (by omega), List.getD_eq_getElem?_getD, List.getElem?_eq_getElem (by omega)]
          rfl
        refine q_setL (j := i) h5 (ev_op (ev_var rfl) (ev_var rfl) (rv_ixL (K := K) (sq_of h5) (atI_nat (nv_get at1)))) (ev_var rfl) (ev_var rfl) (by rw [nv_len]; simp; omega) fun H6 e6 => ?_
        have es2 : (nv (sby c i ++ [i])).set i (V.int (((sby c i).getD q 0 : Nat) : Int)) = nv ((sby c i ++ [i]).set i ((sby c i).getD q 0)) := by rw [nv_eq, nv_eq, List.map_set]
        rw [es2]
        refine s_setL (j := q) upd_same (ev_var rfl) (ev_var rfl) (ev_var rfl) (by rw [nv_len]; simp; omega) fun H7 e7 => ?_
        have es3 : (nv ((sby c i ++ [i]).set i ((sby c i).getD q 0))).set q (V.int (i : Int)) = nv (sby c (i + 1)) := by
          rw [nv_eq, nv_eq, ← List.map_set]
          congr 1
          show _ = sits (sby c i) i (c.getD i 0)
          unfold sits
          rw [ci, if_neg nq]
        rw [es3]
        exact ⟨_, _, rfl, Ex.mut ((Ex.mut (eX.trans (e5.trans e6)) np).trans e7) np, upd_same⟩
      · have eq : q = i := by simpa using hb
        refine ⟨_, _, rfl, eX.trans e5, ?_⟩
        have h5 := e5 p _ (upd_same (H := H4) (a := p) (o := .lst (nv (sby c i ++ [i]))))
        rw [h5]
        congr 2
        show _ = nv (sits (sby c i) i (c.getD i 0))
        unfold sits
        rw [ci, if_pos eq]
    · rintro σ' H' ⟨y, z, rfl, e, hl⟩
      rw [lc] at hl
      exact s_ret (ev_var rfl) fun H3 e3 => k p H3 np (e.trans e3) (e3 p _ hl)
theorem ok_coming_of (T : Tx K mg) : FnOk P w K mg base CX0 5 T.f_coming_of T.d_coming_of ["seating"] sp_coming_of := by
  refine T.F_coming_of.ok sc_coming_of (fun vs H Q E h => ?_) (fun cdv A outer s H vs Q E hr h => ?_)
  · obtain ⟨a, c, rfl, _⟩ := h
    rfl
  · obtain ⟨a, c, rfl, ha, o, k⟩ := h
    refine ⟨_, (pss_cons (ps_expr (pe_call (ok_check_seating T) (hr.mono (by decide)) (by rfl) T.g_check_seating T.F_check_seating.kp T.b_check_seating .nil pass0 (pa_cons (pv 0) pa_nil)))
      (pss_cons (ps_set (i := 1) sc_coming_of.nd rfl (Or.inl rfl) (pe_callTy call_listR (by rfl) T.m_list (by decide +kernel) (pa_cons (pv 0) pa_nil)))
      (pss_cons (ps_set (i := 2) sc_coming_of.nd rfl (Or.inl rfl) (pe_lst pa_nil))
      (pss_cons (ps_while PassesOwn.never (pt_truth (pv 1) (by intro _; rfl)) (pss_cons (ps_set (i := 3) sc_coming_of.nd rfl (Or.inl rfl) (pe_bm PySem.F.plainAttrs_list PySem.F.slot_list_index PySem.F.type_list_index mt_index (pv 1) (pa_cons (pe_op op_sub (pe_callB call_lenR (by rfl) T.m_len (by decide +kernel) (pa_cons (pv 1) pa_nil)) pe_int) pa_nil)))
      (pss_cons (ps_expr (pe_bm PySem.F.plainAttrs_list PySem.F.slot_list_append PySem.F.type_list_append mt_append (pv 2) (pa_cons (pv 3) pa_nil)))
      (pss_cons (ps_asg (pe_ix ix_list (pv 1) (pe_un un_neg pe_int) (fun _ _ => rfl)) (pg_sub (pv 1) (pv 3) set_list))
      (pss_one (ps_expr (pe_bm0 PySem.F.plainAttrs_list PySem.F.slot_list_pop PySem.F.type_list_pop mt_pop (pv 1))))))))
      (pss_one (ps_ret (pe_revL (pv 2)))))))), ?_⟩
    have oo := o.ord
    have o2 := o.2.1
    have sl := sby_len c c.length
    refine q_drop (ev_call (ea_cons (ev_var rfl) ea_nil) (sv_ord ha oo)) fun H1 e1 => ?_
    have ha1 := e1 a _ ha
    refine q_asgL (xs := nv (sby c c.length)) (el_list (ev_var rfl) (sq_of ha1)) fun b H2 nb e2 hb => ?_
    refine q_asgL (xs := []) (el_lst ea_nil (Nat.le_of_ble_eq_true rfl)) fun p H3 np e3 hp => ?_
    have fb : H b = none := fresh_back e1 nb
    have fp : H p = none := fresh_back (e1.trans e2) np
    have pb : p ≠ b := fun z => by
      subst z
      rw [hb] at np
      cases np
    refine q_while (fun m σ' H' => ∃ (i : Nat) (y : Option V), σ' = [some (.ref a), some (.ref b), some (.ref p), y] ∧ Ex H H' ∧ H' b = some (.lst (nv (sby c i))) ∧ H' p = some (.lst (nv (c.drop i).reverse)) ∧ i ≤ c.length ∧ m = i) c.length ⟨c.length, none, rfl, e1.trans (e2.trans e3), e3 b _ hb, by rw [hp, List.drop_length]; rfl, Nat.le_refl _, rfl⟩ ?_
    rintro m σ' H' ⟨i, y, rfl, e, hb', hp', hi, hm⟩
    subst hm
    have si := sby_len c m
    have lb := nv_len (sby c m)
    refine ⟨decide (m ≠ 0), et_is (et_tru (K := K) (ev_var rfl) (sq_of hb')) ?_, fun hz H4 e4 => ?_, fun hz H4 e4 => ?_⟩
    · have : (nv (sby c m)).length = m := by rw [lb, si]
      cases hq : nv (sby c m) with
      | nil =>
        rw [hq] at this
        have : m = 0 := this.symm
        subst this
        rfl
      | cons x l =>
        rw [hq] at this
        have : m ≠ 0 := by
          have : l.length + 1 = m := this
          omega
        rw [decide_eq_true this]
        rfl
    · have hz := of_decide_eq_true hz
      obtain ⟨i, rfl⟩ : ∃ i, m = i + 1 := ⟨m - 1, by omega⟩
      have ci := o.get i
      have hlt : ∀ y ∈ sby c i, y < i := fun y hy => sby_lt o.2.2 (by omega) hy
      obtain ⟨t1, t2, t3⟩ := sits_last (sby_len c i) hlt ci
      have es : sby c (i + 1) = sits (sby c i) i (c.getD i 0) := rfl
      rw [← es] at t1 t2 t3
      have hb4 := e4 b _ hb'
      have hp4 := e4 p _ hp'
      have ix := idx_first t1 t2
      have xl := (List.getElem?_eq_some_iff.mp t1).1
      have iv := ev_index (K := K) (ta := tVar 1) (te := tOp (rI0 fun i j => .int (i - j)) (tCB (rLenS K) (tCons (tVar 1) tNil)) (tC (.int 1))) (σ := [some (.ref a), some (.ref b), some (.ref p), y]) (x := i) hb4 (ev_var (i := 1) rfl) (ev_is (ev_op (ev_len (ev_var (i := 1) (v := .ref b) rfl) (sq_of hb4)) ev_c rv_I0) (by rw [lb, si]; congr 1; omega)) (List.mem_of_getElem? t1)
      rw [ix] at iv
      refine ⟨fun σ2 H8 => σ2 = [some (.ref a), some (.ref b), some (.ref p), some (.int ((c.getD i 0 : Nat) : Int))] ∧ Ex H H8 ∧ H8 b = some (.lst (nv (sby c i))) ∧ H8 p = some (.lst (nv (c.drop i).reverse)), fun σ2 H8 ⟨h1, h2, h3, h4⟩ => ⟨i, by omega, i, _, h1, h2, h3, h4, by omega, rfl⟩, ?_⟩
      refine q_asg iv fun H5 e5 => ?_
      have hb5 := e5 b _ hb4
      have hp5 := e5 p _ hp4
      refine q_app (xs := nv (c.drop (i + 1)).reverse) hp5 (ev_var rfl) (ev_var rfl) (by rw [nv_len]; simp; omega) fun H6 e6 => ?_
      have ep : nv (c.drop (i + 1)).reverse ++ [V.int ((c.getD i 0 : Nat) : Int)] = nv (c.drop i).reverse := by
        have hci : c[i]? = some (c.getD i 0) := by
          rw [List.getD_eq_getElem?_getD, List.getElem?_eq_getElem (by omega)]
          rfl
        obtain ⟨hk, hv⟩ := List.getElem?_eq_some_iff.mp hci
        rw [List.drop_eq_getElem_cons hk, List.reverse_cons, nv_app, hv]
        rfl
      rw [ep]
      have hb6 : (upd H6 p (.lst (nv (c.drop i).reverse))) b = some (.lst (nv (sby c (i + 1)))) := by
        rw [upd_ne (Ne.symm pb)]
        exact e6 b _ hb5
      have eX : Ex H (upd H6 p (.lst (nv (c.drop i).reverse))) := Ex.mut (e.trans (e4.trans (e5.trans e6))) fp
      have lastv : atI (nv (sby c (i + 1))) (-1) = some (.int (((sby c (i + 1)).getD i 0 : Nat) : Int)) := by
        have ne : sby c (i + 1) ≠ [] := fun z => by
          rw [z] at si
          simp at si
        obtain ⟨r, x, hr⟩ : ∃ r x, sby c (i + 1) = r ++ [x] := ⟨_, _, (List.dropLast_concat_getLast ne).symm⟩
        have rl : r.length = i := by
          rw [hr] at si
          simp at si
          exact si
        rw [hr, nv_app]
        have : (r ++ [x]).getD i 0 = x := getD_of (by rw [List.getElem?_append_right (by omega), rl, Nat.sub_self]; rfl)
        rw [this]
        exact atI_last _ _
      refine q_setL (j := c.getD i 0) hb6 (ev_op (ev_var rfl) (ev_un ev_c ru_neg) (rv_ixL (K := K) (sq_of hb6) lastv)) (ev_var rfl) (ev_var rfl) (by rw [lb]; exact xl) fun H7 e7 => ?_
      have es2 : (nv (sby c (i + 1))).set (c.getD i 0) (V.int (((sby c (i + 1)).getD i 0 : Nat) : Int)) = nv ((sby c (i + 1)).set (c.getD i 0) ((sby c (i + 1)).getD i 0)) := by rw [nv_eq, nv_eq, List.map_set]
      rw [es2]
      have l7 : (nv ((sby c (i + 1)).set (c.getD i 0) ((sby c (i + 1)).getD i 0))).length = i + 1 := by rw [nv_len, List.length_set, si]
      refine s_pop0 (xs := nv ((sby c (i + 1)).set (c.getD i 0) ((sby c (i + 1)).getD i 0))) (y := (nv ((sby c (i + 1)).set (c.getD i 0) ((sby c (i + 1)).getD i 0))).getD i .non) upd_same ?_ (ev_var rfl) fun H8 e8 => ⟨rfl, ?_, ?_, ?_⟩
      · exact last_some l7
      · exact Ex.mut ((Ex.mut (eX.trans e7) fb).trans e8) fb
      · rw [upd_same]
        congr 2
        rw [nv_eq, ← List.map_dropLast, t3, ← nv_eq]
      · rw [upd_ne pb]
        refine e8 p _ ?_
        rw [upd_ne pb]
        exact e7 p _ upd_same
    · have hz : m = 0 := by simpa using hz
      subst hz
      have hp4 := e4 p _ hp'
      refine s_retL (el_rev (K := K) (ev_var rfl) (sq_of hp4)) fun q H5 nq e5 h5 => k q H5 (fresh_back (e.trans e4) nq) (e.trans (e4.trans e5)) ?_
      rw [h5, nv_eq, ← List.map_reverse, List.reverse_reverse, List.drop_zero, nv_eq]
end


local macro_rules | `(tactic| walk_at "call") => `(tactic| (with_reducible exact sv_whole))
local macro_rules | `(tactic| walk_at "call") => `(tactic| ((with_reducible refine' sv_order ?c1 ?c2); (case c1 => assumption); (case c2 => assumption)))
local macro_rules | `(tactic| walk_at "call") => `(tactic| ((with_reducible refine' sv_ord ?c1 ?c2); (case c1 => assumption); (case c2 => assumption)))

/-! ### drawn lists -/
def EvPA (p L : Addr) (k : Nat) (ta : TA) (σ : L2.St) (H0 : Hp) (C : List V → Prop) : Prop := ∀ n H1, Ex H0 H1 → Po p L n H1 → n + k ≤ 1000000000 →
  ∀ Q : List V → Hp → Prop, (∀ vs H2, C vs → Po p L (n + k) H2 → Ex (Hm p H1) H2 → Q vs H2) → ta σ H1 Q
section
variable {K : PySem.W.Frag} {σ : L2.St} {H0 H : Hp} {p L : Addr} {k k1 k2 : Nat} {te ta tb : TE} {R Ra Rb : V → Hp → Prop} {tr : TA} {A : V → Prop} {B C : List V → Prop}
theorem epa_nil : EvPA p L 0 tNil σ H0 (fun vs => vs = []) := fun n H1 e hp _ Q q => q [] H1 rfl hp (hm_of (Ex.refl _))
theorem epa_cons (h0 : H0 p = none) (h : EvP p L k1 te σ H0 (fun v _ => A v)) (hr : EvPA p L k2 tr σ H0 B) : EvPA p L (k1 + k2) (tCons te tr) σ H0 (fun vs => ∃ v r, vs = v :: r ∧ A v ∧ B r) := fun n H1 e hp hn Q q =>
  h n H1 e hp (by omega) _ fun v H2 hv p2 e2 => hr (n + k1) H2 (hm_next h0 e e2) p2 (by omega) _ fun vs H3 hvs p3 e3 => q (v :: vs) H3 ⟨v, vs, rfl, hv, hvs⟩ (by rw [← Nat.add_assoc]; exact p3) (hm_trans e2 e3)
theorem epa_pure {v : V} (h0 : H0 p = none) (h : Ev te σ H0 v) (hr : EvPA p L k2 tr σ H0 B) : EvPA p L (0 + k2) (tCons te tr) σ H0 (fun vs => ∃ x r, vs = x :: r ∧ x = v ∧ B r) := epa_cons (A := fun x => x = v) h0 (ep_ev h) hr
theorem ep_lst (h : EvPA p L k tr σ H0 C) (hs : ∀ vs, C vs → vs.length ≤ 100000) : EvP p L k (tLst tr) σ H0 (fun x H => ∃ l vs, l ≠ p ∧ x = .ref l ∧ H l = some (.lst vs) ∧ C vs) := fun n H1 e hp hn Q q =>
  h n H1 e hp hn _ fun vs H2 c p2 e2 => ⟨sz_of (hs vs c), fun l hl => q _ _ ⟨l, vs, p2.ne hl, rfl, upd_same, c⟩ (p2.ex (Ex.new hl)) (hm_trans e2 (hm_of (Ex.new hl)))⟩
theorem stb_lst : Stb p (fun x H => ∃ l vs, l ≠ p ∧ x = .ref l ∧ H l = some (.lst vs) ∧ C vs) := fun v H H' ⟨l, vs, ne, e, h, c⟩ s => ⟨l, vs, ne, e, hm_at s ne h, c⟩
theorem ep_ix (h0 : H0 p = none) {ix : V → Prop} (ha : EvP p L k1 (tLst tr) σ H0 (fun x H => ∃ l vs, l ≠ p ∧ x = .ref l ∧ H l = some (.lst vs) ∧ C vs)) (hb : EvP p L k2 tb σ H0 (fun v _ => ix v)) (hat : ∀ vs v, C vs → ix v → ∃ i z, v = .int i ∧ atI vs i = some z ∧ A z) :
    EvP p L (k1 + k2) (tOp (rIxL K) (tLst tr) tb) σ H0 (fun v _ => A v) := ep_op h0 ha hb stb_lst stb_c fun x y H hx hy => by
  obtain ⟨l, vs, ne, rfl, hl, c⟩ := hx
  obtain ⟨i, z, rfl, hz, az⟩ := hat vs y c hy
  exact ⟨z, az, rv_ixL (sq_of hl) hz⟩
theorem ep_isZ (h0 : H0 p = none) (h : EvP p L k te σ H0 (fun v _ => ∃ r, v = .int r ∧ 0 ≤ r)) : EvP p L (k + 0) (tCB rIntB (tCons (tOp rEq te (tC (.int 0))) tNil)) σ H0 (fun v _ => v = .int 0 ∨ v = .int 1) := fun n H1 e hp hn Q q =>
  (ep_op (k1 := k) (k2 := 0) (R := fun v _ => ∃ b, v = .bl b) h0 h (ep_ev (v := .int 0) ev_c) stb_c stb_c fun x y H ⟨r, e1, _⟩ e2 => ⟨.bl (decide (x = y)), ⟨_, rfl⟩, by
    subst e1
    subst e2
    exact rv_eq rfl⟩) n H1 e hp hn _ fun v H2 ⟨b, hb⟩ p2 e2 => ⟨b, by rw [hb], q _ H2 (by cases b <;> simp) p2 e2⟩
theorem pq_parL {n i j : Nat} {D : Ends} {tz : TS} {ys : List V} (h : EvP p L k ta σ H0 R) (e : Ex H0 H) (hp : Po p L n H) (hn : n + k ≤ 1000000000) (hb : ∀ H1, EvL tb σ H1 ys) (q : ∀ v l H2 H3, R v H2 → (H2 l = none ∧ l ≠ p ∧ l ≠ L) → Ex H2 H3 → H3 l = some (.lst ys) → Po p L (n + k) H3 → Ex (Hm p H) H2 → tz D ((σ.set i (some v)).set j (some (.ref l))) H3) :
    tSeq (tPar i j (tCons ta (tCons tb tNil))) tz D σ H := h n H e hp hn _ fun v H2 hv p2 e2 => hb H2 H2 (Ex.refl _) _ fun l H3 hl e3 h3 => ⟨_, _, rfl, q v l H2 H3 hv ⟨hl, p2.ne hl, p2.nl hl⟩ e3 h3 (p2.ex e3) e2⟩
end

/-! ### _law_seating, _law_coming -/
theorem sby_ext {c : List Nat} {x : Nat} : sby (c ++ [x]) c.length = sby c c.length ∧ sby (c ++ [x]) (c.length + 1) = sits (sby c c.length) c.length x := by
  have h := sby_take (c ++ [x]) (w := c.length) (by simp) c.length (Nat.le_refl _)
  rw [List.take_append_of_le_length (Nat.le_refl _), List.take_length] at h
  refine ⟨h.symm, ?_⟩
  show sits (sby (c ++ [x]) c.length) c.length ((c ++ [x]).getD c.length 0) = _
  rw [← h, List.getD_eq_getElem?_getD, List.getElem?_append_right (Nat.le_refl _), Nat.sub_self]
  rfl
theorem sits_app {h : List Nat} {k x : Nat} (hl : h.length = k) (ne : x ≠ k) : sits h k x = (h ++ [h.getD x 0]).set x k := by
  unfold sits
  rw [if_neg ne]
  congr 1
  rw [List.set_append_right _ _ (by omega), hl, Nat.sub_self]
  rfl
section
variable {P : Program} {w : World} {K : PySem.W.Frag} {mg : Str → Option Value} {base : Heap}
end


local macro_rules | `(tactic| walk_at "call") => `(tactic| (with_reducible exact sv_whole))
local macro_rules | `(tactic| walk_at "call") => `(tactic| ((with_reducible refine' sv_order ?c1 ?c2); (case c1 => assumption); (case c2 => assumption)))
local macro_rules | `(tactic| walk_at "call") => `(tactic| ((with_reducible refine' sv_ord ?c1 ?c2); (case c1 => assumption); (case c2 => assumption)))

section
variable {K : PySem.W.Frag} {σ : L2.St} {H : Hp} {ta te : TE} {D : Ends} {tu tz : TS}
/-- for k in range(m - 1, -1, -1) -/
theorem q_forDn {t : TA} {j m : Nat} (h : EvA t σ H [.int ((m : Int) - 1), .int (-1), .int (-1)]) (hm : m ≤ 1000) (Pv : Nat → L2.St → Hp → Prop) (h0 : ∀ H1, Ex H H1 → Pv 0 σ H1)
    (hs : ∀ (i : Nat) σ' H', i < m → Pv i σ' H' → tu { D with nx := Pv (i + 1), ct := Pv (i + 1), bk := tz D } (σ'.set j (some (.int ((m - 1 - i : Nat) : Int)))) H') (hd : ∀ σ' H', Pv m σ' H' → tz D σ' H') : tSeq (tFor (iRng3 t) (gName j) tu) tz D σ H :=
  h H (Ex.refl H) _ fun H1 e => ⟨_, _, _, m, rfl, by
    have := RgC.neg (i := (m : Int) - 1) (j := -1) (by omega) (by omega) (by decide) (by decide)
    rwa [show ((m : Int) - 1 - -1).toNat = m by omega] at this, for_rangeC (lo := (m : Int) - 1) (c := -1) (n := m) (D := { D with nx := tz D }) Pv (h0 H1 e) (fun i σ' H' hi p => by
      have e0 : (m : Int) - 1 + (i : Int) * (-1) = ((m - 1 - i : Nat) : Int) := by omega
      show tu { D with nx := Pv (i + 1), ct := Pv (i + 1), bk := tz D } (σ'.set j (some (.int ((m : Int) - 1 + (i : Int) * (-1))))) H'
      rw [e0]
      exact hs i σ' H' hi p) hd⟩
theorem q_parL2 {i j : Nat} {xs ys : List V} {tb : TE} (ha : EvL ta σ H xs) (hb : EvL tb σ H ys) (k : ∀ p q H1, H p = none → H q = none → p ≠ q → Ex H H1 → H1 p = some (.lst xs) → H1 q = some (.lst ys) → tz D ((σ.set i (some (.ref p))).set j (some (.ref q))) H1) :
    tSeq (tPar i j (tCons ta (tCons tb tNil))) tz D σ H := ha H (Ex.refl H) _ fun p H1 hp e1 h1 => hb H1 e1 _ fun q H2 hq e2 h2 => ⟨_, _, rfl, k p q H2 hp (fresh_back e1 hq) (ne_of_none h1 hq) (e1.trans e2) (e2 p _ h1) h2⟩
end
/-- a coming list, perhaps empty -/
def CmW (c : List Nat) : Prop := c.length ≤ 20 ∧ ∀ (i x : Nat), c[i]? = some x → x ≤ i
theorem CmW.get {c : List Nat} (h : CmW c) (k : Nat) : c.getD k 0 ≤ k := by
  rw [List.getD_eq_getElem?_getD]
  cases q : c[k]? with
  | none => exact Nat.zero_le _
  | some x => exact h.2 k x q
theorem Cm.w {c : List Nat} (o : Cm c) : CmW c := ⟨o.2.1, o.2.2⟩
def sp_law_coming : Sp := fun vs H Q _ => ∃ (a : Addr) (c : List Nat), vs = [.ref a] ∧ H a = some (.lst (nv (sby c c.length))) ∧ CmW c ∧ RetL (nv c) H Q
theorem sl_law_coming {H : Hp} {a : Addr} {c : List Nat} (ha : H a = some (.lst (nv (sby c c.length)))) (o : CmW c) : SpL sp_law_coming ([.ref a] ++ []) H (nv c) := fun H1 e Q q E => ⟨a, c, rfl, e a _ ha, o, q⟩
section
variable {P : Program} {w : World} {K : PySem.W.Frag} {mg : Str → Option Value} {base : Heap}
theorem ok_law_coming (T : Tx K mg) : FnOk P w K mg base CX0 1 T.f_law_coming T.d_law_coming ["some"] sp_law_coming := by
  refine T.F_law_coming.ok sc_law_coming (fun vs H Q E h => ?_) (fun cdv A outer s H vs Q E hr h => ?_)
  · obtain ⟨a, c, rfl, _⟩ := h
    rfl
  · obtain ⟨a, c, rfl, ha, o, k⟩ := h
    refine ⟨_, (pss_cons (ps_par (i := 1) (j := 2) (by rfl) sc_law_coming.nd rfl rfl (by decide) rfl rfl (pa_cons (pe_callTy call_listR (by rfl) T.m_list (by decide +kernel) (pa_cons (pv 0) pa_nil)) (pa_cons (pe_lst pa_nil) pa_nil)) (by rfl))
      (pss_cons (ps_for PassesOwn.never rfl (pi_range3 (by rfl) T.m_range (pa_cons (pe_op op_sub (pe_callB call_lenR (by rfl) T.m_len (by decide +kernel) (pa_cons (pv 0) pa_nil)) pe_int) (pa_cons (pe_un un_neg pe_int) (pa_cons (pe_un un_neg pe_int) pa_nil)))) (pg_name (i := 3) sc_law_coming.nd rfl (Or.inl rfl)) (pss_cons (ps_set (i := 4) sc_law_coming.nd rfl (Or.inl rfl) (pe_bm PySem.F.plainAttrs_list PySem.F.slot_list_index PySem.F.type_list_index mt_index (pv 1) (pa_cons (pv 3) pa_nil)))
      (pss_cons (ps_set (i := 2) sc_law_coming.nd rfl (Or.inl rfl) (pe_op op_cat (pe_lst (pa_cons (pv 4) pa_nil)) (pv 2)))
      (pss_cons (ps_asg (pe_ix ix_list (pv 1) (pv 3) (fun _ _ => rfl)) (pg_sub (pv 1) (pv 4) set_list))
      (pss_one (ps_expr (pe_bm0 PySem.F.plainAttrs_list PySem.F.slot_list_pop PySem.F.type_list_pop mt_pop (pv 1))))))))
      (pss_one (ps_ret (pv 2))))), ?_⟩
    have o2 := o.1
    have sl := sby_len c c.length
    refine q_parL2 (xs := nv (sby c c.length)) (ys := nv []) (el_list (ev_var rfl) (sq_of ha)) (el_lst ea_nil (Nat.le_of_ble_eq_true rfl)) fun b q0 H1 fb fq bq e1 hb hq0 => ?_
    have len : Ev (tCB (rLenS K) (tCons (tVar 0) tNil)) [some (.ref a), some (.ref b), some (.ref q0), none, none] H1 (.int (c.length : Int)) := ev_is (ev_len (K := K) (ev_var (i := 0) rfl) (sq_of (e1 a _ ha))) (by rw [nv_len, sl])
    refine q_forDn (m := c.length) (ea_cons (ev_op len ev_c rv_I0) (ea_cons (ev_un ev_c ru_neg) (ea_cons (ev_un ev_c ru_neg) ea_nil))) (by omega) (fun i σ' H' => ∃ (q : Addr) (y3 y4 : Option V), σ' = [some (.ref a), some (.ref b), some (.ref q), y3, y4] ∧ Ex H H' ∧ H q = none ∧ q ≠ b ∧ H' b = some (.lst (nv (sby c (c.length - i)))) ∧ H' q = some (.lst (nv (c.drop (c.length - i)))))
      (fun H2 e2 => ⟨q0, none, none, rfl, e1.trans e2, fq, Ne.symm bq, e2 b _ hb, by rw [Nat.sub_zero, List.drop_length]; exact e2 q0 _ hq0⟩) ?_ ?_
    · rintro i σ' H' hi ⟨q, y3, y4, rfl, e, nq, qb, hb', hq'⟩
      obtain ⟨j, hj⟩ : ∃ j, c.length - i = j + 1 := ⟨c.length - i - 1, by omega⟩
      rw [show c.length - 1 - i = j by omega]
      rw [hj] at hb' hq'
      have ci := o.get j
      have si := sby_len c (j + 1)
      have hlt : ∀ y ∈ sby c j, y < j := fun y hy => sby_lt o.2 (by omega) hy
      obtain ⟨t1, t2, t3⟩ := sits_last (sby_len c j) hlt ci
      have es : sby c (j + 1) = sits (sby c j) j (c.getD j 0) := rfl
      rw [← es] at t1 t2 t3
      have ix := idx_first t1 t2
      have xl := (List.getElem?_eq_some_iff.mp t1).1
      have iv := ev_index (K := K) (ta := tVar 1) (te := tVar 3) (σ := [some (.ref a), some (.ref b), some (.ref q), some (.int (j : Int)), y4]) (x := j) hb' (ev_var (i := 1) rfl) (ev_var (i := 3) rfl) (List.mem_of_getElem? t1)
      rw [ix] at iv
      refine q_asg iv fun H2 e2 => ?_
      have eq : [V.int ((c.getD j 0 : Nat) : Int)] ++ nv (c.drop (j + 1)) = nv (c.drop j) := by
        have hci : c[j]? = some (c.getD j 0) := by
          rw [List.getD_eq_getElem?_getD, List.getElem?_eq_getElem (by omega)]
          rfl
        obtain ⟨hk, hv⟩ := List.getElem?_eq_some_iff.mp hci
        rw [List.drop_eq_getElem_cons hk, hv]
        rfl
      refine q_asgL (xs := nv (c.drop j)) (by
        rw [← eq]
        exact el_catR (el_lst (ea_cons (ev_var rfl) ea_nil) (Nat.le_of_ble_eq_true rfl)) (ev_var rfl) (e2 q _ hq') (by rw [nv_len, List.length_drop]; simp; omega)) fun q2 H3 nq2 e3 hq3 => ?_
      have e13 := e.trans (e2.trans e3)
      have nq2' := fresh_back (e.trans e2) nq2
      have hb3 := (e2.trans e3) b _ hb'
      have q2b : q2 ≠ b := fun z => by
        rw [z, e2 b _ hb'] at nq2
        cases nq2
      have lastv : (nv (sby c (j + 1)))[j]? = some (.int (((sby c (j + 1)).getD j 0 : Nat) : Int)) := nv_get (by
        rw [List.getD_eq_getElem?_getD, List.getElem?_eq_getElem (by omega)]
        rfl)
      refine q_setL (j := c.getD j 0) hb3 (ev_op (ev_var rfl) (ev_var rfl) (rv_ixL (K := K) (sq_of hb3) (atI_nat lastv))) (ev_var rfl) (ev_var rfl) (by rw [nv_len]; exact xl) fun H4 e4 => ?_
      have es2 : (nv (sby c (j + 1))).set (c.getD j 0) (V.int (((sby c (j + 1)).getD j 0 : Nat) : Int)) = nv ((sby c (j + 1)).set (c.getD j 0) ((sby c (j + 1)).getD j 0)) := by rw [nv_eq, nv_eq, List.map_set]
      rw [es2]
      have l7 : (nv ((sby c (j + 1)).set (c.getD j 0) ((sby c (j + 1)).getD j 0))).length = j + 1 := by rw [nv_len, List.length_set, si]
      refine s_pop0 (xs := nv ((sby c (j + 1)).set (c.getD j 0) ((sby c (j + 1)).getD j 0))) (y := (nv ((sby c (j + 1)).set (c.getD j 0) ((sby c (j + 1)).getD j 0))).getD j .non) upd_same ?_ (ev_var rfl) fun H8 e8 => ⟨q2, _, _, rfl, ?_, nq2', q2b, ?_, ?_⟩
      · exact last_some l7
      · exact Ex.mut ((Ex.mut (e13.trans e4) fb).trans e8) fb
      · rw [upd_same, show c.length - (i + 1) = j by omega]
        congr 2
        rw [nv_eq, ← List.map_dropLast, t3, ← nv_eq]
      · rw [upd_ne q2b, show c.length - (i + 1) = j by omega]
        refine e8 q2 _ ?_
        rw [upd_ne q2b]
        exact e4 q2 _ hq3
    · rintro σ' H' ⟨q, y3, y4, rfl, e, nq, qb, hb', hq'⟩
      rw [Nat.sub_self, List.drop_zero] at hq'
      exact s_ret (ev_var rfl) fun H2 e2 => k q H2 nq (e.trans e2) (e2 q _ hq')
end


local macro_rules | `(tactic| walk_at "call") => `(tactic| (with_reducible exact sv_whole))
local macro_rules | `(tactic| walk_at "call") => `(tactic| ((with_reducible refine' sv_order ?c1 ?c2); (case c1 => assumption); (case c2 => assumption)))
local macro_rules | `(tactic| walk_at "call") => `(tactic| ((with_reducible refine' sv_ord ?c1 ?c2); (case c1 => assumption); (case c2 => assumption)))

/-! ### _law_tables -/
def Fh (rs : List (List Nat)) (i : Nat) : List (List Nat) := rs.filter fun r => decide (r.headD 0 < i)
theorem fh_same {rs : List (List Nat)} {i : Nat} (h : ∀ r ∈ rs, r.headD 0 ≠ i) : Fh rs (i + 1) = Fh rs i := by
  unfold Fh
  refine List.filter_congr fun r hr => ?_
  have := h r hr
  rw [Bool.eq_iff_iff, decide_eq_true_iff, decide_eq_true_iff]
  omega
theorem fh_next : ∀ {rs : List (List Nat)} {r : List Nat}, (rs.map (·.headD 0)).Pairwise (· < ·) → r ∈ rs → Fh rs (r.headD 0 + 1) = Fh rs (r.headD 0) ++ [r]
  | s :: l, r, h, hr => by
    rw [List.map_cons, List.pairwise_cons] at h
    rcases List.mem_cons.mp hr with rfl | hr
    · have no : ∀ x ∈ l, r.headD 0 < x.headD 0 := fun x hx => h.1 _ (List.mem_map.mpr ⟨x, hx, rfl⟩)
      unfold Fh
      rw [List.filter_cons, if_pos (by rw [decide_eq_true_iff]; omega), List.filter_cons, if_neg (by rw [decide_eq_true_iff]; omega)]
      rw [List.filter_eq_nil_iff.mpr fun x hx => by have := no x hx; rw [decide_eq_true_iff]; omega, List.filter_eq_nil_iff.mpr fun x hx => by have := no x hx; rw [decide_eq_true_iff]; omega]
      rfl
    · have lt : s.headD 0 < r.headD 0 := h.1 _ (List.mem_map.mpr ⟨r, hr, rfl⟩)
      have ih := fh_next h.2 hr
      unfold Fh at ih ⊢
      rw [List.filter_cons, if_pos (by rw [decide_eq_true_iff]; omega), List.filter_cons, if_pos (by rw [decide_eq_true_iff]; omega), ih]
      rfl
theorem fh_all {rs : List (List Nat)} {n : Nat} (h : ∀ r ∈ rs, r.headD 0 < n) : Fh rs n = rs := List.filter_eq_self.mpr fun r hr => by rw [decide_eq_true_iff]; exact h r hr
theorem fh_zero (rs : List (List Nat)) : Fh rs 0 = [] := List.filter_eq_nil_iff.mpr fun r _ => by rw [decide_eq_true_iff]; omega
theorem Rings.head_lt {h : List Nat} {rs : List (List Nat)} (R : Rings h rs) {r : List Nat} (hr : r ∈ rs) : r.headD 0 < h.length := by
  have := head_mem (R.rg r hr).ne
  exact List.mem_range.mp (R.all.mem_iff.mp (List.mem_flatten.mpr ⟨r, hr, this⟩))
theorem Rings.seen {h : List Nat} {rs : List (List Nat)} (R : Rings h rs) {i : Nat} (hi : i < h.length) : (i ∈ (Fh rs i).flatten ∧ ∀ r ∈ rs, r.headD 0 ≠ i) ∨ (i ∉ (Fh rs i).flatten ∧ ∃ r ∈ rs, r.headD 0 = i) := by
  obtain ⟨r, hr, hx⟩ := List.mem_flatten.mp (R.all.mem_iff.mpr (List.mem_range.mpr hi))
  have lo := R.low r hr i hx
  rcases Nat.lt_or_ge (r.headD 0) i with lt | ge
  · refine .inl ⟨List.mem_flatten.mpr ⟨r, List.mem_filter.mpr ⟨hr, by rw [decide_eq_true_iff]; exact lt⟩, hx⟩, fun s hs e => ?_⟩
    have sm : i ∈ s := by
      rw [← e]
      exact head_mem (R.rg s hs).ne
    have := nodup_flat R.nodup hr hs hx sm
    subst this
    omega
  · refine .inr ⟨fun z => ?_, r, hr, by omega⟩
    obtain ⟨s, hs, hs2⟩ := List.mem_flatten.mp z
    obtain ⟨hs1, hs3⟩ := List.mem_filter.mp hs
    have := nodup_flat R.nodup hr hs1 hx hs2
    subst this
    rw [decide_eq_true_iff] at hs3
    omega
theorem el_cat2 {K : PySem.W.Frag} {σ : L2.St} {H : Hp} {ta tb : TE} {a b : Addr} {xs ys : List V} (ha : Ev ta σ H (.ref a)) (hb : Ev tb σ H (.ref b)) (hx : H a = some (.lst xs)) (hy : H b = some (.lst ys)) (hl : xs.length + ys.length ≤ 100000) : EvL (tOp rCat ta tb) σ H (xs ++ ys) := fun H1 e Q q =>
  ha H1 e _ fun H2 e2 => hb H2 (e.trans e2) _ fun H3 e3 =>
    ⟨a, b, xs, ys, rfl, rfl, (e.trans (e2.trans e3)) a _ hx, (e.trans (e2.trans e3)) b _ hy, sz_of hl, fun l hl' => q l _ (fresh_back (e2.trans e3) hl') ((e2.trans e3).trans (Ex.new hl')) upd_same⟩
theorem sub_flat {s l : List (List Nat)} (h : s.Sublist l) : s.flatten.length ≤ l.flatten.length := by
  induction h with
  | slnil => exact Nat.le_refl _
  | cons a _ ih => rw [List.flatten_cons, List.length_append]; omega
  | cons_cons a _ ih => rw [List.flatten_cons, List.flatten_cons, List.length_append, List.length_append]; omega
theorem fh_len {h : List Nat} {rs : List (List Nat)} (R : Rings h rs) (i : Nat) : (Fh rs i).flatten.length ≤ h.length := by
  have s : (Fh rs i).Sublist rs := List.filter_sublist
  have := sub_flat s
  have e := R.all.length_eq
  rw [List.length_range] at e
  omega
theorem fh_num {h : List Nat} {rs : List (List Nat)} (R : Rings h rs) (i : Nat) : (Fh rs i).length ≤ h.length := by
  have s : (Fh rs i).Sublist rs := List.filter_sublist
  have l1 := s.length_le
  have e := R.all.length_eq
  rw [List.length_range] at e
  have : rs.length ≤ rs.flatten.length := by
    have ne : ∀ r ∈ rs, 1 ≤ r.length := fun r hr => (R.rg r hr).ne
    clear R e l1 s
    induction rs with
    | nil => exact Nat.le_refl _
    | cons x l ih =>
      have a := ih fun r hr => ne r (by simp [hr])
      have b := ne x (by simp)
      rw [List.flatten_cons, List.length_append, List.length_cons]
      omega
  omega
theorem q_parL1 {σ : L2.St} {H : Hp} {ta tb : TE} {D : Ends} {tz : TS} {i j : Nat} {xs : List V} {y : V} (ha : EvL ta σ H xs) (hb : ∀ H1, Ex H H1 → Ev tb σ H1 y) (k : ∀ p H1, H p = none → Ex H H1 → H1 p = some (.lst xs) → tz D ((σ.set i (some (.ref p))).set j (some y)) H1) :
    tSeq (tPar i j (tCons ta (tCons tb tNil))) tz D σ H := ha H (Ex.refl H) _ fun p H1 hp e1 h1 => hb H1 e1 H1 (Ex.refl _) _ fun H2 e2 => ⟨_, _, rfl, k p H2 hp (e1.trans e2) (e2 p _ h1)⟩
theorem take_next {α : Type} {l : List α} {i : Nat} {x : α} (h : l[i]? = some x) : l.take (i + 1) = l.take i ++ [x] := by
  rw [List.take_add_one, h]
  rfl
theorem Rings.short {h : List Nat} {rs : List (List Nat)} (R : Rings h rs) {r : List Nat} (hr : r ∈ rs) : r.length ≤ h.length := by
  have e := R.all.length_eq
  rw [List.length_range] at e
  have := (List.sublist_flatten_of_mem hr).length_le
  omega
def sp_law_tables : Sp := fun vs H Q _ => ∃ (a : Addr) (h : List Nat) (rs : List (List Nat)), vs = [.ref a] ∧ H a = some (.lst (nv h)) ∧ h.length ≤ 20 ∧ Rings h rs ∧ (∀ p ws H2, H p = none → Ex H H2 → H2 p = some (.lst ws) → TL H2 ws (rs.map nv) → Q (.ref p) H2)
theorem elt_law_tables {σ : L2.St} {H : Hp} {ta : TE} {E : XK} {a : Addr} {h : List Nat} {rs : List (List Nat)} (ea : Ev ta σ H (.ref a)) (ha : H a = some (.lst (nv h))) (hl : h.length ≤ 20) (R : Rings h rs) : EvLT (tCall sp_law_tables [] E (tCons ta tNil)) σ H (rs.map nv) := fun H1 e Q q =>
  ea H1 e _ fun H2 e2 => ⟨a, h, rs, rfl, (e.trans e2) a _ ha, hl, R, fun p ws H3 np e3 hp t => q p ws H3 (fresh_back e2 np) (e2.trans e3) hp t⟩
section
variable {P : Program} {w : World} {K : PySem.W.Frag} {mg : Str → Option Value} {base : Heap}
theorem ok_law_tables (T : Tx K mg) : FnOk P w K mg base CX0 1 T.f_law_tables T.d_law_tables ["some"] sp_law_tables := by
  refine T.F_law_tables.ok sc_law_tables (fun vs H Q E h => ?_) (fun cdv A outer s H vs Q E hr h => ?_)
  · obtain ⟨a, h, rs, rfl, _⟩ := h
    rfl
  · obtain ⟨a, h, rs, rfl, ha, h20, R, k⟩ := h
    refine ⟨_, (pss_cons (ps_par (i := 1) (j := 2) (by rfl) sc_law_tables.nd rfl rfl (by decide) rfl rfl (pa_cons (pe_lst pa_nil) (pa_cons (pe_lst pa_nil) pa_nil)) (by rfl))
      (pss_cons (ps_for PassesOwn.never rfl (pi_range1 (by rfl) T.m_range (pa_cons (pe_callB call_lenR (by rfl) T.m_len (by decide +kernel) (pa_cons (pv 0) pa_nil)) pa_nil)) (pg_name (i := 3) sc_law_tables.nd rfl (Or.inl rfl)) (pss_one (ps_if (pt_cmpR op_notIn_seq (pv 3) (pv 1) (by rfl)) (pss_cons (ps_par (i := 4) (j := 5) (by rfl) sc_law_tables.nd rfl rfl (by decide) rfl rfl (pa_cons (pe_lst (pa_cons (pv 3) pa_nil)) (pa_cons (pe_ix ix_list (pv 0) (pv 3) (fun _ _ => rfl)) pa_nil)) (by rfl))
      (pss_cons (ps_while PassesOwn.never (pt_cmpR op_ne (pv 5) (pv 3) (nomark _)) (pss_cons (ps_expr (pe_bm PySem.F.plainAttrs_list PySem.F.slot_list_append PySem.F.type_list_append mt_append (pv 4) (pa_cons (pv 5) pa_nil)))
      (pss_one (ps_set (i := 5) sc_law_tables.nd rfl (Or.inl rfl) (pe_ix ix_list (pv 0) (pv 5) (fun _ _ => rfl))))))
      (pss_cons (ps_set (i := 1) sc_law_tables.nd rfl (Or.inl rfl) (pe_op op_cat (pv 1) (pv 4)))
      (pss_one (ps_expr (pe_bm PySem.F.plainAttrs_list PySem.F.slot_list_append PySem.F.type_list_append mt_append (pv 2) (pa_cons (pe_callTy call_tupR (by rfl) T.m_tuple (by decide +kernel) (pa_cons (pv 4) pa_nil)) pa_nil))))))) pss_nil)))
      (pss_one (ps_ret (pv 2))))), ?_⟩
    refine q_parL2 (xs := nv []) (ys := []) (el_lst ea_nil (Nat.le_of_ble_eq_true rfl)) (el_lst ea_nil (Nat.le_of_ble_eq_true rfl)) fun s0 f H1 fs0 ff sf e1 hs0 hf => ?_
    have sa : s0 ≠ a := fun z => by
      rw [z, ha] at fs0
      cases fs0
    have fa : f ≠ a := fun z => by
      rw [z, ha] at ff
      cases ff
    have len : Ev (tCB (rLenS K) (tCons (tVar 0) tNil)) [some (.ref a), some (.ref s0), some (.ref f), none, none, none] H1 (.int (h.length : Int)) := ev_is (ev_len (K := K) (ev_var (i := 0) rfl) (sq_of (e1 a _ ha))) (by rw [nv_len])
    refine q_forR1 (n := (h.length : Int)) (ea_cons len ea_nil) ⟨by omega, by omega⟩ (fun i σ' H' => ∃ (s : Addr) (ws : List V) (y3 y4 y5 : Option V), σ' = [some (.ref a), some (.ref s), some (.ref f), y3, y4, y5] ∧ Ex H H' ∧ s ≠ f ∧ H' s = some (.lst (nv (Fh rs i).flatten)) ∧ H' f = some (.lst ws) ∧ TL (Hm f H') ws ((Fh rs i).map nv))
      (fun H2 e2 => ⟨s0, [], none, none, none, rfl, e1.trans e2, sf, by rw [fh_zero]; exact e2 s0 _ hs0, e2 f _ hf, by rw [fh_zero]; exact .nil⟩) ?_ ?_
    · rintro i σ' H' hi ⟨s, ws, y3, y4, y5, rfl, e, nsf, hs, hf', ht⟩
      have hi' : i < h.length := by omega
      have fl := fh_len R i
      have fn := fh_num R i
      have wl : ws.length = (Fh rs i).length := by rw [ht.len, List.length_map]
      refine s_when (b := decide (i ∉ (Fh rs i).flatten)) (et_is (et_test (ev_op (ev_var rfl) (ev_var rfl) (rv_niL (K := K) (sq_of hs) rfl (nv_flat _)))) (by rw [nv_in, Bool.eq_iff_iff, Bool.not_eq_true', decide_eq_false_iff_not, decide_eq_true_iff])) (fun hb H2 e2 => ?_) fun hb H2 e2 => ?_
      · have hb := of_decide_eq_true hb
        obtain ⟨r, hr, hd⟩ : ∃ r ∈ rs, r.headD 0 = i := by
          rcases R.seen hi' with z | z
          · exact absurd z.1 hb
          · exact z.2
        have G := R.rg r hr
        have rl : r.length ≤ h.length := R.short hr
        have r0 : r[0]? = some i := by
          have ne := G.ne
          cases r with
          | nil => simp at ne
          | cons x l => rw [← hd]; rfl
        have hat : ∀ t, t < r.length → ∃ x y, r[t]? = some x ∧ r[(t + 1) % r.length]? = some y ∧ h[x]? = some y := G.st
        obtain ⟨x0, y0, hx0, hy0, hh0⟩ := hat 0 G.ne
        rw [r0] at hx0
        cases hx0
        refine q_parL1 (xs := nv [i]) (y := .int (y0 : Int)) (el_lst (ea_cons (ev_var rfl) ea_nil) (Nat.le_of_ble_eq_true rfl)) (fun H3 e3 => ev_op (ev_var rfl) (ev_var rfl) (rv_ixL (K := K) (sq_of ((e.trans (e2.trans e3)) a _ ha)) (atI_nat (nv_get hh0)))) fun tb H3 ntb e3 htb => ?_
        have e23 := e2.trans e3
        have ta' : tb ≠ a := fun z => by
          rw [z, e2 a _ (e a _ ha)] at ntb
          cases ntb
        have tbs : tb ≠ s := fun z => by
          rw [z, e2 s _ hs] at ntb
          cases ntb
        have tbf : tb ≠ f := fun z => by
          rw [z, e2 f _ hf'] at ntb
          cases ntb
        have ntb' := fresh_back e2 ntb
        refine q_while (fun mm σ' H4 => ∃ (t : Nat) (x : Nat), σ' = [some (.ref a), some (.ref s), some (.ref f), some (.int (i : Int)), some (.ref tb), some (.int (x : Int))] ∧ 1 ≤ t ∧ t ≤ r.length ∧ r[t % r.length]? = some x ∧ Ex H' H4 ∧ H4 tb = some (.lst (nv (r.take t))) ∧ mm = r.length - t) (r.length - 1) ⟨1, y0, rfl, Nat.le_refl _, G.ne, by simpa using hy0, e23, by
          have : r.take 1 = [i] := by
            rw [List.take_add_one, r0]
            rfl
          rw [this]
          exact htb, rfl⟩ ?_
        rintro mm σ' H4 ⟨t, x, rfl, t1, tl, hx, e4, htb4, rfl⟩
        have stop : x = i ↔ t = r.length := by
          constructor
          · intro z
            rcases Nat.lt_or_ge t r.length with lt | ge
            · rw [Nat.mod_eq_of_lt lt, z] at hx
              have ee : r[t]? = r[0]? := hx.trans r0.symm
              have := (List.getElem?_inj lt G.nd).mp ee
              omega
            · omega
          · intro z
            rw [z, Nat.mod_self, r0] at hx
            exact (Option.some.inj hx).symm
        refine ⟨decide (x ≠ i), et_is (et_test (ev_op (ev_var rfl) (ev_var rfl) (rv_ne rfl))) ?_, fun hb2 H5 e5 => ?_, fun hb2 H5 e5 => ?_⟩
        · rw [Bool.eq_iff_iff]
          simp only [Bool.not_eq_true', decide_eq_false_iff_not, decide_eq_true_eq]
          exact ⟨fun h1 h2 => h1 (by rw [h2]), fun h1 h2 => h1 (by have := V.int.inj h2; omega)⟩
        · have ne := of_decide_eq_true hb2
          have lt : t < r.length := by
            rcases Nat.lt_or_ge t r.length with lt | ge
            · exact lt
            · exact absurd (stop.mpr (by omega)) ne
          rw [Nat.mod_eq_of_lt lt] at hx
          obtain ⟨x1, y1, hx1, hy1, hh1⟩ := hat t lt
          rw [hx] at hx1
          cases hx1
          refine ⟨fun σ2 H6 => σ2 = [some (.ref a), some (.ref s), some (.ref f), some (.int (i : Int)), some (.ref tb), some (.int (y1 : Int))] ∧ Ex H' H6 ∧ H6 tb = some (.lst (nv (r.take (t + 1)))), fun σ2 H6 ⟨q1, q2, q3⟩ => ⟨r.length - (t + 1), by omega, t + 1, y1, q1, by omega, lt, hy1, q2, q3, rfl⟩, ?_⟩
          refine q_app (xs := nv (r.take t)) (e5 tb _ htb4) (ev_var rfl) (ev_var rfl) (by rw [nv_len, List.length_take]; omega) fun H6 e6 => ?_
          have eX : Ex H' (upd H6 tb (.lst (nv (r.take t) ++ [.int (x : Int)]))) := Ex.mut (e4.trans (e5.trans e6)) ntb'
          refine s_asg (v := .int (y1 : Int)) (ev_op (ev_var rfl) (ev_var rfl) (rv_ixL (K := K) (sq_of (eX a _ (e a _ ha))) (atI_nat (nv_get hh1)))) fun H7 e7 => ⟨rfl, eX.trans e7, e7 tb _ ?_⟩
          rw [upd_same, take_next hx, nv_app]
          rfl
        · have eq : t = r.length := stop.mp (by simpa using hb2)
          rw [eq, List.take_of_length_le (Nat.le_refl _)] at htb4
          have e45 := e4.trans e5
          have es : nv ((Fh rs i).flatten) ++ nv r = nv (Fh rs (i + 1)).flatten := by
            rw [← hd, fh_next R.asc hr, List.flatten_append, nv_app]
            simp
          have fl2 := fh_len R (i + 1)
          have nl := congrArg List.length es
          rw [List.length_append, nv_len, nv_len, nv_len] at nl
          have cc := el_cat2 (K := K) (σ := [some (.ref a), some (.ref s), some (.ref f), some (.int (i : Int)), some (.ref tb), some (.int (x : Int))]) (H := H5) (ta := tVar 1) (tb := tVar 4) (a := s) (b := tb) (ev_var (i := 1) rfl) (ev_var (i := 4) rfl) (e45 s _ hs) (e5 tb _ htb4) (by rw [nv_len, nv_len]; omega)
          rw [es] at cc
          refine q_asgL cc fun s2 H6 ns2 e6 hs2 => ?_
          have hf6 := (e45.trans e6) f _ hf'
          have s2f : s2 ≠ f := fun z => by
            rw [z, e45 f _ hf'] at ns2
            cases ns2
          refine s_appU (xs := ws) (ys := nv r) hf6 (ev_var rfl) (eu_tupOf (ev_var rfl) (sq_of ((e5.trans e6) tb _ htb4))) (by omega) fun c H7 nc e7 hc => ?_
          have cf : c ≠ f := fun z => by
            rw [z, hf6] at nc
            cases nc
          refine ⟨s2, ws ++ [.ref c], _, _, _, rfl, Ex.mut (e.trans (e45.trans (e6.trans e7))) ff, s2f, ?_, upd_same, ?_⟩
          · rw [upd_ne s2f]
            exact e7 s2 _ hs2
          · rw [← hd, fh_next R.asc hr, List.map_append, hd]
            refine TL.app ⟨c, rfl, ?_⟩ (TL.ex (fun y o hy => ?_) ht)
            · unfold Hm
              rw [if_neg cf, upd_ne cf]
              exact hc
            · unfold Hm at hy ⊢
              split at hy
              · cases hy
              · rename_i ne
                rw [if_neg ne, upd_ne ne]
                exact e7 y _ (e6 y _ (e45 y _ hy))
      · have hb : i ∈ (Fh rs i).flatten := by simpa using hb
        have no : ∀ r ∈ rs, r.headD 0 ≠ i := by
          rcases R.seen hi' with z | z
          · exact z.2
          · exact absurd hb z.1
        refine ⟨s, ws, _, _, _, rfl, e.trans e2, nsf, ?_, e2 f _ hf', ?_⟩
        · rw [fh_same no]
          exact e2 s _ hs
        · rw [fh_same no]
          exact TL.ex (hm_mono e2) ht
    · rintro σ' H' ⟨s, ws, y3, y4, y5, rfl, e, nsf, hs, hf', ht⟩
      rw [Int.toNat_natCast, fh_all fun r hr => R.head_lt hr] at ht
      exact s_ret (ev_var rfl) fun H2 e2 => k f ws H2 ff (e.trans e2) (e2 f _ hf') (TL.ex (hm_sub.trans e2) ht)
end


local macro_rules | `(tactic| walk_at "call") => `(tactic| (with_reducible exact sv_whole))
local macro_rules | `(tactic| walk_at "call") => `(tactic| ((with_reducible refine' sv_order ?c1 ?c2); (case c1 => assumption); (case c2 => assumption)))
local macro_rules | `(tactic| walk_at "call") => `(tactic| ((with_reducible refine' sv_ord ?c1 ?c2); (case c1 => assumption); (case c2 => assumption)))

/-! ### guests who leave -/
def dn (k y : Nat) : Nat := if y > k then y - 1 else y
def wo (h : List Nat) (k : Nat) : List Nat := ((h.set (h.idxOf k) (h.getD k 0)).eraseIdx k).map (dn k)
theorem perm_end {A B R : List Nat} {n y : Nat} (h : (A ++ n :: B ++ [y]).Perm (R ++ [n])) : (A ++ y :: B).Perm R := by
  have a : (A ++ y :: B ++ [n]).Perm (A ++ n :: B ++ [y]) := by
    rw [List.append_assoc, List.append_assoc]
    refine List.Perm.append_left A ?_
    show (y :: (B ++ [n])).Perm (n :: (B ++ [y]))
    refine (List.Perm.cons y (List.perm_append_singleton n B)).trans ?_
    refine (List.Perm.swap n y B).trans ?_
    exact List.Perm.cons n (List.perm_append_singleton y B).symm
  exact (List.perm_append_right_iff [n]).mp (a.trans h)
/-- every seating comes about by a coming list -/
theorem ord_sby : ∀ (n : Nat) (h : List Nat), h.Perm (List.range n) → ∃ c : List Nat, c.length = n ∧ (∀ (i x : Nat), c[i]? = some x → x ≤ i) ∧ sby c n = h
  | 0, h, p => ⟨[], rfl, fun i x z => by simp at z, by rw [List.range_zero] at p; rw [List.Perm.eq_nil p]; rfl⟩
  | n + 1, h, p => by
    have hl : h.length = n + 1 := by
      have := p.length_eq
      rwa [List.length_range] at this
    have nm : n ∈ h := p.mem_iff.mpr (List.mem_range.mpr (Nat.lt_succ_self n))
    have ne : h ≠ [] := fun z => by
      rw [z] at hl
      simp at hl
    obtain ⟨h0, y, rfl⟩ : ∃ h0 y, h = h0 ++ [y] := ⟨_, _, (List.dropLast_concat_getLast ne).symm⟩
    have l0 : h0.length = n := by
      rw [List.length_append, List.length_singleton] at hl
      omega
    rw [List.range_succ] at p
    have ext : ∀ (c : List Nat) (x : Nat), c.length = n → (∀ (i x : Nat), c[i]? = some x → x ≤ i) → x ≤ n → ∀ (i z : Nat), (c ++ [x])[i]? = some z → z ≤ i := fun c x cl cm xn i z hz => by
      rw [List.getElem?_append] at hz
      split at hz
      · exact cm i z hz
      · have hj := (List.getElem?_eq_some_iff.mp hz).1
        rw [List.length_singleton] at hj
        have e0 : i - c.length = 0 := by omega
        rw [e0] at hz
        have : x = z := by simpa using hz
        omega
    by_cases hy : y = n
    · subst hy
      obtain ⟨c, cl, cm, cs⟩ := ord_sby y h0 ((List.perm_append_right_iff [y]).mp p)
      refine ⟨c ++ [y], by rw [List.length_append, cl]; rfl, ext c y cl cm (Nat.le_refl _), ?_⟩
      have e := (sby_ext (c := c) (x := y)).2
      rw [cl] at e
      rw [e, cs]
      unfold sits
      rw [if_pos rfl]
    · have n0 : n ∈ h0 := by
        rcases List.mem_append.mp nm with z | z
        · exact z
        · exact absurd (List.mem_singleton.mp z).symm hy
      obtain ⟨A, B, rfl⟩ := List.append_of_mem n0
      have pe := perm_end p
      obtain ⟨c, cl, cm, cs⟩ := ord_sby n _ pe
      have al : A.length < n := by
        rw [List.length_append, List.length_cons] at l0
        omega
      refine ⟨c ++ [A.length], by rw [List.length_append, cl]; rfl, ext c _ cl cm (by omega), ?_⟩
      have e := (sby_ext (c := c) (x := A.length)).2
      rw [cl] at e
      rw [e, cs, sits_app (by rw [List.length_append, List.length_cons]; rw [List.length_append, List.length_cons] at l0; exact l0) (by omega)]
      have g : (A ++ y :: B).getD A.length 0 = y := by
        rw [List.getD_eq_getElem?_getD, List.getElem?_append_right (Nat.le_refl _), Nat.sub_self]
        rfl
      rw [g, List.append_assoc, List.set_append_right _ _ (Nat.le_refl _), Nat.sub_self, List.append_assoc]
      rfl
theorem ord_cm {h : List Nat} (o : Ord h) : ∃ c, Cm c ∧ c.length = h.length ∧ sby c c.length = h := by
  obtain ⟨c, cl, cm, cs⟩ := ord_sby h.length h o.1
  exact ⟨c, ⟨by rw [cl]; exact o.2.1, by rw [cl]; exact o.2.2, cm⟩, cl, by rw [cl]; exact cs⟩
/-- who has come last leaves -/
theorem wo_sits {h : List Nat} {n m : Nat} (hl : h.length = n) (hlt : ∀ y ∈ h, y < n) (hm : m ≤ n) : wo (sits h n m) n = h := by
  obtain ⟨t1, t2, t3⟩ := sits_last hl hlt hm
  unfold wo
  rw [idx_first t1 t2]
  have sl : ((sits h n m).set m ((sits h n m).getD n 0)).length = n + 1 := by rw [List.length_set, sits_len, hl]
  have e : ((sits h n m).set m ((sits h n m).getD n 0)).eraseIdx n = h := by
    refine Eq.trans ?_ t3
    rw [List.eraseIdx_eq_take_drop_succ, List.drop_of_length_le (by omega), List.append_nil, List.dropLast_eq_take, sl]
    rfl
  rw [e]
  conv => rhs; rw [← List.map_id h]
  refine List.map_congr_left fun y hy => ?_
  have := hlt y hy
  unfold dn
  rw [if_neg (by omega)]
  rfl


local macro_rules | `(tactic| walk_at "call") => `(tactic| (with_reducible exact sv_whole))
local macro_rules | `(tactic| walk_at "call") => `(tactic| ((with_reducible refine' sv_order ?c1 ?c2); (case c1 => assumption); (case c2 => assumption)))
local macro_rules | `(tactic| walk_at "call") => `(tactic| ((with_reducible refine' sv_ord ?c1 ?c2); (case c1 => assumption); (case c2 => assumption)))

def cd (a b : Int) : Int := ((Nat.gcd a.natAbs b.natAbs : Nat) : Int)
theorem cd_pos {a b : Int} (h : 0 < b) : 0 < cd a b := by
  unfold cd
  have := Nat.gcd_pos_of_pos_right a.natAbs (show 0 < b.natAbs by omega)
  omega
theorem cd_le {a b : Int} (h : 0 < b) : cd a b ≤ b := by
  unfold cd
  have := Nat.le_of_dvd (show 0 < b.natAbs by omega) (Nat.gcd_dvd_right a.natAbs b.natAbs)
  omega
theorem cd_dvd1 {a b : Int} : cd a b ∣ a := Int.ofNat_dvd_left.mpr (Nat.gcd_dvd_left a.natAbs b.natAbs)
theorem cd_dvd2 {a b : Int} : cd a b ∣ b := Int.ofNat_dvd_left.mpr (Nat.gcd_dvd_right a.natAbs b.natAbs)
/-! ### checks -/
def sp_check1 (lo hi : Int) : Sp := fun vs H Q _ => ∃ x : Int, vs = [.int x] ∧ lo ≤ x ∧ x ≤ hi ∧ RetV .non H Q
theorem sv_check1 {H : Hp} {lo hi x : Int} (h0 : lo ≤ x) (h1 : x ≤ hi) : SpV (sp_check1 lo hi) ([.int x] ++ []) H .non := fun H1 _ Q q E => ⟨x, rfl, h0, h1, q⟩
def sp_check_guest : Sp := fun vs H Q _ => ∃ x n : Int, vs = [.int x, .int n] ∧ 0 ≤ x ∧ x < n ∧ RetV .non H Q
theorem sv_check_guest {H : Hp} {x n : Int} (h0 : 0 ≤ x) (h1 : x < n) : SpV sp_check_guest ([.int x, .int n] ++ []) H .non := fun H1 _ Q q E => ⟨x, n, rfl, h0, h1, q⟩
def sp_fraction : Sp := fun vs H Q _ => ∃ a b : Int, vs = [.int a, .int b] ∧ 0 < b ∧ b.natAbs < 2 ^ 8000 ∧ RetU [.int (a / cd a b), .int (b / cd a b)] H Q
theorem su_fraction {H : Hp} {a b : Int} (h0 : 0 < b) (h1 : b.natAbs < 2 ^ 8000) : SpU sp_fraction ([.int a, .int b] ++ []) H [.int (a / cd a b), .int (b / cd a b)] := fun H1 _ Q q E => ⟨a, b, rfl, h0, h1, q⟩
section
variable {P : Program} {w : World} {K : PySem.W.Frag} {mg : Str → Option Value} {base : Heap}
theorem ok_check_guests (T : Tx K mg) : FnOk P w K mg base CX0 3 T.f_check_guests T.d_check_guests ["guests"] (sp_check1 1 20) := by
  refine T.F_check_guests.ok sc_check_guests (fun vs H Q E h => ?_) (fun cdv A outer s H vs Q E hr h => ?_)
  · obtain ⟨x, rfl, _⟩ := h
    rfl
  · obtain ⟨x, rfl, h0, h1, k⟩ := h
    refine ⟨_, (pss_one (ps_if (pt_not (pt_val (pe_call (ok_is_within T) (hr.mono (by decide)) (by rfl) T.g_is_within T.F_is_within.kp T.b_is_within .nil pass0 (pa_cons (pv 0) (pa_cons pe_int (pa_cons (pe_gc (by rfl) T.c_MOST_GUESTS) pa_nil)))))) (pss_one ps_never) pss_nil)), ?_⟩
    exact s_when (b := false) (et_is (et_not (et_B (ev_call (ea_cons (ev_var rfl) (ea_cons ev_c (ea_cons ev_c ea_nil))) (sv_between (K := K))))) (by rw [decide_eq_true h0, decide_eq_true h1]; rfl)) (fun hb => Bool.noConfusion hb) fun _ H1 e1 => k _ e1
theorem ok_check_weight (T : Tx K mg) : FnOk P w K mg base CX0 3 T.f_check_weight T.d_check_weight ["weight"] (sp_check1 1 1000000000000) := by
  refine T.F_check_weight.ok sc_check_weight (fun vs H Q E h => ?_) (fun cdv A outer s H vs Q E hr h => ?_)
  · obtain ⟨x, rfl, _⟩ := h
    rfl
  · obtain ⟨x, rfl, h0, h1, k⟩ := h
    refine ⟨_, (pss_one (ps_if (pt_not (pt_val (pe_call (ok_is_within T) (hr.mono (by decide)) (by rfl) T.g_is_within T.F_is_within.kp T.b_is_within .nil pass0 (pa_cons (pv 0) (pa_cons pe_int (pa_cons (pe_gc (by rfl) T.c_MOST_WEIGHT) pa_nil)))))) (pss_one ps_never) pss_nil)), ?_⟩
    exact s_when (b := false) (et_is (et_not (et_B (ev_call (ea_cons (ev_var rfl) (ea_cons ev_c (ea_cons ev_c ea_nil))) (sv_between (K := K))))) (by rw [decide_eq_true h0, decide_eq_true h1]; rfl)) (fun hb => Bool.noConfusion hb) fun _ H1 e1 => k _ e1
theorem ok_check_guest (T : Tx K mg) : FnOk P w K mg base CX0 3 T.f_check_guest T.d_check_guest ["guest", "guests"] sp_check_guest := by
  refine T.F_check_guest.ok sc_check_guest (fun vs H Q E h => ?_) (fun cdv A outer s H vs Q E hr h => ?_)
  · obtain ⟨x, n, rfl, _⟩ := h
    rfl
  · obtain ⟨x, n, rfl, h0, h1, k⟩ := h
    refine ⟨_, (pss_one (ps_if (pt_not (pt_val (pe_call (ok_is_within T) (hr.mono (by decide)) (by rfl) T.g_is_within T.F_is_within.kp T.b_is_within .nil pass0 (pa_cons (pv 0) (pa_cons pe_int (pa_cons (pe_op op_sub (pv 1) pe_int) pa_nil)))))) (pss_one ps_never) pss_nil)), ?_⟩
    exact s_when (b := false) (et_is (et_not (et_B (ev_call (ea_cons (ev_var rfl) (ea_cons ev_c (ea_cons (ev_op (ev_var rfl) ev_c rv_I0) ea_nil))) (sv_between (K := K))))) (by rw [decide_eq_true h0, decide_eq_true (show x ≤ n - 1 by omega)]; rfl)) (fun hb => Bool.noConfusion hb) fun _ H1 e1 => k _ e1
theorem ok_fraction (T : Tx K mg) : FnOk P w K mg base CX0 1 T.f_fraction T.d_fraction ["top", "bottom"] sp_fraction := by
  refine T.F_fraction.ok sc_fraction (fun vs H Q E h => ?_) (fun cdv A outer s H vs Q E hr h => ?_)
  · obtain ⟨a, b, rfl, _⟩ := h
    rfl
  · obtain ⟨a, b, rfl, h0, h1, k⟩ := h
    refine ⟨_, (pss_cons (ps_set (i := 2) sc_fraction.nd rfl (Or.inl rfl) (pe_callBfun cr_gcd (by rfl) T.i_gcd (pa_cons (pv 0) (pa_cons (pv 1) pa_nil))))
      (pss_one (ps_ret (pe_tup (pa_cons (pe_op op_fdivW (pv 0) (pv 2)) (pa_cons (pe_op op_fdivW (pv 1) (pv 2)) pa_nil)))))), ?_⟩
    refine q_asg (by walk_at "ev") fun H1 e1 => ?_
    have hd : ∀ x : Int, CDivW x (cd a b) := fun x => wide_div (cd_pos h0) (Nat.lt_of_le_of_lt (by have := cd_le (a := a) h0; have := cd_pos (a := a) h0; omega) h1) (by decide) (by decide)
    have hd1 := hd a
    have hd2 := hd b
    refine s_retU (by walk_at "eu") fun p H2 hp e2 h2 => k p H2 (fresh_back e1 hp) (e1.trans e2) h2
end


local macro_rules | `(tactic| walk_at "call") => `(tactic| (with_reducible exact sv_whole))
local macro_rules | `(tactic| walk_at "call") => `(tactic| ((with_reducible refine' sv_order ?c1 ?c2); (case c1 => assumption); (case c2 => assumption)))
local macro_rules | `(tactic| walk_at "call") => `(tactic| ((with_reducible refine' sv_ord ?c1 ?c2); (case c1 => assumption); (case c2 => assumption)))

/-! ### leaving -/
theorem nv_set (l : List Nat) (i x : Nat) : (nv l).set i (.int (x : Int)) = nv (l.set i x) := by rw [nv_eq, nv_eq, List.map_set]
theorem nv_erase (L : List Nat) (k : Nat) : (nv L).eraseIdx k = nv (L.eraseIdx k) := by
  rw [nv_eq, nv_eq, List.eraseIdx_eq_take_drop_succ, List.eraseIdx_eq_take_drop_succ, List.map_append, List.map_take, List.map_drop]
theorem seq_at {j n : Nat} (h : j < n) : seqIndex? (j : Int) n = some j := by
  unfold seqIndex?
  have h1 : ¬ ((j : Int) < 0) := by omega
  have h2 : (0 : Int) ≤ j := by omega
  have h3 : (j : Int) < n := by omega
  simp [h1, h2, h3]
theorem nv_at {l : List Nat} {i : Nat} (h : i < l.length) : (nv l)[i]? = some (.int ((l.getD i 0 : Nat) : Int)) := nv_get (by
  rw [List.getD_eq_getElem?_getD, List.getElem?_eq_getElem h]
  rfl)
section
variable {K : PySem.W.Frag} {σ : L2.St} {H : Hp} {ta te tb tc : TE} {D : Ends} {tz : TS}
theorem q_popAt {l : Addr} {xs : List V} {j : Nat} (hl : H l = some (.lst xs)) (ha : Ev ta σ H (.ref l)) (he : Ev te σ H (.int (j : Int))) (hj : j < xs.length) (h63 : j < 1000) (k : ∀ H1, Ex H H1 → tz D σ (upd H1 l (.lst (xs.eraseIdx j)))) : tSeq (tDrop (tBM K "list" rPopAt ta (tCons te tNil))) tz D σ H :=
  ha H (Ex.refl H) _ fun H1 e1 => ⟨Or.inl ⟨rfl, xs, sq_of (e1 l _ hl)⟩, he H1 e1 _ fun H2 e2 => ⟨l, xs, (j : Int), j, xs[j], rfl, rfl, e2 l _ (e1 l _ hl), by omega, by omega, seq_at hj, List.getElem?_eq_getElem hj, k H2 (e1.trans e2)⟩⟩
/-- a call whose first argument is a new list -/
theorem el_callN1 {sp : Sp} {E : XK} {xs ys : List V} {y : V} (h : EvL ta σ H xs) (hb : ∀ H1, Ex H H1 → Ev tb σ H1 y) (hs : ∀ p H1, Ex H H1 → H1 p = some (.lst xs) → SpL sp ([.ref p, y] ++ []) H1 ys) : EvL (tCall sp [] E (tCons ta (tCons tb tNil))) σ H ys := fun H1 e Q q =>
  h H1 e _ fun p H2 np e2 hp => hb H2 (e.trans e2) H2 (Ex.refl _) _ fun H3 e3 => hs p H3 (e.trans (e2.trans e3)) (e3 p _ hp) H3 (Ex.refl _) Q (fun l H4 nl e4 hl => q l H4 (fresh_back (e2.trans e3) nl) (e2.trans (e3.trans e4)) hl) E
theorem el_callN {sp : Sp} {E : XK} {xs ys : List V} (h : EvL ta σ H xs) (hs : ∀ p H1, Ex H H1 → H1 p = some (.lst xs) → SpL sp ([.ref p] ++ []) H1 ys) : EvL (tCall sp [] E (tCons ta tNil)) σ H ys := fun H1 e Q q =>
  h H1 e _ fun p H2 np e2 hp => hs p H2 (e.trans e2) hp H2 (Ex.refl _) Q (fun l H4 nl e4 hl => q l H4 (fresh_back e2 nl) (e2.trans e4) hl) E
end
def sp_wo : Sp := fun vs H Q _ => ∃ (a : Addr) (h : List Nat) (g : Nat), vs = [.ref a, .int (g : Int)] ∧ H a = some (.lst (nv h)) ∧ Ord h ∧ 2 ≤ h.length ∧ g < h.length ∧ RetL (nv (wo h g)) H Q
theorem sl_wo {H : Hp} {a : Addr} {h : List Nat} {g : Nat} (ha : H a = some (.lst (nv h))) (o : Ord h) (h2 : 2 ≤ h.length) (hg : g < h.length) : SpL sp_wo ([.ref a, .int (g : Int)] ++ []) H (nv (wo h g)) := fun H1 e Q q E => ⟨a, h, g, rfl, e a _ ha, o, h2, hg, q⟩
def sp_coming_without : Sp := fun vs H Q _ => ∃ (a : Addr) (c d : List Nat) (g : Nat), vs = [.ref a, .int (g : Int)] ∧ H a = some (.lst (nv c)) ∧ Cm c ∧ 2 ≤ c.length ∧ g < c.length ∧ Cm d ∧ sby d d.length = wo (sby c c.length) g ∧ RetL (nv d) H Q
theorem sl_coming_without {H : Hp} {a : Addr} {c d : List Nat} {g : Nat} (ha : H a = some (.lst (nv c))) (o : Cm c) (h2 : 2 ≤ c.length) (hg : g < c.length) (od : Cm d) (e0 : sby d d.length = wo (sby c c.length) g) : SpL sp_coming_without ([.ref a, .int (g : Int)] ++ []) H (nv d) := fun H1 e Q q E => ⟨a, c, d, g, rfl, e a _ ha, o, h2, hg, od, e0, q⟩
def sp_alone : Sp := fun vs H Q _ => ∃ (a : Addr) (h : List Nat) (g : Nat), vs = [.ref a, .int (g : Int)] ∧ H a = some (.lst (nv h)) ∧ Ord h ∧ g < h.length ∧ RetV (.bl (decide (h.getD g 0 = g))) H Q
theorem sv_alone {H : Hp} {a : Addr} {h : List Nat} {g : Nat} (ha : H a = some (.lst (nv h))) (o : Ord h) (hg : g < h.length) : SpV sp_alone ([.ref a, .int (g : Int)] ++ []) H (.bl (decide (h.getD g 0 = g))) := fun H1 e Q q E => ⟨a, h, g, rfl, e a _ ha, o, hg, q⟩
/-- who leaves no trace in a coming list -/
def trc (c : List Nat) : List Nat := (List.range c.length).filter fun g => decide (g ∉ c.drop (g + 1))
def sp_traceless : Sp := fun vs H Q _ => ∃ (a : Addr) (c : List Nat), vs = [.ref a] ∧ H a = some (.lst (nv (sby c c.length))) ∧ Cm c ∧ RetL (nv (trc c)) H Q
theorem sl_traceless {H : Hp} {a : Addr} {c : List Nat} (ha : H a = some (.lst (nv (sby c c.length)))) (o : Cm c) : SpL sp_traceless ([.ref a] ++ []) H (nv (trc c)) := fun H1 e Q q E => ⟨a, c, rfl, e a _ ha, o, q⟩
def sp_is_traceless : Sp := fun vs H Q _ => ∃ (a : Addr) (c : List Nat) (g : Nat), vs = [.ref a, .int (g : Int)] ∧ H a = some (.lst (nv (sby c c.length))) ∧ Cm c ∧ g < c.length ∧ RetV (.bl (decide (g ∈ trc c))) H Q
theorem sv_is_traceless {H : Hp} {a : Addr} {c : List Nat} {g : Nat} (ha : H a = some (.lst (nv (sby c c.length)))) (o : Cm c) (hg : g < c.length) : SpV sp_is_traceless ([.ref a, .int (g : Int)] ++ []) H (.bl (decide (g ∈ trc c))) := fun H1 e Q q E => ⟨a, c, g, rfl, e a _ ha, o, hg, q⟩
def sp_traceless_share : Sp := fun vs H Q _ => ∃ (n g : Nat) (w : Int), vs = [.int (n : Int), .int w, .int (g : Int)] ∧ n ≤ 20 ∧ g < n ∧ 1 ≤ w ∧ w ≤ 1000000000000 ∧ RetU [.int ((w + (g : Int)) / cd (w + (g : Int)) (w + (n : Int) - 1)), .int ((w + (n : Int) - 1) / cd (w + (g : Int)) (w + (n : Int) - 1))] H Q
def sp_joined : Sp := fun vs H Q _ => ∃ (a : Addr) (h : List Nat) (g : Nat), vs = [.ref a, .int (g : Int)] ∧ H a = some (.lst (nv h)) ∧ Ord h ∧ h.length < 20 ∧ g ≤ h.length ∧ RetL (nv (sits h h.length g)) H Q
theorem sl_joined {H : Hp} {a : Addr} {h : List Nat} {g : Nat} (ha : H a = some (.lst (nv h))) (o : Ord h) (h2 : h.length < 20) (hg : g ≤ h.length) : SpL sp_joined ([.ref a, .int (g : Int)] ++ []) H (nv (sits h h.length g)) := fun H1 e Q q E => ⟨a, h, g, rfl, e a _ ha, o, h2, hg, q⟩
theorem trc_lt {c : List Nat} {g : Nat} (h : g ∈ trc c) : g < c.length := List.mem_range.mp (List.mem_filter.mp h).1
theorem trc_len (c : List Nat) : (trc c).length ≤ c.length := by
  have := List.length_filter_le (fun g => decide (g ∉ c.drop (g + 1))) (List.range c.length)
  rwa [List.length_range] at this
theorem map_dn (g : Nat) (l : List Nat) : (nv l).map (fI fun y => y - (if (g : Int) < y then 1 else 0)) = nv (l.map (dn g)) := by
  rw [nv_eq, nv_eq, List.map_map, List.map_map]
  refine List.map_congr_left fun y _ => ?_
  show V.int ((y : Int) - (if (g : Int) < (y : Int) then 1 else 0)) = V.int ((dn g y : Nat) : Int)
  congr 1
  unfold dn
  by_cases z : g < y
  · rw [if_pos (by omega), if_pos z]
    omega
  · rw [if_neg (by omega), if_neg z]
    omega
section
variable {P : Program} {w : World} {K : PySem.W.Frag} {mg : Str → Option Value} {base : Heap}
theorem ok_seating_without (T : Tx K mg) : FnOk P w K mg base CX0 1 T.f_seating_without T.d_seating_without ["seating", "guest"] sp_wo := by
  refine T.F_seating_without.ok sc_seating_without (fun vs H Q E h => ?_) (fun cdv A outer s H vs Q E hr h => ?_)
  · obtain ⟨a, h, g, rfl, _⟩ := h
    rfl
  · obtain ⟨a, h, g, rfl, ha, o, h2, hg, k⟩ := h
    refine ⟨_, (pss_cons (ps_if (pt_cmpR op_eq (pe_callB call_lenR (by rfl) T.m_len (by decide +kernel) (pa_cons (pv 0) pa_nil)) pe_int (nomark _)) (pss_one ps_never) pss_nil)
      (pss_cons (ps_set (i := 2) sc_seating_without.nd rfl (Or.inl rfl) (pe_callTy call_listR (by rfl) T.m_list (by decide +kernel) (pa_cons (pv 0) pa_nil)))
      (pss_cons (ps_asg (pe_ix ix_list (pv 0) (pv 1) (fun _ _ => rfl)) (pg_sub (pv 2) (pe_bm PySem.F.plainAttrs_list PySem.F.slot_list_index PySem.F.type_list_index mt_index (pv 0) (pa_cons (pv 1) pa_nil)) set_list))
      (pss_cons (ps_expr (pe_bm PySem.F.plainAttrs_list PySem.F.slot_list_pop PySem.F.type_list_pop mt_popAt (pv 2) (pa_cons (pv 1) pa_nil)))
      (pss_one (ps_ret (pe_lc (own := [("left", 3)]) (g := (gName 3)) (tt := tYes) rfl sc_seating_without.nd (pi_list (pv 2)) (blkOk_by (own := [("left", 3)]) (N := n_seating_without) (sc := defScope s_seating_without) (by decide +kernel)) (fun _ _ _ _ _ => (pg_name (i := 3) sc_seating_without.nd rfl (Or.inl rfl))) (fun _ _ _ _ _ => pts_nil) (fun _ _ _ _ _ => (pe_op op_sub (pv 3) (pe_callTy call_intB (by rfl) T.m_int (by decide +kernel) (pa_cons (pe_cmpR op_gt (pv 3) (pv 1) (nomark _)) pa_nil))))))))))), ?_⟩
    have h20 := o.2.2
    refine q_when (b := false) (et_is (et_test (ev_op (ev_len (K := K) (ev_var rfl) (sq_of ha)) ev_c (rv_eq rfl))) (by rw [nv_len, decide_eq_false_iff_not]; intro z; have := V.int.inj z; omega)) (fun hb => Bool.noConfusion hb) fun _ H1 e1 => ?_
    refine q_asgL (xs := nv h) (el_list (ev_var rfl) (sq_of (e1 a _ ha))) fun b H2 nb e2 hb => ?_
    have ha2 := e2 a _ (e1 a _ ha)
    have gm : g ∈ h := o.1.mem_iff.mpr (List.mem_range.mpr hg)
    have il := List.idxOf_lt_length_of_mem gm
    refine q_setL (j := h.idxOf g) hb (v := .int ((h.getD g 0 : Nat) : Int)) (ev_op (ev_var rfl) (ev_var rfl) (rv_ixL (K := K) (sq_of ha2) (atI_nat (nv_at hg)))) (ev_var rfl) (ev_index (K := K) ha2 (ev_var rfl) (ev_var rfl) gm) (by rw [nv_len]; exact il) fun H3 e3 => ?_
    rw [nv_set]
    refine q_popAt (j := g) upd_same (ev_var rfl) (ev_var rfl) (by rw [nv_len, List.length_set]; exact hg) (by omega) fun H4 e4 => ?_
    rw [nv_erase]
    have eX : Ex H (upd H4 b (.lst (nv ((h.set (h.idxOf g) (h.getD g 0)).eraseIdx g)))) := Ex.mut ((Ex.mut (e1.trans (e2.trans e3)) (fresh_back e1 nb)).trans e4) (fresh_back e1 nb)
    have el := el_map (K := K) (te := tOp (rI0 fun i j => .int (i - j)) (tVar 3) (tCB rIntB (tCons (tOp (rI0 fun i j => .bl (decide (j < i))) (tVar 3) (tVar 1)) tNil))) (tl := tVar 2) (σ := [some (.ref a), some (.int (g : Int)), some (.ref b), none]) (H := upd H4 b (.lst (nv ((h.set (h.idxOf g) (h.getD g 0)).eraseIdx g)))) (a := b) (xs := nv ((h.set (h.idxOf g) (h.getD g 0)).eraseIdx g)) (j := 3) (vs := [3])
      (fI fun y => y - (if (g : Int) < y then 1 else 0)) (ev_var rfl) (sq_of upd_same) (by rw [nv_len]; have := List.length_eraseIdx_le (l := h.set (h.idxOf g) (h.getD g 0)) (i := g); rw [List.length_set] at this; omega) (fun _ => rfl) fun i v H5 e5 hv => ?_
    · rw [map_dn] at el
      exact s_retL el fun p H5 np e5 hp => k p H5 (fresh_back eX np) (eX.trans e5) hp
    · rw [nv_eq, List.getElem?_map] at hv
      obtain ⟨y, _, rfl⟩ := Option.map_eq_some_iff.mp hv
      exact ev_is (ev_op (ev_var rfl) (ev_intB (ev_op (ev_var rfl) (ev_var rfl) rv_I0)) rv_I0) (by
        show V.int _ = V.int _
        congr 2
        by_cases z : (g : Int) < (y : Int)
        · rw [if_pos z, decide_eq_true z]
          rfl
        · rw [if_neg z, decide_eq_false z]
          rfl)
theorem ok_without (T : Tx K mg) : FnOk P w K mg base CX0 5 T.f_without T.d_without ["seating", "guest"] sp_wo := by
  refine T.F_without.ok sc_without (fun vs H Q E h => ?_) (fun cdv A outer s H vs Q E hr h => ?_)
  · obtain ⟨a, h, g, rfl, _⟩ := h
    rfl
  · obtain ⟨a, h, g, rfl, ha, o, h2, hg, k⟩ := h
    refine ⟨_, (pss_cons (ps_expr (pe_call (ok_check_seating T) (hr.mono (by decide)) (by rfl) T.g_check_seating T.F_check_seating.kp T.b_check_seating .nil pass0 (pa_cons (pv 0) pa_nil)))
      (pss_cons (ps_expr (pe_call (ok_check_guest T) (hr.mono (by decide)) (by rfl) T.g_check_guest T.F_check_guest.kp T.b_check_guest .nil pass0 (pa_cons (pv 1) (pa_cons (pe_callB call_lenR (by rfl) T.m_len (by decide +kernel) (pa_cons (pv 0) pa_nil)) pa_nil))))
      (pss_one (ps_ret (pe_call (ok_seating_without T) (hr.mono (by decide)) (by rfl) T.g_seating_without T.F_seating_without.kp T.b_seating_without .nil pass0 (pa_cons (pv 0) (pa_cons (pv 1) pa_nil))))))), ?_⟩
    refine q_drop (ev_call (ea_cons (ev_var rfl) ea_nil) (sv_ord ha o)) fun H1 e1 => ?_
    refine q_drop (ev_call (ea_cons (ev_var rfl) (ea_cons (ev_len (K := K) (ev_var rfl) (sq_of (e1 a _ ha))) ea_nil)) (sv_check_guest (by omega) (by rw [nv_len]; omega))) fun H2 e2 => ?_
    exact s_retL (el_call (ea_cons (ev_var rfl) (ea_cons (ev_var rfl) ea_nil)) (sl_wo ((e1.trans e2) a _ ha) o h2 hg)) fun p H3 np e3 hp => k p H3 (fresh_back (e1.trans e2) np) (e1.trans (e2.trans e3)) hp
theorem ok_coming_without (T : Tx K mg) : FnOk P w K mg base CX0 6 T.f_coming_without T.d_coming_without ["coming", "guest"] sp_coming_without := by
  refine T.F_coming_without.ok sc_coming_without (fun vs H Q E h => ?_) (fun cdv A outer s H vs Q E hr h => ?_)
  · obtain ⟨a, c, d, g, rfl, _⟩ := h
    rfl
  · obtain ⟨a, c, d, g, rfl, ha, o, h2, hg, od, e0, k⟩ := h
    refine ⟨_, (pss_cons (ps_expr (pe_call (ok_check_coming T) (hr.mono (by decide)) (by rfl) T.g_check_coming T.F_check_coming.kp T.b_check_coming .nil pass0 (pa_cons (pv 0) pa_nil)))
      (pss_cons (ps_expr (pe_call (ok_check_guest T) (hr.mono (by decide)) (by rfl) T.g_check_guest T.F_check_guest.kp T.b_check_guest .nil pass0 (pa_cons (pv 1) (pa_cons (pe_callB call_lenR (by rfl) T.m_len (by decide +kernel) (pa_cons (pv 0) pa_nil)) pa_nil))))
      (pss_one (ps_ret (pe_call (ok_coming_of T) (hr.mono (by decide)) (by rfl) T.g_coming_of T.F_coming_of.kp T.b_coming_of .nil pass0 (pa_cons (pe_call (ok_seating_without T) (hr.mono (by decide)) (by rfl) T.g_seating_without T.F_seating_without.kp T.b_seating_without .nil pass0 (pa_cons (pe_call (ok_seating_by T) (hr.mono (by decide)) (by rfl) T.g_seating_by T.F_seating_by.kp T.b_seating_by .nil pass0 (pa_cons (pv 0) pa_nil)) (pa_cons (pv 1) pa_nil))) pa_nil)))))), ?_⟩
    have sl := sby_len c c.length
    refine q_drop (ev_call (ea_cons (ev_var rfl) ea_nil) (sv_com ha o)) fun H1 e1 => ?_
    refine q_drop (ev_call (ea_cons (ev_var rfl) (ea_cons (ev_len (K := K) (ev_var rfl) (sq_of (e1 a _ ha))) ea_nil)) (sv_check_guest (by omega) (by rw [nv_len]; omega))) fun H2 e2 => ?_
    refine s_retL (el_callN (xs := nv (sby d d.length)) (by
      rw [e0]
      exact el_callN1 (el_call (ea_cons (ev_var rfl) ea_nil) (sl_seating_by ((e1.trans e2) a _ ha) o)) (fun _ _ => ev_var rfl) fun p H3 _ hp => sl_wo hp o.ord (by omega) (by omega)) fun p H3 _ hp => sl_coming_of hp od) fun p H3 np e3 hp => k p H3 (fresh_back (e1.trans e2) np) (e1.trans (e2.trans e3)) hp
theorem ok_sits_alone (T : Tx K mg) : FnOk P w K mg base CX0 5 T.f_sits_alone T.d_sits_alone ["seating", "guest"] sp_alone := by
  refine T.F_sits_alone.ok sc_sits_alone (fun vs H Q E h => ?_) (fun cdv A outer s H vs Q E hr h => ?_)
  · obtain ⟨a, h, g, rfl, _⟩ := h
    rfl
  · obtain ⟨a, h, g, rfl, ha, o, hg, k⟩ := h
    refine ⟨_, (pss_cons (ps_expr (pe_call (ok_check_seating T) (hr.mono (by decide)) (by rfl) T.g_check_seating T.F_check_seating.kp T.b_check_seating .nil pass0 (pa_cons (pv 0) pa_nil)))
      (pss_cons (ps_expr (pe_call (ok_check_guest T) (hr.mono (by decide)) (by rfl) T.g_check_guest T.F_check_guest.kp T.b_check_guest .nil pass0 (pa_cons (pv 1) (pa_cons (pe_callB call_lenR (by rfl) T.m_len (by decide +kernel) (pa_cons (pv 0) pa_nil)) pa_nil))))
      (pss_one (ps_ret (pe_cmpR op_eq (pe_ix ix_list (pv 0) (pv 1) (fun _ _ => rfl)) (pv 1) (nomark _)))))), ?_⟩
    refine q_drop (ev_call (ea_cons (ev_var rfl) ea_nil) (sv_ord ha o)) fun H1 e1 => ?_
    refine q_drop (ev_call (ea_cons (ev_var rfl) (ea_cons (ev_len (K := K) (ev_var rfl) (sq_of (e1 a _ ha))) ea_nil)) (sv_check_guest (by omega) (by rw [nv_len]; omega))) fun H2 e2 => ?_
    refine s_ret (v := .bl (decide (h.getD g 0 = g))) (ev_is (ev_op (ev_op (ev_var rfl) (ev_var rfl) (rv_ixL (K := K) (sq_of ((e1.trans e2) a _ ha)) (atI_nat (nv_at hg)))) (ev_var rfl) (rv_eq rfl)) ?_) fun H3 e3 => k H3 (e1.trans (e2.trans e3))
    congr 1
    rw [Bool.eq_iff_iff, decide_eq_true_iff, decide_eq_true_iff]
    exact ⟨fun z => by have := V.int.inj z; omega, fun z => by rw [z]⟩
theorem ok_traceless (T : Tx K mg) : FnOk P w K mg base CX0 6 T.f_traceless T.d_traceless ["seating"] sp_traceless := by
  refine T.F_traceless.ok sc_traceless (fun vs H Q E h => ?_) (fun cdv A outer s H vs Q E hr h => ?_)
  · obtain ⟨a, c, rfl, _⟩ := h
    rfl
  · obtain ⟨a, c, rfl, ha, o, k⟩ := h
    refine ⟨_, (pss_cons (ps_set (i := 1) sc_traceless.nd rfl (Or.inr rfl) (pe_call (ok_coming_of T) (hr.mono (by decide)) (by rfl) T.g_coming_of T.F_coming_of.kp T.b_coming_of .nil pass0 (pa_cons (pv 0) pa_nil)))
      (pss_one (ps_ret (pe_lc (own := [("guest", 2)]) (g := (gName 2)) rfl sc_traceless.nd (pi_range1 (by rfl) T.m_range (pa_cons (pe_callB (id := "len") (r := rLenS K) call_lenR (by rfl) T.m_len (by decide +kernel) (pa_cons (pv 1) pa_nil)) pa_nil)) (blkOk_by (own := [("guest", 2)]) (N := n_traceless) (sc := defScope s_traceless) (by decide +kernel)) (fun _ _ _ _ _ => (pg_name (i := 2) sc_traceless.nd rfl (Or.inl rfl))) (fun _ _ _ _ _ => (pts_one (pt_cmpR (r := rIn K true) op_notIn_seq (pv 2) (pe_slice (r := rSlL K) sl_list (pv 1) (po_some (pe_op op_add (pv 2) pe_int)) po_none) (by rfl)))) (fun _ _ _ _ _ => (pv 2)))))), ?_⟩
    have o2 := o.2.1
    refine q_asgL (el_call (ea_cons (ev_var rfl) ea_nil) (sl_coming_of ha o)) fun b H1 nb e1 hb => ?_
    have cut : ∀ i : Nat, i ≤ c.length → cutV (nv c) (some (i : Int)) none = nv (c.drop i) := fun i hi => by
      unfold cutV
      rw [HT.sIx_none, HT.sIx_nat, nv_eq, nv_eq, List.map_drop, List.take_of_length_le (by simp), Nat.min_eq_left (by simpa using hi)]
    have el := el_lcR1 (te := tVar 2) (t := tTest (tOp (rIn K true) (tVar 2) (tSl (rSlL K) (tVar 1) (tPart (tOp (rI0 fun i j => .int (i + j)) (tVar 2) (tC (.int 1)))) tNoPart))) (j := 2) (vs := [2]) (σ := [some (.ref a), some (.ref b), none]) (H := H1) (n := (c.length : Int)) (fun i => decide (i ∉ c.drop (i + 1))) (fun i => .int (i : Int)) (ea_cons (ev_is (ev_len (K := K) (ta := tVar 1) (ev_var (i := 1) rfl) (sq_of hb)) (by rw [nv_len])) ea_nil) (by omega) (fun _ => rfl) (fun i H2 e2 hi => ?_) fun i H2 e2 hi _ => ev_var rfl
    · have eg : given (c.length : Int).toNat (fun i => decide (i ∉ c.drop (i + 1))) (fun i => V.int (i : Int)) = nv (trc c) := by
        rw [nv_eq]
        rfl
      rw [eg] at el
      exact s_retL el fun p H2 np e2 hp => k p H2 (fresh_back e1 np) (e1.trans e2) hp
    · have hi' : i < c.length := by omega
      have sl := el_sl (K := K) (te := tVar 1) (tl := tPart (tOp (rI0 fun i j => .int (i + j)) (tVar 2) (tC (.int 1)))) (th := tNoPart) (σ := (wipe [some (.ref a), some (.ref b), none] [2]).set 2 (some (.int (i : Int)))) (H := H2) (ev_var (i := 1) rfl) (eo_some (ev_op (ev_var (i := 2) rfl) (ev_c (v := .int 1)) rv_I0)) eo_none (sq_of (e2 b _ hb))
      rw [show (i : Int) + 1 = ((i + 1 : Nat) : Int) by omega, cut (i + 1) (by omega)] at sl
      refine et_is (et_test (ev_opL (ev_var rfl) sl fun p H3 hp _ => rv_niL (K := K) (sq_of hp) rfl (nv_flat _))) ?_
      rw [nv_in, Bool.eq_iff_iff, Bool.not_eq_true', decide_eq_false_iff_not, decide_eq_true_iff]
theorem ok_is_traceless (T : Tx K mg) : FnOk P w K mg base CX0 7 T.f_is_traceless T.d_is_traceless ["seating", "guest"] sp_is_traceless := by
  refine T.F_is_traceless.ok sc_is_traceless (fun vs H Q E h => ?_) (fun cdv A outer s H vs Q E hr h => ?_)
  · obtain ⟨a, c, g, rfl, _⟩ := h
    rfl
  · obtain ⟨a, c, g, rfl, ha, o, hg, k⟩ := h
    refine ⟨_, (pss_cons (ps_expr (pe_call (ok_check_seating T) (hr.mono (by decide)) (by rfl) T.g_check_seating T.F_check_seating.kp T.b_check_seating .nil pass0 (pa_cons (pv 0) pa_nil)))
      (pss_cons (ps_expr (pe_call (ok_check_guest T) (hr.mono (by decide)) (by rfl) T.g_check_guest T.F_check_guest.kp T.b_check_guest .nil pass0 (pa_cons (pv 1) (pa_cons (pe_callB call_lenR (by rfl) T.m_len (by decide +kernel) (pa_cons (pv 0) pa_nil)) pa_nil))))
      (pss_one (ps_ret (pe_cmpR op_in_seq (pv 1) (pe_call (ok_traceless T) (hr.mono (by decide)) (by rfl) T.g_traceless T.F_traceless.kp T.b_traceless .nil pass0 (pa_cons (pv 0) pa_nil)) (by rfl)))))), ?_⟩
    have sl := sby_len c c.length
    refine q_drop (ev_call (ea_cons (ev_var rfl) ea_nil) (sv_ord ha o.ord)) fun H1 e1 => ?_
    refine q_drop (ev_call (ea_cons (ev_var rfl) (ea_cons (ev_len (K := K) (ev_var rfl) (sq_of (e1 a _ ha))) ea_nil)) (sv_check_guest (by omega) (by rw [nv_len]; omega))) fun H2 e2 => ?_
    exact s_ret (v := .bl (decide (g ∈ trc c))) (ev_is (ev_opL (ev_var rfl) (el_call (ea_cons (ev_var rfl) ea_nil) (sl_traceless ((e1.trans e2) a _ ha) o)) fun p H3 hp _ => rv_isL (K := K) (sq_of hp) rfl (nv_flat _)) (by rw [nv_in])) fun H3 e3 => k H3 (e1.trans (e2.trans e3))
theorem ok_traceless_share (T : Tx K mg) : FnOk P w K mg base CX0 4 T.f_traceless_share T.d_traceless_share ["guests", "weight", "guest"] sp_traceless_share := by
  refine T.F_traceless_share.ok sc_traceless_share (fun vs H Q E h => ?_) (fun cdv A outer s H vs Q E hr h => ?_)
  · obtain ⟨n, g, w, rfl, _⟩ := h
    rfl
  · obtain ⟨n, g, w, rfl, n20, hg, w0, w1, k⟩ := h
    refine ⟨_, (pss_cons (ps_expr (pe_call (ok_check_guests T) (hr.mono (by decide)) (by rfl) T.g_check_guests T.F_check_guests.kp T.b_check_guests .nil pass0 (pa_cons (pv 0) pa_nil)))
      (pss_cons (ps_expr (pe_call (ok_check_weight T) (hr.mono (by decide)) (by rfl) T.g_check_weight T.F_check_weight.kp T.b_check_weight .nil pass0 (pa_cons (pv 1) pa_nil)))
      (pss_cons (ps_expr (pe_call (ok_check_guest T) (hr.mono (by decide)) (by rfl) T.g_check_guest T.F_check_guest.kp T.b_check_guest .nil pass0 (pa_cons (pv 2) (pa_cons (pv 0) pa_nil))))
      (pss_one (ps_ret (pe_call (ok_fraction T) (hr.mono (by decide)) (by rfl) T.g_fraction T.F_fraction.kp T.b_fraction .nil pass0 (pa_cons (pe_op op_add (pv 1) (pv 2)) (pa_cons (pe_op op_sub (pe_op op_add (pv 1) (pv 0)) pe_int) pa_nil)))))))), ?_⟩
    refine q_drop (ev_call (ea_cons (ev_var rfl) ea_nil) (sv_check1 (by omega) (by omega))) fun H1 e1 => ?_
    refine q_drop (ev_call (ea_cons (ev_var rfl) ea_nil) (sv_check1 w0 w1)) fun H2 e2 => ?_
    refine q_drop (ev_call (ea_cons (ev_var rfl) (ea_cons (ev_var rfl) ea_nil)) (sv_check_guest (by omega) (by omega))) fun H3 e3 => ?_
    exact s_retU (eu_call (ea_cons (ev_op (ev_var rfl) (ev_var rfl) rv_I0) (ea_cons (ev_op (ev_op (ev_var rfl) (ev_var rfl) rv_I0) ev_c rv_I0) ea_nil)) (su_fraction (by omega) (Nat.lt_of_lt_of_le (show (w + (n : Int) - 1).natAbs < 2 ^ 64 by omega) (Nat.pow_le_pow_right (by decide) (by decide))))) fun p H4 np e4 hp => k p H4 (fresh_back (e1.trans (e2.trans e3)) np) (e1.trans (e2.trans (e3.trans e4))) hp
theorem ok_joined (T : Tx K mg) : FnOk P w K mg base CX0 5 T.f_joined T.d_joined ["seating", "mate"] sp_joined := by
  refine T.F_joined.ok sc_joined (fun vs H Q E h => ?_) (fun cdv A outer s H vs Q E hr h => ?_)
  · obtain ⟨a, h, g, rfl, _⟩ := h
    rfl
  · obtain ⟨a, h, g, rfl, ha, o, h2, hg, k⟩ := h
    refine ⟨_, (pss_cons (ps_expr (pe_call (ok_check_seating T) (hr.mono (by decide)) (by rfl) T.g_check_seating T.F_check_seating.kp T.b_check_seating .nil pass0 (pa_cons (pv 0) pa_nil)))
      (pss_cons (ps_set (i := 2) sc_joined.nd rfl (Or.inl rfl) (pe_callB call_lenR (by rfl) T.m_len (by decide +kernel) (pa_cons (pv 0) pa_nil)))
      (pss_cons (ps_if (pt_cmpR op_eq (pv 2) (pe_gc (by rfl) T.c_MOST_GUESTS) (nomark _)) (pss_one ps_never) pss_nil)
      (pss_cons (ps_expr (pe_call (ok_check_guest T) (hr.mono (by decide)) (by rfl) T.g_check_guest T.F_check_guest.kp T.b_check_guest .nil pass0 (pa_cons (pv 1) (pa_cons (pe_op op_add (pv 2) pe_int) pa_nil))))
      (pss_cons (ps_set (i := 3) sc_joined.nd rfl (Or.inl rfl) (pe_op op_cat (pv 0) (pe_lst (pa_cons (pv 2) pa_nil))))
      (pss_cons (ps_asg (pe_ix ix_list (pv 3) (pv 1) (fun _ _ => rfl)) (pg_sub (pv 3) (pv 2) set_list))
      (pss_cons (ps_asg (pv 2) (pg_sub (pv 3) (pv 1) set_list))
      (pss_one (ps_ret (pv 3)))))))))), ?_⟩
    refine q_drop (ev_call (ea_cons (ev_var rfl) ea_nil) (sv_ord ha o)) fun H1 e1 => ?_
    refine q_asg (v := .int (h.length : Int)) (ev_is (ev_len (K := K) (ev_var rfl) (sq_of (e1 a _ ha))) (by rw [nv_len])) fun H2 e2 => ?_
    refine q_when (b := false) (et_is (et_test (ev_op (ev_var rfl) ev_c (rv_eq rfl))) (by rw [decide_eq_false_iff_not]; intro z; have := V.int.inj z; omega)) (fun hb => Bool.noConfusion hb) fun _ H3 e3 => ?_
    refine q_drop (ev_call (ea_cons (ev_var rfl) (ea_cons (ev_op (ev_var rfl) ev_c rv_I0) ea_nil)) (sv_check_guest (by omega) (by omega))) fun H4 e4 => ?_
    have e14 := e1.trans (e2.trans (e3.trans e4))
    refine q_asgL (el_catL (ev_var rfl) (e14 a _ ha) (el_lst (ea_cons (ev_var rfl) ea_nil) (Nat.le_of_ble_eq_true rfl)) (by rw [nv_len]; simp; omega)) fun b H5 nb e5 hb => ?_
    have nb' := fresh_back e14 nb
    have eq : nv h ++ [V.int (h.length : Int)] = nv (h ++ [h.length]) := by
      rw [nv_app]
      rfl
    rw [eq] at hb
    have la : (h ++ [h.length]).length = h.length + 1 := by simp
    refine q_setL (j := h.length) hb (ev_op (ev_var rfl) (ev_var rfl) (rv_ixL (K := K) (sq_of hb) (atI_nat (nv_at (by omega))))) (ev_var rfl) (ev_var rfl) (by rw [nv_len, la]; omega) fun H6 e6 => ?_
    rw [nv_set]
    refine q_setL (j := g) upd_same (ev_var rfl) (ev_var rfl) (ev_var rfl) (by rw [nv_len, List.length_set, la]; omega) fun H7 e7 => ?_
    rw [nv_set]
    have es : ((h ++ [h.length]).set h.length ((h ++ [h.length]).getD g 0)).set g h.length = sits h h.length g := by
      by_cases z : g = h.length
      · subst z
        unfold sits
        rw [if_pos rfl, List.set_set]
        have : (h ++ [h.length]).getD h.length 0 = h.length := by
          rw [List.getD_eq_getElem?_getD, List.getElem?_append_right (Nat.le_refl _), Nat.sub_self]
          rfl
        rw [List.set_append_right _ _ (Nat.le_refl _), Nat.sub_self]
        rfl
      · unfold sits
        rw [if_neg z]
        congr 2
        rw [List.getD_eq_getElem?_getD, List.getD_eq_getElem?_getD, List.getElem?_append_left (by omega)]
    rw [es]
    refine s_ret (ev_var rfl) fun H8 e8 => k b H8 nb' ((Ex.mut ((Ex.mut (e14.trans (e5.trans e6)) nb').trans e7) nb').trans e8) (e8 b _ upd_same)
end


local macro_rules | `(tactic| walk_at "call") => `(tactic| (with_reducible exact sv_whole))
local macro_rules | `(tactic| walk_at "call") => `(tactic| ((with_reducible refine' sv_order ?c1 ?c2); (case c1 => assumption); (case c2 => assumption)))
local macro_rules | `(tactic| walk_at "call") => `(tactic| ((with_reducible refine' sv_ord ?c1 ?c2); (case c1 => assumption); (case c2 => assumption)))

/-! ### rising products -/
def rise (w : Int) : Nat → Int
  | 0 => 1
  | n + 1 => rise w n * (w + n)
theorem rise_pos {w : Int} (h : 1 ≤ w) : ∀ n, 0 < rise w n
  | 0 => by
    show (0 : Int) < 1
    decide
  | n + 1 => Int.mul_pos (rise_pos h n) (by omega)

/-! ### counts of those without a trace -/
/-- a sum over 0 .. n - 1 -/
def rs : Nat → (Nat → Int) → Int
  | 0, _ => 0
  | n + 1, f => rs n f + f n
theorem rs_congr {f g : Nat → Int} : ∀ {n : Nat}, (∀ i, i < n → f i = g i) → rs n f = rs n g
  | 0, _ => rfl
  | n + 1, h => by
    show rs n f + f n = rs n g + g n
    rw [rs_congr fun i hi => h i (by omega), h n (by omega)]
theorem rs_add (f g : Nat → Int) : ∀ n, rs n (fun i => f i + g i) = rs n f + rs n g
  | 0 => rfl
  | n + 1 => by
    show rs n (fun i => f i + g i) + (f n + g n) = (rs n f + f n) + (rs n g + g n)
    rw [rs_add f g n]
    omega
theorem rs_mul (c : Int) (f : Nat → Int) : ∀ n, rs n (fun i => f i * c) = rs n f * c
  | 0 => by simp [rs]
  | n + 1 => by
    show rs n (fun i => f i * c) + f n * c = (rs n f + f n) * c
    rw [rs_mul c f n, Int.add_mul]
theorem rs_front (f : Nat → Int) : ∀ n, rs (n + 1) f = f 0 + rs n (fun i => f (i + 1))
  | 0 => by simp [rs]
  | n + 1 => by
    show rs (n + 1) f + f (n + 1) = f 0 + (rs n (fun i => f (i + 1)) + f (n + 1))
    rw [rs_front f n]
    omega
theorem rs_list (f : Nat → Int) : ∀ n, ((List.range n).map f).sum = rs n f
  | 0 => rfl
  | n + 1 => by
    rw [List.range_succ, List.map_append, List.sum_append, rs_list f n]
    show rs n f + (f n + 0) = rs n f + f n
    omega
/-- weights of so many guests of whom so many are without a trace -/
def tc (w : Int) : Nat → Nat → Int
  | 0, s => if s = 0 then 1 else 0
  | n + 1, s => tc w n s * s + (match s with | 0 => 0 | t + 1 => tc w n t * (w + n - t))
def tcl (w : Int) (n : Nat) : List Int := (List.range (n + 1)).map (tc w n)
theorem tcl_len (w : Int) (n : Nat) : (tcl w n).length = n + 1 := by
  unfold tcl
  rw [List.length_map, List.length_range]
theorem tc_big (w : Int) : ∀ n s, n < s → tc w n s = 0
  | 0, s, h => by
    show (if s = 0 then (1 : Int) else 0) = 0
    rw [if_neg (by omega)]
  | n + 1, 0, h => by omega
  | n + 1, t + 1, h => by
    show tc w n (t + 1) * ((t + 1 : Nat) : Int) + tc w n t * (w + n - t) = 0
    rw [tc_big w n (t + 1) (by omega), tc_big w n t (by omega)]
    simp
theorem tc_bd {w : Int} (h0 : 1 ≤ w) (h1 : w ≤ 1000000000000) : ∀ n, n ≤ 20 → ∀ s, (tc w n s).natAbs < 2 ^ (44 * n + 1)
  | 0, _, s => by
    show (if s = 0 then (1 : Int) else 0).natAbs < 2
    split <;> decide
  | n + 1, hn, s => by
    have ih := tc_bd h0 h1 n (by omega)
    have a : ∀ s, (tc w n s * (s : Int)).natAbs ≤ 2 ^ (44 * n + 1) * 32 := fun s => by
      by_cases z : n < s
      · rw [tc_big w n s z]
        simp
      · rw [Int.natAbs_mul]
        exact Nat.mul_le_mul (Nat.le_of_lt (ih s)) (by omega)
    have b : ∀ t, (tc w n t * (w + n - t)).natAbs ≤ 2 ^ (44 * n + 1) * 2 ^ 43 := fun t => by
      by_cases z : n < t
      · rw [tc_big w n t z]
        simp
      · rw [Int.natAbs_mul]
        exact Nat.mul_le_mul (Nat.le_of_lt (ih t)) (by omega)
    rw [show 44 * (n + 1) + 1 = (44 * n + 1) + 44 by omega, Nat.pow_add]
    have pp : 0 < 2 ^ (44 * n + 1) := Nat.pow_pos (by decide)
    generalize 2 ^ (44 * n + 1) = M at *
    match s with
    | 0 =>
      show (tc w n 0 * ((0 : Nat) : Int) + 0).natAbs < M * 2 ^ 44
      have := a 0
      omega
    | t + 1 =>
      show (tc w n (t + 1) * ((t + 1 : Nat) : Int) + tc w n t * (w + n - t)).natAbs < M * 2 ^ 44
      have := a (t + 1)
      have := b t
      omega
theorem tc_get {w : Int} {n s : Nat} (h : s ≤ n) : ((tcl w n).map V.int)[s]? = some (.int (tc w n s)) := by
  unfold tcl
  rw [List.getElem?_map, List.getElem?_map, List.getElem?_range (by omega)]
  rfl
/-- one more guest: sums of any f -/
theorem tc_step (w : Int) (n : Nat) (f : Nat → Int) : rs (n + 2) (fun s => tc w (n + 1) s * f s) = rs (n + 1) (fun s => tc w n s * (s * f s + (w + n - s) * f (s + 1))) := by
  rw [rs_front]
  have e1 : rs (n + 1) (fun s => tc w (n + 1) (s + 1) * f (s + 1)) = rs (n + 1) (fun s => tc w n (s + 1) * ((s + 1 : Nat) : Int) * f (s + 1)) + rs (n + 1) (fun s => tc w n s * (w + n - s) * f (s + 1)) := by
    rw [← rs_add]
    refine rs_congr fun i _ => ?_
    show (tc w n (i + 1) * ((i + 1 : Nat) : Int) + tc w n i * (w + n - i)) * f (i + 1) = _
    rw [Int.add_mul]
  have e2 : rs (n + 1) (fun s => tc w n (s + 1) * ((s + 1 : Nat) : Int) * f (s + 1)) = rs (n + 1) (fun s => tc w n s * (s : Int) * f s) := by
    have f1 := rs_front (fun s => tc w n s * (s : Int) * f s) n
    have f0 : tc w n 0 * ((0 : Nat) : Int) * f 0 = 0 := by simp
    rw [f0] at f1
    rw [f1]
    show rs n (fun s => tc w n (s + 1) * ((s + 1 : Nat) : Int) * f (s + 1)) + tc w n (n + 1) * ((n + 1 : Nat) : Int) * f (n + 1) = _
    rw [tc_big w n (n + 1) (by omega)]
    simp
  have e0 : tc w (n + 1) 0 * f 0 = 0 := by
    show (tc w n 0 * ((0 : Nat) : Int) + 0) * f 0 = 0
    simp
  rw [e0, e1, e2, ← rs_add, Int.zero_add]
  refine rs_congr fun i _ => ?_
  rw [Int.mul_add, Int.mul_assoc, Int.mul_assoc]
theorem tc_sum (w : Int) : ∀ n, rs (n + 1) (tc w n) = rise w n
  | 0 => rfl
  | n + 1 => by
    have h := tc_step w n (fun _ => 1)
    have e : rs (n + 2) (fun s => tc w (n + 1) s * 1) = rs (n + 2) (tc w (n + 1)) := rs_congr fun i _ => Int.mul_one _
    rw [e] at h
    rw [h]
    have e2 : rs (n + 1) (fun s => tc w n s * ((s : Int) * 1 + (w + n - s) * 1)) = rs (n + 1) (fun s => tc w n s * (w + n)) := rs_congr fun i _ => by
      congr 1
      omega
    rw [e2, rs_mul, tc_sum w n]
    rfl
/-- the mean times all: once for each guest -/
theorem tc_mean (w : Int) : ∀ n, rs (n + 1) (fun s => tc w n s * s) * (w + n - 1) = rise w n * rs n (fun k => w + k)
  | 0 => by simp [rs, rise]
  | n + 1 => by
    have h := tc_step w n (fun s => (s : Int))
    rw [h]
    have e2 : rs (n + 1) (fun s => tc w n s * ((s : Int) * (s : Int) + (w + n - s) * ((s + 1 : Nat) : Int))) = rs (n + 1) (fun s => tc w n s * (s : Int)) * (w + n - 1) + rise w n * (w + n) := by
      rw [← tc_sum, ← rs_mul, ← rs_mul, ← rs_add]
      refine rs_congr fun i _ => ?_
      rw [Int.mul_assoc, ← Int.mul_add]
      congr 1
      have : ((i + 1 : Nat) : Int) = (i : Int) + 1 := by omega
      rw [this]
      generalize (i : Int) = x
      generalize w + (n : Int) = y
      have a : (y - x) * (x + 1) = y * x + y - x * x - x := by
        rw [Int.sub_mul, Int.mul_add, Int.mul_add]
        omega
      have b : x * (y - 1) = y * x - x := by
        rw [Int.mul_sub, Int.mul_comm x y]
        omega
      rw [a, b]
      omega
    rw [e2, tc_mean w n]
    show (rise w n * rs n (fun k => w + k) + rise w n * (w + n)) * (w + ((n + 1 : Nat) : Int) - 1) = rise w n * (w + n) * (rs n (fun k => w + k) + (w + n))
    have e3 : w + ((n + 1 : Nat) : Int) - 1 = w + n := by omega
    rw [e3, ← Int.mul_add, Int.mul_assoc, Int.mul_assoc, Int.mul_comm (rs n (fun k => w + k) + (w + n)) (w + n)]


local macro_rules | `(tactic| walk_at "call") => `(tactic| (with_reducible exact sv_whole))
local macro_rules | `(tactic| walk_at "call") => `(tactic| ((with_reducible refine' sv_order ?c1 ?c2); (case c1 => assumption); (case c2 => assumption)))
local macro_rules | `(tactic| walk_at "call") => `(tactic| ((with_reducible refine' sv_ord ?c1 ?c2); (case c1 => assumption); (case c2 => assumption)))

/-! ### traceless_counts, _law_counts -/
/-- part of a new row: what the first j of the old one give -/
def gw (w : Int) (i j s : Nat) : Int := (if s < j then tc w i s * s else 0) + (match s with | 0 => 0 | t + 1 => if t < j then tc w i t * (w + i - t) else 0)
def gwl (w : Int) (i j : Nat) : List Int := (List.range (i + 2)).map (gw w i j)
theorem gwl_len (w : Int) (i j : Nat) : (gwl w i j).length = i + 2 := by
  unfold gwl
  rw [List.length_map, List.length_range]
theorem gwl_zero (w : Int) (i : Nat) : gwl w i 0 = List.replicate (i + 2) 0 := by
  unfold gwl
  refine List.eq_replicate_iff.mpr ⟨by simp, fun x hx => ?_⟩
  obtain ⟨s, _, rfl⟩ := List.mem_map.mp hx
  unfold gw
  rw [if_neg (by omega)]
  match s with
  | 0 => rfl
  | t + 1 =>
    show (0 : Int) + (if t < 0 then _ else (0 : Int)) = 0
    rw [if_neg (by omega)]
    rfl
theorem gwl_all (w : Int) (i : Nat) : gwl w i (i + 1) = tcl w (i + 1) := by
  unfold gwl tcl
  refine List.map_congr_left fun s hs => ?_
  have hs := List.mem_range.mp hs
  have a : (if s < i + 1 then tc w i s * (s : Int) else 0) = tc w i s * s := by
    by_cases z : s < i + 1
    · rw [if_pos z]
    · rw [if_neg z, tc_big w i s (by omega)]
      simp
  unfold gw
  rw [a]
  match s, hs with
  | 0, _ => rfl
  | t + 1, hs =>
    show _ + (if t < i + 1 then _ else (0 : Int)) = _
    rw [if_pos (by omega)]
    rfl
theorem gwl_get {w : Int} {i j s : Nat} (h : s < i + 2) : ((gwl w i j).map V.int)[s]? = some (.int (gw w i j s)) := by
  unfold gwl
  rw [List.getElem?_map, List.getElem?_map, List.getElem?_range h]
  rfl
theorem ite_lt {s j : Nat} (h : s ≠ j) {x : Int} : (if s < j then x else 0) = if s < j + 1 then x else 0 := by
  by_cases z : s < j
  · rw [if_pos z, if_pos (by omega)]
  · rw [if_neg z, if_neg (by omega)]
/-- the row with one place told anew -/
theorem gwl_set {w : Int} {i j : Nat} (hj : j < i + 1) : (((gwl w i j).map V.int).set j (.int (gw w i j j + tc w i j * j))).set (j + 1) (.int (gw w i j (j + 1) + tc w i j * (w + i - j))) = (gwl w i (j + 1)).map V.int := by
  refine List.ext_getElem? fun s => ?_
  have lg : ((gwl w i j).map V.int).length = i + 2 := by rw [List.length_map, gwl_len]
  by_cases hs : s < i + 2
  · rw [gwl_get hs, List.getElem?_set, List.getElem?_set, List.length_set, lg, gwl_get hs]
    by_cases s1 : j + 1 = s
    · subst s1
      rw [if_pos rfl, if_pos hs]
      congr 2
      show gw w i j (j + 1) + _ = gw w i (j + 1) (j + 1)
      show (if j + 1 < j then _ else (0 : Int)) + (if j < j then _ else (0 : Int)) + _ = (if j + 1 < j + 1 then _ else (0 : Int)) + (if j < j + 1 then tc w i j * (w + i - j) else 0)
      rw [if_neg (by omega), if_neg (by omega), if_neg (by omega), if_pos (by omega)]
      omega
    · rw [if_neg s1]
      by_cases s0 : j = s
      · subst s0
        rw [if_pos rfl, if_pos (by omega)]
        congr 2
        unfold gw
        rw [if_neg (by omega), if_pos (by omega)]
        match j with
        | 0 => simp
        | t + 1 =>
          show (0 : Int) + (if t < t + 1 then _ else (0 : Int)) + _ = _ + (if t < t + 1 + 1 then _ else (0 : Int))
          rw [if_pos (by omega), if_pos (by omega)]
          omega
      · rw [if_neg s0]
        congr 2
        unfold gw
        rw [ite_lt (Ne.symm s0)]
        match s, s1 with
        | 0, _ => rfl
        | t + 1, s1 =>
          show _ + (if t < j then _ else (0 : Int)) = _ + (if t < j + 1 then _ else (0 : Int))
          rw [ite_lt (show t ≠ j by omega)]
  · rw [List.getElem?_eq_none (by rw [List.length_set, List.length_set, lg]; omega), List.getElem?_eq_none (by rw [List.length_map, gwl_len]; omega)]
theorem rep_zero (k : Nat) : (List.replicate k [V.int 0]).flatten = (List.replicate k (0 : Int)).map V.int := by
  induction k with
  | zero => rfl
  | succ k ih => rw [List.replicate_succ, List.flatten_cons, ih]; rfl
def sp_tcounts : Sp := fun vs H Q _ => ∃ (n : Nat) (w : Int), vs = [.int (n : Int), .int w] ∧ 1 ≤ n ∧ n ≤ 20 ∧ 1 ≤ w ∧ w ≤ 1000000000000 ∧ RetL ((tcl w n).map V.int) H Q
theorem sl_tcounts {H : Hp} {n : Nat} {w : Int} (n1 : 1 ≤ n) (n20 : n ≤ 20) (h0 : 1 ≤ w) (h1 : w ≤ 1000000000000) : SpL sp_tcounts ([.int (n : Int), .int w] ++ []) H ((tcl w n).map V.int) := fun H1 e Q q E => ⟨n, w, rfl, n1, n20, h0, h1, q⟩
section
variable {P : Program} {w : World} {K : PySem.W.Frag} {mg : Str → Option Value} {base : Heap}
theorem ok_traceless_counts (T : Tx K mg) : FnOk P w K mg base CX0 4 T.f_traceless_counts T.d_traceless_counts ["guests", "weight"] sp_tcounts := by
  refine T.F_traceless_counts.ok sc_traceless_counts (fun vs H Q E h => ?_) (fun cdv A outer s H vs Q E hr h => ?_)
  · obtain ⟨n, x, rfl, _⟩ := h
    rfl
  · obtain ⟨n, x, rfl, n1, n20, h0, h1, k⟩ := h
    refine ⟨_, (pss_cons (ps_expr (pe_call (ok_check_guests T) (hr.mono (by decide)) (by rfl) T.g_check_guests T.F_check_guests.kp T.b_check_guests .nil pass0 (pa_cons (pv 0) pa_nil)))
      (pss_cons (ps_expr (pe_call (ok_check_weight T) (hr.mono (by decide)) (by rfl) T.g_check_weight T.F_check_weight.kp T.b_check_weight .nil pass0 (pa_cons (pv 1) pa_nil)))
      (pss_cons (ps_set (i := 2) sc_traceless_counts.nd rfl (Or.inl rfl) (pe_lst (pa_cons pe_int pa_nil)))
      (pss_cons (ps_for PassesOwn.never rfl (pi_range1 (by rfl) T.m_range (pa_cons (pv 0) pa_nil)) (pg_name (i := 3) sc_traceless_counts.nd rfl (Or.inl rfl)) (pss_cons (ps_set (i := 4) sc_traceless_counts.nd rfl (Or.inl rfl) (pe_op op_rep (pe_lst (pa_cons pe_int pa_nil)) (pe_op op_add (pe_callB call_lenR (by rfl) T.m_len (by decide +kernel) (pa_cons (pv 2) pa_nil)) pe_int)))
      (pss_cons (ps_for PassesOwn.never rfl (pi_enum (by rfl) T.m_enumerate (pa_cons (pv 2) pa_nil)) (pg_tup rfl (pgs_cons (pg_name (i := 5) sc_traceless_counts.nd rfl (Or.inl rfl)) (pgs_cons (pg_name (i := 6) sc_traceless_counts.nd rfl (Or.inl rfl)) pgs_nil))) (pss_cons (ps_augS (pv 4) (pv 5) get_listR (pe_op op_mulX (pv 6) (pv 5)) ip_add set_list)
      (pss_one (ps_augS (pv 4) (pe_op op_add (pv 5) pe_int) get_listR (pe_op op_mulX (pv 6) (pe_op op_sub (pe_op op_add (pv 1) (pv 3)) (pv 5))) ip_add set_list))))
      (pss_one (ps_set (i := 2) sc_traceless_counts.nd rfl (Or.inl rfl) (pv 4))))))
      (pss_one (ps_ret (pv 2))))))), ?_⟩
    refine q_drop (ev_call (ea_cons (ev_var rfl) ea_nil) (sv_check1 (by omega) (by omega))) fun H1 e1 => ?_
    refine q_drop (ev_call (ea_cons (ev_var rfl) ea_nil) (sv_check1 h0 h1)) fun H2 e2 => ?_
    refine q_asgL (xs := (tcl x 0).map V.int) (el_lst (ea_cons ev_c ea_nil) (Nat.le_of_ble_eq_true rfl)) fun q0 H3 nq0 e3 hq0 => ?_
    have e13 := e1.trans (e2.trans e3)
    have nq0' := fresh_back (e1.trans e2) nq0
    refine q_forR1 (n := (n : Int)) (ea_cons (ev_var rfl) ea_nil) ⟨by omega, by omega⟩ (fun i σ' H' => ∃ (q : Addr) (y3 y4 y5 y6 : Option V), σ' = [some (.int (n : Int)), some (.int x), some (.ref q), y3, y4, y5, y6] ∧ Ex H H' ∧ H q = none ∧ H' q = some (.lst ((tcl x i).map V.int)))
      (fun H4 e4 => ⟨q0, none, none, none, none, rfl, e13.trans e4, nq0', e4 q0 _ hq0⟩) ?_ ?_
    · rintro i σ' H' hi ⟨q, y3, y4, y5, y6, rfl, e, nq, hq⟩
      have i20 : i < 20 := by omega
      have ll : ((tcl x i).map V.int).length = i + 1 := by rw [List.length_map, tcl_len]
      have rp := el_rep (ta := tLst (tCons (tC (.int 0)) tNil)) (tb := tOp (rI0 fun i j => .int (i + j)) (tCB (rLenS K) (tCons (tVar 2) tNil)) (tC (.int 1))) (σ := [some (.int (n : Int)), some (.int x), some (.ref q), some (.int (i : Int)), y4, y5, y6]) (H := H') (xs := [.int 0]) (k := ((i + 2 : Nat) : Int)) (el_lst (ea_cons ev_c ea_nil) (Nat.le_of_ble_eq_true rfl)) (ev_is (ev_op (ev_len (K := K) (ev_var (i := 2) rfl) (sq_of hq)) ev_c rv_I0) (by rw [ll]; congr 1)) (by omega) (by omega) (by decide)
      rw [Int.toNat_natCast, rep_zero, ← gwl_zero x i] at rp
      refine q_asgL rp fun g H5 ng e5 hg => ?_
      have hq5 := e5 q _ hq
      have gq : q ≠ g := fun z => by
        rw [← z, hq] at ng
        cases ng
      refine q_forEn (ea_cons (ev_var rfl) ea_nil) (sq_of hq5) (fun j σ' H6 => ∃ y5 y6, σ' = [some (.int (n : Int)), some (.int x), some (.ref q), some (.int (i : Int)), some (.ref g), y5, y6] ∧ Ex H' H6 ∧ H6 g = some (.lst ((gwl x i j).map V.int))) (fun H6 e6 => ⟨y5, y6, rfl, e5.trans e6, e6 g _ hg⟩) (fun _ σ' H6 _ ⟨_, _, _, e6, _⟩ => sq_of (e6 q _ hq)) ?_ ?_
      · rintro j v σ' H6 H7 hv ⟨y5, y6, rfl, e6, hg6⟩ e7
        have hj : j < i + 1 := by
          have := (List.getElem?_eq_some_iff.mp hv).1
          rwa [ll] at this
        rw [tc_get (by omega)] at hv
        cases hv
        have bd := tc_bd h0 h1 i (by omega) j
        have m1 : CMulX (tc x i j) (j : Int) := mulx_ok (a := 1000) (b := 64) (lt2_mono bd (by omega)) (by omega) (by decide)
        have m2 : CMulX (tc x i j) (x + (i : Int) - (j : Int)) := mulx_ok (a := 1000) (b := 64) (lt2_mono bd (by omega)) (by omega) (by decide)
        refine q_augL (K := K) (j := j) (a := gw x i j j) (b := tc x i j * j) (e7 g _ hg6) (ev_var rfl) (ev_var rfl) (gwl_get (by omega)) (ev_op (ev_var rfl) (ev_var rfl) (rv_I m1)) fun H8 e8 => ?_
        refine s_augL (K := K) (j := j + 1) (a := gw x i j (j + 1)) (b := tc x i j * (x + i - j)) upd_same (ev_var rfl) (ev_is (ev_op (ev_var rfl) ev_c rv_I0) (by congr 1)) (by rw [List.getElem?_set_ne (by omega)]; exact gwl_get (by omega)) (ev_op (ev_var rfl) (ev_op (ev_op (ev_var rfl) (ev_var rfl) rv_I0) (ev_var rfl) rv_I0) (rv_I m2)) fun H9 e9 => ?_
        exact ⟨_, _, rfl, Ex.mut ((Ex.mut (e6.trans (e7.trans e8)) ng).trans e9) ng, by rw [upd_same, gwl_set hj]⟩
      · rintro σ' H6 ⟨y5, y6, rfl, e6, hg6⟩
        rw [ll, gwl_all] at hg6
        exact s_asg (ev_var rfl) fun H7 e7 => ⟨g, _, _, _, _, rfl, e.trans (e6.trans e7), fresh_back e ng, e7 g _ hg6⟩
    · rintro σ' H' ⟨q, y3, y4, y5, y6, rfl, e, nq, hq⟩
      rw [Int.toNat_natCast] at hq
      exact s_ret (ev_var rfl) fun H4 e4 => k q H4 nq (e.trans e4) (e4 q _ hq)
end


local macro_rules | `(tactic| walk_at "call") => `(tactic| (with_reducible exact sv_whole))
local macro_rules | `(tactic| walk_at "call") => `(tactic| ((with_reducible refine' sv_order ?c1 ?c2); (case c1 => assumption); (case c2 => assumption)))
local macro_rules | `(tactic| walk_at "call") => `(tactic| ((with_reducible refine' sv_ord ?c1 ?c2); (case c1 => assumption); (case c2 => assumption)))

def frac (a b : Int) : List V := [.int (a / cd a b), .int (b / cd a b)]
def sp_lowest : Sp := fun vs H Q _ => ∃ a b : Int, vs = [.int a, .int b] ∧ 0 ≤ a ∧ 0 < b ∧ b.natAbs < 2 ^ 8000 ∧ RetU (frac a b) H Q
theorem su_lowest {H : Hp} {a b : Int} (h0 : 0 ≤ a) (h1 : 0 < b) (h2 : b.natAbs < 2 ^ 8000) : SpU sp_lowest ([.int a, .int b] ++ []) H (frac a b) := fun H1 _ Q q E => ⟨a, b, rfl, h0, h1, h2, q⟩
section
variable {P : Program} {w : World} {K : PySem.W.Frag} {mg : Str → Option Value} {base : Heap}
theorem ok_law_lowest (T : Tx K mg) : FnOk P w K mg base CX0 1 T.f_law_lowest T.d_law_lowest ["top", "bottom"] sp_lowest := by
  refine T.F_law_lowest.ok sc_law_lowest (fun vs H Q E h => ?_) (fun cdv A outer s H vs Q E hr h => ?_)
  · obtain ⟨a, b, rfl, _⟩ := h
    rfl
  · obtain ⟨a, b, rfl, ha, hb, hs, k⟩ := h
    refine ⟨_, (pss_cons (ps_par (i := 2) (j := 3) (by rfl) sc_law_lowest.nd rfl rfl (by decide) rfl rfl (pa_cons (pv 0) (pa_cons (pv 1) pa_nil)) (by rfl))
      (pss_cons (ps_while PassesOwn.never (pt_cmpR op_ne (pv 3) pe_int (nomark _)) (pss_one (ps_par (i := 2) (j := 3) (by rfl) sc_law_lowest.nd rfl rfl (by decide) rfl rfl (pa_cons (pv 3) (pa_cons (pe_op op_mod (pe_callTy call_intI (by rfl) T.m_int (by decide +kernel) (pa_cons (pv 2) pa_nil)) (pv 3)) pa_nil)) (by rfl))))
      (pss_one (ps_ret (pe_tup (pa_cons (pe_op op_fdivW (pv 0) (pv 2)) (pa_cons (pe_op op_fdivW (pv 1) (pv 2)) pa_nil))))))), ?_⟩
    obtain ⟨A, rfl⟩ : ∃ z : Nat, a = z := ⟨a.toNat, by omega⟩
    obtain ⟨B, rfl⟩ : ∃ z : Nat, b = z := ⟨b.toNat, by omega⟩
    refine q_par (by walk_at "ea") fun H1 e1 => ?_
    refine q_while (fun m σ' H' => ∃ x y : Nat, σ' = [some (.int (A : Int)), some (.int (B : Int)), some (.int (x : Int)), some (.int (y : Int))] ∧ Ex H H' ∧ Nat.gcd x y = Nat.gcd A B ∧ (y = 0 → 0 < x) ∧ m = y) B ⟨A, B, rfl, e1, rfl, by omega, rfl⟩ ?_
    rintro m σ' H' ⟨x, y, rfl, e, g, hx, hm⟩
    refine ⟨decide (y ≠ 0), et_is (et_test (ev_op (ev_var rfl) ev_c (rv_ne rfl))) ?_, fun hb2 H2 e2 => ?_, fun hb2 H2 e2 => ?_⟩
    · rw [Bool.eq_iff_iff]
      simp only [Bool.not_eq_true', decide_eq_false_iff_not, decide_eq_true_eq]
      exact ⟨fun h1 h2 => h1 (by rw [h2]; rfl), fun h1 h2 => h1 (by have := V.int.inj h2; omega)⟩
    · have hy := of_decide_eq_true hb2
      refine ⟨fun σ2 H3 => σ2 = [some (.int (A : Int)), some (.int (B : Int)), some (.int (y : Int)), some (.int ((x % y : Nat) : Int))] ∧ Ex H H3, fun σ2 H3 ⟨q1, q2⟩ => ⟨x % y, by rw [hm]; exact Nat.mod_lt _ (by omega), y, x % y, q1, q2, ?_, by omega, rfl⟩, ?_⟩
      · rw [Nat.gcd_comm, ← Nat.gcd_rec, Nat.gcd_comm]
        exact g
      · refine s_par (ea_cons (ev_var rfl) (ea_cons (ev_op (ev_intI (ev_var rfl)) (ev_var rfl) (rv_I (by omega))) ea_nil)) fun H3 e3 => ⟨?_, e.trans (e2.trans e3)⟩
        rw [Int.natCast_emod]
        rfl
    · have hy : y = 0 := by simpa using hb2
      subst hy
      rw [Nat.gcd_zero_right] at g
      have gx : (x : Int) = cd (A : Int) (B : Int) := by
        unfold cd
        rw [Int.natAbs_natCast, Int.natAbs_natCast, ← g]
      rw [gx]
      have hd : ∀ z : Int, CDivW z (cd (A : Int) (B : Int)) := fun z => wide_div (cd_pos hb) (Nat.lt_of_le_of_lt (by have := cd_le (a := (A : Int)) hb; have := cd_pos (a := (A : Int)) hb; omega) hs) (by decide) (by decide)
      exact s_retU (eu_tup (ea_cons (ev_op (ev_var rfl) (ev_var rfl) (rv_I (hd _))) (ea_cons (ev_op (ev_var rfl) (ev_var rfl) (rv_I (hd _))) ea_nil)) (Nat.le_of_ble_eq_true rfl)) fun p H3 hp e3 h3 => k p H3 (fresh_back (e.trans e2) hp) (e.trans (e2.trans e3)) h3
end

/-! ### a guest leaves its table -/
/-- who sits left of x when k is not looked at -/
def skip (h : List Nat) (k x : Nat) : Nat := if h.getD x 0 = k then h.getD k 0 else h.getD x 0
theorem dn_inj {k x y : Nat} (hx : x ≠ k) (hy : y ≠ k) (h : dn k x = dn k y) : x = y := by
  unfold dn at h
  split at h <;> split at h <;> omega
theorem dn_lt {k x n : Nat} (hx : x < n) (hk : k < n) (ne : x ≠ k) : dn k x < n - 1 := by
  unfold dn
  split <;> omega
theorem idx_iff {h : List Nat} {x k : Nat} (nd : h.Nodup) (hx : x < h.length) (hk : k ∈ h) : h.idxOf k = x ↔ h.getD x 0 = k := by
  have e : h.getD x 0 = h[x] := by
    rw [List.getD_eq_getElem?_getD, List.getElem?_eq_getElem hx]
    rfl
  rw [e]
  have il := List.idxOf_lt_length_of_mem hk
  constructor
  · intro z
    subst z
    exact List.getElem_idxOf il
  · intro z
    have := List.getElem_idxOf il
    have e2 : h[h.idxOf k]? = h[x]? := by
      rw [List.getElem?_eq_getElem il, List.getElem?_eq_getElem hx, this, z]
    exact (List.getElem?_inj il nd).mp e2
theorem wo_at {h : List Nat} {k x : Nat} (nd : h.Nodup) (hk : k ∈ h) (kl : k < h.length) (hx : x < h.length) (ne : x ≠ k) : (wo h k)[dn k x]? = some (dn k (skip h k x)) := by
  unfold wo
  rw [List.getElem?_map, List.getElem?_eraseIdx]
  have s : (h.set (h.idxOf k) (h.getD k 0))[x]? = some (skip h k x) := by
    rw [List.getElem?_set]
    unfold skip
    by_cases z : h.idxOf k = x
    · rw [if_pos z, if_pos (by rw [z]; exact hx), if_pos ((idx_iff nd hx hk).mp z)]
    · rw [if_neg z, if_neg fun w => z ((idx_iff nd hx hk).mpr w), List.getD_eq_getElem?_getD, List.getElem?_eq_getElem hx]
      rfl
  by_cases z : x > k
  · have e : dn k x = x - 1 := by
      unfold dn
      rw [if_pos z]
    rw [e, if_neg (by omega), show x - 1 + 1 = x by omega, s]
    rfl
  · have e : dn k x = x := by
      unfold dn
      rw [if_neg z]
    rw [e, if_pos (by omega), s]
    rfl
theorem wo_len {h : List Nat} {k : Nat} (kl : k < h.length) : (wo h k).length = h.length - 1 := by
  unfold wo
  rw [List.length_map, List.length_eraseIdx_of_lt (by rw [List.length_set]; exact kl), List.length_set]
/-- the others of a table, one behind the other -/
theorem ring_skip {h r : List Nat} {k : Nat} (R : Rg h r) {i : Nat} (hi : i < (r.filter fun x => decide (x ≠ k)).length) :
    ∃ x y, (r.filter fun x => decide (x ≠ k))[i]? = some x ∧ (r.filter fun x => decide (x ≠ k))[(i + 1) % (r.filter fun x => decide (x ≠ k)).length]? = some y ∧ skip h k x = y := by
  have st : ∀ {i x y : Nat}, r[i]? = some x → r[(i + 1) % r.length]? = some y → h.getD x 0 = y := fun {i x y} h1 h2 => by
    obtain ⟨x', y', a, b, c⟩ := R.st i (List.getElem?_eq_some_iff.mp h1).1
    rw [h1] at a
    rw [h2] at b
    cases a
    cases b
    rw [List.getD_eq_getElem?_getD, c]
    rfl
  by_cases hk : k ∈ r
  · obtain ⟨A, B, rfl⟩ := List.append_of_mem hk
    have nd := R.nd
    rw [List.nodup_append] at nd
    obtain ⟨nA, nB, nAB⟩ := nd
    rw [List.nodup_cons] at nB
    have kA : k ∉ A := fun z => nAB k z k (by simp) rfl
    have fA : A.filter (fun x => decide (x ≠ k)) = A := List.filter_eq_self.mpr fun x hx => decide_eq_true fun z => kA (z ▸ hx)
    have fB : B.filter (fun x => decide (x ≠ k)) = B := List.filter_eq_self.mpr fun x hx => decide_eq_true fun z => nB.1 (z ▸ hx)
    have f : (A ++ k :: B).filter (fun x => decide (x ≠ k)) = A ++ B := by
      rw [List.filter_append, fA, List.filter_cons, if_neg (by simp), fB]
    rw [f] at hi ⊢
    rw [List.length_append] at hi
    have gl : ∀ j, j < A.length → (A ++ k :: B)[j]? = (A ++ B)[j]? := fun j hj => by rw [List.getElem?_append_left hj, List.getElem?_append_left hj]
    have gr : ∀ j, A.length ≤ j → (A ++ k :: B)[j + 1]? = (A ++ B)[j]? := fun j hj => by
      rw [List.getElem?_append_right (by omega), List.getElem?_append_right hj, show j + 1 - A.length = (j - A.length) + 1 by omega, List.getElem?_cons_succ]
    have gk : (A ++ k :: B)[A.length]? = some k := by
      rw [List.getElem?_append_right (Nat.le_refl _), Nat.sub_self]
      rfl
    have ll : (A ++ k :: B).length = A.length + B.length + 1 := by rw [List.length_append, List.length_cons]; omega
    rw [ll] at st
    have lq : (A ++ B).length = A.length + B.length := List.length_append
    rw [lq]
    have val : ∀ j, j < A.length + B.length → ∃ x, (A ++ B)[j]? = some x ∧ x ≠ k := fun j hj => by
      refine ⟨_, List.getElem?_eq_getElem (by rw [lq]; exact hj), fun z => ?_⟩
      have : k ∈ A ++ B := z ▸ List.getElem_mem _
      rcases List.mem_append.mp this with w | w
      · exact kA w
      · exact nB.1 w
    obtain ⟨x, hx, xk⟩ := val i hi
    have mlt : (i + 1) % (A.length + B.length) < A.length + B.length := Nat.mod_lt _ (by omega)
    obtain ⟨y, hy, yk⟩ := val _ mlt
    refine ⟨x, y, hx, hy, ?_⟩
    unfold skip
    -- the successor of k
    have sk : ∀ y, (A ++ k :: B)[(A.length + 1) % (A.length + B.length + 1)]? = some y → h.getD k 0 = y := fun y hy => st gk hy
    rcases Nat.lt_or_ge (i + 1) A.length with h1 | h1
    · rw [Nat.mod_eq_of_lt (by omega)] at hy
      have e := st (i := i) ((gl i (by omega)).trans hx) (by rw [Nat.mod_eq_of_lt (by omega)]; exact (gl (i + 1) h1).trans hy)
      rw [if_neg (by rw [e]; exact yk), e]
    · rcases Nat.lt_or_ge i A.length with h2 | h2
      · have ia : i + 1 = A.length := by omega
        have e := st (i := i) ((gl i h2).trans hx) (by rw [ia, Nat.mod_eq_of_lt (by omega)]; exact gk)
        rw [if_pos e]
        rw [ia] at hy
        rcases Nat.lt_or_ge A.length (A.length + B.length) with h3 | h3
        · rw [Nat.mod_eq_of_lt h3] at hy
          exact sk y (by rw [Nat.mod_eq_of_lt (by omega)]; exact (gr _ (Nat.le_refl _)).trans hy)
        · have b0 : B.length = 0 := by omega
          rw [b0, Nat.add_zero, Nat.mod_self] at hy
          exact sk y (by rw [b0, Nat.add_zero, Nat.mod_self]; exact (gl 0 (by omega)).trans hy)
      · rcases Nat.lt_or_ge (i + 1) (A.length + B.length) with h3 | h3
        · rw [Nat.mod_eq_of_lt h3] at hy
          have e := st (i := i + 1) ((gr i h2).trans hx) (by rw [Nat.mod_eq_of_lt (by omega)]; exact (gr (i + 1) (by omega)).trans hy)
          rw [if_neg (by rw [e]; exact yk), e]
        · have ie : i + 1 = A.length + B.length := by omega
          rw [ie, Nat.mod_self] at hy
          rcases Nat.eq_zero_or_pos A.length with a0 | a0
          · have e := st (i := i + 1) ((gr i h2).trans hx) (by rw [ie, Nat.mod_self]; rw [a0] at gk; exact gk)
            rw [if_pos e]
            have g1 := (gr 0 (by omega)).trans hy
            exact sk y (by rw [a0, Nat.mod_eq_of_lt (by omega)]; exact g1)
          · have e := st (i := i + 1) ((gr i h2).trans hx) (by rw [ie, Nat.mod_self]; exact (gl 0 a0).trans hy)
            rw [if_neg (by rw [e]; exact yk), e]
  · have f : r.filter (fun x => decide (x ≠ k)) = r := List.filter_eq_self.mpr fun x hx => decide_eq_true fun z => hk (z ▸ hx)
    rw [f] at hi ⊢
    obtain ⟨x, y, a, b, c⟩ := R.st i hi
    refine ⟨x, y, a, b, ?_⟩
    have yk : y ≠ k := fun z => hk (z ▸ List.mem_of_getElem? b)
    have e := st a b
    unfold skip
    rw [if_neg (by rw [e]; exact yk), e]


local macro_rules | `(tactic| walk_at "call") => `(tactic| (with_reducible exact sv_whole))
local macro_rules | `(tactic| walk_at "call") => `(tactic| ((with_reducible refine' sv_order ?c1 ?c2); (case c1 => assumption); (case c2 => assumption)))
local macro_rules | `(tactic| walk_at "call") => `(tactic| ((with_reducible refine' sv_ord ?c1 ?c2); (case c1 => assumption); (case c2 => assumption)))

/-! ### _law_out -/
theorem dn_cast (k x : Nat) : (x : Int) - (if (k : Int) < x then 1 else 0) = ((dn k x : Nat) : Int) := by
  unfold dn
  by_cases z : k < x
  · rw [if_pos (by omega), if_pos z]
    omega
  · rw [if_neg (by omega), if_neg z]
    omega
/-- the others of a table, closed up -/
def outR (k : Nat) (r : List Nat) : List Nat := (r.filter fun x => decide (x ≠ k)).map (dn k)
theorem outR_len (k : Nat) (r : List Nat) : (outR k r).length ≤ r.length := by
  unfold outR
  rw [List.length_map]
  exact List.length_filter_le _ _
theorem filt_at : ∀ (r : List Nat) (f : Nat → Bool) (g : Nat → V), given r.length (fun i => f (r.getD i 0)) (fun i => g (r.getD i 0)) = (r.filter f).map g
  | [], f, g => rfl
  | x :: l, f, g => by
    have ih := filt_at l f g
    unfold given at ih ⊢
    rw [List.length_cons, List.range_succ_eq_map, List.filter_cons]
    have e : (List.map Nat.succ (List.range l.length)).filter (fun i => f ((x :: l).getD i 0)) = ((List.range l.length).filter fun i => f (l.getD i 0)).map Nat.succ := by
      rw [List.filter_map]
      congr 1
    have e0 : (x :: l).getD 0 0 = x := rfl
    rw [e, e0, List.filter_cons]
    by_cases z : f x = true
    · rw [if_pos z, if_pos z, List.map_cons, List.map_cons, List.map_map, ← ih, e0]
      rfl
    · rw [if_neg z, if_neg z, List.map_map, ← ih]
      rfl
def sp_law_out : Sp := fun vs H Q _ => ∃ (a : Addr) (h : List Nat) (rs : List (List Nat)) (g : Nat), vs = [.ref a, .int (g : Int)] ∧ H a = some (.lst (nv h)) ∧ Ord h ∧ 2 ≤ h.length ∧ Rings h rs ∧ g < h.length ∧ RetL (nv (wo h g)) H Q
theorem sl_law_out {H : Hp} {a : Addr} {h : List Nat} {rs : List (List Nat)} {g : Nat} (ha : H a = some (.lst (nv h))) (o : Ord h) (h2 : 2 ≤ h.length) (R : Rings h rs) (hg : g < h.length) : SpL sp_law_out ([.ref a, .int (g : Int)] ++ []) H (nv (wo h g)) := fun H1 e Q q E => ⟨a, h, rs, g, rfl, e a _ ha, o, h2, R, hg, q⟩
theorem q_forLT {K : PySem.W.Frag} {σ : L2.St} {H : Hp} {tl : TE} {g : TG} {tu tz : TS} {D : Ends} {rs : List (List V)} (h : EvLT tl σ H rs) (k : ∀ p vs H1, H p = none → Ex H H1 → H1 p = some (.lst vs) → TL H1 vs rs → tSeq (tFor (iList K (tC (.ref p))) g tu) tz D σ H1) : tSeq (tFor (iList K tl) g tu) tz D σ H :=
  h H (Ex.refl H) _ fun p vs H1 np e hp t => k p vs H1 np e hp t
theorem atI_back {xs : List V} {v : V} (h : xs[xs.length - 1]? = some v) : atI xs (-1) = some v := by
  have ne : xs ≠ [] := fun z => by
    rw [z] at h
    simp at h
  obtain ⟨r, x, rfl⟩ : ∃ r x, xs = r ++ [x] := ⟨_, _, (List.dropLast_concat_getLast ne).symm⟩
  rw [List.length_append, List.length_singleton, Nat.add_sub_cancel, List.getElem?_append_right (Nat.le_refl _), Nat.sub_self] at h
  have : x = v := by simpa using h
  subst this
  exact atI_last _ _
section
variable {K : PySem.W.Frag} {σ : L2.St} {H H' : Hp} {ta tb te tl : TE} {t : TT}
theorem el_lcT {a : Addr} {xs : List V} {tl : TE} {j : Nat} {vs : List Nat} (f : Nat → Bool) (v : Nat → V) (h : Ev tl σ H (.ref a)) (hx : SqT K H a xs) (hz : xs.length ≤ 40000) (hw : ∀ x, wipe ((wipe σ vs).set j (some x)) vs = wipe σ vs)
    (ht : ∀ (i : Nat) (x : V) H1, Ex H H1 → xs[i]? = some x → EvT t ((wipe σ vs).set j (some x)) H1 (f i)) (he : ∀ (i : Nat) (x : V) H1, Ex H H1 → xs[i]? = some x → f i = true → Ev te ((wipe σ vs).set j (some x)) H1 (v i)) : EvL (tLc (iTup K tl) (gName j) t te vs) σ H (given xs.length f v) := fun H0 e Q q => h H0 e _ fun H1 e1 =>
  ⟨a, rfl, ⟨xs, ex_t (e.trans e1) hx⟩, fun Dl hD => lc_tup (xs := xs) (Cw H1 f v Dl) ⟨hD, Ex.new hD, upd_same⟩ (fun i H' _ p => ex_t ((e.trans e1).trans p.2.1) hx)
    (fun i x H' hi p => ⟨hw x, cw_turn p (by have := (List.getElem?_eq_some_iff.mp hi).1; omega) (ht i x H1 (e.trans e1) hi) (fun hf => he i x H1 (e.trans e1) hi hf)⟩) (fun H' p => q Dl H' (fresh_back e1 p.1) (e1.trans p.2.1) p.2.2)⟩
end

section
variable {P : Program} {w : World} {K : PySem.W.Frag} {mg : Str → Option Value} {base : Heap}
theorem ok_law_out (T : Tx K mg) : FnOk P w K mg base CX0 2 T.f_law_out T.d_law_out ["some", "k"] sp_law_out := by
  refine T.F_law_out.ok sc_law_out (fun vs H Q E h => ?_) (fun cdv A outer s H vs Q E hr h => ?_)
  · obtain ⟨a, h, rs, g, rfl, _⟩ := h
    rfl
  · obtain ⟨a, h, rs, g, rfl, ha, o, h2, R, hg, kk⟩ := h
    refine ⟨_, (pss_cons (ps_set (i := 2) sc_law_out.nd rfl (Or.inl rfl) (pe_op op_rep (pe_lst (pa_cons pe_int pa_nil)) (pe_op op_sub (pe_callB call_lenR (by rfl) T.m_len (by decide +kernel) (pa_cons (pv 0) pa_nil)) pe_int)))
      (pss_cons (ps_for PassesOwn.never rfl (pi_list (pe_call (ok_law_tables T) (hr.mono (by decide)) (by rfl) T.g_law_tables T.F_law_tables.kp T.b_law_tables .nil pass0 (pa_cons (pv 0) pa_nil))) (pg_name (i := 3) sc_law_out.nd rfl (Or.inl rfl)) (pss_cons (ps_setLc (i := 5) (own := [("x", 4)]) (g := (gName 4)) rfl sc_law_out.nd rfl rfl (sw_true rfl rfl rfl (by decide +kernel)) (pi_tup (pv 3)) (blkOk_by (own := [("x", 4)]) (N := n_law_out) (sc := defScope s_law_out) (by decide +kernel)) (fun _ _ _ _ _ => (pg_name (i := 4) sc_law_out.nd rfl (Or.inl rfl))) (fun _ _ _ _ _ => (pts_one (pt_cmpR op_ne (pv 4) (pv 1) (nomark _)))) (fun _ _ _ _ _ => (pe_op op_sub (pv 4) (pe_callTy call_intB (by rfl) T.m_int (by decide +kernel) (pa_cons (pe_cmpR op_gt (pv 4) (pv 1) (nomark _)) pa_nil)))))
      (pss_one (ps_for PassesOwn.never rfl (pi_range1 (by rfl) T.m_range (pa_cons (pe_callB call_lenR (by rfl) T.m_len (by decide +kernel) (pa_cons (pv 5) pa_nil)) pa_nil)) (pg_name (i := 6) sc_law_out.nd rfl (Or.inl rfl)) (pss_one (ps_asg (pe_ix ix_list (pv 5) (pv 6) (fun _ _ => rfl)) (pg_sub (pv 2) (pe_ix ix_list (pv 5) (pe_op op_sub (pv 6) pe_int) (fun _ _ => rfl)) set_list)))))))
      (pss_one (ps_ret (pv 2))))), ?_⟩
    have h20 := o.2.2
    have nd : h.Nodup := o.1.nodup_iff.mpr List.nodup_range
    have gm : g ∈ h := o.1.mem_iff.mpr (List.mem_range.mpr hg)
    have rp := el_rep (ta := tLst (tCons (tC (.int 0)) tNil)) (tb := tOp (rI0 fun i j => .int (i - j)) (tCB (rLenS K) (tCons (tVar 0) tNil)) (tC (.int 1))) (σ := start n_law_out [.ref a, .int (g : Int)]) (H := H) (xs := [.int 0]) (k := ((h.length - 1 : Nat) : Int)) (el_lst (ea_cons ev_c ea_nil) (Nat.le_of_ble_eq_true rfl)) (ev_is (ev_op (ev_len (K := K) (ev_var (i := 0) rfl) (sq_of ha)) ev_c rv_I0) (by rw [nv_len]; congr 1; omega)) (by omega) (by omega) (by decide)
    refine q_asgL rp fun f H1 nf e1 hf => ?_
    refine q_forLT (K := K) (elt_law_tables (ev_var rfl) (e1 a _ ha) (by omega) R) fun p ws H2 np e2 hp ht => ?_
    have wl : ws.length = rs.length := by rw [ht.len, List.length_map]
    have fp : f ≠ p := fun z => by
      rw [← z, hf] at np
      cases np
    have fa : f ≠ a := fun z => by
      rw [z, ha] at nf
      cases nf
    have npH := fresh_back e1 np
    refine q_forL ev_c (sq_of hp) (fun i σ' H' => ∃ (l : List Nat) (y3 y4 y5 y6 : Option V), σ' = [some (.ref a), some (.int (g : Int)), some (.ref f), y3, y4, y5, y6] ∧ Ex (Hm f H2) H' ∧ H' f = some (.lst (nv l)) ∧ l.length = h.length - 1 ∧ ∀ x, x ≠ g → x ∈ (rs.take i).flatten → l[dn g x]? = some (dn g (skip h g x)))
      (fun H3 e3 => ⟨List.replicate (h.length - 1) 0, none, none, none, none, rfl, hm_sub.trans e3, ?_, by simp, fun x _ hx => by simp at hx⟩) (fun i σ' H' _ ⟨_, _, _, _, _, _, e, _⟩ => sq_of (hm_at e (Ne.symm fp) hp)) ?_ ?_
    · rw [e3 f _ (e2 f _ hf), Int.toNat_natCast, rep_zero, nv_eq, List.map_replicate, List.map_replicate]
      rfl
    · rintro i v σ' H' hv ⟨l, y3, y4, y5, y6, rfl, e, hf', ll, val⟩
      obtain ⟨b, r0, rfl, hb, hr⟩ := ht.get hv
      rw [List.getElem?_map] at hr
      obtain ⟨r, hri, rfl⟩ := Option.map_eq_some_iff.mp hr
      have rm := List.mem_of_getElem? hri
      have G := R.rg r rm
      have rl := R.short rm
      have bf : b ≠ f := fun z => by
        rw [z, e2 f _ hf] at hb
        cases hb
      have hb' := hm_at e bf hb
      have el := el_lcT (K := K) (te := tOp (rI0 fun i j => .int (i - j)) (tVar 4) (tCB rIntB (tCons (tOp (rI0 fun i j => .bl (decide (j < i))) (tVar 4) (tVar 1)) tNil))) (tl := tVar 3) (t := tTest (tOp rNe (tVar 4) (tVar 1))) (σ := [some (.ref a), some (.int (g : Int)), some (.ref f), some (.ref b), y4, y5, y6]) (H := H') (a := b) (xs := nv r) (j := 4) (vs := [4]) (fun i => decide (r.getD i 0 ≠ g)) (fun i => .int ((dn g (r.getD i 0) : Nat) : Int)) (ev_var rfl) (st_of hb') (by rw [nv_len]; omega) (fun _ => rfl) (fun i v H3 e3 hv => ?_) fun i v H3 e3 hv _ => ?_
      rotate_left
      · rw [nv_eq, List.getElem?_map] at hv
        obtain ⟨x, hx, rfl⟩ := Option.map_eq_some_iff.mp hv
        have ex : r.getD i 0 = x := getD_of hx
        rw [ex]
        refine et_is (et_test (ev_op (ev_var rfl) (ev_var rfl) (rv_ne rfl))) ?_
        rw [Bool.eq_iff_iff]
        simp only [Bool.not_eq_true', decide_eq_false_iff_not, decide_eq_true_eq]
        exact ⟨fun h1 h2 => h1 (by rw [h2]), fun h1 h2 => h1 (by have := V.int.inj h2; omega)⟩
      · rw [nv_eq, List.getElem?_map] at hv
        obtain ⟨x, hx, rfl⟩ := Option.map_eq_some_iff.mp hv
        have ex : r.getD i 0 = x := getD_of hx
        rw [ex, ← dn_cast]
        exact ev_is (ev_op (ev_var rfl) (ev_intB (ev_op (ev_var rfl) (ev_var rfl) rv_I0)) rv_I0) (by
          show V.int _ = V.int _
          congr 2
          by_cases z : (g : Int) < (x : Int)
          · rw [if_pos z, decide_eq_true z]
            rfl
          · rw [if_neg z, decide_eq_false z]
            rfl)
      have eg : given (nv r).length (fun i => decide (r.getD i 0 ≠ g)) (fun i => V.int ((dn g (r.getD i 0) : Nat) : Int)) = nv (outR g r) := by
        rw [nv_len, filt_at r (fun x => decide (x ≠ g)) (fun x => V.int ((dn g x : Nat) : Int)), nv_eq]
        unfold outR
        rw [List.map_map]
        rfl
      rw [eg] at el
      refine q_asgL el fun c H3 nc e3 hc => ?_
      have cf : c ≠ f := fun z => by
        rw [z, hf'] at nc
        cases nc
      have ol := outR_len g r
      refine s_forR1 (n := ((outR g r).length : Int)) (ea_cons (ev_is (ev_len (K := K) (ev_var rfl) (sq_of hc)) (by rw [nv_len])) ea_nil) ⟨by omega, by omega⟩ (fun j σ' H4 => ∃ (l2 : List Nat) (y6 : Option V), σ' = [some (.ref a), some (.int (g : Int)), some (.ref f), some (.ref b), y4, some (.ref c), y6] ∧ Ex (Hm f H3) H4 ∧ H4 f = some (.lst (nv l2)) ∧ l2.length = h.length - 1 ∧ (∀ x, x ≠ g → x ∈ (rs.take i).flatten → l2[dn g x]? = some (dn g (skip h g x))) ∧ ∀ x t, t < j → (r.filter fun x => decide (x ≠ g))[(t + (r.filter fun x => decide (x ≠ g)).length - 1) % (r.filter fun x => decide (x ≠ g)).length]? = some x → l2[dn g x]? = some (dn g (skip h g x)))
        (fun H4 e4 => ⟨l, y6, rfl, hm_sub.trans e4, e4 f _ (e3 f _ hf'), ll, val, fun x t ht => by omega⟩) ?_ ?_
      · rintro j σ' H4 hj ⟨l2, y6, rfl, e4, hf4, ll2, val2, done⟩
        have lo : (outR g r).length = (r.filter fun x => decide (x ≠ g)).length := by unfold outR; rw [List.length_map]
        rw [lo] at hj
        generalize hq : (r.filter fun x => decide (x ≠ g)) = q at *
        have qe : outR g r = q.map (dn g) := by unfold outR; rw [hq]
        have jl : j < q.length := by omega
        have il : (j + q.length - 1) % q.length < q.length := Nat.mod_lt _ (by omega)
        have nx : ((j + q.length - 1) % q.length + 1) % q.length = j := by
          rcases Nat.eq_zero_or_pos j with z | z
          · subst z
            rw [Nat.zero_add, Nat.mod_eq_of_lt (show q.length - 1 < q.length by omega), show q.length - 1 + 1 = q.length by omega, Nat.mod_self]
          · rw [show j + q.length - 1 = (j - 1) + q.length by omega, Nat.add_mod_right, Nat.mod_eq_of_lt (show j - 1 < q.length by omega), show j - 1 + 1 = j by omega, Nat.mod_eq_of_lt jl]
        obtain ⟨x, y, hx, hy, sk⟩ := ring_skip (k := g) G (i := (j + q.length - 1) % q.length) (by rw [hq]; exact il)
        rw [hq] at hx hy
        rw [nx] at hy
        have hc4 := hm_at e4 cf hc
        rw [qe] at hc4
        have xq : x ∈ q := List.mem_of_getElem? hx
        rw [← hq] at xq
        obtain ⟨xr, xg⟩ := List.mem_filter.mp xq
        have xg := of_decide_eq_true xg
        have xl : x < h.length := List.mem_range.mp (R.all.mem_iff.mp (List.mem_flatten.mpr ⟨r, rm, xr⟩))
        have at1 : (nv (q.map (dn g)))[j]? = some (.int ((dn g y : Nat) : Int)) := nv_get (by rw [List.getElem?_map, hy]; rfl)
        have at0 : (nv (q.map (dn g)))[(j + q.length - 1) % q.length]? = some (.int ((dn g x : Nat) : Int)) := nv_get (by rw [List.getElem?_map, hx]; rfl)
        have ix : atI (nv (q.map (dn g))) ((j : Int) - 1) = some (.int ((dn g x : Nat) : Int)) := by
          rcases Nat.eq_zero_or_pos j with z | z
          · subst z
            rw [Nat.zero_add, Nat.mod_eq_of_lt (show q.length - 1 < q.length by omega)] at at0
            refine atI_back ?_
            rw [nv_len, List.length_map]
            exact at0
          · rw [show j + q.length - 1 = (j - 1) + q.length by omega, Nat.add_mod_right, Nat.mod_eq_of_lt (show j - 1 < q.length by omega)] at at0
            rw [show (j : Int) - 1 = ((j - 1 : Nat) : Int) by omega]
            exact atI_nat at0
        have dl := dn_lt xl hg xg
        refine s_setL (j := dn g x) hf4 (v := .int ((dn g y : Nat) : Int)) (ev_op (ev_var rfl) (ev_var rfl) (rv_ixL (K := K) (sq_of hc4) (atI_nat at1))) (ev_var rfl) (ev_op (ev_var rfl) (ev_op (ev_var rfl) ev_c rv_I0) (rv_ixL (K := K) (sq_of hc4) ix)) (by rw [nv_len, ll2]; exact dl) fun H5 e5 => ?_
        rw [nv_set]
        have keep : ∀ z, z ≠ g → (l2[dn g z]? = some (dn g (skip h g z)) ∨ z = x) → (l2.set (dn g x) (dn g y))[dn g z]? = some (dn g (skip h g z)) := fun z zg hz => by
          rw [List.getElem?_set]
          by_cases w : dn g x = dn g z
          · have := dn_inj xg zg w
            subst this
            rw [if_pos rfl, if_pos (by omega), sk]
          · rw [if_neg w]
            rcases hz with hz | hz
            · exact hz
            · exact absurd (by rw [hz]) w
        refine ⟨l2.set (dn g x) (dn g y), _, rfl, Ex.mut (e4.trans e5) (by unfold Hm; rw [if_pos rfl]), upd_same, by rw [List.length_set]; exact ll2, fun z zg hz => keep z zg (.inl (val2 z zg hz)), fun z t ht hz => ?_⟩
        have zq := List.mem_of_getElem? hz
        rw [← hq] at zq
        have zg := of_decide_eq_true (List.mem_filter.mp zq).2
        rcases Nat.lt_or_ge t j with lt | ge
        · exact keep z zg (.inl (done z t lt hz))
        · have : t = j := by omega
          subst this
          rw [hx] at hz
          exact keep z zg (.inr (Option.some.inj hz).symm)
      · rintro σ' H4 ⟨l2, y6, rfl, e4, hf4, ll2, val2, done⟩
        rw [Int.toNat_natCast] at done
        refine ⟨l2, _, _, _, _, rfl, hm_trans e (hm_trans (hm_of e3) e4), hf4, ll2, fun x xg hx => ?_⟩
        rw [take_next hri, List.flatten_append] at hx
        rcases List.mem_append.mp hx with z | z
        · exact val2 x xg z
        · have xr : x ∈ r := by simpa using z
          have xq : x ∈ r.filter (fun x => decide (x ≠ g)) := List.mem_filter.mpr ⟨xr, decide_eq_true xg⟩
          have lo : (outR g r).length = (r.filter fun x => decide (x ≠ g)).length := by unfold outR; rw [List.length_map]
          rw [lo] at done
          generalize (r.filter fun x => decide (x ≠ g)) = q at *
          obtain ⟨m, hm, e0⟩ := List.mem_iff_getElem.mp xq
          have hx : q[m]? = some x := by rw [List.getElem?_eq_getElem hm, e0]
          refine done x ((m + 1) % q.length) (Nat.mod_lt _ (by omega)) ?_
          have : ((m + 1) % q.length + q.length - 1) % q.length = m := by
            rcases Nat.lt_or_ge (m + 1) q.length with w | w
            · rw [Nat.mod_eq_of_lt w, show m + 1 + q.length - 1 = m + q.length by omega, Nat.add_mod_right, Nat.mod_eq_of_lt hm]
            · have : m + 1 = q.length := by omega
              rw [this, Nat.mod_self, Nat.zero_add, Nat.mod_eq_of_lt (by omega)]
              omega
          rw [this]
          exact hx
    · rintro σ' H' ⟨l, y3, y4, y5, y6, rfl, e, hf', ll, val⟩
      rw [wl, List.take_of_length_le (Nat.le_refl _)] at val
      have eq : l = wo h g := by
        refine List.ext_getElem? fun j => ?_
        by_cases hj : j < h.length - 1
        · obtain ⟨x, ne, xl, e0⟩ : ∃ x, x ≠ g ∧ x < h.length ∧ dn g x = j := by
            by_cases z : j < g
            · exact ⟨j, by omega, by omega, by unfold dn; rw [if_neg (by omega)]⟩
            · exact ⟨j + 1, by omega, by omega, by unfold dn; rw [if_pos (by omega)]; omega⟩
          rw [← e0, wo_at nd gm hg xl ne]
          exact val x ne (R.all.mem_iff.mpr (List.mem_range.mpr xl))
        · rw [List.getElem?_eq_none (by omega), List.getElem?_eq_none (by rw [wo_len hg]; omega)]
      rw [← eq] at kk
      exact s_ret (ev_var rfl) fun H3 e3 => kk f H3 nf (hm_next nf (e1.trans e2) (e.trans e3)) (e3 f _ hf')
end


local macro_rules | `(tactic| walk_at "call") => `(tactic| (with_reducible exact sv_whole))
local macro_rules | `(tactic| walk_at "call") => `(tactic| ((with_reducible refine' sv_order ?c1 ?c2); (case c1 => assumption); (case c2 => assumption)))
local macro_rules | `(tactic| walk_at "call") => `(tactic| ((with_reducible refine' sv_ord ?c1 ?c2); (case c1 => assumption); (case c2 => assumption)))

/-! ### who is left is a seating again -/
theorem erase_perm {L : List Nat} {j : Nat} (hj : j < L.length) : (L[j] :: L.eraseIdx j).Perm L := by
  have e2 : L.take j ++ L[j] :: L.drop (j + 1) = L := by rw [← List.drop_eq_getElem_cons hj, List.take_append_drop]
  rw [List.eraseIdx_eq_take_drop_succ]
  exact List.perm_middle.symm.trans (List.Perm.of_eq e2)
theorem set_perm : ∀ (l : List Nat) (i y : Nat) (hi : i < l.length), (l[i] :: l.set i y).Perm (y :: l)
  | x :: l, 0, y, _ => List.Perm.swap y x l
  | x :: l, i + 1, y, hi => by
    have hi' : i < l.length := by simpa using hi
    have ih := set_perm l i y hi'
    show (l[i] :: x :: l.set i y).Perm (y :: x :: l)
    exact (List.Perm.swap x l[i] _).trans ((ih.cons x).trans (List.Perm.swap y x l))
theorem dn_range (k : Nat) : ∀ n, k < n → ((List.range n).filter fun x => decide (x ≠ k)).map (dn k) = List.range (n - 1)
  | 0, h => by omega
  | n + 1, h => by
    rw [List.range_succ, List.filter_append, List.map_append]
    by_cases z : k = n
    · subst z
      rw [List.filter_eq_self.mpr fun x hx => decide_eq_true (by have := List.mem_range.mp hx; omega), List.filter_cons, if_neg (by simp)]
      show (List.range k).map (dn k) ++ [] = List.range (k + 1 - 1)
      rw [List.append_nil, show k + 1 - 1 = k by omega]
      conv => rhs; rw [← List.map_id (List.range k)]
      refine List.map_congr_left fun x hx => ?_
      have := List.mem_range.mp hx
      unfold dn
      rw [if_neg (by omega)]
      rfl
    · rw [dn_range k n (by omega), List.filter_cons, if_pos (decide_eq_true (Ne.symm z))]
      show List.range (n - 1) ++ [dn k n] = List.range (n + 1 - 1)
      have : dn k n = n - 1 := by
        unfold dn
        rw [if_pos (by omega)]
      rw [this, show n + 1 - 1 = (n - 1) + 1 by omega, List.range_succ]
theorem wo_ord {h : List Nat} {k : Nat} (o : Ord h) (h2 : 2 ≤ h.length) (kl : k < h.length) : Ord (wo h k) := by
  have nd : h.Nodup := o.1.nodup_iff.mpr List.nodup_range
  have km : k ∈ h := o.1.mem_iff.mpr (List.mem_range.mpr kl)
  have il := List.idxOf_lt_length_of_mem km
  have gk : h.getD k 0 = h[k] := by
    rw [List.getD_eq_getElem?_getD, List.getElem?_eq_getElem kl]
    rfl
  have E : (k :: (h.set (h.idxOf k) (h.getD k 0)).eraseIdx k).Perm h := by
    have p1 := set_perm h (h.idxOf k) (h.getD k 0) il
    rw [List.getElem_idxOf il] at p1
    have sl : k < (h.set (h.idxOf k) (h.getD k 0)).length := by rw [List.length_set]; exact kl
    have p2 := erase_perm sl
    have at_k : (h.set (h.idxOf k) (h.getD k 0))[k] = h.getD k 0 := by
      rw [List.getElem_set]
      split
      · rfl
      · exact gk.symm
    rw [at_k] at p2
    have p3 := (p2.cons k).trans p1
    exact (List.perm_cons (h.getD k 0)).mp ((List.Perm.swap k (h.getD k 0) _).trans p3)
  have len : ((h.set (h.idxOf k) (h.getD k 0)).eraseIdx k).length = h.length - 1 := by
    have := E.length_eq
    rw [List.length_cons] at this
    omega
  have nk : k ∉ (h.set (h.idxOf k) (h.getD k 0)).eraseIdx k := (List.nodup_cons.mp (E.nodup_iff.mpr nd)).1
  have F : ((h.set (h.idxOf k) (h.getD k 0)).eraseIdx k).Perm ((List.range h.length).filter fun x => decide (x ≠ k)) := by
    have := (E.trans o.1).filter fun x => decide (x ≠ k)
    have ef : ((h.set (h.idxOf k) (h.getD k 0)).eraseIdx k).filter (fun x => decide (x ≠ k)) = (h.set (h.idxOf k) (h.getD k 0)).eraseIdx k := List.filter_eq_self.mpr fun x hx => by
      rw [decide_eq_true_iff]
      intro z
      rw [z] at hx
      exact nk hx
    rw [List.filter_cons, if_neg (by simp), ef] at this
    exact this
  have G := F.map (dn k)
  rw [dn_range k h.length kl] at G
  have wl := wo_len (h := h) kl
  refine ⟨?_, by omega, by have := o.2.2; omega⟩
  rw [wl]
  exact G


local macro_rules | `(tactic| walk_at "call") => `(tactic| (with_reducible exact sv_whole))
local macro_rules | `(tactic| walk_at "call") => `(tactic| ((with_reducible refine' sv_order ?c1 ?c2); (case c1 => assumption); (case c2 => assumption)))
local macro_rules | `(tactic| walk_at "call") => `(tactic| ((with_reducible refine' sv_ord ?c1 ?c2); (case c1 => assumption); (case c2 => assumption)))

/-! ### _law_all -/
def stepA (k : Nat) (c : List Nat) (j : Nat) : List (List Nat) := (c ++ [k]) :: (List.range j).map fun x => c ++ [x]
def cA : Nat → List (List Nat)
  | 0 => [[]]
  | k + 1 => (cA k).flatMap fun c => stepA k c k
theorem cA_mem : ∀ {n : Nat} {c : List Nat}, c ∈ cA n → c.length = n ∧ ∀ (i x : Nat), c[i]? = some x → x ≤ i
  | 0, c, h => by
    have : c = [] := by simpa [cA] using h
    subst this
    exact ⟨rfl, fun i x h => by simp at h⟩
  | n + 1, c, h => by
    obtain ⟨d, hd, hc⟩ := List.mem_flatMap.mp (show c ∈ (cA n).flatMap fun c => stepA n c n from h)
    obtain ⟨dl, dm⟩ := cA_mem hd
    obtain ⟨x, hx, rfl⟩ : ∃ x, x ≤ n ∧ c = d ++ [x] := by
      rcases List.mem_cons.mp hc with z | z
      · exact ⟨n, Nat.le_refl _, z⟩
      · obtain ⟨x, hx, e⟩ := List.mem_map.mp z
        exact ⟨x, by have := List.mem_range.mp hx; omega, e.symm⟩
    refine ⟨by rw [List.length_append, dl]; rfl, fun i y hy => ?_⟩
    rw [List.getElem?_append] at hy
    split at hy
    · exact dm i y hy
    · have hj := (List.getElem?_eq_some_iff.mp hy).1
      rw [List.length_singleton] at hj
      have e0 : i - d.length = 0 := by omega
      rw [e0] at hy
      have : x = y := by simpa using hy
      omega
def Lc (H : Hp) (v : V) (c : List Nat) : Prop := ∃ b, v = .ref b ∧ H b = some (.lst (nv (sby c c.length)))
theorem Lc.ex {H H' : Hp} {v : V} {c : List Nat} (e : Ex H H') (h : Lc H v c) : Lc H' v c := by
  obtain ⟨b, e1, h1⟩ := h
  exact ⟨b, e1, e b _ h1⟩
theorem PLc.ex {H H' : Hp} (e : Ex H H') : ∀ {ws : List V} {cs : List (List Nat)}, Paired (Lc H) ws cs → Paired (Lc H') ws cs
  | [], [], .nil => .nil
  | _ :: _, _ :: _, .cons a r => .cons (a.ex e) (PLc.ex e r)
theorem sits_cut {h : List Nat} {k x : Nat} (hl : h.length = k) (hx : x < k) : h.take x ++ [k] ++ h.drop (x + 1) ++ [h.getD x 0] = sits h k x := by
  rw [sits_app hl (by omega), List.set_eq_take_append_cons_drop, if_pos (by rw [List.length_append, List.length_singleton]; omega)]
  rw [List.take_append_of_le_length (by omega), List.drop_append_of_le_length (by omega)]
  simp
theorem q_asgL1L {σ : L2.St} {H : Hp} {te : TE} {D : Ends} {tz : TS} {i : Nat} {xs : List V} (h : EvL te σ H xs) (k : ∀ l b H1, H l = none → H b = none → l ≠ b → Ex H H1 → H1 b = some (.lst xs) → H1 l = some (.lst [.ref b]) → tz D (σ.set i (some (.ref l))) H1) : tSeq (tAsg (tLst (tCons te tNil)) (gName i)) tz D σ H :=
  h H (Ex.refl H) _ fun b H1 nb e1 hb => ⟨sz_of (by show 1 ≤ 100000; decide), fun l nl => k l b _ (fresh_back e1 nl) nb (fun z => by
    rw [z, hb] at nl
    cases nl) (e1.trans (Ex.new nl)) (Ex.new nl b _ hb) upd_same⟩
def sp_law_all : Sp := fun vs H Q _ => ∃ n : Nat, vs = [.int (n : Int)] ∧ n ≤ 5 ∧ ∀ l ws H', H l = none → Ex H H' → H' l = some (.lst ws) → Paired (Lc H') ws (cA n) → Q (.ref l) H'
theorem hm_step {g : Addr} {H H' : Hp} (h : ∀ x o, x ≠ g → H x = some o → H' x = some o) : Ex (Hm g H) (Hm g H') := fun x o hx => by
  unfold Hm at hx ⊢
  split at hx
  · cases hx
  · rename_i ne
    rw [if_neg ne]
    exact h x o ne hx
theorem cA_num : ∀ n, n ≤ 5 → (cA n).length ≤ 120 := by decide
theorem flat_num {k : Nat} (hk : k ≤ 4) (i j : Nat) (hj : j ≤ k) : (((cA k).take i).flatMap fun c => stepA k c k).length ≤ 120 := by
  have h : ∀ l : List (List Nat), (l.flatMap fun c => stepA k c k).length = l.length * (k + 1) := fun l => by
    induction l with
    | nil => simp
    | cons c r ih =>
      rw [List.flatMap_cons, List.length_append, ih, List.length_cons]
      unfold stepA
      rw [List.length_cons, List.length_map, List.length_range, Nat.add_mul]
      omega
  have e := cA_num (k + 1) (by omega)
  have h2 := h (cA k)
  rw [show ((cA k).flatMap fun c => stepA k c k) = cA (k + 1) from rfl] at h2
  rw [h, List.length_take]
  have : min i (cA k).length * (k + 1) ≤ (cA k).length * (k + 1) := Nat.mul_le_mul_right _ (Nat.min_le_right _ _)
  omega
section
variable {P : Program} {w : World} {K : PySem.W.Frag} {mg : Str → Option Value} {base : Heap}
theorem ok_law_all (T : Tx K mg) : FnOk P w K mg base CX0 1 T.f_law_all T.d_law_all ["wide"] sp_law_all := by
  refine T.F_law_all.ok sc_law_all (fun vs H Q E h => ?_) (fun cdv A outer s0 H vs Q E hr h => ?_)
  · obtain ⟨n, rfl, _⟩ := h
    rfl
  · obtain ⟨n, rfl, n5, kk⟩ := h
    refine ⟨_, (pss_cons (ps_set (i := 1) sc_law_all.nd rfl (Or.inl rfl) (pe_lst (pa_cons (pe_lst pa_nil) pa_nil)))
      (pss_cons (ps_for PassesOwn.never rfl (pi_range1 (by rfl) T.m_range (pa_cons (pv 0) pa_nil)) (pg_name (i := 2) sc_law_all.nd rfl (Or.inl rfl)) (pss_cons (ps_set (i := 3) sc_law_all.nd rfl (Or.inl rfl) (pe_lst pa_nil))
      (pss_cons (ps_for PassesOwn.never rfl (pi_list (pv 1)) (pg_name (i := 4) sc_law_all.nd rfl (Or.inl rfl)) (pss_cons (ps_expr (pe_bm PySem.F.plainAttrs_list PySem.F.slot_list_append PySem.F.type_list_append mt_append (pv 3) (pa_cons (pe_op op_cat (pv 4) (pe_lst (pa_cons (pv 2) pa_nil))) pa_nil)))
      (pss_one (ps_for PassesOwn.never rfl (pi_range1 (by rfl) T.m_range (pa_cons (pv 2) pa_nil)) (pg_name (i := 5) sc_law_all.nd rfl (Or.inl rfl)) (pss_one (ps_expr (pe_bm PySem.F.plainAttrs_list PySem.F.slot_list_append PySem.F.type_list_append mt_append (pv 3) (pa_cons (pe_op op_cat (pe_op op_cat (pe_op op_cat (pe_slice sl_list (pv 4) po_none (po_some (pv 5))) (pe_lst (pa_cons (pv 2) pa_nil))) (pe_slice sl_list (pv 4) (po_some (pe_op op_add (pv 5) pe_int)) po_none)) (pe_lst (pa_cons (pe_ix ix_list (pv 4) (pv 5) (fun _ _ => rfl)) pa_nil))) pa_nil))))))))
      (pss_one (ps_set (i := 1) sc_law_all.nd rfl (Or.inl rfl) (pv 3))))))
      (pss_one (ps_ret (pv 1))))), ?_⟩
    refine q_asgL1L (el_lst ea_nil (Nat.le_of_ble_eq_true rfl)) fun f0 b0 H1 nf0 nb0 fb e1 hb0 hf0 => ?_
    refine q_forR1 (n := (n : Int)) (ea_cons (ev_var rfl) ea_nil) ⟨by omega, by omega⟩ (fun i σ' H' => ∃ (f : Addr) (ws : List V) (y2 y3 y4 y5 : Option V), σ' = [some (.int (n : Int)), some (.ref f), y2, y3, y4, y5] ∧ Ex H H' ∧ H f = none ∧ H' f = some (.lst ws) ∧ Paired (Lc H') ws (cA i))
      (fun H2 e2 => ⟨f0, [.ref b0], none, none, none, none, rfl, e1.trans e2, nf0, e2 f0 _ hf0, .cons ⟨b0, rfl, e2 b0 _ hb0⟩ .nil⟩) ?_ ?_
    · rintro i σ' H' hi ⟨f, ws, y2, y3, y4, y5, rfl, e, nf, hf, hw⟩
      have wl : ws.length = (cA i).length := Paired.length hw
      refine q_asgL (xs := []) (el_lst ea_nil (Nat.le_of_ble_eq_true rfl)) fun g H2 ng e2 hg => ?_
      have fg : f ≠ g := fun z => by
        rw [← z, hf] at ng
        cases ng
      have ngH := fresh_back e ng
      refine q_forL (ev_var rfl) (sq_of (e2 f _ hf)) (fun j σ' H3 => ∃ (us : List V) (y4 y5 : Option V), σ' = [some (.int (n : Int)), some (.ref f), some (.int (i : Int)), some (.ref g), y4, y5] ∧ Ex H' H3 ∧ H3 g = some (.lst us) ∧ Paired (Lc (Hm g H3)) us (((cA i).take j).flatMap fun c => stepA i c i))
        (fun H3 e3 => ⟨[], y4, y5, rfl, e2.trans e3, e3 g _ hg, .nil⟩) (fun j σ' H3 _ ⟨_, _, _, _, e3, _⟩ => sq_of (e3 f _ hf)) ?_ ?_
      · rintro j v σ' H3 hv ⟨us, y4, y5, rfl, e3, hg3, hu⟩
        obtain ⟨c, hc, b, rfl, hb⟩ := paired_get hw hv
        obtain ⟨cl, cm⟩ := cA_mem (List.mem_of_getElem? hc)
        rw [cl] at hb
        have sl := sby_len c i
        have ext := fun x => (sby_ext (c := c) (x := x)).2
        rw [cl] at ext
        have bg : b ≠ g := fun z => by
          rw [z] at hb
          rw [hb] at ng
          cases ng
        have ul : us.length ≤ 120 := by
          rw [Paired.length hu]
          exact flat_num (by omega) j 0 (Nat.zero_le _)
        have e1' : nv (sby c i) ++ [V.int (i : Int)] = nv (sby (c ++ [i]) (c ++ [i]).length) := by
          rw [List.length_append, List.length_singleton, cl, ext]
          unfold sits
          rw [if_pos rfl, nv_app]
          rfl
        refine q_appL (ys := nv (sby (c ++ [i]) (c ++ [i]).length)) hg3 (ev_var rfl) (by
          rw [← e1']
          exact el_catL (ev_var rfl) (e3 b _ hb) (el_lst (ea_cons (ev_var rfl) ea_nil) (Nat.le_of_ble_eq_true rfl)) (by rw [nv_len]; simp; omega)) (by omega) fun q H4 nq e4 hq => ?_
        have qg : q ≠ g := fun z => by
          rw [z, hg3] at nq
          cases nq
        refine s_forR1 (n := (i : Int)) (ea_cons (ev_var rfl) ea_nil) ⟨by omega, by omega⟩ (fun x σ' H5 => ∃ (us2 : List V) (y5 : Option V), σ' = [some (.int (n : Int)), some (.ref f), some (.int (i : Int)), some (.ref g), some (.ref b), y5] ∧ Ex H' H5 ∧ H5 g = some (.lst us2) ∧ Paired (Lc (Hm g H5)) us2 ((((cA i).take j).flatMap fun c => stepA i c i) ++ stepA i c x))
          (fun H5 e5 => ⟨us ++ [.ref q], y5, rfl, (Ex.mut (e3.trans e4) ng).trans e5, e5 g _ upd_same, Paired.snoc (PLc.ex (hm_step fun x o ne hx => e5 x o (by rw [upd_ne ne]; exact e4 x o hx)) hu) ⟨q, rfl, ?_⟩⟩) ?_ ?_
        · unfold Hm
          rw [if_neg qg]
          exact e5 q _ (by rw [upd_ne qg]; exact hq)
        · rintro x σ' H5 hx ⟨us2, y5, rfl, e5, hg5, hu2⟩
          have hx' : x < i := by omega
          have hb5 := e5 b _ hb
          have ul2 : us2.length ≤ 120 + 1 + x := by
            rw [Paired.length hu2, List.length_append]
            have := flat_num (k := i) (by omega) j 0 (Nat.zero_le _)
            unfold stepA at this ⊢
            rw [List.length_cons, List.length_map, List.length_range]
            omega
          have cut1 : cutV (nv (sby c i)) none (some (x : Int)) = nv ((sby c i).take x) := by
            unfold cutV
            rw [HT.sIx_none, HT.sIx_nat, nv_len, Nat.min_eq_left (by omega), List.drop_zero, Nat.sub_zero, nv_eq, nv_eq, List.map_take]
          have cut2 : cutV (nv (sby c i)) (some ((x + 1 : Nat) : Int)) none = nv ((sby c i).drop (x + 1)) := by
            unfold cutV
            rw [HT.sIx_none, HT.sIx_nat, nv_len, Nat.min_eq_left (by omega), List.take_of_length_le (by rw [List.length_drop, nv_len]; exact Nat.le_refl _), nv_eq, nv_eq, List.map_drop]
          have e2' : nv ((sby c i).take x) ++ [V.int (i : Int)] ++ nv ((sby c i).drop (x + 1)) ++ [V.int (((sby c i).getD x 0 : Nat) : Int)] = nv (sby (c ++ [x]) (c ++ [x]).length) := by
            rw [List.length_append, List.length_singleton, cl, ext, ← sits_cut sl hx', nv_app, nv_app, nv_app]
            rfl
          have s1 := el_sl (K := K) (te := tVar 4) (tl := tNoPart) (th := tPart (tVar 5)) (σ := [some (.int (n : Int)), some (.ref f), some (.int (i : Int)), some (.ref g), some (.ref b), some (.int (x : Int))]) (H := H5) (ev_var (i := 4) rfl) eo_none (eo_some (ev_var (i := 5) rfl)) (sq_of hb5)
          rw [cut1] at s1
          have s2 := el_sl (K := K) (te := tVar 4) (tl := tPart (tOp (rI0 fun i j => .int (i + j)) (tVar 5) (tC (.int 1)))) (th := tNoPart) (σ := [some (.int (n : Int)), some (.ref f), some (.int (i : Int)), some (.ref g), some (.ref b), some (.int (x : Int))]) (H := H5) (ev_var (i := 4) rfl) (eo_some (ev_op (ev_var (i := 5) rfl) (ev_c (v := .int 1)) rv_I0)) eo_none (sq_of hb5)
          rw [show (x : Int) + 1 = ((x + 1 : Nat) : Int) by omega, cut2] at s2
          have lt1 : ((sby c i).take x).length ≤ 5 := by rw [List.length_take]; omega
          have lt2 : ((sby c i).drop (x + 1)).length ≤ 5 := by rw [List.length_drop]; omega
          have big := el_cat (el_cat (el_cat s1 (el_lst (ea_cons (ev_var (i := 2) (v := .int (i : Int)) rfl) ea_nil) (Nat.le_of_ble_eq_true rfl)) (by rw [nv_len]; simp; omega)) s2 (by rw [List.length_append, nv_len, nv_len]; simp; omega)) (el_lst (ea_cons (ev_op (ev_var (i := 4) rfl) (ev_var (i := 5) rfl) (rv_ixL (K := K) (sq_of hb5) (atI_nat (nv_at (i := x) (by omega))))) ea_nil) (Nat.le_of_ble_eq_true rfl)) (by rw [List.length_append, List.length_append, nv_len, nv_len]; simp; omega)
          rw [e2'] at big
          refine s_appL hg5 (ev_var rfl) big (by omega) fun q2 H6 nq2 e6 hq2 => ?_
          have qg2 : q2 ≠ g := fun z => by
            rw [z, hg5] at nq2
            cases nq2
          refine ⟨us2 ++ [.ref q2], _, rfl, Ex.mut (e5.trans e6) ng, upd_same, ?_⟩
          have es : stepA i c (x + 1) = stepA i c x ++ [c ++ [x]] := by
            unfold stepA
            rw [List.range_succ, List.map_append]
            rfl
          rw [es, ← List.append_assoc]
          refine Paired.snoc (PLc.ex (hm_step fun y o ne hy => by rw [upd_ne ne]; exact e6 y o hy) hu2) ⟨q2, rfl, ?_⟩
          unfold Hm
          rw [if_neg qg2, upd_ne qg2]
          exact hq2
        · rintro σ' H5 ⟨us2, y5, rfl, e5, hg5, hu2⟩
          rw [Int.toNat_natCast] at hu2
          refine ⟨us2, _, _, rfl, e5, hg5, ?_⟩
          rw [take_next hc, List.flatMap_append]
          simpa using hu2
      · rintro σ' H3 ⟨us, y4, y5, rfl, e3, hg3, hu⟩
        rw [wl, List.take_of_length_le (Nat.le_refl _)] at hu
        exact s_asg (ev_var rfl) fun H4 e4 => ⟨g, us, _, _, _, _, rfl, e.trans (e3.trans e4), ngH, e4 g _ hg3, PLc.ex (hm_sub.trans e4) hu⟩
    · rintro σ' H' ⟨f, ws, y2, y3, y4, y5, rfl, e, nf, hf, hw⟩
      rw [Int.toNat_natCast] at hw
      exact s_ret (ev_var rfl) fun H2 e2 => kk f ws H2 nf (e.trans e2) (e2 f _ hf) (PLc.ex e2 hw)
end


local macro_rules | `(tactic| walk_at "call") => `(tactic| (with_reducible exact sv_whole))
local macro_rules | `(tactic| walk_at "call") => `(tactic| ((with_reducible refine' sv_order ?c1 ?c2); (case c1 => assumption); (case c2 => assumption)))
local macro_rules | `(tactic| walk_at "call") => `(tactic| ((with_reducible refine' sv_ord ?c1 ?c2); (case c1 => assumption); (case c2 => assumption)))

/-! ### data -/
def di (r : List Nat) : PyData := .list ((iz r).map PyData.int)
theorem shaped_di (r : List Nat) : SeqAt.shaped (di r) = true := shaped_ints _
section
variable {K : PySem.W.Frag} {σ : L2.St} {H : Hp} {te : TE}
theorem dpa_nv (r : List Nat) : DpAll K H (nv r) ((iz r).map PyData.int) := dpa_ints _
theorem dp_L {a : Addr} {r : List Nat} (h : H a = some (.lst (nv r))) : Dp K H (.ref a) (di r) := .lst (sq_of h) (dpa_nv r)
theorem ed_L {r : List Nat} (h : EvL te σ H (nv r)) : EvD K te σ H (di r) := ed_ofL h (dpa_nv r)
end

section
variable {σ : L2.St} {H : Hp}
theorem el_callK {sp : Sp} {gV : List V → List V → List V} {E : XK} {t tk : TA} {vs zs xs : List V} (h : EvA t σ H vs) (hk : EvA tk σ H zs) (hs : SpL sp (gV vs zs) H xs) : EvL (tCallK sp gV E t tk) σ H xs := fun H1 e Q q =>
  h H1 e _ fun H2 e2 => hk H2 (e.trans e2) _ fun H3 e3 => hs H3 ((e.trans e2).trans e3) Q (fun l H4 hl e4 h4 => q l H4 (fresh_back (e2.trans e3) hl) ((e2.trans e3).trans e4) h4) E
end

/-! ### _law_joined_right, _law_seating_right -/
section
variable {K : PySem.W.Frag} {σ : L2.St} {H : Hp} {ta tb te : TE} {D : Ends} {tz : TS}
theorem q_tup2LL {i j : Nat} {xs ys : List V} (ha : EvL ta σ H xs) (hb : ∀ H1, Ex H H1 → EvL tb σ H1 ys) (q : ∀ a b H1, H a = none → H b = none → a ≠ b → Ex H H1 → H1 a = some (.lst xs) → H1 b = some (.lst ys) → tz D ((σ.set i (some (.ref a))).set j (some (.ref b))) H1) :
    tSeq (tAsg (tTup (tCons ta (tCons tb tNil))) (gTup K 2 (gCons (gName i) (gCons (gName j) gNil)))) tz D σ H := ha H (Ex.refl H) _ fun a H1 na e1 h1 => hb H1 e1 H1 (Ex.refl _) _ fun b H2 nb e2 h2 =>
  ⟨sz_of (by show 2 ≤ 100000; decide), fun t ht => ⟨t, [.ref a, .ref b], rfl, st_of upd_same, rfl, .ref a, [.ref b], rfl, .ref b, [], rfl, rfl, q a b _ na (fresh_back e1 nb) (ne_of_none h1 nb) ((e1.trans e2).trans (Ex.new ht)) (Ex.new ht a _ (e2 a _ h1)) (Ex.new ht b _ h2)⟩⟩
end
theorem eqv_di_nil (l : List Nat) : PyData.eqv (di l) (.list []) = l.isEmpty := by
  cases l with
  | nil => decide
  | cons x r => rfl
theorem cutFrom {c : List Nat} {i : Nat} (hi : i ≤ c.length) : cutV (nv c) (some (i : Int)) none = nv (c.drop i) := by
  unfold cutV
  rw [HT.sIx_none, HT.sIx_nat, nv_eq, nv_eq, List.map_drop, List.take_of_length_le (by simp), Nat.min_eq_left (by simpa using hi)]
theorem cutTo {c : List Nat} {i : Nat} (hi : i ≤ c.length) : cutV (nv c) none (some (i : Int)) = nv (c.take i) := by
  unfold cutV
  rw [HT.sIx_none, HT.sIx_nat, nv_len, Nat.min_eq_left hi, List.drop_zero, Nat.sub_zero, nv_eq, nv_eq, List.map_take]
theorem el_gone {K : PySem.W.Frag} {H : Hp} {a b : Addr} {c : List Nat} {s1 s4 s5 s6 s7 s8 s3 : Option V} (ha : H a = some (.lst (nv (sby c c.length)))) (hb : H b = some (.lst (nv c))) (c20 : c.length ≤ 20) :
    EvL (tLc (iRng1 (tCons (tCB (rLenS K) (tCons (tVar 0) tNil)) tNil)) (gName 3) (tTest (tOp (rEqD K) (tLc (iList K (tSl (rSlL K) (tVar 2) (tPart (tOp (rI0 fun i j => .int (i + j)) (tVar 3) (tC (.int 1)))) tNoPart)) (gName 4) (tTest (tOp rEq (tVar 4) (tVar 3))) (tVar 4) [4]) (tLst tNil))) (tVar 3) [3])
      [some (.ref a), s1, some (.ref b), s3, s4, s5, s6, s7, s8] H (nv (trc c)) := by
  have sl0 := sby_len c c.length
  have el := el_lcR1 (ta := tCons (tCB (rLenS K) (tCons (tVar 0) tNil)) tNil) (te := tVar 3) (t := tTest (tOp (rEqD K) (tLc (iList K (tSl (rSlL K) (tVar 2) (tPart (tOp (rI0 fun i j => .int (i + j)) (tVar 3) (tC (.int 1)))) tNoPart)) (gName 4) (tTest (tOp rEq (tVar 4) (tVar 3))) (tVar 4) [4]) (tLst tNil))) (j := 3) (vs := [3]) (σ := [some (.ref a), s1, some (.ref b), s3, s4, s5, s6, s7, s8]) (H := H) (n := (c.length : Int)) (fun i => decide (i ∉ c.drop (i + 1))) (fun i => .int (i : Int)) (ea_cons (ev_is (ev_len (K := K) (ta := tVar 0) (ev_var (i := 0) rfl) (sq_of ha)) (by rw [nv_len, sl0])) ea_nil) (by omega) (fun _ => rfl) (fun i H2 e2 hi => ?_) fun i H2 e2 hi _ => ev_var rfl
  · have eg : given (c.length : Int).toNat (fun i => decide (i ∉ c.drop (i + 1))) (fun i => V.int (i : Int)) = nv (trc c) := by
      rw [nv_eq]
      rfl
    rw [eg] at el
    exact el
  · have sl := el_sl (K := K) (te := tVar 2) (tl := tPart (tOp (rI0 fun i j => .int (i + j)) (tVar 3) (tC (.int 1)))) (th := tNoPart) (σ := [some (.ref a), s1, some (.ref b), some (.int (i : Int)), s4, s5, s6, s7, s8]) (H := H2) (ev_var (i := 2) rfl) (eo_some (ev_op (ev_var (i := 3) rfl) (ev_c (v := .int 1)) rv_I0)) eo_none (sq_of (e2 b _ hb))
    rw [show (i : Int) + 1 = ((i + 1 : Nat) : Int) by omega, cutFrom (show i + 1 ≤ c.length by omega)] at sl
    have dl : (c.drop (i + 1)).length ≤ 20 := by rw [List.length_drop]; omega
    have inn := el_lcNL (K := K) (te := tVar 4) (t := tTest (tOp rEq (tVar 4) (tVar 3))) (j := 4) (vs := [4]) (fun t => decide ((c.drop (i + 1)).getD t 0 = i)) (fun t => .int (((c.drop (i + 1)).getD t 0 : Nat) : Int)) sl (by rw [nv_len]; omega) (fun _ => rfl) (fun t v H3 e3 hv => ?_) fun t v H3 e3 hv _ => ?_
    · rw [nv_len, filt_at (c.drop (i + 1)) (fun x => decide (x = i)) (fun x => V.int (x : Int)), ← nv_eq] at inn
      refine et_is (et_test (ev_eqD (K := K) (d := di ((c.drop (i + 1)).filter fun x => decide (x = i))) (e := .list []) (ed_L inn) (ed_lst eda_nil (Nat.le_of_ble_eq_true rfl)) (shaped_di _) (by decide +kernel))) ?_
      rw [eqv_di_nil, Bool.eq_iff_iff, List.isEmpty_iff, List.filter_eq_nil_iff, decide_eq_true_iff]
      exact ⟨fun h z => h i z (by simp), fun h x hx z => h (of_decide_eq_true z ▸ hx)⟩
    · rw [nv_eq, List.getElem?_map] at hv
      obtain ⟨x, hx, rfl⟩ := Option.map_eq_some_iff.mp hv
      rw [getD_of hx]
      refine et_is (et_test (ev_op (ev_var rfl) (ev_var rfl) (rv_eq rfl))) ?_
      rw [Bool.eq_iff_iff, decide_eq_true_iff, decide_eq_true_iff]
      exact ⟨fun z => by have := V.int.inj z; omega, fun z => by rw [z]⟩
    · rw [nv_eq, List.getElem?_map] at hv
      obtain ⟨x, hx, rfl⟩ := Option.map_eq_some_iff.mp hv
      rw [getD_of hx]
      exact ev_var rfl
/-- a coming list without k, closed up -/
def lessL (c : List Nat) (k : Nat) : List Nat := (c.take k ++ c.drop (k + 1)).map (dn k)
def okC (c : List Nat) : Bool := decide (c.length ≤ 20) && (List.range c.length).all fun i => decide (c.getD i 0 ≤ i)
theorem okC_w {c : List Nat} (h : okC c = true) : CmW c := by
  unfold okC at h
  rw [Bool.and_eq_true, List.all_eq_true] at h
  refine ⟨of_decide_eq_true h.1, fun i x hx => ?_⟩
  have := of_decide_eq_true (h.2 i (List.mem_range.mpr (List.getElem?_eq_some_iff.mp hx).1))
  rwa [getD_of hx] at this
theorem less_all : ((List.range 6).all fun n => (cA n).all fun c => (List.range n).all fun k => decide (n < 2) || !decide (k ∈ trc c) || (okC (lessL c k) && decide (sby (lessL c k) (lessL c k).length = wo (sby c n) k))) = true := by decide +kernel
theorem less_ok {c : List Nat} {n k : Nat} (hc : c ∈ cA n) (n2 : 2 ≤ n) (n5 : n ≤ 5) (hk : k < n) (ht : k ∈ trc c) : CmW (lessL c k) ∧ sby (lessL c k) (lessL c k).length = wo (sby c n) k := by
  have h := List.all_eq_true.mp (List.all_eq_true.mp (List.all_eq_true.mp less_all n (List.mem_range.mpr (by omega))) c hc) k (List.mem_range.mpr hk)
  rw [decide_eq_false (show ¬ n < 2 by omega), decide_eq_true ht] at h
  have h : (okC (lessL c k) && decide (sby (lessL c k) (lessL c k).length = wo (sby c n) k)) = true := h
  rw [Bool.and_eq_true] at h
  exact ⟨okC_w h.1, of_decide_eq_true h.2⟩
def sp_joined_right : Sp := fun vs H Q _ => ∃ (a : Addr) (c : List Nat), vs = [.ref a] ∧ H a = some (.lst (nv (sby c c.length))) ∧ Cm c ∧ c.length ≤ 5 ∧ RetV (.bl true) H Q
def sp_seating_right : Sp := fun vs H Q _ => ∃ (a : Addr) (c : List Nat), vs = [.ref a] ∧ H a = some (.lst (nv (sby c c.length))) ∧ c ∈ cA c.length ∧ 1 ≤ c.length ∧ c.length ≤ 5 ∧ RetV (.bl true) H Q
section
variable {P : Program} {w : World} {K : PySem.W.Frag} {mg : Str → Option Value} {base : Heap}
theorem ok_law_joined_right (T : Tx K mg) : FnOk P w K mg base CX0 6 T.f_law_joined_right T.d_law_joined_right ["some"] sp_joined_right := by
  refine T.F_law_joined_right.ok sc_law_joined_right (fun vs H Q E h => ?_) (fun cdv A outer s0 H vs Q E hr h => ?_)
  · obtain ⟨a, c, rfl, _⟩ := h
    rfl
  · obtain ⟨a, c, rfl, ha, o, c5, kk⟩ := h
    refine ⟨_, (pss_cons (ps_set (i := 1) sc_law_joined_right.nd rfl (Or.inl rfl) (pe_callB call_lenR (by rfl) T.m_len (by decide +kernel) (pa_cons (pv 0) pa_nil)))
      (pss_cons (ps_for PassesOwn.never rfl (pi_range1 (by rfl) T.m_range (pa_cons (pe_op op_add (pv 1) pe_int) pa_nil)) (pg_name (i := 2) sc_law_joined_right.nd rfl (Or.inl rfl)) (pss_cons (ps_set (i := 3) sc_law_joined_right.nd rfl (Or.inl rfl) (pe_callK0 (ok_joined T) (hr.mono (by decide)) (by rfl) T.g_joined T.F_joined.kp T.kb_joined_0_mate_seating pass0 (pk_cons (pv 2) (pk_cons (pv 0) pk_nil))))
      (pss_cons (ps_set (i := 4) sc_law_joined_right.nd rfl (Or.inl rfl) (pe_op op_cat (pe_call (ok_law_coming T) (hr.mono (by decide)) (by rfl) T.g_law_coming T.F_law_coming.kp T.b_law_coming .nil pass0 (pa_cons (pv 0) pa_nil)) (pe_lst (pa_cons (pv 2) pa_nil))))
      (pss_cons (ps_if (PW.pt (pw_or (pt_not (pt_val (pe_call (ok_law_alike T) (hr.mono (by decide)) (by rfl) T.g_law_alike T.F_law_alike.kp T.b_law_alike .nil pass0 (pa_cons (pe_call (ok_law_coming T) (hr.mono (by decide)) (by rfl) T.g_law_coming T.F_law_coming.kp T.b_law_coming .nil pass0 (pa_cons (pv 3) pa_nil)) (pa_cons (pv 4) pa_nil))))) (pw_or1 (pt_not (pt_val (pe_call (ok_law_alike T) (hr.mono (by decide)) (by rfl) T.g_law_alike T.F_law_alike.kp T.b_law_alike .nil pass0 (pa_cons (pe_call (ok_without T) (hr.mono (by decide)) (by rfl) T.g_without T.F_without.kp T.b_without .nil pass0 (pa_cons (pv 3) (pa_cons (pv 1) pa_nil))) (pa_cons (pv 0) pa_nil)))))))) (pss_one (ps_ret pe_bl)) pss_nil)
      (pss_cons (ps_expr (pe_bm PySem.F.plainAttrs_list PySem.F.slot_list_append PySem.F.type_list_append mt_append (pv 3) (pa_cons pe_non pa_nil)))
      (pss_one (ps_if (pt_cmpR op_ne (pe_callB call_lenR (by rfl) T.m_len (by decide +kernel) (pa_cons (pe_call (ok_joined T) (hr.mono (by decide)) (by rfl) T.g_joined T.F_joined.kp T.b_joined .nil pass0 (pa_cons (pv 0) (pa_cons (pv 2) pa_nil))) pa_nil)) (pe_op op_add (pv 1) pe_int) (nomark _)) (pss_one (ps_ret pe_bl)) pss_nil)))))))
      (pss_one (ps_ret pe_bl)))), ?_⟩
    have sl := sby_len c c.length
    have sd := shaped_di
    refine q_asg (v := .int (c.length : Int)) (ev_is (ev_len (K := K) (ev_var rfl) (sq_of ha)) (by rw [nv_len, sl])) fun H1 e1 => ?_
    refine q_forR1 (n := (c.length : Int) + 1) (ea_cons (ev_op (ev_var rfl) ev_c rv_I0) ea_nil) ⟨by omega, by omega⟩ (fun x σ' H' => ∃ (y2 y3 y4 : Option V), σ' = [some (.ref a), some (.int (c.length : Int)), y2, y3, y4] ∧ Ex H H') (fun H2 e2 => ⟨none, none, none, rfl, e1.trans e2⟩) ?_ ?_
    · rintro x σ' H' hx ⟨y2, y3, y4, rfl, e⟩
      have hx' : x ≤ c.length := by omega
      have ha' := e a _ ha
      have ext := (sby_ext (c := c) (x := x)).2
      have la : (c ++ [x]).length = c.length + 1 := by simp
      have od : Cm (c ++ [x]) := ⟨by omega, by omega, fun i y hy => by
        rw [List.getElem?_append] at hy
        split at hy
        · exact o.2.2 i y hy
        · have hj := (List.getElem?_eq_some_iff.mp hy).1
          rw [List.length_singleton] at hj
          have e0 : i - c.length = 0 := by omega
          rw [e0] at hy
          have : x = y := by simpa using hy
          omega⟩
      have ej : sits (sby c c.length) (sby c c.length).length x = sby (c ++ [x]) (c ++ [x]).length := by rw [sl, la, ext]
      have jn : ∀ {H1 : Hp}, H1 a = some (.lst (nv (sby c c.length))) → SpL sp_joined ([.ref a, .int (x : Int)] ++ []) H1 (nv (sby (c ++ [x]) (c ++ [x]).length)) := fun h => by
        have := sl_joined (g := x) h o.ord (by omega) (by omega)
        rwa [ej] at this
      refine q_asgL (el_callK (zs := [.int (x : Int), .ref a]) ea_nil (ea_cons (ev_var rfl) (ea_cons (ev_var rfl) ea_nil)) (jn ha')) fun t H2 nt e2 ht => ?_
      have ha2 := e2 a _ ha'
      refine q_asgL (xs := nv (c ++ [x])) (by
        rw [nv_app]
        exact el_cat (el_call (ea_cons (ev_var rfl) ea_nil) (sl_law_coming ha2 o.w)) (el_lst (ea_cons (ev_var rfl) ea_nil) (Nat.le_of_ble_eq_true rfl)) (by rw [nv_len]; show c.length + 1 ≤ 100000; omega)) fun d H3 nd e3 hd => ?_
      have ha3 := e3 a _ ha2
      have ht3 := e3 t _ ht
      have sl2 := sby_len (c ++ [x]) (c ++ [x]).length
      have hlt : ∀ y ∈ sby c c.length, y < c.length := fun y hy => sby_lt o.2.2 (Nat.le_refl _) hy
      have w2 := sl_wo (g := c.length) ht3 od.ord (by have := o.1; omega) (by omega)
      rw [la, ext, wo_sits sl hlt hx'] at w2
      refine q_when (b := false) (et_is (et_or (et_is (et_not (et_B (ev_alike (n := 4) (ek_LI (ns := iz (c ++ [x])) (el_call (ea_cons (ev_var rfl) ea_nil) (sl_law_coming ht3 od.w)) (by simp [iz]; omega)) (ek_of (ev_var rfl) (tk_lst hd (tk_ints (n := 3) _) (by simp [iz]; omega))) rfl))) (show (!true) = false from rfl)) fun _ => et_is (et_not (et_B (ev_alike (n := 4) (ek_LI (ns := iz (sby c c.length)) (el_call (ea_cons (ev_var rfl) (ea_cons (ev_var rfl) ea_nil)) w2) (by simp [iz, sl]; omega)) (ek_of (ev_var rfl) (tk_lst ha3 (tk_ints (n := 3) _) (by simp [iz, sl]; omega))) rfl))) (show (!true) = false from rfl)) rfl) (fun hb => Bool.noConfusion hb) fun _ H4 e4 => ?_
      refine q_app (xs := nv (sby (c ++ [x]) (c ++ [x]).length)) (e4 t _ ht3) (ev_var rfl) ev_c (by rw [nv_len, sl2, la]; omega) fun H5 e5 => ?_
      have ntH := fresh_back e nt
      have eX : Ex H (upd H5 t (.lst (nv (sby (c ++ [x]) (c ++ [x]).length) ++ [V.non]))) := Ex.mut (e.trans (e2.trans (e3.trans (e4.trans e5)))) ntH
      refine s_when (b := false) (et_is (et_test (ev_op (ev_is (ev_lenN (K := K) (el_call (ea_cons (ev_var rfl) (ea_cons (ev_var rfl) ea_nil)) (jn (eX a _ ha)))) (by rw [nv_len, sl2, la])) (ev_op (ev_var rfl) ev_c rv_I0) (rv_ne rfl))) (by simp)) (fun hb => Bool.noConfusion hb) fun _ H6 e6 => ⟨_, _, _, rfl, eX.trans e6⟩
    · rintro σ' H' ⟨y2, y3, y4, rfl, e⟩
      exact s_ret ev_c fun H2 e2 => kk H2 (e.trans e2)
theorem ok_law_seating_right (T : Tx K mg) : FnOk P w K mg base CX0 8 T.f_law_seating_right T.d_law_seating_right ["some"] sp_seating_right := by
  refine T.F_law_seating_right.ok sc_law_seating_right (fun vs H Q E h => ?_) (fun cdv A outer s0 H vs Q E hr h => ?_)
  · obtain ⟨a, c, rfl, _⟩ := h
    rfl
  · obtain ⟨a, c, rfl, ha, hc, c1, c5, kk⟩ := h
    refine ⟨_, (pss_cons (ps_asg (pe_tup (pa_cons (pe_callTy call_listR (by rfl) T.m_list (by decide +kernel) (pa_cons (pv 0) pa_nil)) (pa_cons (pe_call (ok_law_coming T) (hr.mono (by decide)) (by rfl) T.g_law_coming T.F_law_coming.kp T.b_law_coming .nil pass0 (pa_cons (pv 0) pa_nil)) pa_nil))) (pg_tup rfl (pgs_cons (pg_name (i := 1) sc_law_seating_right.nd rfl (Or.inl rfl)) (pgs_cons (pg_name (i := 2) sc_law_seating_right.nd rfl (Or.inr rfl)) pgs_nil))))
      (pss_cons (ps_setLc (i := 5) (own := [("k", 3)]) (g := (gName 3)) rfl sc_law_seating_right.nd rfl rfl (sw_true rfl rfl rfl (by decide +kernel)) (pi_range1 (by rfl) T.m_range (pa_cons (pe_callB (id := "len") (r := rLenS K) call_lenR (by rfl) T.m_len (by decide +kernel) (pa_cons (pv 0) pa_nil)) pa_nil)) (blkOk_by (own := [("k", 3)]) (N := n_law_seating_right) (sc := defScope s_law_seating_right) (by decide +kernel)) (fun _ _ _ _ _ => (pg_name (i := 3) sc_law_seating_right.nd rfl (Or.inr rfl))) (fun _ _ _ _ _ => (pts_one (pt_cmpR (r := rEqD K) (op_eqD hr.units) (pe_lc (wi := iList K (tSl (rSlL K) (tVar 2) (tPart (tOp (rI0 fun i j => .int (i + j)) (tVar 3) (tC (.int 1)))) tNoPart)) (own := [("c", 4)]) (g := (gName 4)) rfl sc_law_seating_right.nd (pi_list (pe_slice (r := rSlL K) sl_list (pv 2) (po_some (pe_op op_add (pv 3) pe_int)) po_none)) (blkOk_by (own := [("c", 4)]) (N := n_law_seating_right) (sc := { kind := .function, names := [((".0" : Str), NameKind.local), (("k" : Str), NameKind.cell), (("row" : Str), NameKind.cell)], isGenerator := false, isCoroutine := false }) (by decide +kernel)) (fun _ _ _ _ _ => (pg_name (i := 4) sc_law_seating_right.nd rfl (Or.inl rfl))) (fun _ _ _ _ _ => (pts_one (pt_cmpR op_eq (pv 4) (pv 3) (nomark _)))) (fun _ _ _ _ _ => (pv 4))) (pe_lst pa_nil) (nomark _)))) (fun _ _ _ _ _ => (pv 3)))
      (pss_cons (ps_set (i := 6) sc_law_seating_right.nd rfl (Or.inl rfl) (pe_callK0 (ok_traceless T) (hr.mono (by decide)) (by rfl) T.g_traceless T.F_traceless.kp T.kb_traceless_0_seating pass0 (pk_cons (pv 0) pk_nil)))
      (pss_cons (ps_if (pt_not (pt_val (pe_call (ok_law_alike T) (hr.mono (by decide)) (by rfl) T.g_law_alike T.F_law_alike.kp T.b_law_alike .nil pass0 (pa_cons (pv 6) (pa_cons (pv 5) pa_nil))))) (pss_one (ps_ret pe_bl)) pss_nil)
      (pss_cons (ps_expr (pe_bm PySem.F.plainAttrs_list PySem.F.slot_list_append PySem.F.type_list_append mt_append (pv 6) (pa_cons pe_non pa_nil)))
      (pss_cons (ps_for PassesOwn.never rfl (pi_range1 (by rfl) T.m_range (pa_cons (pe_callB call_lenR (by rfl) T.m_len (by decide +kernel) (pa_cons (pv 0) pa_nil)) pa_nil)) (pg_name (i := 3) sc_law_seating_right.nd rfl (Or.inr rfl)) (pss_cons (ps_set (i := 6) sc_law_seating_right.nd rfl (Or.inl rfl) (pe_lst (pa_cons (pe_callK0 (ok_is_traceless T) (hr.mono (by decide)) (by rfl) T.g_is_traceless T.F_is_traceless.kp T.kb_is_traceless_0_guest_seating pass0 (pk_cons (pv 3) (pk_cons (pv 0) pk_nil))) (pa_cons (pe_callK0 (ok_sits_alone T) (hr.mono (by decide)) (by rfl) T.g_sits_alone T.F_sits_alone.kp T.kb_sits_alone_0_guest_seating pass0 (pk_cons (pv 3) (pk_cons (pv 0) pk_nil))) pa_nil))))
      (pss_cons (ps_if (pt_not (pt_val (pe_call (ok_law_alike T) (hr.mono (by decide)) (by rfl) T.g_law_alike T.F_law_alike.kp T.b_law_alike .nil pass0 (pa_cons (pv 6) (pa_cons (pe_lst (pa_cons (pe_cmpR op_in_seq (pv 3) (pv 5) (by rfl)) (pa_cons (pe_cmpR op_eq (pe_ix ix_list (pv 0) (pv 3) (fun _ _ => rfl)) (pv 3) (nomark _)) pa_nil))) pa_nil))))) (pss_one (ps_ret pe_bl)) pss_nil)
      (pss_one (ps_if (pt_cmpR op_gt (pe_callB call_lenR (by rfl) T.m_len (by decide +kernel) (pa_cons (pv 0) pa_nil)) pe_int (nomark _)) (pss_cons (ps_set (i := 7) sc_law_seating_right.nd rfl (Or.inl rfl) (pe_call (ok_law_out T) (hr.mono (by decide)) (by rfl) T.g_law_out T.F_law_out.kp T.b_law_out .nil pass0 (pa_cons (pv 0) (pa_cons (pv 3) pa_nil))))
      (pss_cons (ps_set (i := 6) sc_law_seating_right.nd rfl (Or.inl rfl) (pe_callK0 (ok_without T) (hr.mono (by decide)) (by rfl) T.g_without T.F_without.kp T.kb_without_0_guest_seating pass0 (pk_cons (pv 3) (pk_cons (pv 0) pk_nil))))
      (pss_cons (ps_if (PW.pt (pw_or (pt_not (pt_val (pe_call (ok_law_alike T) (hr.mono (by decide)) (by rfl) T.g_law_alike T.F_law_alike.kp T.b_law_alike .nil pass0 (pa_cons (pv 6) (pa_cons (pv 7) pa_nil))))) (pw_or1 (pt_not (pt_val (pe_call (ok_law_alike T) (hr.mono (by decide)) (by rfl) T.g_law_alike T.F_law_alike.kp T.b_law_alike .nil pass0 (pa_cons (pe_callK0 (ok_coming_without T) (hr.mono (by decide)) (by rfl) T.g_coming_without T.F_coming_without.kp T.kb_coming_without_0_guest_coming pass0 (pk_cons (pv 3) (pk_cons (pv 2) pk_nil))) (pa_cons (pe_call (ok_law_coming T) (hr.mono (by decide)) (by rfl) T.g_law_coming T.F_law_coming.kp T.b_law_coming .nil pass0 (pa_cons (pv 7) pa_nil)) pa_nil)))))))) (pss_one (ps_ret pe_bl)) pss_nil)
      (pss_cons (ps_expr (pe_bm PySem.F.plainAttrs_list PySem.F.slot_list_append PySem.F.type_list_append mt_append (pv 6) (pa_cons pe_non pa_nil)))
      (pss_cons (ps_if (pt_cmpR (op_neD hr.units) (pe_call (ok_without T) (hr.mono (by decide)) (by rfl) T.g_without T.F_without.kp T.b_without .nil pass0 (pa_cons (pv 0) (pa_cons (pv 3) pa_nil))) (pv 7) (nomark _)) (pss_one (ps_ret pe_bl)) pss_nil)
      (pss_cons (ps_setLc (i := 8) (own := [("c", 4)]) (g := (gName 4)) (tt := tYes) rfl sc_law_seating_right.nd rfl rfl (sw_true rfl rfl rfl (by decide +kernel)) (pi_list (pe_op op_cat (pe_slice (r := rSlL K) sl_list (pv 2) po_none (po_some (pv 3))) (pe_slice (r := rSlL K) sl_list (pv 2) (po_some (pe_op op_add (pv 3) pe_int)) po_none))) (blkOk_by (own := [("c", 4)]) (N := n_law_seating_right) (sc := defScope s_law_seating_right) (by decide +kernel)) (fun _ _ _ _ _ => (pg_name (i := 4) sc_law_seating_right.nd rfl (Or.inl rfl))) (fun _ _ _ _ _ => pts_nil) (fun _ _ _ _ _ => (pe_op op_sub (pv 4) (pe_callTy call_intB (by rfl) T.m_int (by decide +kernel) (pa_cons (pe_cmpR op_gt (pv 4) (pv 3) (nomark _)) pa_nil)))))
      (pss_one (ps_if (PW.pt (pw_and (pt_cmpR op_in_seq (pv 3) (pv 5) (by rfl)) (pw_and1 (pt_cmpR (op_neD hr.units) (pv 8) (pe_call (ok_law_coming T) (hr.mono (by decide)) (by rfl) T.g_law_coming T.F_law_coming.kp T.b_law_coming .nil pass0 (pa_cons (pv 7) pa_nil)) (nomark _))))) (pss_one (ps_ret pe_bl)) pss_nil)))))))) pss_nil)))))
      (pss_one (ps_ret (pe_and (pe_call (ok_law_joined_right T) (hr.mono (by decide)) (by rfl) T.g_law_joined_right T.F_law_joined_right.kp T.b_law_joined_right .nil pass0 (pa_cons (pv 0) pa_nil)) (pe_and (pe_cmpR (op_eqD hr.units) (pe_call (ok_traceless T) (hr.mono (by decide)) (by rfl) T.g_traceless T.F_traceless.kp T.b_traceless .nil pass0 (pa_cons (pv 0) pa_nil)) (pv 5) (nomark _)) (pe_one (pe_cmpR (op_eqD hr.units) (pv 0) (pv 1) (nomark _))))))))))))), ?_⟩
    have oc : Cm c := ⟨c1, by omega, (cA_mem hc).2⟩
    have sl := sby_len c c.length
    have sd := shaped_di
    have tl := trc_len c
    refine q_tup2LL (K := K) (el_list (ev_var rfl) (sq_of ha)) (fun H1 e1 => el_call (ea_cons (ev_var rfl) ea_nil) (sl_law_coming (e1 a _ ha) oc.w)) fun bf b H1 nbf nb _ e1 hbf hb => ?_
    refine q_asgL (el_gone (K := K) (e1 a _ ha) hb (by omega)) fun go H2 ngo e2 hgo => ?_
    have e02 := e1.trans e2
    refine q_asgL (el_callK (zs := [.ref a]) ea_nil (ea_cons (ev_var rfl) ea_nil) (sl_traceless (e02 a _ ha) oc)) fun t H3 nt e3 ht => ?_
    have hgo3 := e3 go _ hgo
    have e03 := e02.trans e3
    refine q_when (b := false) (et_is (et_not (et_B (ev_alike (n := 4) (ek_of (ev_var rfl) (tk_lst ht (tk_ints (n := 3) (iz (trc c))) (by simp [iz]; omega))) (ek_of (ev_var rfl) (tk_lst hgo3 (tk_ints (n := 3) (iz (trc c))) (by simp [iz]; omega))) rfl))) rfl) (fun hb => Bool.noConfusion hb) fun _ H4 e4 => ?_
    refine q_app (xs := nv (trc c)) (e4 t _ ht) (ev_var rfl) ev_c (by rw [nv_len]; omega) fun H5 e5 => ?_
    have ntH := fresh_back e02 nt
    have tgo : go ≠ t := fun z => by
      rw [← z, hgo] at nt
      cases nt
    have tb : b ≠ t := fun z => by
      rw [← z, e2 b _ hb] at nt
      cases nt
    have tbf : bf ≠ t := fun z => by
      rw [← z, e2 bf _ hbf] at nt
      cases nt
    have e35 := e4.trans e5
    have eX5 : Ex H (upd H5 t (.lst (nv (trc c) ++ [V.non]))) := Ex.mut (e03.trans e35) ntH
    have kp : ∀ {x : Addr} {o : HO}, x ≠ t → H3 x = some o → (upd H5 t (.lst (nv (trc c) ++ [V.non]))) x = some o := fun ne h => by
      rw [upd_ne ne]
      exact e35 _ _ h
    have hb5 := kp tb ((e2.trans e3) b _ hb)
    have hbf5 := kp tbf ((e2.trans e3) bf _ hbf)
    have hgo5 := kp tgo hgo3
    generalize (upd H5 t (.lst (nv (trc c) ++ [V.non]))) = H6 at *
    have len : Ev (tCB (rLenS K) (tCons (tVar 0) tNil)) [some (.ref a), some (.ref bf), some (.ref b), none, none, some (.ref go), some (.ref t), none, none] H6 (.int (c.length : Int)) := ev_is (ev_len (K := K) (ev_var (i := 0) rfl) (sq_of (eX5 a _ ha))) (by rw [nv_len, sl])
    refine q_forR1 (n := (c.length : Int)) (ea_cons len ea_nil) ⟨by omega, by omega⟩ (fun x σ' H' => ∃ (y3 y4 y6 y7 y8 : Option V), σ' = [some (.ref a), some (.ref bf), some (.ref b), y3, y4, some (.ref go), y6, y7, y8] ∧ Ex H6 H') (fun H7 e7 => ⟨_, _, _, _, _, rfl, e7⟩) ?_ ?_
    · rintro g σ' H' hg ⟨y3, y4, y6, y7, y8, rfl, e⟩
      have gl : g < c.length := by omega
      have ha' := (eX5.trans e) a _ ha
      have hgo' := e go _ hgo5
      have hb' := e b _ hb5
      refine q_asgK (n := 4) (d := .list [.bool (decide (g ∈ trc c)), .bool (decide ((sby c c.length).getD g 0 = g))]) (ek_lst (eka_cons (ek_bl (ev_callK (zs := [.int (g : Int), .ref a]) ea_nil (ea_cons (ev_var rfl) (ea_cons (ev_var rfl) ea_nil)) (sv_is_traceless ha' oc gl))) (eka_cons (ek_bl (ev_callK (zs := [.int (g : Int), .ref a]) ea_nil (ea_cons (ev_var rfl) (ea_cons (ev_var rfl) ea_nil)) (sv_alone ha' oc.ord (by omega)))) eka_nil)) (Nat.le_of_ble_eq_true rfl)) fun tv H7 e7 ht7 => ?_
      have ha7 := e7 a _ ha'
      have hgo7 := e7 go _ hgo'
      refine q_when (b := false) (et_is (et_not (et_B (ev_alike (ek_of (ev_var rfl) ht7) (ek_lst (eka_cons (ek_bl (ev_is (ev_op (ev_var rfl) (ev_var rfl) (rv_isL (K := K) (sq_of hgo7) rfl (nv_flat _))) (by rw [nv_in]))) (eka_cons (ek_bl (ev_is (ev_op (ev_op (ev_var rfl) (ev_var rfl) (rv_ixL (K := K) (sq_of ha7) (atI_nat (nv_at (by omega))))) (ev_var rfl) (rv_eq rfl)) ?_)) eka_nil)) (Nat.le_of_ble_eq_true rfl)) rfl))) rfl) (fun hb => Bool.noConfusion hb) fun _ H8 e8 => ?_
      · congr 1
        rw [Bool.eq_iff_iff, decide_eq_true_iff, decide_eq_true_iff]
        exact ⟨fun z => by have := V.int.inj z; omega, fun z => by rw [z]⟩
      have ha8 := e8 a _ ha7
      have e78 := e7.trans e8
      refine s_when (b := decide (1 < c.length)) (et_is (et_test (ev_op (ev_len (K := K) (ev_var rfl) (sq_of ha8)) ev_c rv_I0)) (by rw [nv_len, sl, Bool.eq_iff_iff, decide_eq_true_iff, decide_eq_true_iff]; omega)) (fun hb2 H9 e9 => ?_) fun hb2 H9 e9 => ⟨_, _, _, _, _, rfl, e.trans (e78.trans e9)⟩
      have c2 := of_decide_eq_true hb2
      have ha9 := e9 a _ ha8
      refine q_asgL (el_call (ea_cons (ev_var rfl) (ea_cons (ev_var rfl) ea_nil)) (sl_law_out ha9 oc.ord (by omega) oc.rings (by omega))) fun du HA ndu eA hdu => ?_
      have haA := eA a _ ha9
      obtain ⟨d, od, dl, ds⟩ := ord_cm (wo_ord oc.ord (by omega) (show g < (sby c c.length).length by omega))
      have wl := wo_len (h := sby c c.length) (k := g) (by omega)
      refine q_asgL (el_callK (zs := [.int (g : Int), .ref a]) ea_nil (ea_cons (ev_var rfl) (ea_cons (ev_var rfl) ea_nil)) (sl_wo haA oc.ord (by omega) (by omega))) fun tw HB ntw eB htw => ?_
      have hduB := eB du _ hdu
      have hduB' := hduB
      rw [← ds] at hduB'
      have eAll := e.trans (e78.trans (e9.trans (eA.trans eB)))
      have hbB := eAll b _ hb5
      refine q_when (b := false) (et_is (et_or (et_is (et_not (et_B (ev_alike (n := 4) (ek_of (ev_var rfl) (tk_lst htw (tk_ints (n := 3) (iz (wo (sby c c.length) g))) (by simp [iz]; omega))) (ek_of (ev_var rfl) (tk_lst hduB (tk_ints (n := 3) (iz (wo (sby c c.length) g))) (by simp [iz]; omega))) rfl))) (show (!true) = false from rfl)) fun _ => et_is (et_not (et_B (ev_alike (n := 4) (ek_LI (ns := iz d) (el_callK (zs := [.int (g : Int), .ref b]) ea_nil (ea_cons (ev_var rfl) (ea_cons (ev_var rfl) ea_nil)) (sl_coming_without hbB oc (by omega) gl od ds)) (by simp [iz]; omega)) (ek_LI (ns := iz d) (el_call (ea_cons (ev_var rfl) ea_nil) (sl_law_coming hduB' od.w)) (by simp [iz]; omega)) rfl))) (show (!true) = false from rfl)) rfl) (fun hb => Bool.noConfusion hb) fun _ HC eC => ?_
      refine q_app (xs := nv (wo (sby c c.length) g)) (eC tw _ htw) (ev_var rfl) ev_c (by rw [nv_len]; omega) fun HD eD => ?_
      have ntwH := fresh_back (e.trans (e78.trans (e9.trans eA))) ntw
      have dtw : du ≠ tw := fun z => by
        rw [← z, hdu] at ntw
        cases ntw
      have eX : Ex H6 (upd HD tw (.lst (nv (wo (sby c c.length) g) ++ [V.non]))) := Ex.mut (eAll.trans (eC.trans eD)) ntwH
      have hduD : (upd HD tw (.lst (nv (wo (sby c c.length) g) ++ [V.non]))) du = some (.lst (nv (wo (sby c c.length) g))) := by
        rw [upd_ne dtw]
        exact (eC.trans eD) du _ hduB
      generalize (upd HD tw (.lst (nv (wo (sby c c.length) g) ++ [V.non]))) = HE at *
      have haE := (eX5.trans eX) a _ ha
      have hbE := eX b _ hb5
      refine q_when (b := false) (et_is (et_test (ev_neD (K := K) (d := di (wo (sby c c.length) g)) (e := di (wo (sby c c.length) g)) (ed_L (el_call (ea_cons (ev_var rfl) (ea_cons (ev_var rfl) ea_nil)) (sl_wo haE oc.ord (by omega) (by omega)))) (ed_of (ev_var rfl) (dp_L hduD)) (sd _) (sd _))) (by rw [eqv_same (sd _)]; rfl)) (fun hb => Bool.noConfusion hb) fun _ HF eF => ?_
      have hbF := eF b _ hbE
      have lt1 : (c.take g).length ≤ 5 := by rw [List.length_take]; omega
      have lt2 : (c.drop (g + 1)).length ≤ 5 := by rw [List.length_drop]; omega
      have s1 := el_sl (K := K) (te := tVar 2) (tl := tNoPart) (th := tPart (tVar 3)) (σ := [some (.ref a), some (.ref bf), some (.ref b), some (.int (g : Int)), y4, some (.ref go), some (.ref tw), some (.ref du), y8]) (H := HF) (ev_var (i := 2) rfl) eo_none (eo_some (ev_var (i := 3) rfl)) (sq_of hbF)
      rw [cutTo (show g ≤ c.length by omega)] at s1
      have s2 := el_sl (K := K) (te := tVar 2) (tl := tPart (tOp (rI0 fun i j => .int (i + j)) (tVar 3) (tC (.int 1)))) (th := tNoPart) (σ := [some (.ref a), some (.ref bf), some (.ref b), some (.int (g : Int)), y4, some (.ref go), some (.ref tw), some (.ref du), y8]) (H := HF) (ev_var (i := 2) rfl) (eo_some (ev_op (ev_var (i := 3) rfl) (ev_c (v := .int 1)) rv_I0)) eo_none (sq_of hbF)
      rw [show (g : Int) + 1 = ((g + 1 : Nat) : Int) by omega, cutFrom (show g + 1 ≤ c.length by omega)] at s2
      have cc := el_cat s1 s2 (by rw [nv_len, nv_len]; omega)
      rw [← nv_app] at cc
      have el := el_mapN (K := K) (te := tOp (rI0 fun i j => .int (i - j)) (tVar 4) (tCB rIntB (tCons (tOp (rI0 fun i j => .bl (decide (j < i))) (tVar 4) (tVar 3)) tNil))) (j := 4) (vs := [4]) (fI fun y => y - (if (g : Int) < y then 1 else 0)) cc (by rw [nv_len, List.length_append]; omega) (fun _ => rfl) fun i v H7 e7 hv => ?_
      rotate_left
      · rw [nv_eq, List.getElem?_map] at hv
        obtain ⟨y, _, rfl⟩ := Option.map_eq_some_iff.mp hv
        exact ev_is (ev_op (ev_var rfl) (ev_intB (ev_op (ev_var rfl) (ev_var rfl) rv_I0)) rv_I0) (by
          show V.int _ = V.int _
          congr 2
          by_cases z : (g : Int) < (y : Int)
          · rw [if_pos z, decide_eq_true z]
            rfl
          · rw [if_neg z, decide_eq_false z]
            rfl)
      rw [map_dn] at el
      refine q_asgL el fun le HG nle eG hle => ?_
      have hgoG := (eX.trans (eF.trans eG)) go _ hgo5
      have hduG := (eF.trans eG) du _ hduD
      have hle : HG le = some (.lst (nv (lessL c g))) := hle
      refine s_when (b := false) (et_is (et_and (a := decide (g ∈ trc c)) (b := false) (et_is (et_test (ev_op (ev_var rfl) (ev_var rfl) (rv_isL (K := K) (sq_of hgoG) rfl (nv_flat _)))) (by rw [nv_in])) fun hin => ?_) (by simp)) (fun hb => Bool.noConfusion hb) fun _ HI eI => ⟨_, _, _, _, _, rfl, eX.trans (eF.trans (eG.trans eI))⟩
      obtain ⟨lw, ls⟩ := less_ok hc (by omega) c5 gl (of_decide_eq_true hin)
      rw [← ls] at hduG
      exact et_is (et_test (ev_neD (K := K) (d := di (lessL c g)) (e := di (lessL c g)) (ed_of (ev_var rfl) (dp_L hle)) (ed_L (el_call (ea_cons (ev_var rfl) ea_nil) (sl_law_coming hduG lw))) (sd _) (sd _))) (by rw [eqv_same (sd _)]; rfl)
    · rintro σ' H' ⟨y3, y4, y6, y7, y8, rfl, e⟩
      have ha' := (eX5.trans e) a _ ha
      refine s_ret (v := .bl true) (ev_is (ev_andV (ev_call (ea_cons (ev_var rfl) ea_nil) (z := .bl true) fun H1 e1 Q q E => ⟨a, c, rfl, e1 a _ ha', oc, c5, q⟩) fun _ => ev_andV (ev_eqD (K := K) (d := di (trc c)) (e := di (trc c)) (ed_L (el_call (ea_cons (ev_var rfl) ea_nil) (sl_traceless ha' oc))) (ed_of (ev_var rfl) (dp_L (e go _ hgo5))) (sd _) (sd _)) fun _ => ev_eqD (K := K) (d := di (sby c c.length)) (e := di (sby c c.length)) (ed_of (ev_var rfl) (dp_L ha')) (ed_of (ev_var rfl) (dp_L (e bf _ hbf5))) (sd _) (sd _)) (by rw [eqv_same (sd _), eqv_same (sd _)]; rfl)) fun H7 e7 => kk H7 (eX5.trans (e.trans e7))
end


local macro_rules | `(tactic| walk_at "call") => `(tactic| (with_reducible exact sv_whole))
local macro_rules | `(tactic| walk_at "call") => `(tactic| ((with_reducible refine' sv_order ?c1 ?c2); (case c1 => assumption); (case c2 => assumption)))
local macro_rules | `(tactic| walk_at "call") => `(tactic| ((with_reducible refine' sv_ord ?c1 ?c2); (case c1 => assumption); (case c2 => assumption)))

section
variable {K : PySem.W.Frag} {σ : L2.St} {H0 H : Hp} {p L : Addr} {k k1 k2 : Nat} {ta tb tc te tm : TE} {Ra Rb : V → Hp → Prop} {D : Ends} {tz : TS} {t : TA}
theorem pq_bag {ta : TA} {E : XK} {j : Nat} {s : Addr} {ns : List Int} (h : EvA ta σ H [.ref s]) (hs : SqL K H s (ns.map V.int)) (hl : ns.length ≤ 63) (q : ∀ p L H2, H p = none → H L = none → Ex H H2 → Po p L 0 H2 → tz D (σ.set j (some (.ref p))) H2) :
    tSeq (tAsg (tCall (sp_law_bag K) [] E ta) (gName j)) tz D σ H := h H (Ex.refl H) _ fun H1 e1 => ⟨s, ns, rfl, ex_l e1 hs, hl, fun p L H2 np nl e2 po => q p L H2 (fresh_back e1 np) (fresh_back e1 nl) (e1.trans e2) po⟩
end

theorem ev_ixN {K : PySem.W.Frag} {σ : L2.St} {H : Hp} {ta tb : TE} {xs : List V} {i : Int} {v : V} (h : EvL ta σ H xs) (hb : Ev tb σ H (.int i)) (hi : atI xs i = some v) : Ev (tOp (rIxL K) ta tb) σ H v := fun H1 e Q q =>
  h H1 e _ fun p H2 hp e2 h2 => hb H2 (e.trans e2) _ fun H3 e3 => rv_ixL (K := K) (sq_of (e3 p _ h2)) hi H3 (Ex.refl H3) Q fun H4 e4 => q H4 (e2.trans (e3.trans e4))

section
variable {σ : L2.St} {H0 H : Hp} {p L : Addr} {k k1 : Nat} {ta tb te : TE} {R : V → Hp → Prop} {t : TT}
theorem ep_if {b : Bool} (ht : EvT t σ H0 b) (h1 : b = true → EvP p L k ta σ H0 R) (h2 : b = false → EvP p L k tb σ H0 R) : EvP p L k (tIf t ta tb) σ H0 R := fun n H1 e hp hn Q q => ht H1 e _ fun H2 e2 => by
  cases b with
  | true =>
    show ta σ H2 Q
    exact h1 rfl n H2 (e.trans e2) (hp.ex e2) hn Q fun v H3 hv p3 e3 => q v H3 hv p3 (hm_trans (hm_of e2) e3)
  | false =>
    show tb σ H2 Q
    exact h2 rfl n H2 (e.trans e2) (hp.ex e2) hn Q fun v H3 hv p3 e3 => q v H3 hv p3 (hm_trans (hm_of e2) e3)
theorem ep_mono (h : EvP p L k te σ H0 R) (hk : k ≤ k1) : EvP p L k1 te σ H0 R := fun n H1 e hp hn Q q => h n H1 e hp (by omega) Q fun v H2 hv p2 e2 => q v H2 hv (p2.mono (by omega)) e2

end
section
variable {K : PySem.W.Frag} {σ : L2.St} {H : Hp} {ta tb te : TE} {t : TA} {D : Ends} {tz : TS} {n : Nat}
theorem q_asgC {sp : Sp} {E : XK} {vs : List V} {i : Nat} (h : EvA t σ H vs) (k : ∀ H1, Ex H H1 → sp (vs ++ []) H1 (fun v H2 => tz D (σ.set i (some v)) H2) E) : tSeq (tAsg (tCall sp [] E t) (gName i)) tz D σ H := h H (Ex.refl H) _ k
theorem q_tup2VL {i j : Nat} {x : V} {ys : List V} (ha : Ev ta σ H x) (hb : ∀ H1, Ex H H1 → EvL tb σ H1 ys) (q : ∀ b H1, H b = none → Ex H H1 → H1 b = some (.lst ys) → tz D ((σ.set i (some x)).set j (some (.ref b))) H1) :
    tSeq (tAsg (tTup (tCons ta (tCons tb tNil))) (gTup K 2 (gCons (gName i) (gCons (gName j) gNil)))) tz D σ H := ha H (Ex.refl H) _ fun H1 e1 => hb H1 e1 H1 (Ex.refl _) _ fun b H2 nb e2 h2 =>
  ⟨sz_of (by show 2 ≤ 100000; decide), fun t ht => ⟨t, [x, .ref b], rfl, st_of upd_same, rfl, x, [.ref b], rfl, .ref b, [], rfl, rfl, q b _ (fresh_back e1 nb) ((e1.trans e2).trans (Ex.new ht)) (Ex.new ht b _ h2)⟩⟩
theorem tk_rows {H : Hp} : ∀ {ws : List V} {rs : List (List Int)}, TL H ws (rs.map fun r => r.map V.int) → (∀ r ∈ rs, r.length ≤ 100) → Paired (Tk (n + 1) H) ws (rs.map fun r => PyData.tuple (r.map PyData.int))
  | [], [], _, _ => .nil
  | _ :: _, r :: l, .cons ⟨b, e, h⟩ q, hz => by
    subst e
    exact .cons (tk_tup h (tk_ints r) (by have := hz r (by simp); rw [List.length_map]; omega)) (tk_rows q fun x hx => hz x (by simp [hx]))
theorem ek_LT {rs : List (List Int)} (h : EvLT te σ H (rs.map fun r => r.map V.int)) (hz : ∀ r ∈ rs, r.length ≤ 100) (hl : rs.length ≤ 40000) : EvK (n + 2) te σ H (.list (rs.map fun r => .tuple (r.map .int))) := fun H1 e Q q => h H1 e Q fun p ws H2 _ e2 hp t => q _ H2 e2 (tk_lst hp (tk_rows t hz) (by rw [List.length_map]; exact hl))
end
/-- [k for k in range(n) if k not in row[k + 1:]] -/
theorem el_trcN {K : PySem.W.Frag} {σ : L2.St} {H : Hp} {i j : Nat} {b : Addr} {c : List Nat} {tn : TE} (hn : Ev tn σ H (.int (c.length : Int))) (hb : H b = some (.lst (nv c))) (c20 : c.length ≤ 20) (hw : ∀ x, wipe ((wipe σ [j]).set j (some x)) [j] = wipe σ [j]) (hj : ∀ x, ((wipe σ [j]).set j (some x))[j]? = some (some x)) (hi : ∀ x, ((wipe σ [j]).set j (some x))[i]? = some (some (.ref b))) :
    EvL (tLc (iRng1 (tCons tn tNil)) (gName j) (tTest (tOp (rIn K true) (tVar j) (tSl (rSlL K) (tVar i) (tPart (tOp (rI0 fun i j => .int (i + j)) (tVar j) (tC (.int 1)))) tNoPart))) (tVar j) [j]) σ H (nv (trc c)) := by
  have el := el_lcR1 (te := tVar j) (t := tTest (tOp (rIn K true) (tVar j) (tSl (rSlL K) (tVar i) (tPart (tOp (rI0 fun i j => .int (i + j)) (tVar j) (tC (.int 1)))) tNoPart))) (j := j) (vs := [j]) (σ := σ) (H := H) (n := (c.length : Int)) (fun i => decide (i ∉ c.drop (i + 1))) (fun i => .int (i : Int)) (ea_cons hn ea_nil) (by omega) hw (fun x H2 e2 hx => ?_) fun x H2 e2 hx _ => ev_var (hj _)
  · have eg : given (c.length : Int).toNat (fun i => decide (i ∉ c.drop (i + 1))) (fun i => V.int (i : Int)) = nv (trc c) := by
      rw [nv_eq]
      rfl
    rw [eg] at el
    exact el
  · have sl := el_sl (K := K) (te := tVar i) (tl := tPart (tOp (rI0 fun i j => .int (i + j)) (tVar j) (tC (.int 1)))) (th := tNoPart) (σ := (wipe σ [j]).set j (some (.int (x : Int)))) (H := H2) (ev_var (hi _)) (eo_some (ev_op (ev_var (hj _)) (ev_c (v := .int 1)) rv_I0)) eo_none (sq_of (e2 b _ hb))
    rw [show (x : Int) + 1 = ((x + 1 : Nat) : Int) by omega, cutFrom (show x + 1 ≤ c.length by omega)] at sl
    refine et_is (et_test (ev_opL (ev_var (hj _)) sl fun p H3 hp _ => rv_niL (K := K) (sq_of hp) rfl (nv_flat _))) ?_
    rw [nv_in, Bool.eq_iff_iff, Bool.not_eq_true', decide_eq_false_iff_not, decide_eq_true_iff]
theorem lc_ne {p L : Addr} {n : Nat} {H : Hp} (h : Po p L n H) {v : V} {c : List Nat} (l : Lc H v c) : Lc (Hm p H) v c := by
  obtain ⟨b, e, hb⟩ := l
  refine ⟨b, e, ?_⟩
  have ne : b ≠ p := fun z => by
    subst z
    obtain ⟨_, _, _, _, _, h1, _⟩ := h
    rw [hb] at h1
    have h2 : nv (sby c c.length) = _ := HO.lst.inj (Option.some.inj h1)
    cases hq : sby c c.length with
    | nil =>
      rw [hq] at h2
      cases h2
    | cons x r =>
      rw [hq] at h2
      have := (List.cons.inj h2).1
      cases this
  unfold Hm
  rw [if_neg ne]
  exact hb
theorem plc_ne {p L : Addr} {n : Nat} {H : Hp} (h : Po p L n H) : ∀ {ws : List V} {cs : List (List Nat)}, Paired (Lc H) ws cs → Paired (Lc (Hm p H)) ws cs
  | [], [], .nil => .nil
  | _ :: _, _ :: _, .cons a r => .cons (lc_ne h a) (plc_ne h r)
/-! ### sums over all seatings -/
def addAt (l : List Int) (j : Nat) (v : Int) : List Int := l.set j (l.getD j 0 + v)
theorem addAt_len (l : List Int) (j : Nat) (v : Int) : (addAt l j v).length = l.length := by
  unfold addAt
  rw [List.length_set]
def tW (w : Int) (c : List Nat) : Int := w ^ (ringsTo c c.length).length
def sumS (w : Int) (n : Nat) (cs : List (List Nat)) : List Int := cs.foldl (fun l c => addAt l (trc c).length (tW w c)) (List.replicate (n + 1) 0)
def addAll (l : List Int) (ks : List Nat) (v : Int) : List Int := ks.foldl (fun l k => addAt l k v) l
def shaS (w : Int) (n : Nat) (cs : List (List Nat)) : List Int := cs.foldl (fun l c => addAll l (trc c) (tW w c)) (List.replicate n 0)
theorem addAll_len (v : Int) : ∀ (ks : List Nat) (l : List Int), (addAll l ks v).length = l.length
  | [], _ => rfl
  | k :: r, l => by
    show (addAll (addAt l k v) r v).length = _
    rw [addAll_len v r, addAt_len]
theorem sumS_len (w : Int) (n : Nat) (cs : List (List Nat)) : (sumS w n cs).length = n + 1 := by
  have h : ∀ (cs : List (List Nat)) (l : List Int), (cs.foldl (fun l c => addAt l (trc c).length (tW w c)) l).length = l.length := fun cs => by
    induction cs with
    | nil => exact fun _ => rfl
    | cons c r ih => exact fun l => by rw [List.foldl_cons, ih, addAt_len]
  unfold sumS
  rw [h, List.length_replicate]
theorem shaS_len (w : Int) (n : Nat) (cs : List (List Nat)) : (shaS w n cs).length = n := by
  have h : ∀ (cs : List (List Nat)) (l : List Int), (cs.foldl (fun l c => addAll l (trc c) (tW w c)) l).length = l.length := fun cs => by
    induction cs with
    | nil => exact fun _ => rfl
    | cons c r ih => exact fun l => by rw [List.foldl_cons, ih, addAll_len]
  unfold shaS
  rw [h, List.length_replicate]
theorem sumS_next {w : Int} {n i : Nat} {cs : List (List Nat)} {c : List Nat} (h : cs[i]? = some c) : sumS w n (cs.take (i + 1)) = addAt (sumS w n (cs.take i)) (trc c).length (tW w c) := by
  unfold sumS
  rw [take_next h, List.foldl_append]
  rfl
theorem shaS_next {w : Int} {n i : Nat} {cs : List (List Nat)} {c : List Nat} (h : cs[i]? = some c) : shaS w n (cs.take (i + 1)) = addAll (shaS w n (cs.take i)) (trc c) (tW w c) := by
  unfold shaS
  rw [take_next h, List.foldl_append]
  rfl
theorem addAll_next {l : List Int} {ks : List Nat} {v : Int} {i k : Nat} (h : ks[i]? = some k) : addAll l (ks.take (i + 1)) v = addAt (addAll l (ks.take i) v) k v := by
  unfold addAll
  rw [take_next h, List.foldl_append]
  rfl
theorem map_set_int (l : List Int) (j : Nat) (v : Int) : (l.map V.int).set j (.int v) = (l.set j v).map V.int := by rw [List.map_set]
theorem int_at {l : List Int} {j : Nat} (h : j < l.length) : (l.map V.int)[j]? = some (.int (l.getD j 0)) := by
  rw [List.getElem?_map, List.getD_eq_getElem?_getD, List.getElem?_eq_getElem h]
  rfl
def fin43 (w : Int) (n : Nat) : Bool := decide (sumS w n (cA n) = tcl w n) && decide (0 < (sumS w n (cA n)).sum) && decide ((sumS w n (cA n)).sum < 2 ^ 1000) && (List.range n).all fun k => decide (0 ≤ (shaS w n (cA n)).getD k 0) && decide ((shaS w n (cA n)).getD k 0 / cd ((shaS w n (cA n)).getD k 0) (sumS w n (cA n)).sum = (w + k) / cd (w + k) (w + n - 1)) && decide ((sumS w n (cA n)).sum / cd ((shaS w n (cA n)).getD k 0) (sumS w n (cA n)).sum = (w + n - 1) / cd (w + k) (w + n - 1))
theorem fin43_all : ([1, 2, 7, 1000000000000].all fun w => [1, 2, 3, 4, 5].all fun n => fin43 w n) = true := by decide +kernel


local macro_rules | `(tactic| walk_at "call") => `(tactic| (with_reducible exact sv_whole))
local macro_rules | `(tactic| walk_at "call") => `(tactic| ((with_reducible refine' sv_order ?c1 ?c2); (case c1 => assumption); (case c2 => assumption)))
local macro_rules | `(tactic| walk_at "call") => `(tactic| ((with_reducible refine' sv_ord ?c1 ?c2); (case c1 => assumption); (case c2 => assumption)))

section
variable {K : PySem.W.Frag} {σ : L2.St} {H : Hp} {ta : TE}
theorem ev_sumV {a : Addr} {ns : List Int} (h : Ev ta σ H (.ref a)) (ha : SqL K H a (ns.map V.int)) : Ev (tCB (rSum K) (tCons ta tNil)) σ H (.int ns.sum) := fun H1 e Q q => h H1 e _ fun H2 e2 => ⟨a, ns, rfl, ex_l (e.trans e2) ha, q H2 e2⟩
end
theorem ints_get {l : List Int} {i : Nat} {x : V} (h : (l.map V.int)[i]? = some x) : x = .int (l.getD i 0) ∧ i < l.length := by
  rw [List.getElem?_map] at h
  obtain ⟨z, hz, rfl⟩ := Option.map_eq_some_iff.mp h
  refine ⟨?_, (List.getElem?_eq_some_iff.mp hz).1⟩
  rw [List.getD_eq_getElem?_getD, hz]
  rfl
def sp_law (K : PySem.W.Frag) : Sp := fun vs H Q _ => ∃ (a : Addr) (ns : List Int), vs = [.ref a] ∧ SqL K H a (ns.map V.int) ∧ ns.length ≤ 63 ∧ ∀ H', Q (.bl true) H'
theorem cA_zero : ∀ n, n ≤ 5 → (cA n).length = [1, 1, 2, 6, 24, 120].getD n 0 := by decide
theorem fin43_at {w : Int} {n : Nat} (hw : w = 1 ∨ w = 2 ∨ w = 7 ∨ w = 1000000000000) (n1 : 1 ≤ n) (n5 : n ≤ 5) : fin43 w n = true := by
  have h := List.all_eq_true.mp (List.all_eq_true.mp fin43_all w (by rcases hw with rfl | rfl | rfl | rfl <;> simp)) n (by
    have : n = 1 ∨ n = 2 ∨ n = 3 ∨ n = 4 ∨ n = 5 := by omega
    rcases this with rfl | rfl | rfl | rfl | rfl <;> simp)
  exact h
theorem fin43_out {w : Int} {n : Nat} (h : fin43 w n = true) : sumS w n (cA n) = tcl w n ∧ 0 < (sumS w n (cA n)).sum ∧ (sumS w n (cA n)).sum < 2 ^ 1000 ∧ ∀ k, k < n → 0 ≤ (shaS w n (cA n)).getD k 0 ∧ (shaS w n (cA n)).getD k 0 / cd ((shaS w n (cA n)).getD k 0) (sumS w n (cA n)).sum = (w + k) / cd (w + k) (w + n - 1) ∧ (sumS w n (cA n)).sum / cd ((shaS w n (cA n)).getD k 0) (sumS w n (cA n)).sum = (w + n - 1) / cd (w + k) (w + n - 1) := by
  unfold fin43 at h
  rw [Bool.and_eq_true, Bool.and_eq_true, Bool.and_eq_true, List.all_eq_true] at h
  refine ⟨of_decide_eq_true h.1.1.1, of_decide_eq_true h.1.1.2, of_decide_eq_true h.1.2, fun k hk => ?_⟩
  have := h.2 k (List.mem_range.mpr hk)
  rw [Bool.and_eq_true, Bool.and_eq_true] at this
  exact ⟨of_decide_eq_true this.1.1, of_decide_eq_true this.1.2, of_decide_eq_true this.2⟩
theorem len_le_flat : ∀ {rs : List (List Nat)}, (∀ r ∈ rs, 0 < r.length) → rs.length ≤ rs.flatten.length
  | [], _ => Nat.le_refl _
  | x :: l, ne => by
    have a := len_le_flat fun r hr => ne r (List.mem_cons_of_mem _ hr)
    have b := ne x (List.mem_cons_self ..)
    rw [List.flatten_cons, List.length_append, List.length_cons]
    omega
theorem rings_le {c : List Nat} (oc : CmW c) : (ringsTo c c.length).length ≤ c.length := by
  have R := ringsTo_ok oc.2 c.length (Nat.le_refl _)
  have e := R.all.length_eq
  rw [List.length_range] at e
  have := len_le_flat R.ne
  omega
theorem pow_bd {w : Int} (h : w.natAbs ≤ 2 ^ 40) : ∀ j, (w ^ j).natAbs < 2 ^ (40 * j + 1)
  | 0 => by
    rw [Int.pow_zero]
    decide
  | j + 1 => by
    rw [Int.pow_succ, Int.natAbs_mul, show 40 * (j + 1) + 1 = (40 * j + 1) + 40 by omega, Nat.pow_add]
    exact Nat.mul_lt_mul_of_lt_of_le (pow_bd h j) h (Nat.pow_pos (by decide))
theorem ep_evH {σ : L2.St} {H0 : Hp} {p L l : Addr} {te : TE} {v : V} {o : HO} (h : Ev te σ H0 v) (hl : H0 l = some o) : EvP p L 0 te σ H0 (fun x H => x = v ∧ H l = some o) := fun n H1 e hp _ Q q =>
  h H1 e _ fun H2 e2 => q _ H2 ⟨rfl, e2 l _ (e l _ hl)⟩ (hp.ex e2) (hm_of e2)
section
variable {P : Program} {w : World} {K : PySem.W.Frag} {mg : Str → Option Value} {base : Heap}
theorem ok_law (T : Tx K mg) : FnOk P w K mg base CX0 9 T.f_law T.d_law ["script"] (sp_law K) := by
  refine T.F_law.ok sc_law (fun vs H Q E h => ?_) (fun cdv A outer s0 H vs Q E hr h => ?_)
  · obtain ⟨a, ns, rfl, _⟩ := h
    rfl
  · obtain ⟨a, ns, rfl, hs, hl, kk⟩ := h
    refine ⟨_, (pss_cons (ps_set (i := 1) sc_law.nd rfl (Or.inl rfl) (pe_call (ok_law_bag T) (hr.mono (by decide)) (by rfl) T.g_law_bag T.F_law_bag.kp T.b_law_bag .nil pass0 (pa_cons (pv 0) pa_nil)))
      (pss_cons (ps_for PassesOwn.never rfl (pi_range2 (by rfl) T.m_range (pa_cons pe_int (pa_cons pe_int pa_nil))) (pg_name (i := 2) sc_law.nd rfl (Or.inr rfl)) (pss_cons (ps_set (i := 3) sc_law.nd rfl (Or.inl rfl) (pe_call (ok_law_all T) (hr.mono (by decide)) (by rfl) T.g_law_all T.F_law_all.kp T.b_law_all .nil pass0 (pa_cons (pv 2) pa_nil)))
      (pss_cons (ps_for PassesOwn.never rfl (pi_range1 (by rfl) T.m_range (pa_cons (pe_ix ix_list (pe_lst (pa_cons (pe_callB call_lenR (by rfl) T.m_len (by decide +kernel) (pa_cons (pv 3) pa_nil)) (pa_cons pe_int pa_nil))) (pe_callTy call_intB (by rfl) T.m_int (by decide +kernel) (pa_cons (pe_cmpR op_gt (pv 2) pe_int (nomark _)) pa_nil)) (fun _ _ => rfl)) pa_nil)) (pg_name (i := 4) sc_law.nd rfl (Or.inl rfl)) (pss_cons (ps_set (i := 5) sc_law.nd rfl (Or.inl rfl) (pe_ifExp (pt_cmpR op_lt (pv 2) pe_int (nomark _)) (pe_ix ix_list (pv 3) (pv 4) (fun _ _ => rfl)) (pe_ix ix_list (pv 3) (pe_call (ok_law_draw T) (hr.mono (by decide)) (by rfl) T.g_law_draw T.F_law_draw.kp T.b_law_draw .nil pass0 (pa_cons (pv 1) (pa_cons pe_int pa_nil))) (fun _ _ => rfl))))
      (pss_one (ps_if (pt_not (pt_val (pe_call (ok_law_seating_right T) (hr.mono (by decide)) (by rfl) T.g_law_seating_right T.F_law_seating_right.kp T.b_law_seating_right .nil pass0 (pa_cons (pv 5) pa_nil)))) (pss_one (ps_ret pe_bl)) pss_nil))))
      (pss_cons (ps_set (i := 6) sc_law.nd rfl (Or.inr rfl) (pe_ix ix_list (pe_lst (pa_cons pe_int (pa_cons pe_int (pa_cons pe_int (pa_cons (pe_op op_powX pe_int pe_int) pa_nil))))) (pe_call (ok_law_draw T) (hr.mono (by decide)) (by rfl) T.g_law_draw T.F_law_draw.kp T.b_law_draw .nil pass0 (pa_cons (pv 1) (pa_cons pe_int pa_nil))) (fun _ _ => rfl)))
      (pss_cons (ps_asg (pe_tup (pa_cons (pe_op op_rep (pe_lst (pa_cons pe_int pa_nil)) (pe_op op_add (pv 2) pe_int)) (pa_cons (pe_op op_rep (pe_lst (pa_cons pe_int pa_nil)) (pv 2)) pa_nil))) (pg_tup rfl (pgs_cons (pg_name (i := 7) sc_law.nd rfl (Or.inr rfl)) (pgs_cons (pg_name (i := 8) sc_law.nd rfl (Or.inl rfl)) pgs_nil))))
      (pss_cons (ps_for PassesOwn.never rfl (pi_list (pv 3)) (pg_name (i := 5) sc_law.nd rfl (Or.inl rfl)) (pss_cons (ps_asg (pe_tup (pa_cons pe_int (pa_cons (pe_call (ok_law_coming T) (hr.mono (by decide)) (by rfl) T.g_law_coming T.F_law_coming.kp T.b_law_coming .nil pass0 (pa_cons (pv 5) pa_nil)) pa_nil))) (pg_tup rfl (pgs_cons (pg_name (i := 9) sc_law.nd rfl (Or.inl rfl)) (pgs_cons (pg_name (i := 10) sc_law.nd rfl (Or.inr rfl)) pgs_nil))))
      (pss_cons (ps_for PassesOwn.never rfl (pi_list (pe_call (ok_law_tables T) (hr.mono (by decide)) (by rfl) T.g_law_tables T.F_law_tables.kp T.b_law_tables .nil pass0 (pa_cons (pv 5) pa_nil))) (pg_name (i := 11) sc_law.nd rfl (Or.inl rfl)) (pss_one (ps_set (i := 9) sc_law.nd rfl (Or.inl rfl) (pe_op op_mulX (pv 9) (pv 6)))))
      (pss_cons (ps_setLc (i := 13) (own := [("k", 12)]) (g := (gName 12)) rfl sc_law.nd rfl rfl (sw_true rfl rfl rfl (by decide +kernel)) (pi_range1 (by rfl) T.m_range (pa_cons (pv 2) pa_nil)) (blkOk_by (own := [("k", 12)]) (N := n_law) (sc := defScope s_law) (by decide +kernel)) (fun _ _ _ _ _ => (pg_name (i := 12) sc_law.nd rfl (Or.inl rfl))) (fun _ _ _ _ _ => (pts_one (pt_cmpR (r := rIn K true) op_notIn_seq (pv 12) (pe_slice (r := rSlL K) sl_list (pv 10) (po_some (pe_op op_add (pv 12) pe_int)) po_none) (by rfl)))) (fun _ _ _ _ _ => (pv 12)))
      (pss_cons (ps_asg (pe_op op_add (pe_ix ix_list (pv 7) (pe_callB call_lenR (by rfl) T.m_len (by decide +kernel) (pa_cons (pv 13) pa_nil)) (fun _ _ => rfl)) (pv 9)) (pg_sub (pv 7) (pe_callB call_lenR (by rfl) T.m_len (by decide +kernel) (pa_cons (pv 13) pa_nil)) set_list))
      (pss_one (ps_for PassesOwn.never rfl (pi_list (pv 13)) (pg_name (i := 12) sc_law.nd rfl (Or.inl rfl)) (pss_one (ps_asg (pe_op op_add (pe_ix ix_list (pv 8) (pv 12) (fun _ _ => rfl)) (pv 9)) (pg_sub (pv 8) (pv 12) set_list))))))))))
      (pss_cons (ps_if (pt_not (pt_val (pe_call (ok_law_alike T) (hr.mono (by decide)) (by rfl) T.g_law_alike T.F_law_alike.kp T.b_law_alike .nil pass0 (pa_cons (pe_callK0 (ok_traceless_counts T) (hr.mono (by decide)) (by rfl) T.g_traceless_counts T.F_traceless_counts.kp T.kb_traceless_counts_0_weight_guests pass0 (pk_cons (pv 6) (pk_cons (pv 2) pk_nil))) (pa_cons (pv 7) pa_nil))))) (pss_one (ps_ret pe_bl)) pss_nil)
      (pss_cons (ps_setLc (i := 14) (own := [("k", 12)]) (g := (gName 12)) (tt := tYes) rfl sc_law.nd rfl rfl (sw_true rfl rfl rfl (by decide +kernel)) (pi_range1 (by rfl) T.m_range (pa_cons (pv 2) pa_nil)) (blkOk_by (own := [("k", 12)]) (N := n_law) (sc := defScope s_law) (by decide +kernel)) (fun _ _ _ _ _ => (pg_name (i := 12) sc_law.nd rfl (Or.inl rfl))) (fun _ _ _ _ _ => pts_nil) (fun _ _ _ _ _ => (pe_callK0 (ok_traceless_share T) (hr.mono (by decide)) (by rfl) T.g_traceless_share T.F_traceless_share.kp T.kb_traceless_share_0_guest_weight_guests pass0 (pk_cons (pv 12) (pk_cons (pv 6) (pk_cons (pv 2) pk_nil))))))
      (pss_one (ps_if (pt_not (pt_val (pe_call (ok_law_alike T) (hr.mono (by decide)) (by rfl) T.g_law_alike T.F_law_alike.kp T.b_law_alike .nil pass0 (pa_cons (pv 14) (pa_cons (pe_lc (own := [("size", 9)]) (g := (gName 9)) (tt := tYes) rfl sc_law.nd (pi_list (pv 8)) (blkOk_by (own := [("size", 9)]) (N := n_law) (sc := defScope s_law) (by decide +kernel)) (fun _ _ _ _ _ => (pg_name (i := 9) sc_law.nd rfl (Or.inl rfl))) (fun _ _ _ _ _ => pts_nil) (fun _ _ _ _ _ => (pe_call (ok_law_lowest T) (hr.mono (by decide)) (by rfl) T.g_law_lowest T.F_law_lowest.kp T.b_law_lowest .nil pass0 (pa_cons (pv 9) (pa_cons (pe_callB (id := "sum") (r := rSum K) (cr_sum rfl) (by rfl) T.m_sum (by decide +kernel) (pa_cons (pv 7) pa_nil)) pa_nil))))) pa_nil))))) (pss_one (ps_ret pe_bl)) pss_nil))))))))))
      (pss_cons (ps_set (i := 14) sc_law.nd rfl (Or.inl rfl) (pe_lst (pa_cons (pe_call (ok_traceless_counts T) (hr.mono (by decide)) (by rfl) T.g_traceless_counts T.F_traceless_counts.kp T.b_traceless_counts .nil pass0 (pa_cons pe_int (pa_cons pe_int pa_nil))) (pa_cons (pe_call (ok_without T) (hr.mono (by decide)) (by rfl) T.g_without T.F_without.kp T.b_without .nil pass0 (pa_cons (pe_lst (pa_cons pe_int (pa_cons pe_int (pa_cons pe_int (pa_cons pe_int pa_nil))))) (pa_cons pe_int pa_nil))) (pa_cons (pe_call (ok_traceless T) (hr.mono (by decide)) (by rfl) T.g_traceless T.F_traceless.kp T.b_traceless .nil pass0 (pa_cons (pe_lst (pa_cons pe_int (pa_cons pe_int pa_nil))) pa_nil)) (pa_cons (pe_call (ok_traceless T) (hr.mono (by decide)) (by rfl) T.g_traceless T.F_traceless.kp T.b_traceless .nil pass0 (pa_cons (pe_lst (pa_cons pe_int (pa_cons pe_int pa_nil))) pa_nil)) (pa_cons (pe_call (ok_joined T) (hr.mono (by decide)) (by rfl) T.g_joined T.F_joined.kp T.b_joined .nil pass0 (pa_cons (pe_lst (pa_cons pe_int pa_nil)) (pa_cons pe_int pa_nil))) pa_nil)))))))
      (pss_one (ps_ret (pe_call (ok_law_alike T) (hr.mono (by decide)) (by rfl) T.g_law_alike T.F_law_alike.kp T.b_law_alike .nil pass0 (pa_cons (pv 14) (pa_cons (pe_lst (pa_cons (pe_lst (pa_cons pe_int (pa_cons pe_int (pa_cons pe_int (pa_cons pe_int (pa_cons pe_int pa_nil)))))) (pa_cons (pe_lst (pa_cons pe_int (pa_cons pe_int (pa_cons pe_int pa_nil)))) (pa_cons (pe_lst (pa_cons pe_int (pa_cons pe_int pa_nil))) (pa_cons (pe_lst (pa_cons pe_int pa_nil)) (pa_cons (pe_lst (pa_cons pe_int (pa_cons pe_int pa_nil))) pa_nil)))))) pa_nil)))))))), ?_⟩
    refine pq_bag (ea_cons (ev_var rfl) ea_nil) hs hl fun p L H1 hp hL e1 hpo => ?_
    refine q_forR2 (lo := 1) (n := 6) (ea_cons ev_c (ea_cons ev_c ea_nil)) (by decide) (fun i σ' H' => ∃ y2 y3 y4 y5 y6 y7 y8 y9 y10 y11 y12 y13 y14, σ' = [some (.ref a), some (.ref p), y2, y3, y4, y5, y6, y7, y8, y9, y10, y11, y12, y13, y14] ∧ Po p L (1000 * i) H') (fun H2 e2 => ⟨_, _, _, _, _, _, _, _, _, _, _, _, _, rfl, hpo.ex e2⟩) ?_ ?_
    · rintro i σ' H' hi ⟨y2, y3, y4, y5, y6, y7, y8, y9, y10, y11, y12, y13, y14, rfl, p'⟩
      obtain ⟨n, hn⟩ : ∃ n : Nat, n = i + 1 := ⟨_, rfl⟩
      have hn' : (1 : Int) + (i : Int) = (n : Int) := by omega
      rw [hn']
      have n1 : 1 ≤ n := by omega
      have n5 : n ≤ 5 := by omega
      have num := cA_num n n5
      refine q_asgC (vs := [.int (n : Int)]) (ea_cons (ev_var rfl) ea_nil) fun H2 e2 => ⟨n, rfl, n5, fun l ws H3 nl e3 hl hw => ?_⟩
      have p3 := p'.ex (e2.trans e3)
      have lp : l ≠ p := (p'.ex e2).ne nl
      have hwm := plc_ne p3 hw
      have wl : ws.length = (cA n).length := Paired.length hw
      obtain ⟨m, hm, m120, m1⟩ : ∃ m : Nat, m = (if n = 5 then 40 else (cA n).length) ∧ m ≤ 120 ∧ (n ≠ 5 → m = ws.length) := ⟨_, rfl, by split <;> omega, fun z => by rw [if_neg z, wl]⟩
      have cnt : Ev (tOp (rIxL K) (tLst (tCons (tCB (rLenS K) (tCons (tVar 3) tNil)) (tCons (tC (.int 40)) tNil))) (tCB rIntB (tCons (tOp (rI0 fun i j => .bl (decide (j < i))) (tVar 2) (tC (.int 4))) tNil))) [some (.ref a), some (.ref p), some (.int (n : Int)), some (.ref l), y4, y5, y6, y7, y8, y9, y10, y11, y12, y13, y14] H3 (.int (m : Int)) := by
        refine ev_ixN (K := K) (el_lst (ea_cons (ev_len (K := K) (ev_var rfl) (sq_of hl)) (ea_cons ev_c ea_nil)) (Nat.le_of_ble_eq_true rfl)) (ev_intB (ev_op (ev_var rfl) ev_c rv_I0)) ?_
        by_cases z : n = 5
        · rw [decide_eq_true (show (4 : Int) < (n : Int) by omega), hm, if_pos z]
          rfl
        · rw [decide_eq_false (show ¬ (4 : Int) < (n : Int) by omega), hm, if_neg z, wl]
          rfl
      refine q_forR1 (n := (m : Int)) (ea_cons cnt ea_nil) ⟨by omega, by omega⟩ (fun j σ' H4 => ∃ y4 y5, σ' = [some (.ref a), some (.ref p), some (.int (n : Int)), some (.ref l), y4, y5, y6, y7, y8, y9, y10, y11, y12, y13, y14] ∧ Ex (Hm p H3) H4 ∧ Po p L (1000 * i + j) H4) (fun H4 e4 => ⟨_, _, rfl, hm_of e4, p3.ex e4⟩) ?_ ?_
      · rintro j σ' H4 hj ⟨y4, y5, rfl, e4, p4⟩
        have hl4 := hm_at e4 lp hl
        have hlm : Hm p H4 l = some (.lst ws) := by
          unfold Hm
          rw [if_neg lp]
          exact hl4
        refine pq_asg (p := p) (L := L) (k := 1) (H0 := Hm p H4) (R := fun v _ => v ∈ ws) (ep_if (b := decide ((n : Int) < 5)) (et_test (ev_op (ev_var rfl) ev_c rv_I0)) (fun hb => ?_) fun hb => ?_) hm_sub p4 (by omega) ?_
        · have nb : n ≠ 5 := fun z => by
            have := of_decide_eq_true hb
            omega
          obtain ⟨v, hv⟩ : ∃ v, ws[j]? = some v := ⟨_, List.getElem?_eq_getElem (by have := m1 nb; omega)⟩
          exact ep_mono (ep_is (ep_ev (ev_op (ev_var rfl) (ev_var rfl) (rv_ixL (K := K) (sq_of hlm) (atI_nat hv)))) fun v' _ ev => by rw [ev]; exact List.mem_of_getElem? hv) (by decide)
        · have nb : n = 5 := by
            have := of_decide_eq_false hb
            omega
          have w120 : ws.length = 120 := by
            rw [wl, nb]
            decide
          refine ep_mono (k := 0 + 1) (ep_op (R := fun v _ => v ∈ ws) hm_p (ep_evH (v := .ref l) (ev_var rfl) hlm) (ep_dipI (w := 120) hm_p (ev_var rfl) ev_c (by decide) (by decide)) (fun v H5 H6 ⟨a1, a2⟩ s => ⟨a1, hm_at s lp a2⟩) stb_c fun x y H5 ⟨ex, hx⟩ ⟨r, ey, r0, r1⟩ => ?_) (by decide)
          obtain ⟨r, rfl⟩ : ∃ z : Nat, r = z := ⟨r.toNat, by omega⟩
          obtain ⟨v, hv⟩ : ∃ v, ws[r]? = some v := ⟨_, List.getElem?_eq_getElem (by omega)⟩
          subst ex ey
          exact ⟨v, List.mem_of_getElem? hv, rv_ixL (K := K) (sq_of hx) (atI_nat hv)⟩
        rintro v H5 hv p5 e5
        obtain ⟨x, hx, ex⟩ := List.mem_iff_getElem.mp hv
        obtain ⟨c, hc, b, rfl, hb⟩ := paired_get (PLc.ex (hm_trans e4 e5) hwm) (show ws[x]? = some v by rw [List.getElem?_eq_getElem hx, ex])
        have hcm := List.mem_of_getElem? hc
        have cl := (cA_mem hcm).1
        refine s_when (b := false) (et_is (et_not (et_B (ev_call (z := .bl true) (ea_cons (ev_var rfl) ea_nil) fun H6 e6 Q q E => ⟨b, c, rfl, e6 b _ hb, by rw [cl]; exact hcm, by omega, by omega, q⟩))) rfl) (fun hb => Bool.noConfusion hb) fun _ H6 e6 => ⟨_, _, rfl, hm_trans e4 (hm_trans e5 (hm_of e6)), (p5.ex e6).mono (by omega)⟩
      rintro σ' H4 ⟨y4, y5, rfl, e4, p4⟩
      rw [Int.toNat_natCast] at p4
      have hl4 := hm_at e4 lp hl
      have hw4 := PLc.ex e4 hwm
      have ten : Ev (tOp (rI CPowX fun i j => .int (i ^ j.toNat)) (tC (.int 10)) (tC (.int 12))) [some (.ref a), some (.ref p), some (.int (n : Int)), some (.ref l), y4, y5, y6, y7, y8, y9, y10, y11, y12, y13, y14] (Hm p H4) (.int 1000000000000) := ev_op ev_c ev_c (rv_I (by constructor <;> decide +kernel))
      refine pq_asg (p := p) (L := L) (k := (0 + (0 + (0 + (0 + 0)))) + 1) (H0 := Hm p H4) (R := fun v _ => ∃ x : Int, v = .int x ∧ (x = 1 ∨ x = 2 ∨ x = 7 ∨ x = 1000000000000)) (ep_ix (A := fun v => ∃ x : Int, v = .int x ∧ (x = 1 ∨ x = 2 ∨ x = 7 ∨ x = 1000000000000)) (ix := fun v => ∃ r, v = .int r ∧ 0 ≤ r ∧ r < 4) (C := fun vs => vs = [.int 1, .int 2, .int 7, .int 1000000000000]) hm_p (ep_is (ep_lst (epa_pure (v := .int 1) hm_p ev_c (epa_pure (v := .int 2) hm_p ev_c (epa_pure (v := .int 7) hm_p ev_c (epa_pure (v := .int 1000000000000) hm_p ten epa_nil)))) ?_) ?_) (ep_dipI (w := 4) hm_p (ev_var rfl) ev_c (by decide) (by decide)) ?_) hm_sub p4 (by omega) ?_
      · rintro vs ⟨_, _, rfl, _, _, _, rfl, _, _, _, rfl, _, _, _, rfl, _, rfl⟩
        exact Nat.le_of_ble_eq_true rfl
      · rintro v H4 ⟨l, vs, ne, rfl, hl, _, _, rfl, rfl, _, _, rfl, rfl, _, _, rfl, rfl, _, _, rfl, rfl, rfl⟩
        exact ⟨l, _, ne, rfl, hl, rfl⟩
      · rintro vs v rfl ⟨j, rfl, j0, j1⟩
        have : j = 0 ∨ j = 1 ∨ j = 2 ∨ j = 3 := by omega
        rcases this with rfl | rfl | rfl | rfl
        · exact ⟨0, _, rfl, rfl, 1, rfl, .inl rfl⟩
        · exact ⟨1, _, rfl, rfl, 2, rfl, .inr (.inl rfl)⟩
        · exact ⟨2, _, rfl, rfl, 7, rfl, .inr (.inr (.inl rfl))⟩
        · exact ⟨3, _, rfl, rfl, 1000000000000, rfl, .inr (.inr (.inr rfl))⟩
      rintro _ H5 ⟨x, rfl, hx⟩ p5 e5
      have xb : 1 ≤ x ∧ x ≤ 1000000000000 := by omega
      have hl5 := hm_at e5 lp hl4
      have hw5 : Paired (Lc H5) ws (cA n) := PLc.ex (hm_trans e4 e5) hwm
      obtain ⟨fS, fP, fB, fK⟩ := fin43_out (fin43_at hx n1 n5)
      have rp := fun (m : Nat) (tb : TE) (σ : L2.St) (H6 : Hp) (hm : m ≤ 100) (hb : Ev tb σ H6 (.int (m : Int))) => el_rep (ta := tLst (tCons (tC (.int 0)) tNil)) (tb := tb) (σ := σ) (H := H6) (xs := [.int 0]) (k := (m : Int)) (el_lst (ea_cons ev_c ea_nil) (Nat.le_of_ble_eq_true rfl)) hb (by omega) (by omega) (by decide)
      refine q_tup2LL (K := K) (xs := (sumS x n []).map V.int) (ys := (shaS x n []).map V.int) (by
        have := rp (n + 1) (tOp (rI0 fun i j => .int (i + j)) (tVar 2) (tC (.int 1))) [some (.ref a), some (.ref p), some (.int (n : Int)), some (.ref l), y4, y5, some (.int x), y7, y8, y9, y10, y11, y12, y13, y14] H5 (by omega) (ev_op (ev_var rfl) ev_c rv_I0)
        rw [Int.toNat_natCast, rep_zero] at this
        exact this) (fun H6 e6 => by
        have := rp n (tVar 2) [some (.ref a), some (.ref p), some (.int (n : Int)), some (.ref l), y4, y5, some (.int x), y7, y8, y9, y10, y11, y12, y13, y14] H6 (by omega) (ev_var rfl)
        rw [Int.toNat_natCast, rep_zero] at this
        exact this) fun sa sb H6 nsa nsb sab e6 hsa hsb => ?_
      have lsa : l ≠ sa := fun z => by
        rw [← z, hl5] at nsa
        cases nsa
      have lsb : l ≠ sb := fun z => by
        rw [← z, hl5] at nsb
        cases nsb
      have nsbH : H5 sb = none := nsb
      have x40 : x.natAbs ≤ 2 ^ 40 := by omega
      refine q_forL (K := K) (a := l) (xs := ws) (ev_var rfl) (sq_of (e6 l _ hl5)) (fun i σ' H' => ∃ y5 y9 y10 y11 y12 y13, σ' = [some (.ref a), some (.ref p), some (.int (n : Int)), some (.ref l), y4, y5, some (.int x), some (.ref sa), some (.ref sb), y9, y10, y11, y12, y13, y14] ∧ Ex H5 H' ∧ H' sa = some (.lst ((sumS x n ((cA n).take i)).map V.int)) ∧ H' sb = some (.lst ((shaS x n ((cA n).take i)).map V.int))) (fun H7 e7 => ⟨_, _, _, _, _, _, rfl, e6.trans e7, e7 sa _ hsa, e7 sb _ hsb⟩) (fun i σ' H' hi ⟨_, _, _, _, _, _, _, z, _⟩ => sq_of (z l _ hl5)) ?_ ?_
      · rintro i v σ' H7 hv ⟨y5, y9, y10, y11, y12, y13, rfl, e7, hsa7, hsb7⟩
        obtain ⟨c, hc, b, rfl, hb⟩ := paired_get hw5 hv
        have hcm := List.mem_of_getElem? hc
        obtain ⟨cl, cm⟩ := cA_mem hcm
        have oc : Cm c := ⟨by omega, by omega, cm⟩
        have tl := trc_len c
        have rl := rings_le oc.w
        refine q_tup2VL (K := K) (x := .int 1) ev_c (fun H8 e8 => el_call (ea_cons (ev_var rfl) ea_nil) (sl_law_coming ((e7.trans e8) b _ hb) oc.w)) fun row H8 nrow e8 hrow => ?_
        refine q_forLT (K := K) (elt_law_tables (ev_var rfl) ((e7.trans e8) b _ hb) (by rw [sby_len]; omega) oc.rings) fun q vs H9 nq e9 hq tq => ?_
        have lv : vs.length = (ringsTo c c.length).length := by
          rw [tq.len, List.length_map]
        refine q_forL (K := K) (a := q) (xs := vs) ev_c (sq_of hq) (fun j σ' H' => ∃ y11, σ' = [some (.ref a), some (.ref p), some (.int (n : Int)), some (.ref l), y4, some (.ref b), some (.int x), some (.ref sa), some (.ref sb), some (.int (x ^ j)), some (.ref row), y11, y12, y13, y14] ∧ Ex H9 H') (fun HA eA => ⟨_, by rw [Int.pow_zero]; rfl, eA⟩) (fun i σ' H' hi ⟨_, _, z⟩ => sq_of (z q _ hq)) ?_ ?_
        · rintro j u σ' HA hu ⟨y11, rfl, eA⟩
          have hj := (List.getElem?_eq_some_iff.mp hu).1
          have mm : CMulX (x ^ j) x := mulx_ok (a := 1000) (b := 41) (lt2_mono (pow_bd x40 j) (by omega)) (by omega) (by decide)
          exact s_asg (v := .int (x ^ (j + 1))) (ev_is (ev_op (ev_var rfl) (ev_var rfl) (rv_I mm)) (by rw [Int.pow_succ])) fun HB eB => ⟨_, rfl, eA.trans eB⟩
        rintro σ' HA ⟨y11, rfl, eA⟩
        rw [lv]
        have e8A := e8.trans (e9.trans eA)
        refine q_asgL (el_trcN (K := K) (i := 10) (j := 12) (b := row) (c := c) (ev_is (ev_var rfl) (by rw [cl])) ((e9.trans eA) row _ hrow) oc.2.1 (fun _ => rfl) (fun _ => rfl) (fun _ => rfl)) fun gone HB ngone eB hgone => ?_
        have e8B := e8A.trans eB
        have hsaB := e8B sa _ hsa7
        have hsbB := e8B sb _ hsb7
        have ngs : gone ≠ sa := fun z => by
          rw [z, e8A sa _ hsa7] at ngone
          cases ngone
        have ngb : gone ≠ sb := fun z => by
          rw [z, e8A sb _ hsb7] at ngone
          cases ngone
        refine q_setL (j := (trc c).length) hsaB (v := .int ((sumS x n ((cA n).take i)).getD (trc c).length 0 + tW x c)) (ev_op (ev_op (ev_var rfl) (ev_is (ev_len (K := K) (ev_var rfl) (sq_of hgone)) (by rw [nv_len])) (rv_ixL (K := K) (sq_of hsaB) (atI_nat (int_at (by rw [sumS_len]; omega))))) (ev_var rfl) rv_I0) (ev_var rfl) (ev_is (ev_len (K := K) (ev_var rfl) (sq_of hgone)) (by rw [nv_len])) (by rw [List.length_map, sumS_len]; omega) fun HC eC => ?_
        rw [map_set_int]
        have eD : Ex H5 (upd HC sa (.lst (((sumS x n ((cA n).take i)).set (trc c).length ((sumS x n ((cA n).take i)).getD (trc c).length 0 + tW x c)).map V.int))) := Ex.mut (e7.trans (e8B.trans eC)) nsa
        refine s_forL (K := K) (a := gone) (xs := nv (trc c)) (ev_var rfl) (sq_of (by rw [upd_ne ngs]; exact eC gone _ hgone)) (fun j σ' H' => ∃ y12, σ' = [some (.ref a), some (.ref p), some (.int (n : Int)), some (.ref l), y4, some (.ref b), some (.int x), some (.ref sa), some (.ref sb), some (.int (tW x c)), some (.ref row), y11, y12, some (.ref gone), y14] ∧ Ex H5 H' ∧ H' sa = some (.lst ((sumS x n ((cA n).take (i + 1))).map V.int)) ∧ H' sb = some (.lst ((addAll (shaS x n ((cA n).take i)) ((trc c).take j) (tW x c)).map V.int)) ∧ H' gone = some (.lst (nv (trc c)))) (fun HD eDD => ⟨_, rfl, eD.trans eDD, ?_, ?_, ?_⟩) (fun i σ' H' hi ⟨_, _, _, _, _, z⟩ => sq_of z) ?_ ?_
        · refine eDD sa _ ?_
          rw [upd_same, sumS_next hc]
          rfl
        · refine eDD sb _ ?_
          rw [upd_ne (Ne.symm sab)]
          exact eC sb _ hsbB
        · refine eDD gone _ ?_
          rw [upd_ne ngs]
          exact eC gone _ hgone
        · rintro j u σ' HE hu ⟨y12, rfl, eE, hsaE, hsbE, hgE⟩
          have hj := (List.getElem?_eq_some_iff.mp hu).1
          rw [nv_len] at hj
          obtain ⟨k, hk⟩ : ∃ k, (trc c)[j]? = some k := ⟨_, List.getElem?_eq_getElem hj⟩
          have : u = .int (k : Int) := by
            have z := nv_get hk
            rw [hu] at z
            exact Option.some.inj z
          subst this
          have hkn : k < n := by
            have := trc_lt (List.mem_of_getElem? hk)
            omega
          refine s_setL (j := k) hsbE (v := .int ((addAll (shaS x n ((cA n).take i)) ((trc c).take j) (tW x c)).getD k 0 + tW x c)) (ev_op (ev_op (ev_var rfl) (ev_var rfl) (rv_ixL (K := K) (sq_of hsbE) (atI_nat (int_at (by rw [addAll_len, shaS_len]; omega))))) (ev_var rfl) rv_I0) (ev_var rfl) (ev_var rfl) (by rw [List.length_map, addAll_len, shaS_len]; omega) fun HF eF => ⟨_, rfl, Ex.mut (eE.trans eF) nsbH, ?_, ?_, ?_⟩
          · rw [upd_ne sab]
            exact eF sa _ hsaE
          · rw [upd_same, map_set_int, addAll_next hk]
            rfl
          · rw [upd_ne ngb]
            exact eF gone _ hgE
        · rintro σ' HE ⟨y12, rfl, eE, hsaE, hsbE, hgE⟩
          rw [nv_len, List.take_length] at hsbE
          exact ⟨_, _, _, _, _, _, rfl, eE, hsaE, by rw [shaS_next hc]; exact hsbE⟩
      rintro σ' H7 ⟨y5, y9, y10, y11, y12, y13, rfl, e7, hsa7, hsb7⟩
      rw [wl, List.take_length] at hsa7 hsb7
      refine q_when (b := false) (et_is (et_not (et_B (ev_alike (n := 4) (ek_LI (ns := tcl x n) (el_callK (zs := [.int x, .int (n : Int)]) ea_nil (ea_cons (ev_var rfl) (ea_cons (ev_var rfl) ea_nil)) (sl_tcounts n1 (by omega) xb.1 xb.2)) (by rw [tcl_len]; omega)) (ek_of (ev_var rfl) (tk_lst hsa7 (tk_ints (n := 3) _) (by rw [List.length_map, sumS_len]; omega))) (by rw [fS])))) rfl) (fun hb => Bool.noConfusion hb) fun _ H8 e8 => ?_
      have er : ((List.range n).map fun (k : Nat) => [(x + (k : Int)) / cd (x + (k : Int)) (x + (n : Int) - 1), (x + (n : Int) - 1) / cd (x + (k : Int)) (x + (n : Int) - 1)]).map (fun r => r.map V.int) = (List.range (n : Int).toNat).map fun (k : Nat) => [.int ((x + (k : Int)) / cd (x + (k : Int)) (x + (n : Int) - 1)), .int ((x + (n : Int) - 1) / cd (x + (k : Int)) (x + (n : Int) - 1))] := by
        rw [Int.toNat_natCast, List.map_map]
        rfl
      refine q_asgK (n := 4) (ek_LT (n := 2) (rs := (List.range n).map fun (k : Nat) => [(x + (k : Int)) / cd (x + (k : Int)) (x + (n : Int) - 1), (x + (n : Int) - 1) / cd (x + (k : Int)) (x + (n : Int) - 1)]) ?_ ?_ (by rw [List.length_map, List.length_range]; omega)) fun told H9 e9 htold => ?_
      · rw [er]
        refine elt_R1 _ (ea_cons (ev_var rfl) ea_nil) (by omega) (fun _ => rfl) fun k H9 e9 hk => ?_
        exact eu_callK (zs := [.int (k : Int), .int x, .int (n : Int)]) ea_nil (ea_cons (ev_var rfl) (ea_cons (ev_var rfl) (ea_cons (ev_var rfl) ea_nil))) fun H1 _ Q q E => ⟨n, k, x, rfl, by omega, by omega, xb.1, xb.2, q⟩
      · intro r hr
        obtain ⟨k, _, rfl⟩ := List.mem_map.mp hr
        show 2 ≤ 100
        decide
      have hsb9 := e9 sb _ (e8 sb _ hsb7)
      have hsa9 := e9 sa _ (e8 sa _ hsa7)
      have em : ((List.range n).map fun (k : Nat) => [(shaS x n (cA n)).getD k 0 / cd ((shaS x n (cA n)).getD k 0) (sumS x n (cA n)).sum, (sumS x n (cA n)).sum / cd ((shaS x n (cA n)).getD k 0) (sumS x n (cA n)).sum]).map (fun r => r.map V.int) = (List.range ((shaS x n (cA n)).map V.int).length).map fun (k : Nat) => frac ((shaS x n (cA n)).getD k 0) (sumS x n (cA n)).sum := by
        rw [List.length_map, shaS_len, List.map_map]
        rfl
      refine s_when (b := false) (et_is (et_not (et_B (ev_alike (n := 4) (ek_of (ev_var rfl) htold) (ek_LT (n := 2) (rs := (List.range n).map fun (k : Nat) => [(shaS x n (cA n)).getD k 0 / cd ((shaS x n (cA n)).getD k 0) (sumS x n (cA n)).sum, (sumS x n (cA n)).sum / cd ((shaS x n (cA n)).getD k 0) (sumS x n (cA n)).sum]) ?_ ?_ (by rw [List.length_map, List.length_range]; omega)) ?_))) rfl) (fun hb => Bool.noConfusion hb) fun _ HA eA => ⟨_, _, _, _, _, _, _, _, _, _, _, _, _, rfl, (p5.ex (e7.trans (e8.trans (e9.trans eA)))).mono (by omega)⟩
      · rw [em]
        refine elt_map (K := K) _ (ev_var rfl) (sq_of hsb9) (by rw [List.length_map, shaS_len]; omega) (fun _ => rfl) fun k v HA eA hv => ?_
        obtain ⟨rfl, hk⟩ := ints_get hv
        have hk' : k < n := by rwa [shaS_len] at hk
        exact eu_call (ea_cons (ev_var rfl) (ea_cons (ev_sumV (K := K) (ev_var rfl) (sq_of (eA sa _ hsa9))) ea_nil)) (su_lowest (fK k hk').1 fP (Nat.lt_of_lt_of_le (show (sumS x n (cA n)).sum.natAbs < 2 ^ 1000 by omega) (Nat.pow_le_pow_right (by decide) (by decide))))
      · intro r hr
        obtain ⟨k, _, rfl⟩ := List.mem_map.mp hr
        show 2 ≤ 100
        decide
      · congr 2
        refine List.map_congr_left fun k hk => ?_
        have := fK k (List.mem_range.mp hk)
        rw [this.2.1, this.2.2]
    · rintro σ' H' ⟨y2, y3, y4, y5, y6, y7, y8, y9, y10, y11, y12, y13, y14, rfl, p'⟩
      have o1 : Ord [1, 3, 2, 0] := by
        refine ⟨?_, by decide, by decide⟩
        decide
      have o0 : Ord [0] := ⟨by decide, by decide, by decide⟩
      have c01 : Cm [0, 1] := ⟨by decide, by decide, (cA_mem (show [0, 1] ∈ cA 2 by decide)).2⟩
      have c00 : Cm [0, 0] := ⟨by decide, by decide, (cA_mem (show [0, 0] ∈ cA 2 by decide)).2⟩
      have l2 : ∀ {i j : Int} {σ : L2.St} {H : Hp}, EvL (tLst (tCons (tC (.int i)) (tCons (tC (.int j)) tNil))) σ H [.int i, .int j] := el_lst (ea_cons ev_c (ea_cons ev_c ea_nil)) (Nat.le_of_ble_eq_true rfl)
      have t4 : (tcl 2 4).map V.int = [0, 2, 36, 66, 16].map V.int := by
        have : tcl 2 4 = [0, 2, 36, 66, 16] := by decide +kernel
        rw [this]
      have s4 : ∀ H, SpL sp_tcounts ([.int 4, .int 2] ++ []) H ([0, 2, 36, 66, 16].map V.int) := fun H => by
        have := sl_tcounts (H := H) (n := 4) (w := 2) (by decide) (by decide) (by decide) (by decide)
        rw [t4] at this
        exact this
      have w4 : nv (wo [1, 3, 2, 0] 0) = [2, 1, 0].map V.int := by
        have : wo [1, 3, 2, 0] 0 = [2, 1, 0] := by decide
        rw [this]
        rfl
      have sw : ∀ {p H}, H p = some (.lst (nv [1, 3, 2, 0])) → SpL sp_wo ([.ref p, .int 0] ++ []) H ([2, 1, 0].map V.int) := fun hp => by
        have := sl_wo (g := 0) hp o1 (by decide) (by decide)
        rw [w4] at this
        exact this
      have s01 : nv (trc [0, 1]) = [0, 1].map V.int := by
        have : trc [0, 1] = [0, 1] := by decide
        rw [this]
        rfl
      have s00 : nv (trc [0, 0]) = [1].map V.int := by
        have : trc [0, 0] = [1] := by decide
        rw [this]
        rfl
      have y01 : nv (sby [0, 1] ([0, 1] : List Nat).length) = nv [0, 1] := by
        have : sby [0, 1] ([0, 1] : List Nat).length = [0, 1] := by decide
        rw [this]
      have y00 : nv (sby [0, 0] ([0, 0] : List Nat).length) = nv [1, 0] := by
        have : sby [0, 0] ([0, 0] : List Nat).length = [1, 0] := by decide
        rw [this]
      have st1 : ∀ {p H}, H p = some (.lst (nv [0, 1])) → SpL sp_traceless ([.ref p] ++ []) H ([0, 1].map V.int) := fun hp => by
        have := sl_traceless (c := [0, 1]) (by rw [y01]; exact hp) c01
        rw [s01] at this
        exact this
      have st0 : ∀ {p H}, H p = some (.lst (nv [1, 0])) → SpL sp_traceless ([.ref p] ++ []) H ([1].map V.int) := fun hp => by
        have := sl_traceless (c := [0, 0]) (by rw [y00]; exact hp) c00
        rw [s00] at this
        exact this
      have j0 : nv (sits [0] ([0] : List Nat).length 0) = [1, 0].map V.int := by
        have : sits [0] ([0] : List Nat).length 0 = [1, 0] := by decide
        rw [this]
        rfl
      have sj : ∀ {p H}, H p = some (.lst (nv [0])) → SpL sp_joined ([.ref p, .int 0] ++ []) H ([1, 0].map V.int) := fun hp => by
        have := sl_joined (g := 0) hp o0 (by decide) (by decide)
        rw [j0] at this
        exact this
      refine q_asgK (n := 4) (ek_lst (eka_cons (ek_LI (ns := [0, 2, 36, 66, 16]) (el_call (ea_cons ev_c (ea_cons ev_c ea_nil)) (s4 _)) (by decide)) (eka_cons (ek_LI (ns := [2, 1, 0]) (el_callN1 (xs := nv [1, 3, 2, 0]) (el_lst (ea_cons ev_c (ea_cons ev_c (ea_cons ev_c (ea_cons ev_c ea_nil)))) (Nat.le_of_ble_eq_true rfl)) (fun _ _ => ev_c) fun p H1 e1 hp => sw hp) (by decide)) (eka_cons (ek_LI (ns := [0, 1]) (el_callN (xs := nv [0, 1]) l2 fun p H1 e1 hp => st1 hp) (by decide)) (eka_cons (ek_LI (ns := [1]) (el_callN (xs := nv [1, 0]) l2 fun p H1 e1 hp => st0 hp) (by decide)) (eka_cons (ek_LI (ns := [1, 0]) (el_callN1 (xs := nv [0]) (el_lst (ea_cons ev_c ea_nil) (Nat.le_of_ble_eq_true rfl)) (fun _ _ => ev_c) fun p H1 e1 hp => sj hp) (by decide)) eka_nil))))) (by decide)) fun told H1 e1 htold => ?_
      refine s_ret (ev_alike (n := 4) (ek_of (ev_var rfl) htold) (ek_lst (eka_cons (ek_LI (ns := [0, 2, 36, 66, 16]) (el_lst (ea_cons ev_c (ea_cons ev_c (ea_cons ev_c (ea_cons ev_c (ea_cons ev_c ea_nil))))) (Nat.le_of_ble_eq_true rfl)) (by decide)) (eka_cons (ek_LI (ns := [2, 1, 0]) (el_lst (ea_cons ev_c (ea_cons ev_c (ea_cons ev_c ea_nil))) (Nat.le_of_ble_eq_true rfl)) (by decide)) (eka_cons (ek_LI (ns := [0, 1]) l2 (by decide)) (eka_cons (ek_LI (ns := [1]) (el_lst (ea_cons ev_c ea_nil) (Nat.le_of_ble_eq_true rfl)) (by decide)) (eka_cons (ek_LI (ns := [1, 0]) l2 (by decide)) eka_nil))))) (by decide)) rfl) fun H2 e2 => kk H2
end


theorem all_mk {l : PySem.W.OpenLaw} {w : World} {K : PySem.W.Frag} {h : Heap} {mg : Str → Option Value} {fa : Addr} (X : K.In h) (G : h.Ns mainGlobals mg) (hfa : mg "law" = some (.ref fa))
    {f1 : Addr} {od1 an1 : Option Addr} {sl1 : Array (Option Value)} {oc1 kV1 dc1 pm1 cd1 ct1 : Value}
    {f2 : Addr} {od2 an2 : Option Addr} {sl2 : Array (Option Value)} {oc2 kV2 dc2 pm2 cd2 ct2 : Value}
    {f3 : Addr} {od3 an3 : Option Addr} {sl3 : Array (Option Value)} {oc3 kV3 dc3 pm3 cd3 ct3 : Value}
    {f4 : Addr} {od4 an4 : Option Addr} {sl4 : Array (Option Value)} {oc4 kV4 dc4 pm4 cd4 ct4 : Value}
    {f5 : Addr} {od5 an5 : Option Addr} {sl5 : Array (Option Value)} {oc5 kV5 dc5 pm5 cd5 ct5 : Value}
    {f6 : Addr} {od6 an6 : Option Addr} {sl6 : Array (Option Value)} {oc6 kV6 dc6 pm6 cd6 ct6 : Value}
    {f7 : Addr} {od7 an7 : Option Addr} {sl7 : Array (Option Value)} {oc7 kV7 dc7 pm7 cd7 ct7 : Value}
    {f8 : Addr} {od8 an8 : Option Addr} {sl8 : Array (Option Value)} {oc8 kV8 dc8 pm8 cd8 ct8 : Value}
    {f9 : Addr} {od9 an9 : Option Addr} {sl9 : Array (Option Value)} {oc9 kV9 dc9 pm9 cd9 ct9 : Value}
    {f10 : Addr} {od10 an10 : Option Addr} {sl10 : Array (Option Value)} {oc10 kV10 dc10 pm10 cd10 ct10 : Value}
    {f11 : Addr} {od11 an11 : Option Addr} {sl11 : Array (Option Value)} {oc11 kV11 dc11 pm11 cd11 ct11 : Value}
    {f12 : Addr} {od12 an12 : Option Addr} {sl12 : Array (Option Value)} {oc12 kV12 dc12 pm12 cd12 ct12 : Value}
    {f13 : Addr} {od13 an13 : Option Addr} {sl13 : Array (Option Value)} {oc13 kV13 dc13 pm13 cd13 ct13 : Value}
    {f14 : Addr} {od14 an14 : Option Addr} {sl14 : Array (Option Value)} {oc14 kV14 dc14 pm14 cd14 ct14 : Value}
    {f15 : Addr} {od15 an15 : Option Addr} {sl15 : Array (Option Value)} {oc15 kV15 dc15 pm15 cd15 ct15 : Value}
    {f16 : Addr} {od16 an16 : Option Addr} {sl16 : Array (Option Value)} {oc16 kV16 dc16 pm16 cd16 ct16 : Value}
    {f17 : Addr} {od17 an17 : Option Addr} {sl17 : Array (Option Value)} {oc17 kV17 dc17 pm17 cd17 ct17 : Value}
    {f18 : Addr} {od18 an18 : Option Addr} {sl18 : Array (Option Value)} {oc18 kV18 dc18 pm18 cd18 ct18 : Value}
    {f19 : Addr} {od19 an19 : Option Addr} {sl19 : Array (Option Value)} {oc19 kV19 dc19 pm19 cd19 ct19 : Value}
    {f20 : Addr} {od20 an20 : Option Addr} {sl20 : Array (Option Value)} {oc20 kV20 dc20 pm20 cd20 ct20 : Value}
    {f21 : Addr} {od21 an21 : Option Addr} {sl21 : Array (Option Value)} {oc21 kV21 dc21 pm21 cd21 ct21 : Value}
    {f22 : Addr} {od22 an22 : Option Addr} {sl22 : Array (Option Value)} {oc22 kV22 dc22 pm22 cd22 ct22 : Value}
    {f23 : Addr} {od23 an23 : Option Addr} {sl23 : Array (Option Value)} {oc23 kV23 dc23 pm23 cd23 ct23 : Value}
    {f24 : Addr} {od24 an24 : Option Addr} {sl24 : Array (Option Value)} {oc24 kV24 dc24 pm24 cd24 ct24 : Value}
    {f25 : Addr} {od25 an25 : Option Addr} {sl25 : Array (Option Value)} {oc25 kV25 dc25 pm25 cd25 ct25 : Value}
    {f26 : Addr} {od26 an26 : Option Addr} {sl26 : Array (Option Value)} {oc26 kV26 dc26 pm26 cd26 ct26 : Value}
    {f27 : Addr} {od27 an27 : Option Addr} {sl27 : Array (Option Value)} {oc27 kV27 dc27 pm27 cd27 ct27 : Value}
    {f28 : Addr} {od28 an28 : Option Addr} {sl28 : Array (Option Value)} {oc28 kV28 dc28 pm28 cd28 ct28 : Value}
    {f29 : Addr} {od29 an29 : Option Addr} {sl29 : Array (Option Value)} {oc29 kV29 dc29 pm29 cd29 ct29 : Value}
    {f30 : Addr} {od30 an30 : Option Addr} {sl30 : Array (Option Value)} {oc30 kV30 dc30 pm30 cd30 ct30 : Value}
    {f31 : Addr} {od31 an31 : Option Addr} {sl31 : Array (Option Value)} {oc31 kV31 dc31 pm31 cd31 ct31 : Value}
    {f32 : Addr} {od32 an32 : Option Addr} {sl32 : Array (Option Value)} {oc32 kV32 dc32 pm32 cd32 ct32 : Value}
    {f33 : Addr} {od33 an33 : Option Addr} {sl33 : Array (Option Value)} {oc33 kV33 dc33 pm33 cd33 ct33 : Value}
    {f34 : Addr} {od34 an34 : Option Addr} {sl34 : Array (Option Value)} {oc34 kV34 dc34 pm34 cd34 ct34 : Value}
    {t_MOST_GUESTS : Tok}
    {t_MOST_WEIGHT : Tok}
    (a1 : PySem.W.nsIn K mainGlobals "is_whole" = some (some (.ref f1))) (l1 : K.lookup f1 = some ⟨oc1, od1, .func (PySem.W.fnOf "is_whole" "is_whole" (defArgs s_is_whole) (defBody s_is_whole) (defScope s_is_whole) .none kV1 dc1 pm1 an1 cd1 ct1), sl1⟩) (c1 : PySem.W.codeIn K cd1 "is_whole" = true) (k1 : PySem.W.keepIn K (.ref f1) = true)
    (a2 : PySem.W.nsIn K mainGlobals "is_within" = some (some (.ref f2))) (l2 : K.lookup f2 = some ⟨oc2, od2, .func (PySem.W.fnOf "is_within" "is_within" (defArgs s_is_within) (defBody s_is_within) (defScope s_is_within) .none kV2 dc2 pm2 an2 cd2 ct2), sl2⟩) (c2 : PySem.W.codeIn K cd2 "is_within" = true) (k2 : PySem.W.keepIn K (.ref f2) = true)
    (a3 : PySem.W.nsIn K mainGlobals "is_order" = some (some (.ref f3))) (l3 : K.lookup f3 = some ⟨oc3, od3, .func (PySem.W.fnOf "is_order" "is_order" (defArgs s_is_order) (defBody s_is_order) (defScope s_is_order) .none kV3 dc3 pm3 an3 cd3 ct3), sl3⟩) (c3 : PySem.W.codeIn K cd3 "is_order" = true) (k3 : PySem.W.keepIn K (.ref f3) = true)
    (a4 : PySem.W.nsIn K mainGlobals "check_guests" = some (some (.ref f4))) (l4 : K.lookup f4 = some ⟨oc4, od4, .func (PySem.W.fnOf "check_guests" "check_guests" (defArgs s_check_guests) (defBody s_check_guests) (defScope s_check_guests) .none kV4 dc4 pm4 an4 cd4 ct4), sl4⟩) (c4 : PySem.W.codeIn K cd4 "check_guests" = true) (k4 : PySem.W.keepIn K (.ref f4) = true)
    (a5 : PySem.W.nsIn K mainGlobals "check_weight" = some (some (.ref f5))) (l5 : K.lookup f5 = some ⟨oc5, od5, .func (PySem.W.fnOf "check_weight" "check_weight" (defArgs s_check_weight) (defBody s_check_weight) (defScope s_check_weight) .none kV5 dc5 pm5 an5 cd5 ct5), sl5⟩) (c5 : PySem.W.codeIn K cd5 "check_weight" = true) (k5 : PySem.W.keepIn K (.ref f5) = true)
    (a6 : PySem.W.nsIn K mainGlobals "check_guest" = some (some (.ref f6))) (l6 : K.lookup f6 = some ⟨oc6, od6, .func (PySem.W.fnOf "check_guest" "check_guest" (defArgs s_check_guest) (defBody s_check_guest) (defScope s_check_guest) .none kV6 dc6 pm6 an6 cd6 ct6), sl6⟩) (c6 : PySem.W.codeIn K cd6 "check_guest" = true) (k6 : PySem.W.keepIn K (.ref f6) = true)
    (a7 : PySem.W.nsIn K mainGlobals "fraction" = some (some (.ref f7))) (l7 : K.lookup f7 = some ⟨oc7, od7, .func (PySem.W.fnOf "fraction" "fraction" (defArgs s_fraction) (defBody s_fraction) (defScope s_fraction) .none kV7 dc7 pm7 an7 cd7 ct7), sl7⟩) (c7 : PySem.W.codeIn K cd7 "fraction" = true) (k7 : PySem.W.keepIn K (.ref f7) = true)
    (a8 : PySem.W.nsIn K mainGlobals "is_seating" = some (some (.ref f8))) (l8 : K.lookup f8 = some ⟨oc8, od8, .func (PySem.W.fnOf "is_seating" "is_seating" (defArgs s_is_seating) (defBody s_is_seating) (defScope s_is_seating) .none kV8 dc8 pm8 an8 cd8 ct8), sl8⟩) (c8 : PySem.W.codeIn K cd8 "is_seating" = true) (k8 : PySem.W.keepIn K (.ref f8) = true)
    (a9 : PySem.W.nsIn K mainGlobals "check_seating" = some (some (.ref f9))) (l9 : K.lookup f9 = some ⟨oc9, od9, .func (PySem.W.fnOf "check_seating" "check_seating" (defArgs s_check_seating) (defBody s_check_seating) (defScope s_check_seating) .none kV9 dc9 pm9 an9 cd9 ct9), sl9⟩) (c9 : PySem.W.codeIn K cd9 "check_seating" = true) (k9 : PySem.W.keepIn K (.ref f9) = true)
    (a10 : PySem.W.nsIn K mainGlobals "is_coming" = some (some (.ref f10))) (l10 : K.lookup f10 = some ⟨oc10, od10, .func (PySem.W.fnOf "is_coming" "is_coming" (defArgs s_is_coming) (defBody s_is_coming) (defScope s_is_coming) .none kV10 dc10 pm10 an10 cd10 ct10), sl10⟩) (c10 : PySem.W.codeIn K cd10 "is_coming" = true) (k10 : PySem.W.keepIn K (.ref f10) = true)
    (a11 : PySem.W.nsIn K mainGlobals "coming_of" = some (some (.ref f11))) (l11 : K.lookup f11 = some ⟨oc11, od11, .func (PySem.W.fnOf "coming_of" "coming_of" (defArgs s_coming_of) (defBody s_coming_of) (defScope s_coming_of) .none kV11 dc11 pm11 an11 cd11 ct11), sl11⟩) (c11 : PySem.W.codeIn K cd11 "coming_of" = true) (k11 : PySem.W.keepIn K (.ref f11) = true)
    (a12 : PySem.W.nsIn K mainGlobals "seating_by" = some (some (.ref f12))) (l12 : K.lookup f12 = some ⟨oc12, od12, .func (PySem.W.fnOf "seating_by" "seating_by" (defArgs s_seating_by) (defBody s_seating_by) (defScope s_seating_by) .none kV12 dc12 pm12 an12 cd12 ct12), sl12⟩) (c12 : PySem.W.codeIn K cd12 "seating_by" = true) (k12 : PySem.W.keepIn K (.ref f12) = true)
    (a13 : PySem.W.nsIn K mainGlobals "check_coming" = some (some (.ref f13))) (l13 : K.lookup f13 = some ⟨oc13, od13, .func (PySem.W.fnOf "check_coming" "check_coming" (defArgs s_check_coming) (defBody s_check_coming) (defScope s_check_coming) .none kV13 dc13 pm13 an13 cd13 ct13), sl13⟩) (c13 : PySem.W.codeIn K cd13 "check_coming" = true) (k13 : PySem.W.keepIn K (.ref f13) = true)
    (a14 : PySem.W.nsIn K mainGlobals "without" = some (some (.ref f14))) (l14 : K.lookup f14 = some ⟨oc14, od14, .func (PySem.W.fnOf "without" "without" (defArgs s_without) (defBody s_without) (defScope s_without) .none kV14 dc14 pm14 an14 cd14 ct14), sl14⟩) (c14 : PySem.W.codeIn K cd14 "without" = true) (k14 : PySem.W.keepIn K (.ref f14) = true)
    (a15 : PySem.W.nsIn K mainGlobals "coming_without" = some (some (.ref f15))) (l15 : K.lookup f15 = some ⟨oc15, od15, .func (PySem.W.fnOf "coming_without" "coming_without" (defArgs s_coming_without) (defBody s_coming_without) (defScope s_coming_without) .none kV15 dc15 pm15 an15 cd15 ct15), sl15⟩) (c15 : PySem.W.codeIn K cd15 "coming_without" = true) (k15 : PySem.W.keepIn K (.ref f15) = true)
    (a16 : PySem.W.nsIn K mainGlobals "sits_alone" = some (some (.ref f16))) (l16 : K.lookup f16 = some ⟨oc16, od16, .func (PySem.W.fnOf "sits_alone" "sits_alone" (defArgs s_sits_alone) (defBody s_sits_alone) (defScope s_sits_alone) .none kV16 dc16 pm16 an16 cd16 ct16), sl16⟩) (c16 : PySem.W.codeIn K cd16 "sits_alone" = true) (k16 : PySem.W.keepIn K (.ref f16) = true)
    (a17 : PySem.W.nsIn K mainGlobals "is_traceless" = some (some (.ref f17))) (l17 : K.lookup f17 = some ⟨oc17, od17, .func (PySem.W.fnOf "is_traceless" "is_traceless" (defArgs s_is_traceless) (defBody s_is_traceless) (defScope s_is_traceless) .none kV17 dc17 pm17 an17 cd17 ct17), sl17⟩) (c17 : PySem.W.codeIn K cd17 "is_traceless" = true) (k17 : PySem.W.keepIn K (.ref f17) = true)
    (a18 : PySem.W.nsIn K mainGlobals "traceless" = some (some (.ref f18))) (l18 : K.lookup f18 = some ⟨oc18, od18, .func (PySem.W.fnOf "traceless" "traceless" (defArgs s_traceless) (defBody s_traceless) (defScope s_traceless) .none kV18 dc18 pm18 an18 cd18 ct18), sl18⟩) (c18 : PySem.W.codeIn K cd18 "traceless" = true) (k18 : PySem.W.keepIn K (.ref f18) = true)
    (a19 : PySem.W.nsIn K mainGlobals "traceless_share" = some (some (.ref f19))) (l19 : K.lookup f19 = some ⟨oc19, od19, .func (PySem.W.fnOf "traceless_share" "traceless_share" (defArgs s_traceless_share) (defBody s_traceless_share) (defScope s_traceless_share) .none kV19 dc19 pm19 an19 cd19 ct19), sl19⟩) (c19 : PySem.W.codeIn K cd19 "traceless_share" = true) (k19 : PySem.W.keepIn K (.ref f19) = true)
    (a20 : PySem.W.nsIn K mainGlobals "traceless_counts" = some (some (.ref f20))) (l20 : K.lookup f20 = some ⟨oc20, od20, .func (PySem.W.fnOf "traceless_counts" "traceless_counts" (defArgs s_traceless_counts) (defBody s_traceless_counts) (defScope s_traceless_counts) .none kV20 dc20 pm20 an20 cd20 ct20), sl20⟩) (c20 : PySem.W.codeIn K cd20 "traceless_counts" = true) (k20 : PySem.W.keepIn K (.ref f20) = true)
    (a21 : PySem.W.nsIn K mainGlobals "joined" = some (some (.ref f21))) (l21 : K.lookup f21 = some ⟨oc21, od21, .func (PySem.W.fnOf "joined" "joined" (defArgs s_joined) (defBody s_joined) (defScope s_joined) .none kV21 dc21 pm21 an21 cd21 ct21), sl21⟩) (c21 : PySem.W.codeIn K cd21 "joined" = true) (k21 : PySem.W.keepIn K (.ref f21) = true)
    (a22 : PySem.W.nsIn K mainGlobals "seating_without" = some (some (.ref f22))) (l22 : K.lookup f22 = some ⟨oc22, od22, .func (PySem.W.fnOf "seating_without" "seating_without" (defArgs s_seating_without) (defBody s_seating_without) (defScope s_seating_without) .none kV22 dc22 pm22 an22 cd22 ct22), sl22⟩) (c22 : PySem.W.codeIn K cd22 "seating_without" = true) (k22 : PySem.W.keepIn K (.ref f22) = true)
    (a23 : PySem.W.nsIn K mainGlobals "_law_bag" = some (some (.ref f23))) (l23 : K.lookup f23 = some ⟨oc23, od23, .func (PySem.W.fnOf "_law_bag" "_law_bag" (defArgs s_law_bag) (defBody s_law_bag) (defScope s_law_bag) .none kV23 dc23 pm23 an23 cd23 ct23), sl23⟩) (c23 : PySem.W.codeIn K cd23 "_law_bag" = true) (k23 : PySem.W.keepIn K (.ref f23) = true)
    (a24 : PySem.W.nsIn K mainGlobals "_law_stirred" = some (some (.ref f24))) (l24 : K.lookup f24 = some ⟨oc24, od24, .func (PySem.W.fnOf "_law_stirred" "_law_stirred" (defArgs s_law_stirred) (defBody s_law_stirred) (defScope s_law_stirred) .none kV24 dc24 pm24 an24 cd24 ct24), sl24⟩) (c24 : PySem.W.codeIn K cd24 "_law_stirred" = true) (k24 : PySem.W.keepIn K (.ref f24) = true)
    (a25 : PySem.W.nsIn K mainGlobals "_law_draw" = some (some (.ref f25))) (l25 : K.lookup f25 = some ⟨oc25, od25, .func (PySem.W.fnOf "_law_draw" "_law_draw" (defArgs s_law_draw) (defBody s_law_draw) (defScope s_law_draw) .none kV25 dc25 pm25 an25 cd25 ct25), sl25⟩) (c25 : PySem.W.codeIn K cd25 "_law_draw" = true) (k25 : PySem.W.keepIn K (.ref f25) = true)
    (a26 : PySem.W.nsIn K mainGlobals "_law_alike" = some (some (.ref f26))) (l26 : K.lookup f26 = some ⟨oc26, od26, .func (PySem.W.fnOf "_law_alike" "_law_alike" (defArgs s_law_alike) (defBody s_law_alike) (defScope s_law_alike) .none kV26 dc26 pm26 an26 cd26 ct26), sl26⟩) (c26 : PySem.W.codeIn K cd26 "_law_alike" = true) (k26 : PySem.W.keepIn K (.ref f26) = true)
    (a27 : PySem.W.nsIn K mainGlobals "_law_all" = some (some (.ref f27))) (l27 : K.lookup f27 = some ⟨oc27, od27, .func (PySem.W.fnOf "_law_all" "_law_all" (defArgs s_law_all) (defBody s_law_all) (defScope s_law_all) .none kV27 dc27 pm27 an27 cd27 ct27), sl27⟩) (c27 : PySem.W.codeIn K cd27 "_law_all" = true) (k27 : PySem.W.keepIn K (.ref f27) = true)
    (a28 : PySem.W.nsIn K mainGlobals "_law_coming" = some (some (.ref f28))) (l28 : K.lookup f28 = some ⟨oc28, od28, .func (PySem.W.fnOf "_law_coming" "_law_coming" (defArgs s_law_coming) (defBody s_law_coming) (defScope s_law_coming) .none kV28 dc28 pm28 an28 cd28 ct28), sl28⟩) (c28 : PySem.W.codeIn K cd28 "_law_coming" = true) (k28 : PySem.W.keepIn K (.ref f28) = true)
    (a29 : PySem.W.nsIn K mainGlobals "_law_tables" = some (some (.ref f29))) (l29 : K.lookup f29 = some ⟨oc29, od29, .func (PySem.W.fnOf "_law_tables" "_law_tables" (defArgs s_law_tables) (defBody s_law_tables) (defScope s_law_tables) .none kV29 dc29 pm29 an29 cd29 ct29), sl29⟩) (c29 : PySem.W.codeIn K cd29 "_law_tables" = true) (k29 : PySem.W.keepIn K (.ref f29) = true)
    (a30 : PySem.W.nsIn K mainGlobals "_law_lowest" = some (some (.ref f30))) (l30 : K.lookup f30 = some ⟨oc30, od30, .func (PySem.W.fnOf "_law_lowest" "_law_lowest" (defArgs s_law_lowest) (defBody s_law_lowest) (defScope s_law_lowest) .none kV30 dc30 pm30 an30 cd30 ct30), sl30⟩) (c30 : PySem.W.codeIn K cd30 "_law_lowest" = true) (k30 : PySem.W.keepIn K (.ref f30) = true)
    (a31 : PySem.W.nsIn K mainGlobals "_law_out" = some (some (.ref f31))) (l31 : K.lookup f31 = some ⟨oc31, od31, .func (PySem.W.fnOf "_law_out" "_law_out" (defArgs s_law_out) (defBody s_law_out) (defScope s_law_out) .none kV31 dc31 pm31 an31 cd31 ct31), sl31⟩) (c31 : PySem.W.codeIn K cd31 "_law_out" = true) (k31 : PySem.W.keepIn K (.ref f31) = true)
    (a32 : PySem.W.nsIn K mainGlobals "_law_seating_right" = some (some (.ref f32))) (l32 : K.lookup f32 = some ⟨oc32, od32, .func (PySem.W.fnOf "_law_seating_right" "_law_seating_right" (defArgs s_law_seating_right) (defBody s_law_seating_right) (defScope s_law_seating_right) .none kV32 dc32 pm32 an32 cd32 ct32), sl32⟩) (c32 : PySem.W.codeIn K cd32 "_law_seating_right" = true) (k32 : PySem.W.keepIn K (.ref f32) = true)
    (a33 : PySem.W.nsIn K mainGlobals "_law_joined_right" = some (some (.ref f33))) (l33 : K.lookup f33 = some ⟨oc33, od33, .func (PySem.W.fnOf "_law_joined_right" "_law_joined_right" (defArgs s_law_joined_right) (defBody s_law_joined_right) (defScope s_law_joined_right) .none kV33 dc33 pm33 an33 cd33 ct33), sl33⟩) (c33 : PySem.W.codeIn K cd33 "_law_joined_right" = true) (k33 : PySem.W.keepIn K (.ref f33) = true)
    (a34 : PySem.W.nsIn K mainGlobals "law" = some (some (.ref f34))) (l34 : K.lookup f34 = some ⟨oc34, od34, .func (PySem.W.fnOf "law" "law" (defArgs s_law) (defBody s_law) (defScope s_law) .none kV34 dc34 pm34 an34 cd34 ct34), sl34⟩) (c34 : PySem.W.codeIn K cd34 "law" = true) (k34 : PySem.W.keepIn K (.ref f34) = true)
    (z_abs : PySem.W.nsIn K mainGlobals "abs" = some none)
    (z_all : PySem.W.nsIn K mainGlobals "all" = some none)
    (z_bool : PySem.W.nsIn K mainGlobals "bool" = some none)
    (z_enumerate : PySem.W.nsIn K mainGlobals "enumerate" = some none)
    (z_int : PySem.W.nsIn K mainGlobals "int" = some none)
    (z_isinstance : PySem.W.nsIn K mainGlobals "isinstance" = some none)
    (z_len : PySem.W.nsIn K mainGlobals "len" = some none)
    (z_list : PySem.W.nsIn K mainGlobals "list" = some none)
    (z_range : PySem.W.nsIn K mainGlobals "range" = some none)
    (z_sorted : PySem.W.nsIn K mainGlobals "sorted" = some none)
    (z_str : PySem.W.nsIn K mainGlobals "str" = some none)
    (z_sum : PySem.W.nsIn K mainGlobals "sum" = some none)
    (z_tuple : PySem.W.nsIn K mainGlobals "tuple" = some none)
    (z_type : PySem.W.nsIn K mainGlobals "type" = some none)
    (y_MOST_GUESTS : PySem.W.nsIn K mainGlobals "MOST_GUESTS" = some (some (.int 20 t_MOST_GUESTS)))
    (y_MOST_WEIGHT : PySem.W.nsIn K mainGlobals "MOST_WEIGHT" = some (some (.int 1000000000000 t_MOST_WEIGHT)))
    (x_gcd : PySem.W.nsIn K mainGlobals "gcd" = some (some (.builtin "math.gcd")))
    : ∃ fd : FuncData, (∀ (s : Shared) (v : Value), BindsTo s fd ⟨[v], []⟩ [("script", v)]) ∧ ∀ base : Heap, K.In base → base.Ns mainGlobals mg → FnOk l.prog w K mg base CX0 9 fa fd ["script"] (sp_law K) := by
  have e := hfa.symm.trans (PySem.W.mg_of X G a34)
  cases e
  have F1 := fun_mk (st := s_is_whole) l1 c1 k1
  have F2 := fun_mk (st := s_is_within) l2 c2 k2
  have F3 := fun_mk (st := s_is_order) l3 c3 k3
  have F4 := fun_mk (st := s_check_guests) l4 c4 k4
  have F5 := fun_mk (st := s_check_weight) l5 c5 k5
  have F6 := fun_mk (st := s_check_guest) l6 c6 k6
  have F7 := fun_mk (st := s_fraction) l7 c7 k7
  have F8 := fun_mk (st := s_is_seating) l8 c8 k8
  have F9 := fun_mk (st := s_check_seating) l9 c9 k9
  have F10 := fun_mk (st := s_is_coming) l10 c10 k10
  have F11 := fun_mk (st := s_coming_of) l11 c11 k11
  have F12 := fun_mk (st := s_seating_by) l12 c12 k12
  have F13 := fun_mk (st := s_check_coming) l13 c13 k13
  have F14 := fun_mk (st := s_without) l14 c14 k14
  have F15 := fun_mk (st := s_coming_without) l15 c15 k15
  have F16 := fun_mk (st := s_sits_alone) l16 c16 k16
  have F17 := fun_mk (st := s_is_traceless) l17 c17 k17
  have F18 := fun_mk (st := s_traceless) l18 c18 k18
  have F19 := fun_mk (st := s_traceless_share) l19 c19 k19
  have F20 := fun_mk (st := s_traceless_counts) l20 c20 k20
  have F21 := fun_mk (st := s_joined) l21 c21 k21
  have F22 := fun_mk (st := s_seating_without) l22 c22 k22
  have F23 := fun_mk (st := s_law_bag) l23 c23 k23
  have F24 := fun_mk (st := s_law_stirred) l24 c24 k24
  have F25 := fun_mk (st := s_law_draw) l25 c25 k25
  have F26 := fun_mk (st := s_law_alike) l26 c26 k26
  have F27 := fun_mk (st := s_law_all) l27 c27 k27
  have F28 := fun_mk (st := s_law_coming) l28 c28 k28
  have F29 := fun_mk (st := s_law_tables) l29 c29 k29
  have F30 := fun_mk (st := s_law_lowest) l30 c30 k30
  have F31 := fun_mk (st := s_law_out) l31 c31 k31
  have F32 := fun_mk (st := s_law_seating_right) l32 c32 k32
  have F33 := fun_mk (st := s_law_joined_right) l33 c33 k33
  have F34 := fun_mk (st := s_law) l34 c34 k34
  let T : Tx K mg :=
    { f_is_whole := f1, d_is_whole := _, F_is_whole := F1, g_is_whole := PySem.W.mg_of X G a1, b_is_whole := F1.binds (ps := ["thing"]) fun _ _ _ _ _ _ us hl => match us, hl with | [_], _ => rfl,
      f_is_within := f2, d_is_within := _, F_is_within := F2, g_is_within := PySem.W.mg_of X G a2, b_is_within := F2.binds (ps := ["thing", "least", "most"]) fun _ _ _ _ _ _ us hl => match us, hl with | [_, _, _], _ => rfl,
      f_is_order := f3, d_is_order := _, F_is_order := F3, g_is_order := PySem.W.mg_of X G a3, b_is_order := F3.binds (ps := ["thing"]) fun _ _ _ _ _ _ us hl => match us, hl with | [_], _ => rfl,
      f_check_guests := f4, d_check_guests := _, F_check_guests := F4, g_check_guests := PySem.W.mg_of X G a4, b_check_guests := F4.binds (ps := ["guests"]) fun _ _ _ _ _ _ us hl => match us, hl with | [_], _ => rfl,
      f_check_weight := f5, d_check_weight := _, F_check_weight := F5, g_check_weight := PySem.W.mg_of X G a5, b_check_weight := F5.binds (ps := ["weight"]) fun _ _ _ _ _ _ us hl => match us, hl with | [_], _ => rfl,
      f_check_guest := f6, d_check_guest := _, F_check_guest := F6, g_check_guest := PySem.W.mg_of X G a6, b_check_guest := F6.binds (ps := ["guest", "guests"]) fun _ _ _ _ _ _ us hl => match us, hl with | [_, _], _ => rfl,
      f_fraction := f7, d_fraction := _, F_fraction := F7, g_fraction := PySem.W.mg_of X G a7, b_fraction := F7.binds (ps := ["top", "bottom"]) fun _ _ _ _ _ _ us hl => match us, hl with | [_, _], _ => rfl,
      f_is_seating := f8, d_is_seating := _, F_is_seating := F8, g_is_seating := PySem.W.mg_of X G a8, b_is_seating := F8.binds (ps := ["thing"]) fun _ _ _ _ _ _ us hl => match us, hl with | [_], _ => rfl,
      f_check_seating := f9, d_check_seating := _, F_check_seating := F9, g_check_seating := PySem.W.mg_of X G a9, b_check_seating := F9.binds (ps := ["seating"]) fun _ _ _ _ _ _ us hl => match us, hl with | [_], _ => rfl,
      f_is_coming := f10, d_is_coming := _, F_is_coming := F10, g_is_coming := PySem.W.mg_of X G a10, b_is_coming := F10.binds (ps := ["thing"]) fun _ _ _ _ _ _ us hl => match us, hl with | [_], _ => rfl,
      f_coming_of := f11, d_coming_of := _, F_coming_of := F11, g_coming_of := PySem.W.mg_of X G a11, b_coming_of := F11.binds (ps := ["seating"]) fun _ _ _ _ _ _ us hl => match us, hl with | [_], _ => rfl,
      f_seating_by := f12, d_seating_by := _, F_seating_by := F12, g_seating_by := PySem.W.mg_of X G a12, b_seating_by := F12.binds (ps := ["coming"]) fun _ _ _ _ _ _ us hl => match us, hl with | [_], _ => rfl,
      f_check_coming := f13, d_check_coming := _, F_check_coming := F13, g_check_coming := PySem.W.mg_of X G a13, b_check_coming := F13.binds (ps := ["coming"]) fun _ _ _ _ _ _ us hl => match us, hl with | [_], _ => rfl,
      f_without := f14, d_without := _, F_without := F14, g_without := PySem.W.mg_of X G a14, b_without := F14.binds (ps := ["seating", "guest"]) fun _ _ _ _ _ _ us hl => match us, hl with | [_, _], _ => rfl,
      f_coming_without := f15, d_coming_without := _, F_coming_without := F15, g_coming_without := PySem.W.mg_of X G a15, b_coming_without := F15.binds (ps := ["coming", "guest"]) fun _ _ _ _ _ _ us hl => match us, hl with | [_, _], _ => rfl,
      f_sits_alone := f16, d_sits_alone := _, F_sits_alone := F16, g_sits_alone := PySem.W.mg_of X G a16, b_sits_alone := F16.binds (ps := ["seating", "guest"]) fun _ _ _ _ _ _ us hl => match us, hl with | [_, _], _ => rfl,
      f_is_traceless := f17, d_is_traceless := _, F_is_traceless := F17, g_is_traceless := PySem.W.mg_of X G a17, b_is_traceless := F17.binds (ps := ["seating", "guest"]) fun _ _ _ _ _ _ us hl => match us, hl with | [_, _], _ => rfl,
      f_traceless := f18, d_traceless := _, F_traceless := F18, g_traceless := PySem.W.mg_of X G a18, b_traceless := F18.binds (ps := ["seating"]) fun _ _ _ _ _ _ us hl => match us, hl with | [_], _ => rfl,
      f_traceless_share := f19, d_traceless_share := _, F_traceless_share := F19, g_traceless_share := PySem.W.mg_of X G a19, b_traceless_share := F19.binds (ps := ["guests", "weight", "guest"]) fun _ _ _ _ _ _ us hl => match us, hl with | [_, _, _], _ => rfl,
      f_traceless_counts := f20, d_traceless_counts := _, F_traceless_counts := F20, g_traceless_counts := PySem.W.mg_of X G a20, b_traceless_counts := F20.binds (ps := ["guests", "weight"]) fun _ _ _ _ _ _ us hl => match us, hl with | [_, _], _ => rfl,
      f_joined := f21, d_joined := _, F_joined := F21, g_joined := PySem.W.mg_of X G a21, b_joined := F21.binds (ps := ["seating", "mate"]) fun _ _ _ _ _ _ us hl => match us, hl with | [_, _], _ => rfl,
      f_seating_without := f22, d_seating_without := _, F_seating_without := F22, g_seating_without := PySem.W.mg_of X G a22, b_seating_without := F22.binds (ps := ["seating", "guest"]) fun _ _ _ _ _ _ us hl => match us, hl with | [_, _], _ => rfl,
      f_law_bag := f23, d_law_bag := _, F_law_bag := F23, g_law_bag := PySem.W.mg_of X G a23, b_law_bag := F23.binds (ps := ["script"]) fun _ _ _ _ _ _ us hl => match us, hl with | [_], _ => rfl,
      f_law_stirred := f24, d_law_stirred := _, F_law_stirred := F24, g_law_stirred := PySem.W.mg_of X G a24, b_law_stirred := F24.binds (ps := ["bag", "wide"]) fun _ _ _ _ _ _ us hl => match us, hl with | [_, _], _ => rfl,
      f_law_draw := f25, d_law_draw := _, F_law_draw := F25, g_law_draw := PySem.W.mg_of X G a25, b_law_draw := F25.binds (ps := ["bag", "wide"]) fun _ _ _ _ _ _ us hl => match us, hl with | [_, _], _ => rfl,
      f_law_alike := f26, d_law_alike := _, F_law_alike := F26, g_law_alike := PySem.W.mg_of X G a26, b_law_alike := F26.binds (ps := ["found", "due"]) fun _ _ _ _ _ _ us hl => match us, hl with | [_, _], _ => rfl,
      f_law_all := f27, d_law_all := _, F_law_all := F27, g_law_all := PySem.W.mg_of X G a27, b_law_all := F27.binds (ps := ["wide"]) fun _ _ _ _ _ _ us hl => match us, hl with | [_], _ => rfl,
      f_law_coming := f28, d_law_coming := _, F_law_coming := F28, g_law_coming := PySem.W.mg_of X G a28, b_law_coming := F28.binds (ps := ["some"]) fun _ _ _ _ _ _ us hl => match us, hl with | [_], _ => rfl,
      f_law_tables := f29, d_law_tables := _, F_law_tables := F29, g_law_tables := PySem.W.mg_of X G a29, b_law_tables := F29.binds (ps := ["some"]) fun _ _ _ _ _ _ us hl => match us, hl with | [_], _ => rfl,
      f_law_lowest := f30, d_law_lowest := _, F_law_lowest := F30, g_law_lowest := PySem.W.mg_of X G a30, b_law_lowest := F30.binds (ps := ["top", "bottom"]) fun _ _ _ _ _ _ us hl => match us, hl with | [_, _], _ => rfl,
      f_law_out := f31, d_law_out := _, F_law_out := F31, g_law_out := PySem.W.mg_of X G a31, b_law_out := F31.binds (ps := ["some", "k"]) fun _ _ _ _ _ _ us hl => match us, hl with | [_, _], _ => rfl,
      f_law_seating_right := f32, d_law_seating_right := _, F_law_seating_right := F32, g_law_seating_right := PySem.W.mg_of X G a32, b_law_seating_right := F32.binds (ps := ["some"]) fun _ _ _ _ _ _ us hl => match us, hl with | [_], _ => rfl,
      f_law_joined_right := f33, d_law_joined_right := _, F_law_joined_right := F33, g_law_joined_right := PySem.W.mg_of X G a33, b_law_joined_right := F33.binds (ps := ["some"]) fun _ _ _ _ _ _ us hl => match us, hl with | [_], _ => rfl,
      f_law := fa, d_law := _, F_law := F34, g_law := PySem.W.mg_of X G a34, b_law := F34.binds (ps := ["script"]) fun _ _ _ _ _ _ us hl => match us, hl with | [_], _ => rfl,
      m_abs := PySem.W.mg_none_of X G z_abs,
      m_all := PySem.W.mg_none_of X G z_all,
      m_bool := PySem.W.mg_none_of X G z_bool,
      m_enumerate := PySem.W.mg_none_of X G z_enumerate,
      m_int := PySem.W.mg_none_of X G z_int,
      m_isinstance := PySem.W.mg_none_of X G z_isinstance,
      m_len := PySem.W.mg_none_of X G z_len,
      m_list := PySem.W.mg_none_of X G z_list,
      m_range := PySem.W.mg_none_of X G z_range,
      m_sorted := PySem.W.mg_none_of X G z_sorted,
      m_str := PySem.W.mg_none_of X G z_str,
      m_sum := PySem.W.mg_none_of X G z_sum,
      m_tuple := PySem.W.mg_none_of X G z_tuple,
      m_type := PySem.W.mg_none_of X G z_type,
      c_MOST_GUESTS := ⟨_, PySem.W.mg_of X G y_MOST_GUESTS, ⟨_, rfl⟩⟩,
      c_MOST_WEIGHT := ⟨_, PySem.W.mg_of X G y_MOST_WEIGHT, ⟨_, rfl⟩⟩,
      i_gcd := PySem.W.mg_of X G x_gcd,
      kb_joined_0_mate_seating := ⟨(fun s us ws _ hl => match us, ws, hl with | [], [_, _], _ => .of_eq rfl | (_ :: _), _, hl => absurd (show (0 : Nat) = 2 from hl) (by decide) | [], [], hl => absurd (show (0 : Nat) = 2 from hl) (by decide) | [], (_ :: []), hl => absurd (show (0 : Nat) = 2 from hl) (by decide) | [], (_ :: (_ :: (_ :: _))), hl => absurd (show (0 : Nat) = 2 from hl) (by decide)), (fun {vs us zs ws} r z => match r, z with | .nil, (.cons b0 (.cons b1 .nil)) => (.cons b1 (.cons b0 .nil)) | (.cons _ _), _ => .nil | .nil, .nil => .nil | .nil, (.cons _ .nil) => .nil | .nil, (.cons _ (.cons _ (.cons _ _))) => .nil)⟩,
      kb_coming_without_0_guest_coming := ⟨(fun s us ws _ hl => match us, ws, hl with | [], [_, _], _ => .of_eq rfl | (_ :: _), _, hl => absurd (show (0 : Nat) = 2 from hl) (by decide) | [], [], hl => absurd (show (0 : Nat) = 2 from hl) (by decide) | [], (_ :: []), hl => absurd (show (0 : Nat) = 2 from hl) (by decide) | [], (_ :: (_ :: (_ :: _))), hl => absurd (show (0 : Nat) = 2 from hl) (by decide)), (fun {vs us zs ws} r z => match r, z with | .nil, (.cons b0 (.cons b1 .nil)) => (.cons b1 (.cons b0 .nil)) | (.cons _ _), _ => .nil | .nil, .nil => .nil | .nil, (.cons _ .nil) => .nil | .nil, (.cons _ (.cons _ (.cons _ _))) => .nil)⟩,
      kb_without_0_guest_seating := ⟨(fun s us ws _ hl => match us, ws, hl with | [], [_, _], _ => .of_eq rfl | (_ :: _), _, hl => absurd (show (0 : Nat) = 2 from hl) (by decide) | [], [], hl => absurd (show (0 : Nat) = 2 from hl) (by decide) | [], (_ :: []), hl => absurd (show (0 : Nat) = 2 from hl) (by decide) | [], (_ :: (_ :: (_ :: _))), hl => absurd (show (0 : Nat) = 2 from hl) (by decide)), (fun {vs us zs ws} r z => match r, z with | .nil, (.cons b0 (.cons b1 .nil)) => (.cons b1 (.cons b0 .nil)) | (.cons _ _), _ => .nil | .nil, .nil => .nil | .nil, (.cons _ .nil) => .nil | .nil, (.cons _ (.cons _ (.cons _ _))) => .nil)⟩,
      kb_sits_alone_0_guest_seating := ⟨(fun s us ws _ hl => match us, ws, hl with | [], [_, _], _ => .of_eq rfl | (_ :: _), _, hl => absurd (show (0 : Nat) = 2 from hl) (by decide) | [], [], hl => absurd (show (0 : Nat) = 2 from hl) (by decide) | [], (_ :: []), hl => absurd (show (0 : Nat) = 2 from hl) (by decide) | [], (_ :: (_ :: (_ :: _))), hl => absurd (show (0 : Nat) = 2 from hl) (by decide)), (fun {vs us zs ws} r z => match r, z with | .nil, (.cons b0 (.cons b1 .nil)) => (.cons b1 (.cons b0 .nil)) | (.cons _ _), _ => .nil | .nil, .nil => .nil | .nil, (.cons _ .nil) => .nil | .nil, (.cons _ (.cons _ (.cons _ _))) => .nil)⟩,
      kb_is_traceless_0_guest_seating := ⟨(fun s us ws _ hl => match us, ws, hl with | [], [_, _], _ => .of_eq rfl | (_ :: _), _, hl => absurd (show (0 : Nat) = 2 from hl) (by decide) | [], [], hl => absurd (show (0 : Nat) = 2 from hl) (by decide) | [], (_ :: []), hl => absurd (show (0 : Nat) = 2 from hl) (by decide) | [], (_ :: (_ :: (_ :: _))), hl => absurd (show (0 : Nat) = 2 from hl) (by decide)), (fun {vs us zs ws} r z => match r, z with | .nil, (.cons b0 (.cons b1 .nil)) => (.cons b1 (.cons b0 .nil)) | (.cons _ _), _ => .nil | .nil, .nil => .nil | .nil, (.cons _ .nil) => .nil | .nil, (.cons _ (.cons _ (.cons _ _))) => .nil)⟩,
      kb_traceless_0_seating := ⟨(fun s us ws _ hl => match us, ws, hl with | [], [_], _ => .of_eq rfl | (_ :: _), _, hl => absurd (show (0 : Nat) = 1 from hl) (by decide) | [], [], hl => absurd (show (0 : Nat) = 1 from hl) (by decide) | [], (_ :: (_ :: _)), hl => absurd (show (0 : Nat) = 1 from hl) (by decide)), (fun {vs us zs ws} r z => match r, z with | .nil, (.cons b0 .nil) => (.cons b0 .nil) | (.cons _ _), _ => .nil | .nil, .nil => .nil | .nil, (.cons _ (.cons _ _)) => .nil)⟩,
      kb_traceless_share_0_guest_weight_guests := ⟨(fun s us ws _ hl => match us, ws, hl with | [], [_, _, _], _ => .of_eq rfl | (_ :: _), _, hl => absurd (show (0 : Nat) = 3 from hl) (by decide) | [], [], hl => absurd (show (0 : Nat) = 3 from hl) (by decide) | [], (_ :: []), hl => absurd (show (0 : Nat) = 3 from hl) (by decide) | [], (_ :: (_ :: [])), hl => absurd (show (0 : Nat) = 3 from hl) (by decide) | [], (_ :: (_ :: (_ :: (_ :: _)))), hl => absurd (show (0 : Nat) = 3 from hl) (by decide)), (fun {vs us zs ws} r z => match r, z with | .nil, (.cons b0 (.cons b1 (.cons b2 .nil))) => (.cons b2 (.cons b1 (.cons b0 .nil))) | (.cons _ _), _ => .nil | .nil, .nil => .nil | .nil, (.cons _ .nil) => .nil | .nil, (.cons _ (.cons _ .nil)) => .nil | .nil, (.cons _ (.cons _ (.cons _ (.cons _ _)))) => .nil)⟩,
      kb_traceless_counts_0_weight_guests := ⟨(fun s us ws _ hl => match us, ws, hl with | [], [_, _], _ => .of_eq rfl | (_ :: _), _, hl => absurd (show (0 : Nat) = 2 from hl) (by decide) | [], [], hl => absurd (show (0 : Nat) = 2 from hl) (by decide) | [], (_ :: []), hl => absurd (show (0 : Nat) = 2 from hl) (by decide) | [], (_ :: (_ :: (_ :: _))), hl => absurd (show (0 : Nat) = 2 from hl) (by decide)), (fun {vs us zs ws} r z => match r, z with | .nil, (.cons b0 (.cons b1 .nil)) => (.cons b1 (.cons b0 .nil)) | (.cons _ _), _ => .nil | .nil, .nil => .nil | .nil, (.cons _ .nil) => .nil | .nil, (.cons _ (.cons _ (.cons _ _))) => .nil)⟩ }
  exact ⟨PySem.W.fnOf "law" "law" (defArgs s_law) (defBody s_law) (defScope s_law) .none kV34 dc34 pm34 an34 cd34 ct34, fun s v => .of_eq rfl, fun base _ _ => ok_law T⟩
end K43
open PySem PySem.W PyProof.Rows
set_option maxRecDepth 100000 in
set_option maxHeartbeats 0 in
theorem PySem.Challenge.cw_newtables_k43_leaving_by_all_seatings_holds : PySem.Challenge.rw_newtables_k43_leaving_by_all_seatings.Holds := by
  w_on; o_law; k_head; (case hw => w_witness2)
  k_fill
  refine L2.walk_of (l := PySem.Challenge.rw_newtables_k43_leaving_by_all_seatings) (n := 63) (k := 9) (x := "script") (CX := fun _ => L2.CX0) (sp := fun w => K43.sp_law _) rfl (by decide) rfl ⟨rfl, by decide, by decide⟩ (fun w h Y => PySem.W.kIn_of Y) ?F (fun _ _ a ns hl _ hS => ⟨a, ns, rfl, hS, hl, fun _ => rfl⟩) (fun _ _ _ _ _ h => h)
  case F =>
    intro w mg fa h KX G hmg
    refine' K43.all_mk KX G hmg ?a1 ?l1 ?c1 ?k1 ?a2 ?l2 ?c2 ?k2 ?a3 ?l3 ?c3 ?k3 ?a4 ?l4 ?c4 ?k4 ?a5 ?l5 ?c5 ?k5 ?a6 ?l6 ?c6 ?k6 ?a7 ?l7 ?c7 ?k7 ?a8 ?l8 ?c8 ?k8 ?a9 ?l9 ?c9 ?k9 ?a10 ?l10 ?c10 ?k10 ?a11 ?l11 ?c11 ?k11 ?a12 ?l12 ?c12 ?k12 ?a13 ?l13 ?c13 ?k13 ?a14 ?l14 ?c14 ?k14 ?a15 ?l15 ?c15 ?k15 ?a16 ?l16 ?c16 ?k16 ?a17 ?l17 ?c17 ?k17 ?a18 ?l18 ?c18 ?k18 ?a19 ?l19 ?c19 ?k19 ?a20 ?l20 ?c20 ?k20 ?a21 ?l21 ?c21 ?k21 ?a22 ?l22 ?c22 ?k22 ?a23 ?l23 ?c23 ?k23 ?a24 ?l24 ?c24 ?k24 ?a25 ?l25 ?c25 ?k25 ?a26 ?l26 ?c26 ?k26 ?a27 ?l27 ?c27 ?k27 ?a28 ?l28 ?c28 ?k28 ?a29 ?l29 ?c29 ?k29 ?a30 ?l30 ?c30 ?k30 ?a31 ?l31 ?c31 ?k31 ?a32 ?l32 ?c32 ?k32 ?a33 ?l33 ?c33 ?k33 ?a34 ?l34 ?c34 ?k34 ?z_abs ?z_all ?z_bool ?z_enumerate ?z_int ?z_isinstance ?z_len ?z_list ?z_range ?z_sorted ?z_str ?z_sum ?z_tuple ?z_type ?y_MOST_GUESTS ?y_MOST_WEIGHT ?x_gcd
    (case a1 => k_is); (case l1 => k_is); (case c1 => k_is); (case k1 => k_is); (case a2 => k_is); (case l2 => k_is)
    (case c2 => k_is); (case k2 => k_is); (case a3 => k_is); (case l3 => k_is); (case c3 => k_is); (case k3 => k_is)
    (case a4 => k_is); (case l4 => k_is); (case c4 => k_is); (case k4 => k_is); (case a5 => k_is); (case l5 => k_is)
    (case c5 => k_is); (case k5 => k_is); (case a6 => k_is); (case l6 => k_is); (case c6 => k_is); (case k6 => k_is)
    (case a7 => k_is); (case l7 => k_is); (case c7 => k_is); (case k7 => k_is); (case a8 => k_is); (case l8 => k_is)
    (case c8 => k_is); (case k8 => k_is); (case a9 => k_is); (case l9 => k_is); (case c9 => k_is); (case k9 => k_is)
    (case a10 => k_is); (case l10 => k_is); (case c10 => k_is); (case k10 => k_is); (case a11 => k_is); (case l11 => k_is)
    (case c11 => k_is); (case k11 => k_is); (case a12 => k_is); (case l12 => k_is); (case c12 => k_is); (case k12 => k_is)
    (case a13 => k_is); (case l13 => k_is); (case c13 => k_is); (case k13 => k_is); (case a14 => k_is); (case l14 => k_is)
    (case c14 => k_is); (case k14 => k_is); (case a15 => k_is); (case l15 => k_is); (case c15 => k_is); (case k15 => k_is)
    (case a16 => k_is); (case l16 => k_is); (case c16 => k_is); (case k16 => k_is); (case a17 => k_is); (case l17 => k_is)
    (case c17 => k_is); (case k17 => k_is); (case a18 => k_is); (case l18 => k_is); (case c18 => k_is); (case k18 => k_is)
    (case a19 => k_is); (case l19 => k_is); (case c19 => k_is); (case k19 => k_is); (case a20 => k_is); (case l20 => k_is)
    (case c20 => k_is); (case k20 => k_is); (case a21 => k_is); (case l21 => k_is); (case c21 => k_is); (case k21 => k_is)
    (case a22 => k_is); (case l22 => k_is); (case c22 => k_is); (case k22 => k_is); (case a23 => k_is); (case l23 => k_is)
    (case c23 => k_is); (case k23 => k_is); (case a24 => k_is); (case l24 => k_is); (case c24 => k_is); (case k24 => k_is)
    (case a25 => k_is); (case l25 => k_is); (case c25 => k_is); (case k25 => k_is); (case a26 => k_is); (case l26 => k_is)
    (case c26 => k_is); (case k26 => k_is); (case a27 => k_is); (case l27 => k_is); (case c27 => k_is); (case k27 => k_is)
    (case a28 => k_is); (case l28 => k_is); (case c28 => k_is); (case k28 => k_is); (case a29 => k_is); (case l29 => k_is)
    (case c29 => k_is); (case k29 => k_is); (case a30 => k_is); (case l30 => k_is); (case c30 => k_is); (case k30 => k_is)
    (case a31 => k_is); (case l31 => k_is); (case c31 => k_is); (case k31 => k_is); (case a32 => k_is); (case l32 => k_is)
    (case c32 => k_is); (case k32 => k_is); (case a33 => k_is); (case l33 => k_is); (case c33 => k_is); (case k33 => k_is)
    (case a34 => k_is); (case l34 => k_is); (case c34 => k_is); (case k34 => k_is); (case z_abs => k_is); (case z_all => k_is)
    (case z_bool => k_is); (case z_enumerate => k_is); (case z_int => k_is); (case z_isinstance => k_is); (case z_len => k_is); (case z_list => k_is)
    (case z_range => k_is); (case z_sorted => k_is); (case z_str => k_is); (case z_sum => k_is); (case z_tuple => k_is); (case z_type => k_is)
    (case y_MOST_GUESTS => k_is); (case y_MOST_WEIGHT => k_is); (case x_gcd => k_is)