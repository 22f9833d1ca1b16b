import PyProof.Rows.All
import Wide.All
import OpenK.AllK
import Wide.FinOn
import PyProof.TypeEq
import HandS.ForMost
import HandS.Evl
import HandS.Wide
import HandS.WideBits
import HandS.Gcd
import HandS.Codes
import HandS.Conv
import HandS.IsInst
import HandS.More
import HandS.Walk
import HandS.Style
import PyProof.InstEq
import HandS.Sort
import KE.DataMinMax
import PyProof.ReprLen
import PyProof.Rows.RegStrFacts
import KE.KMathGC
import HandS.RevRange
import HandS.Deep
import PySem.Challenge.RW_newtables_k34_growth_of_great_halls
set_option Elab.async false
set_option linter.all false
set_option maxRecDepth 100000
set_option maxHeartbeats 4000000
namespace Kit
open PySem PySem.Spec PyProof.Rows L2 Evl
/-! rules that the layer lacks -/
section
variable {X : Cx} {a b c d : Expr} {ta tb tc td : TE} {pos : Pos}
def CPowX (i j : Int) : Prop := 0 ≤ j ∧ (Builtin.Int.intBits i : Int) * j ≤ 2 ^ 27
theorem op_powX : OpR X (binaryOp .Pow) (rI CPowX fun i j => .int (i ^ j.toNat)) := opI fun _ _ _ _ _ _ _ hc q => pow_int hc.1 hc.2 q
/-- the types that are compared by == -/
def Meta (n : String) : Prop := ∀ s : Shared, s.TypeIs (.type n) "type"
def rEqTy : R2 := fun x y H Q => ∃ m n, x = .ty m ∧ y = .ty n ∧ Meta m ∧ Meta n ∧ Q (.bl (decide (m = n))) H
theorem op_eqTy : OpR X (compareOp .Eq) rEqTy := by
  intro pins s σ H x y v u Q I rx ry h
  obtain ⟨m, n, rfl, rfl, hm, hn, q⟩ := h
  cases (show v = Value.type m from rx)
  cases (show u = Value.type n from ry)
  by_cases e : m = n
  · subst e
    exact PySem.TypeEq.eq_type_same hm ⟨.bl true, H, I, rfl, by simpa using q⟩
  · exact PySem.TypeEq.eq_type_other hm hn (by rw [beq_eq_false_iff_ne]; exact fun z => e (Value.type.inj z)) ⟨.bl false, H, I, rfl, by simpa [e] using q⟩
/-- a op b op c op d -/
def tChain3 (r r' r'' : R2) (ta tb tc td : TE) : TE := fun σ H Q => ta σ H fun x H1 => tb σ H1 fun y H2 => r x y H2 fun z H3 => ∃ k, z = .bl k ∧
  (if k = true then tc σ H3 fun w' H4 => r' y w' H4 fun z' H5 => ∃ k', z' = .bl k' ∧ (if k' = true then td σ H5 fun w'' H6 => r'' w' w'' H6 Q else Q (.bl false) H5) else Q (.bl false) H3)
theorem pe_chain3 {op op' op'' : CmpOp} {r r' r'' : R2} (ho : OpR X (compareOp op) r) (ho' : OpR X (compareOp op') r') (ho'' : OpR X (compareOp op'') r'') (ha : PE X a ta) (hb : PE X b tb) (hc : PE X c tc) (hd : PE X d td)
    (hm : lastMarks [op, op', op''] [b, c, d] = false := by with_unfolding_all rfl) : PE X (.Compare a [op, op', op''] [b, c, d] pos) (tChain3 r r' r'' ta tb tc td) := by
  refine ⟨fun pins s σ H Q I h => ?_⟩
  refine Compare_chain (thn (ha.run pins s σ H _ I h) fun v s1 ⟨x, H1, I1, r1, q1⟩ => chain_link (thn (hb.run pins s1 σ H1 _ I1 q1) fun u s2 ⟨y, H2, I2, r2, q2⟩ =>
    thn (ho pins s2 σ H2 x y v u _ I2 r1 r2 q2) fun d s3 ⟨z, H3, I3, r3, k, e, q3⟩ => ?_)) hm
  subst e
  cases r3
  refine wpAny_truthy_bool ?_
  cases k with
  | false => exact ite_ff ⟨.bl false, H3, I3, rfl, q3⟩
  | true =>
    refine ite_tt (chain_link (thn (hc.run pins s3 σ H3 _ I3 q3) fun w' s4 ⟨z', H4, I4, r4, q4⟩ => thn (ho' pins s4 σ H4 y z' u w' _ I4 r2 r4 q4) fun d' s5 ⟨z5, H5, I5, r5, k5, e5, q5⟩ => ?_))
    subst e5
    cases r5
    refine wpAny_truthy_bool ?_
    cases k5 with
    | false => exact ite_ff ⟨.bl false, H5, I5, rfl, q5⟩
    | true => exact ite_tt (chain_last (thn (hd.run pins s5 σ H5 _ I5 q5) fun w6 s6 ⟨z6, H6, I6, r6, q6⟩ => ho'' pins s6 σ H6 z' z6 w' w6 Q I6 r4 r6 q6))
theorem pt_chain3 {op op' op'' : CmpOp} {r r' r'' : R2} (ho : OpR X (compareOp op) r) (ho' : OpR X (compareOp op') r') (ho'' : OpR X (compareOp op'') r'') (ha : PE X a ta) (hb : PE X b tb) (hc : PE X c tc) (hd : PE X d td)
    (hm : lastMarks [op, op', op''] [b, c, d] = false := by with_unfolding_all rfl) : PT X (.Compare a [op, op', op''] [b, c, d] pos) (tTest (tChain3 r r' r'' ta tb tc td)) := by
  refine ⟨fun pins s σ H Q I h => ?_⟩
  refine isTrue_chain (thn (ha.run pins s σ H _ I h) fun v s1 ⟨x, H1, I1, r1, q1⟩ => test_link (thn (hb.run pins s1 σ H1 _ I1 q1) fun u s2 ⟨y, H2, I2, r2, q2⟩ =>
    thn (ho pins s2 σ H2 x y v u _ I2 r1 r2 q2) fun d s3 ⟨z, H3, I3, r3, k, e, q3⟩ => ?_)) hm
  subst e
  cases r3
  refine wpAny_truthy_bool ?_
  cases k with
  | false =>
    obtain ⟨k', e', q'⟩ := q3
    cases e'
    exact ite_ff ⟨H3, I3, q'⟩
  | true =>
    refine ite_tt (test_link (thn (hc.run pins s3 σ H3 _ I3 q3) fun w' s4 ⟨z', H4, I4, r4, q4⟩ => thn (ho' pins s4 σ H4 y z' u w' _ I4 r2 r4 q4) fun d' s5 ⟨z5, H5, I5, r5, k5, e5, q5⟩ => ?_))
    subst e5
    cases r5
    refine wpAny_truthy_bool ?_
    cases k5 with
    | false =>
      obtain ⟨k', e', q'⟩ := q5
      cases e'
      exact ite_ff ⟨H5, I5, q'⟩
    | true =>
      refine ite_tt (test_last (thn (hd.run pins s5 σ H5 _ I5 q5) fun w6 s6 ⟨z6, H6, I6, r6, q6⟩ => thn (ho'' pins s6 σ H6 z' z6 w' w6 _ I6 r4 r6 q6) fun d7 s7 ⟨z7, H7, I7, r7, k7, e7, q7⟩ => ?_))
      subst e7
      cases r7
      exact wpAny_truthy_bool ⟨H7, I7, q7⟩
end
/-! f(k = v, ..): keywords alone -/
section
variable {X : Cx} {CX : CXT} {k : Nat} {f C : Addr} {fd : FuncData} {ps ks : List Str} {sp : Sp} {E : XK} {x m : Str} {p pos apos kpos : Pos} {kws : List Keyword} {tk : TA}
variable {g : List Value → List Value → List Value} {gV : List V → List V → List V}
theorem pe_callK0 (F : FnOk X.prog X.w X.K X.mg X.base CX k f fd ps sp) (hr : Room k X.A) (hg : Gl X x) (hm : X.mg x = some (.ref f)) (hk : PySem.W.keepIn X.K (.ref f) = true) (hb : KBinds X.K fd ps ks g gV) (hx : Passes CX X E)
    (hkw : PK X kws tk) (hall : (backToKw pos (keywordEach kws X.env)).all (·.1.isSome) = true := by rfl) (hks : (backToKw pos (keywordEach kws X.env)).filterMap (·.1) = ks := by rfl)
    (hdb : (x == ("__debug__" : Str)) = false := by decide)
    (hpl : ((backTo pos (starEach [] X.env)).any (·.1) || (backToKw pos (keywordEach kws X.env)).any (·.1.isNone)) = false := by rfl) :
    PE X (.Call (.Name x p) [] kws pos) (tCallK sp gV E tNil tk) := by
  refine ⟨fun pins s σ H Q I h => ?_⟩
  refine wpAny_Call_Name_kw (ld_glob I hg hm ?_ hdb)
  refine PySem.W.callWith_KW0 (h₀ := X.base) I.ok.mod.kin hk hall ?_ hpl
  refine thn (hkw.run pos pins s σ H _ I h) fun ws s2 ⟨zs, H2, I2, rz, q2⟩ => ⟨I2.kIn, ?_⟩
  rw [hks]
  exact run_fnk F hr hb hx I2 (us := []) (vs := []) .nil rz q2
end
theorem pe_gc {X : Cx} {x : Str} {pos : Pos} {v : V} (hg : Gl X x) (h : ∃ u, X.mg x = some u ∧ RelV v u) (hd : (x == ("__debug__" : Str)) = false := by decide) : PE X (.Name x pos) (tC v) := by
  obtain ⟨u, hm, r⟩ := h
  exact pe_glob hg hm r hd
/-! built-ins by name, with readings that have names -/
section
variable {X : Cx}
def rAbs : List V → Hp → VK → Prop := fun xs H Q => ∃ i, xs = [.int i] ∧ Q (.int (if i < 0 then -i else i)) H
def rMin2 : List V → Hp → VK → Prop := fun xs H Q => ∃ i j, xs = [.int i, .int j] ∧ Q (.int (if j < i then j else i)) H
def rIntI : List V → Hp → VK → Prop := fun xs H Q => ∃ i, xs = [.int i] ∧ Q (.int i) H
def rIntB : List V → Hp → VK → Prop := fun xs H Q => ∃ b, xs = [.bl b] ∧ Q (.int (if b then 1 else 0)) H
theorem call_absR : CallR X (.builtin "abs") rAbs := call_abs
theorem call_maxR (hc : X.calm = true) : CallR X (.builtin "max") rMax2 := call_max2 hc
theorem call_minR (hc : X.calm = true) : CallR X (.builtin "min") rMin2 := call_min2 hc
theorem call_intI : CallR X (.type "int") rIntI := by
  intro pins s σ H xs us Q I r h
  obtain ⟨i, e, q⟩ := h
  exact call_int1 pins s σ H xs us Q I r (.inl ⟨i, e, q⟩)
theorem call_intB : CallR X (.type "int") rIntB := by
  intro pins s σ H xs us Q I r h
  obtain ⟨i, e, q⟩ := h
  exact call_int1 pins s σ H xs us Q I r (.inr ⟨i, e, q⟩)
theorem call_lenR : CallR X (.builtin "len") (rLenS X.K) := call_len_seq
theorem call_listR : CallR X (.type "list") (rListS X.K) := call_list_of
def rTupS (K : PySem.W.Frag) : List V → Hp → VK → Prop := fun xs H Q => ∃ p ys, xs = [.ref p] ∧ SqL K H p ys ∧ ∀ l, H l = none → Q (.ref l) (upd H l (.tup ys))
theorem call_tupR : CallR X (.type "tuple") (rTupS X.K) := by
  intro pins s σ H xs us Q I r h
  obtain ⟨p, ys, e, hs, q⟩ := h
  exact call_tuple_of pins s σ H xs us Q I r ⟨p, ys, e, .inl ⟨hs, q⟩⟩
def rIsN1 : R2 := fun x y H Q => y = .non ∧ Q (.bl (decide (x = .non))) H
def rNotN1 : R2 := fun x y H Q => y = .non ∧ Q (.bl (!decide (x = .non))) H
theorem op_isNR : OpR X (compareOp .Is) rIsN1 := op_isN
theorem op_notNR : OpR X (compareOp .IsNot) rNotN1 := op_notN
end
/-! evaluations of these -/
section
variable {K : PySem.W.Frag} {σ : L2.St} {H H' : Hp} {ta tb tc td te : TE} {x y z v : V} {r : R2} {i j : Int}
theorem ev_abs (h : Ev ta σ H (.int i)) : Ev (tCB rAbs (tCons ta tNil)) σ H (.int (if i < 0 then -i else i)) := fun H1 e Q q => h H1 e _ fun H2 e2 => ⟨i, rfl, q H2 e2⟩
theorem ev_min2 (ha : Ev ta σ H (.int i)) (hb : Ev tb σ H (.int j)) : Ev (tCB rMin2 (tCons ta (tCons tb tNil))) σ H (.int (if j < i then j else i)) := fun H1 e Q q =>
  ha H1 e _ fun H2 e2 => hb H2 (e.trans e2) _ fun H3 e3 => ⟨i, j, rfl, q H3 (e2.trans e3)⟩
theorem ev_intI (h : Ev ta σ H (.int i)) : Ev (tCB rIntI (tCons ta tNil)) σ H (.int i) := fun H1 e Q q => h H1 e _ fun H2 e2 => ⟨i, rfl, q H2 e2⟩
theorem ev_intB {b : Bool} (h : Ev ta σ H (.bl b)) : Ev (tCB rIntB (tCons ta tNil)) σ H (.int (if b then 1 else 0)) := fun H1 e Q q => h H1 e _ fun H2 e2 => ⟨b, rfl, q H2 e2⟩
theorem rv_isN : RV rIsN1 x .non H (.bl (decide (x = .non))) := fun H1 _ _ q => ⟨rfl, q H1 (Ex.refl H1)⟩
theorem rv_notN : RV rNotN1 x .non H (.bl (!decide (x = .non))) := fun H1 _ _ q => ⟨rfl, q H1 (Ex.refl H1)⟩
theorem ev_chain {r r' : R2} {k : Bool} {k' : Bool} (ha : Ev ta σ H x) (hb : Ev tb σ H y) (hr : RV r x y H (.bl k)) (hc : k = true → ∃ z, Ev tc σ H z ∧ RV r' y z H (.bl k')) : Ev (tChain r r' ta tb tc) σ H (.bl (k && k')) := fun H1 e Q q =>
  ha H1 e _ fun H2 e2 => hb H2 (e.trans e2) _ fun H3 e3 => hr H3 ((e.trans e2).trans e3) _ fun H4 e4 => ⟨k, rfl, by
    cases k with
    | true =>
      obtain ⟨z, h1, h2⟩ := hc rfl
      exact h1 H4 (((e.trans e2).trans e3).trans e4) _ fun H5 e5 => h2 H5 ((((e.trans e2).trans e3).trans e4).trans e5) _ fun H6 e6 => q H6 ((((e2.trans e3).trans e4).trans e5).trans e6)
    | false => exact q H4 ((e2.trans e3).trans e4)⟩
theorem ev_chainI {C C' : Int → Int → Bool} {i j l : Int} (ha : Ev ta σ H (.int i)) (hb : Ev tb σ H (.int j)) (hc : Ev tc σ H (.int l)) :
    Ev (tChain (rI0 fun i j => .bl (C i j)) (rI0 fun i j => .bl (C' i j)) ta tb tc) σ H (.bl (C i j && C' j l)) := ev_chain ha hb rv_I0 fun _ => ⟨_, hc, rv_I0⟩
theorem ev_chain3I {C C' C'' : Int → Int → Bool} {i j l m : Int} (ha : Ev ta σ H (.int i)) (hb : Ev tb σ H (.int j)) (hc : Ev tc σ H (.int l)) (hd : Ev td σ H (.int m)) :
    Ev (tChain3 (rI0 fun i j => .bl (C i j)) (rI0 fun i j => .bl (C' i j)) (rI0 fun i j => .bl (C'' i j)) ta tb tc td) σ H (.bl (C i j && (C' j l && C'' l m))) := fun H1 e Q q =>
  ha H1 e _ fun H2 e2 => hb H2 (e.trans e2) _ fun H3 e3 => ⟨i, j, rfl, rfl, C i j, rfl, by
    have e23 := e2.trans e3
    generalize C i j = k1 at q ⊢
    cases k1 with
    | false => exact q H3 e23
    | true =>
      refine hc H3 (e.trans e23) _ fun H4 e4 => ⟨j, l, rfl, rfl, C' j l, rfl, ?_⟩
      generalize C' j l = k2 at q ⊢
      cases k2 with
      | false => exact q H4 (e23.trans e4)
      | true => exact hd H4 ((e.trans e23).trans e4) _ fun H5 e5 => ⟨l, m, rfl, rfl, q H5 ((e23.trans e4).trans e5)⟩⟩
theorem rv_eqTy {m n : String} (hm : Meta m) (hn : Meta n) : RV rEqTy (.ty m) (.ty n) H (.bl (decide (m = n))) := fun H1 _ _ q => ⟨m, n, rfl, rfl, hm, hn, q H1 (Ex.refl H1)⟩
theorem ev_typeI (h : Ev ta σ H (.int i)) : Ev (tThenZ ta kTyp) σ H (.ty "int") := fun H1 e Q q => h H1 e _ fun H2 e2 => ⟨"int", rfl, q H2 e2⟩
/-- a tuple that was made is read as two names -/
theorem s_tup2 {D : Ends} {i j : Nat} {p : Addr} (ha : Ev ta σ H (.ref p)) (hp : SqT K H p [x, y]) (k : ∀ H1, Ex H H1 → D.nx ((σ.set i (some x)).set j (some y)) H1) : tAsg ta (gTup K 2 (gCons (gName i) (gCons (gName j) gNil))) D σ H :=
  ha H (Ex.refl H) _ fun H1 e => ⟨p, [x, y], rfl, ex_t e hp, rfl, x, [y], rfl, y, [], rfl, rfl, k H1 e⟩
end
/-- a new tuple that is handed back -/
def RetU (xs : List V) (H : Hp) (Q : VK) : Prop := ∀ p H2, H p = none → Ex H H2 → H2 p = some (.tup xs) → Q (.ref p) H2
def SpU (sp : Sp) (vs : List V) (H : Hp) (xs : List V) : Prop := ∀ H1, Ex H H1 → ∀ Q : VK, (∀ p H2, H1 p = none → Ex H1 H2 → H2 p = some (.tup xs) → Q (.ref p) H2) → ∀ E : XK, sp vs H1 Q E
section
variable {K : PySem.W.Frag} {σ : L2.St} {H : Hp}
theorem eu_call {sp : Sp} {dvs vs xs : List V} {E : XK} {ta : TA} (h : EvA ta σ H vs) (hs : SpU sp (vs ++ dvs) H xs) : EvU (tCall sp dvs E ta) σ H xs := fun H1 e Q q =>
  h H1 e _ fun H2 e2 => hs H2 (e.trans e2) Q (fun p H3 hp e3 h3 => q p H3 (fresh_back e2 hp) (e2.trans e3) h3) E
/-- a, b = f(..), f's answer a new tuple -/
theorem s_tup2U {te : TE} {D : Ends} {i j : Nat} {x y : V} (ha : EvU te σ H [x, y]) (k : ∀ H1, Ex H H1 → D.nx ((σ.set i (some x)).set j (some y)) H1) : tAsg te (gTup K 2 (gCons (gName i) (gCons (gName j) gNil))) D σ H :=
  ha H (Ex.refl H) _ fun p H1 _ e h1 => ⟨p, [x, y], rfl, st_of h1, rfl, x, [y], rfl, y, [], rfl, rfl, k H1 e⟩
theorem q_tup2U {te : TE} {tz : TS} {D : Ends} {i j : Nat} {x y : V} (ha : EvU te σ H [x, y]) (k : ∀ H1, Ex H H1 → tz D ((σ.set i (some x)).set j (some y)) H1) : tSeq (tAsg te (gTup K 2 (gCons (gName i) (gCons (gName j) gNil)))) tz D σ H := s_tup2U (D := { D with nx := tz D }) ha k
theorem q_tup2 {ta : TE} {tz : TS} {D : Ends} {i j : Nat} {p : Addr} {x y : V} (ha : Ev ta σ H (.ref p)) (hp : SqT K H p [x, y]) (k : ∀ H1, Ex H H1 → tz D ((σ.set i (some x)).set j (some y)) H1) : tSeq (tAsg ta (gTup K 2 (gCons (gName i) (gCons (gName j) gNil)))) tz D σ H := s_tup2 (D := { D with nx := tz D }) ha hp k
/-- a, b = x, y -/
theorem s_par {ta : TA} {D : Ends} {i j : Nat} {x y : V} (ha : EvA ta σ H [x, y]) (k : ∀ H1, Ex H H1 → D.nx ((σ.set i (some x)).set j (some y)) H1) : tPar i j ta D σ H := ha H (Ex.refl H) _ fun H1 e => ⟨x, y, rfl, k H1 e⟩
theorem q_par {ta : TA} {tz : TS} {D : Ends} {i j : Nat} {x y : V} (ha : EvA ta σ H [x, y]) (k : ∀ H1, Ex H H1 → tz D ((σ.set i (some x)).set j (some y)) H1) : tSeq (tPar i j ta) tz D σ H := s_par (D := { D with nx := tz D }) ha k
end
theorem natAbs_pow_le {b : Int} {k : Nat} (h : b.natAbs < 2 ^ k) (n : Nat) : (b ^ n).natAbs ≤ 2 ^ (k * n) := by
  rw [Int.natAbs_pow, Nat.pow_mul]
  exact Nat.pow_le_pow_left (Nat.le_of_lt h) n
theorem lt_of_le2 {x k : Nat} (h : x ≤ 2 ^ k) : x < 2 ^ (k + 1) := Nat.lt_of_le_of_lt h (Nat.pow_lt_pow_right (by decide) (Nat.lt_succ_self k))
theorem lt2_mono {x k m : Nat} (h : x < 2 ^ k) (e : k ≤ m) : x < 2 ^ m := Nat.lt_of_lt_of_le h (Nat.pow_le_pow_right (by decide) e)
theorem natAbs_mul_lt {a b : Int} {k m : Nat} (ha : a.natAbs < 2 ^ k) (hb : b.natAbs < 2 ^ m) : (a * b).natAbs < 2 ^ (k + m) := wide_lt ha hb
/-! comprehensions -/
section
variable {K : PySem.W.Frag} {σ : L2.St} {H : Hp} {te tl : TE} {t : TT}
theorem et_yes : EvT tYes σ H true := fun H1 _ _ q => q H1 (Ex.refl H1)
theorem given_map {xs : List V} {F : V → V} : given xs.length (fun _ => true) (fun i => F (xs.getD i .non)) = xs.map F := by
  unfold given
  rw [List.filter_eq_self.mpr (fun _ _ => rfl)]
  refine List.ext_getElem (by simp) fun i h1 h2 => ?_
  simp at h1
  simp [h1]
/-- [e for x in xs] -/
theorem el_map {a : Addr} {xs : List V} {j : Nat} {vs : List Nat} (F : V → V) (h : Ev tl σ H (.ref a)) (hx : SqL K H a xs) (hz : xs.length ≤ 40000) (hw : ∀ x, wipe ((wipe σ vs).set j (some x)) vs = wipe σ vs)
    (he : ∀ (i : Nat) (x : V) H1, Ex H H1 → xs[i]? = some x → Ev te ((wipe σ vs).set j (some x)) H1 (F x)) : EvL (tLc (iList K tl) (gName j) tYes te vs) σ H (xs.map F) := by
  rw [← given_map]
  refine el_lcL _ _ h hx hz hw (fun _ _ _ _ _ => et_yes) fun i x H1 e hi _ => ?_
  have q := he i x H1 e hi
  have g : xs.getD i .non = x := by rw [List.getD_eq_getElem?_getD, hi] <;> rfl
  show Ev _ _ _ (F (xs.getD i .non))
  rw [g]
  exact q
theorem el_mapN {xs : List V} {j : Nat} {vs : List Nat} (F : V → V) (h : EvL tl σ H xs) (hz : xs.length ≤ 40000) (hw : ∀ x, wipe ((wipe σ vs).set j (some x)) vs = wipe σ vs)
    (he : ∀ (i : Nat) (x : V) H1, Ex H H1 → xs[i]? = some x → Ev te ((wipe σ vs).set j (some x)) H1 (F x)) : EvL (tLc (iList K tl) (gName j) tYes te vs) σ H (xs.map F) := by
  rw [← given_map]
  refine el_lcNL _ _ h hz hw (fun _ _ _ _ _ => et_yes) fun i x H1 e hi _ => ?_
  have q := he i x H1 e hi
  have g : xs.getD i .non = x := by rw [List.getD_eq_getElem?_getD, hi] <;> rfl
  show Ev _ _ _ (F (xs.getD i .non))
  rw [g]
  exact q
/-- [e for x in range(lo, hi) if t] -/
theorem el_lcR2 {ta : TA} {j : Nat} {vs : List Nat} {lo n : Int} (f : Nat → Bool) (v : Nat → V) (h : EvA ta σ H [.int lo, .int n]) (hn : 0 ≤ lo ∧ lo ≤ 40000 ∧ -40000 ≤ n ∧ n ≤ 40000) (hw : ∀ x, wipe ((wipe σ vs).set j (some x)) vs = wipe σ vs)
    (ht : ∀ (i : Nat) H1, Ex H H1 → lo + (i : Int) < n → EvT t ((wipe σ vs).set j (some (.int (lo + (i : Int))))) H1 (f i)) (he : ∀ (i : Nat) H1, Ex H H1 → lo + (i : Int) < n → f i = true → Ev te ((wipe σ vs).set j (some (.int (lo + (i : Int))))) H1 (v i)) :
    EvL (tLc (iRng2 ta) (gName j) t te vs) σ H (given (n - lo).toNat f v) := fun H0 e Q q => h H0 e _ fun H1 e1 => ⟨lo, n, rfl, ⟨by omega, by omega, by omega, by omega⟩, fun Dl hD =>
  lc_range (lo := lo) (n := (n - lo).toNat) (Cw H1 f v Dl) ⟨hD, Ex.new hD, upd_same⟩ (fun i H' hi p =>
    ⟨hw _, cw_turn p (by omega) (ht i H1 (e.trans e1) (by omega)) (fun hf => he i H1 (e.trans e1) (by omega) hf)⟩) (fun H' p => q Dl H' (fresh_back e1 p.1) (e1.trans p.2.1) p.2.2)⟩
theorem given_none {n : Nat} {f : Nat → Bool} {v : Nat → V} (h : ∀ i, i < n → f i = false) : given n f v = [] := by
  unfold given
  rw [List.filter_eq_nil_iff.mpr (fun i hi => by simp [h i (List.mem_range.mp hi)])]
  rfl
/-- xs + ys, both new -/
theorem el_cat {ta tb : TE} {xs ys : List V} (ha : EvL ta σ H xs) (hb : EvL tb σ H ys) (hl : xs.length + ys.length ≤ 100000) : EvL (tOp rCat ta tb) σ H (xs ++ ys) := fun H1 e Q q =>
  ha H1 e _ fun p H2 hp e2 h2 => hb H2 (e.trans e2) _ fun p' H3 hp' e3 h3 =>
    ⟨p, p', xs, ys, rfl, rfl, e3 p _ h2, h3, sz_of hl, fun l hl' => q l _ (fresh_back (e2.trans e3) hl') ((e2.trans e3).trans (Ex.new hl')) upd_same⟩
/-- [e for x, y in zip(xs, ys)] -/
theorem el_zip {ta : TA} {i j : Nat} {vs : List Nat} {a b : Addr} {xs ys : List V} (F : V → V → V) (h : EvA ta σ H [.ref a, .ref b]) (hx : SqL K H a xs) (hy : SqL K H b ys) (hl : xs.length = ys.length) (hz : xs.length ≤ 40000)
    (hw : ∀ x y, wipe (((wipe σ vs).set i (some x)).set j (some y)) vs = wipe σ vs)
    (he : ∀ (n : Nat) x y H1, Ex H H1 → xs[n]? = some x → ys[n]? = some y → Ev te (((wipe σ vs).set i (some x)).set j (some y)) H1 (F x y)) :
    EvL (tLc (iZip K ta) (gTup K 2 (gCons (gName i) (gCons (gName j) gNil))) tYes te vs) σ H (List.zipWith F xs ys) := fun H0 e Q q => h H0 e _ fun H1 e1 => ⟨a, b, xs, ys, rfl, ex_l (e.trans e1) hx, ex_l (e.trans e1) hy, fun Dl hD => by
  refine lc_it (walk_zip (n := xs.length) (by omega)) (fun n H' => Ex H1 H' ∧ H' Dl = some (.lst ((List.zipWith F xs ys).take n))) ⟨Ex.new hD, upd_same⟩ (fun n H' _ p => ⟨ex_l ((e.trans e1).trans p.1) hx, ex_l ((e.trans e1).trans p.1) hy⟩) ?_ fun H' p => ?_
  · rintro n v Hh H' hn ⟨p1, p2⟩ ⟨T, x, y, rfl, nT, rfl, g1, g2⟩
    have eT : Ex Hh (upd Hh T (.tup [x, y])) := Ex.new nT
    refine ⟨T, [x, y], rfl, st_of upd_same, rfl, x, [y], rfl, y, [], rfl, rfl, hw x y, ?_⟩
    show te _ _ _
    refine he n x y H1 (e.trans e1) g1 g2 _ (p1.trans eT) _ fun H4 e4 => ?_
    have k2 := e4 Dl _ (eT Dl _ p2)
    refine ⟨_, k2, sz_lt (by rw [List.length_take]; omega), Ex.mut (p1.trans (eT.trans e4)) hD, ?_⟩
    rw [upd_same]
    have gz : (List.zipWith F xs ys)[n]? = some (F x y) := by
      rw [List.getElem?_zipWith, show xs[n]? = some x from g1, show ys[n]? = some y from g2]
    rw [List.take_add_one, gz]
    rfl
  · obtain ⟨p1, p2⟩ := p
    rw [List.take_of_length_le (by rw [List.length_zipWith]; omega)] at p2
    exact q Dl H' (fresh_back e1 hD) (e1.trans p1) p2⟩
theorem ev_gcd {ta tb : TE} {a b : Int} (ha : Ev ta σ H (.int a)) (hb : Ev tb σ H (.int b)) : Ev (tCB rGcd (tCons ta (tCons tb tNil))) σ H (.int ((Nat.gcd a.natAbs b.natAbs : Nat) : Int)) := fun H1 e Q q =>
  ha H1 e _ fun H2 e2 => hb H2 (e.trans e2) _ fun H3 e3 => ⟨a, b, rfl, q H3 (e2.trans e3)⟩
end
/-! data, compared by == -/
section
variable {K : PySem.W.Frag} {σ : L2.St} {H H' : Hp}
mutual
theorem Dp.ex (e : Ex H H') : ∀ (d : PyData) (v : V), Dp K H v d → Dp K H' v d
  | .none, _, h => by cases h; exact .non
  | .bool _, _, h => by cases h; exact .bl _
  | .int _, _, h => by cases h; exact .int _
  | .str _, _, h => by cases h; exact .str _
  | .list ds, _, h => by
    cases h with
    | lst hs ha => exact .lst (ex_l e hs) (DpAll.ex e ds _ ha)
  | .tuple ds, _, h => by
    cases h with
    | tup hs ha => exact .tup (ex_t e hs) (DpAll.ex e ds _ ha)
  | .dict _, _, h => by cases h
theorem DpAll.ex (e : Ex H H') : ∀ (ds : List PyData) (vs : List V), DpAll K H vs ds → DpAll K H' vs ds
  | [], _, h => by cases h; exact .nil
  | d :: ds, _, h => by
    cases h with
    | cons h1 h2 => exact .cons (Dp.ex e d _ h1) (DpAll.ex e ds _ h2)
end
theorem DpAll.len : ∀ {ds : List PyData} {vs : List V}, DpAll K H vs ds → vs.length = ds.length
  | [], _, h => by cases h; rfl
  | d :: ds, _, h => by
    cases h with
    | cons h1 h2 => simp [DpAll.len h2]
def EvD (K : PySem.W.Frag) (te : TE) (σ : L2.St) (H : Hp) (d : PyData) : Prop := ∀ H1, Ex H H1 → ∀ Q : VK, (∀ v H2, Ex H1 H2 → Dp K H2 v d → Q v H2) → te σ H1 Q
def EvDA (K : PySem.W.Frag) (ta : TA) (σ : L2.St) (H : Hp) (ds : List PyData) : Prop := ∀ H1, Ex H H1 → ∀ Q : List V → Hp → Prop, (∀ vs H2, Ex H1 H2 → DpAll K H2 vs ds → Q vs H2) → ta σ H1 Q
variable {te ta tb : TE} {d e : PyData} {ds : List PyData}
theorem ed_of {v : V} (h : Ev te σ H v) (k : Dp K H v d) : EvD K te σ H d := fun H1 e1 Q q => h H1 e1 Q fun H2 e2 => q v H2 e2 (Dp.ex (e1.trans e2) d v k)
theorem ed_int {i : Int} (h : Ev te σ H (.int i)) : EvD K te σ H (.int i) := ed_of h (.int i)
theorem ed_bl {i : Bool} (h : Ev te σ H (.bl i)) : EvD K te σ H (.bool i) := ed_of h (.bl i)
theorem ed_non (h : Ev te σ H .non) : EvD K te σ H .none := ed_of h .non
theorem ed_str {i : Str} (h : Ev te σ H (.str i)) : EvD K te σ H (.str i) := ed_of h (.str i)
theorem eda_nil : EvDA K tNil σ H [] := fun H1 _ _ q => q [] H1 (Ex.refl H1) .nil
theorem eda_cons {tr : TA} (h : EvD K te σ H d) (hr : EvDA K tr σ H ds) : EvDA K (tCons te tr) σ H (d :: ds) := fun H1 e _ q =>
  h H1 e _ fun v H2 e2 dv => hr H2 (e.trans e2) _ fun vs H3 e3 dvs => q (v :: vs) H3 (e2.trans e3) (.cons (Dp.ex e3 d v dv) dvs)
theorem ed_lst {t : TA} (h : EvDA K t σ H ds) (hl : ds.length ≤ 100000) : EvD K (tLst t) σ H (.list ds) := fun H1 e _ q =>
  h H1 e _ fun vs H2 e2 dv => ⟨sz_of (by rw [DpAll.len dv]; exact hl), fun p hp => q _ _ (e2.trans (Ex.new hp)) (.lst (sq_of upd_same) (DpAll.ex (Ex.new hp) ds vs dv))⟩
theorem ed_tup {t : TA} (h : EvDA K t σ H ds) (hl : ds.length ≤ 100000) : EvD K (tTup t) σ H (.tuple ds) := fun H1 e _ q =>
  h H1 e _ fun vs H2 e2 dv => ⟨sz_of (by rw [DpAll.len dv]; exact hl), fun p hp => q _ _ (e2.trans (Ex.new hp)) (.tup (st_of upd_same) (DpAll.ex (Ex.new hp) ds vs dv))⟩
theorem ed_ofL {xs : List V} (h : EvL te σ H xs) (k : DpAll K H xs ds) : EvD K te σ H (.list ds) := fun H1 e1 Q q => h H1 e1 Q fun p H2 _ e2 h2 => q _ H2 e2 (.lst (sq_of h2) (DpAll.ex (e1.trans e2) ds xs k))
theorem ed_ofU {xs : List V} (h : EvU te σ H xs) (k : DpAll K H xs ds) : EvD K te σ H (.tuple ds) := fun H1 e1 Q q => h H1 e1 Q fun p H2 _ e2 h2 => q _ H2 e2 (.tup (st_of h2) (DpAll.ex (e1.trans e2) ds xs k))
theorem dpa_ints : ∀ ns : List Int, DpAll K H (ns.map V.int) (ns.map PyData.int)
  | [] => .nil
  | n :: r => .cons (.int n) (dpa_ints r)
theorem ev_eqD (ha : EvD K ta σ H d) (hb : EvD K tb σ H e) (sd : SeqAt.shaped d = true) (se : SeqAt.shaped e = true) : Ev (tOp (rEqD K) ta tb) σ H (.bl (PyData.eqv d e)) := fun H1 e1 Q q =>
  ha H1 e1 _ fun v H2 e2 dv => hb H2 (e1.trans e2) _ fun u H3 e3 du => ⟨d, e, Dp.ex e3 d v dv, du, sd, se, q H3 (e2.trans e3)⟩
theorem ev_neD (ha : EvD K ta σ H d) (hb : EvD K tb σ H e) (sd : SeqAt.shaped d = true) (se : SeqAt.shaped e = true) : Ev (tOp (rNeD K) ta tb) σ H (.bl (!PyData.eqv d e)) := fun H1 e1 Q q =>
  ha H1 e1 _ fun v H2 e2 dv => hb H2 (e1.trans e2) _ fun u H3 e3 du => ⟨d, e, Dp.ex e3 d v dv, du, sd, se, q H3 (e2.trans e3)⟩
theorem shaped_ints : ∀ ns : List Int, SeqAt.shaped (.list (ns.map PyData.int)) = true := fun ns => by
  have h1 : ∀ ms : List Int, PyData.canLayAll0 (ms.map PyData.int) = true := fun ms => by
    induction ms with
    | nil => rfl
    | cons m r ih => simp [PyData.canLayAll0, PyData.canLay0, ih]
  have h2 : ∀ ms : List Int, PyData.depthAll (ms.map PyData.int) = 0 := fun ms => by
    induction ms with
    | nil => rfl
    | cons m r ih => simp [PyData.depthAll, PyData.depth, ih]
  simp [SeqAt.shaped, PyData.canLay0, h1, PyData.depth, h2]
theorem eqv_same {d : PyData} (h : SeqAt.shaped d = true) : PyData.eqv d d = true := by
  have h1 : PyData.canLay0 d = true := (Bool.and_eq_true_iff.mp h).1
  first
    | exact PySem.P3.eqv_refl d h1
    | exact PyData.eqv_refl d h1
    | exact PySem.SeqAt.eqv_refl d h1
/-- f(k = v): a new tuple back -/
theorem eu_callK {sp : Sp} {gV : List V → List V → List V} {E : XK} {t tk : TA} {vs zs xs : List V} (h : EvA t σ H vs) (hk : EvA tk σ H zs) (hs : SpU sp (gV vs zs) H xs) : EvU (tCallK sp gV E t tk) σ H xs := fun H1 e Q q =>
  h H1 e _ fun H2 e2 => hk H2 (e.trans e2) _ fun H3 e3 => hs H3 ((e.trans e2).trans e3) Q (fun p H4 hp e4 h4 => q p H4 (fresh_back (e2.trans e3) hp) ((e2.trans e3).trans e4) h4) E
theorem ev_callK {sp : Sp} {gV : List V → List V → List V} {E : XK} {t tk : TA} {vs zs : List V} {z : V} (h : EvA t σ H vs) (hk : EvA tk σ H zs) (hs : SpV sp (gV vs zs) H z) : Ev (tCallK sp gV E t tk) σ H z := fun H1 e Q q =>
  h H1 e _ fun H2 e2 => hk H2 (e.trans e2) _ fun H3 e3 => hs H3 ((e.trans e2).trans e3) Q (fun H4 e4 => q H4 ((e2.trans e3).trans e4)) E
/-- isinstance(x, tuple) of a tuple; len of a tuple -/
theorem ev_isT {p : Addr} {xs : List V} {n : String} {b : Bool} (h : Ev ta σ H (.ref p)) (hp : H p = some (.tup xs)) (hk : PySem.W.kitOne K (.type "tuple") (.type n) = some b) : Ev (tCB (rIsi K) (tCons ta (tCons (tC (.ty n)) tNil))) σ H (.bl b) := fun H1 e Q q =>
  h H1 e _ fun H2 e2 => ⟨.ref p, .ty n, .type "tuple", .type n, b, rfl, .ty n, .base (.tup (e2 p _ (e p _ hp))), hk, q H2 e2⟩
theorem ev_lenT {p : Addr} {xs : List V} (ha : Ev ta σ H (.ref p)) (h : SqT K H p xs) : Ev (tCB (rLenS K) (tCons ta tNil)) σ H (.int (xs.length : Int)) := fun H1 e Q q =>
  ha H1 e _ fun H2 e2 => ⟨p, xs, rfl, Or.inr (ex_t (e.trans e2) h), q H2 e2⟩
/-- list(range(a, b)) -/
theorem el_rg2 {a b : Int} (ha : Ev ta σ H (.int a)) (hb : Ev tb σ H (.int b)) (h : RgOk a b) : EvL (tLstRg (tRg2 ta tb)) σ H (rgV a b) := fun H1 e Q q =>
  ha H1 e _ fun H2 e2 => hb H2 (e.trans e2) _ fun H3 e3 => ⟨a, b, rfl, rfl, h, fun p hp => q p _ (fresh_back (e2.trans e3) hp) ((e2.trans e3).trans (Ex.new hp)) upd_same⟩
theorem el_rg1 {b : Int} (hb : Ev tb σ H (.int b)) (h : RgOk 0 b) : EvL (tLstRg (tRg1 tb)) σ H (rgV 0 b) := fun H1 e Q q =>
  hb H1 e _ fun H3 e3 => ⟨b, rfl, h, fun p hp => q p _ (fresh_back e3 hp) (e3.trans (Ex.new hp)) upd_same⟩
end
/-! more statements -/
section
variable {K : PySem.W.Frag} {σ : L2.St} {H H' : Hp} {te tl : TE} {t : TT} {D : Ends} {tu tz : TS} {g : TG}
/-- a comprehension over range(lo, n) that keeps nothing -/
theorem el_noneR2 {ta : TA} {j : Nat} {vs : List Nat} {lo n : Int} (h : EvA ta σ H [.int lo, .int n]) (hn : 0 ≤ lo ∧ lo ≤ 40000 ∧ -40000 ≤ n ∧ n ≤ 40000) (hw : ∀ x, wipe ((wipe σ vs).set j (some x)) vs = wipe σ vs)
    (ht : ∀ (i : Nat) H1, Ex H H1 → lo + (i : Int) < n → EvT t ((wipe σ vs).set j (some (.int (lo + (i : Int))))) H1 false) : EvL (tLc (iRng2 ta) (gName j) t te vs) σ H [] := by
  have q := el_lcR2 (te := te) (fun _ => false) (fun _ => .non) h hn hw ht (fun _ _ _ _ hf => Bool.noConfusion hf)
  rw [given_none (fun _ _ => rfl)] at q
  exact q
/-- a for over a new tuple -/
theorem s_forNU {xs : List V} (h : EvU tl σ H xs) (Pv : Addr → Nat → L2.St → Hp → Prop) (h0 : ∀ p H1, H p = none → Ex H H1 → H1 p = some (.tup xs) → Pv p 0 σ H1) (hl : ∀ p i σ' H', i ≤ xs.length → Pv p i σ' H' → SqT K H' p xs)
    (hs : ∀ p i x σ' H', xs[i]? = some x → Pv p i σ' H' → g x σ' H' fun σ2 H2 => tu { D with nx := Pv p (i + 1), ct := Pv p (i + 1), bk := D.nx } σ2 H2) (hd : ∀ p σ' H', Pv p xs.length σ' H' → D.nx σ' H') : tFor (iTup K tl) g tu D σ H :=
  h H (Ex.refl H) _ fun p H1 hp e h1 => ⟨p, rfl, ⟨xs, st_of h1⟩, for_tup (Pv p) (h0 p H1 hp e h1) (hl p) (hs p) (hd p)⟩
theorem q_forNU {xs : List V} (h : EvU tl σ H xs) (Pv : Addr → Nat → L2.St → Hp → Prop) (h0 : ∀ p H1, H p = none → Ex H H1 → H1 p = some (.tup xs) → Pv p 0 σ H1) (hl : ∀ p i σ' H', i ≤ xs.length → Pv p i σ' H' → SqT K H' p xs)
    (hs : ∀ p i x σ' H', xs[i]? = some x → Pv p i σ' H' → g x σ' H' fun σ2 H2 => tu { D with nx := Pv p (i + 1), ct := Pv p (i + 1), bk := tz D } σ2 H2) (hd : ∀ p σ' H', Pv p xs.length σ' H' → tz D σ' H') : tSeq (tFor (iTup K tl) g tu) tz D σ H :=
  s_forNU (D := { D with nx := tz D }) h Pv h0 hl hs hd
theorem s_asgD {i : Nat} {d : PyData} (h : EvD K te σ H d) (k : ∀ v H1, Ex H H1 → Dp K H1 v d → D.nx (σ.set i (some v)) H1) : tAsg te (gName i) D σ H := h H (Ex.refl H) _ fun v H1 e dv => k v H1 e dv
theorem q_asgD {i : Nat} {d : PyData} (h : EvD K te σ H d) (k : ∀ v H1, Ex H H1 → Dp K H1 v d → tz D (σ.set i (some v)) H1) : tSeq (tAsg te (gName i)) tz D σ H := s_asgD (D := { D with nx := tz D }) h k
end
end Kit
set_option Elab.async false
set_option linter.all false
set_option maxRecDepth 100000
set_option maxHeartbeats 4000000
namespace Kit
open PySem PySem.Spec PyProof.Rows L2 Evl
theorem slot_type_ne : Slot "type" (cmpInfo .NotEq).2.1 "object.__ne__" :=
  .of (owner := "object") (n := "__ne__") (by rw [typeLookup_type, builtinLookup_eq_fast]; kernel_rfl) (by decide +kernel) (by decide +kernel) (by decide +kernel)
    (by first | exact .inl (by decide +kernel) | exact .inr (by decide +kernel)) (by rw [isSubtype_type]; kernel_rfl)
theorem slot_type_eqN : Slot "type" "__eq__" "object.__eq__" :=
  .of (owner := "object") (n := "__eq__") (by rw [typeLookup_type, builtinLookup_eq_fast]; kernel_rfl) (by decide +kernel) (by decide +kernel) (by decide +kernel)
    (by first | exact .inl (by decide +kernel) | exact .inr (by decide +kernel)) (by rw [isSubtype_type]; kernel_rfl)
section
variable {prog : Program} {w : World} {A : Around} {E : Value → Shared → Prop} {s : Shared} {Q : Value → Shared → Prop}
theorem ne_type_same {X : String} (hX : ∀ s' : Shared, s'.TypeIs (.type X) "type") (hu : A.units + 1 < cLine) (h : Q (.bool false) s) : wpAny (model prog w) A (compareOp .NotEq (.type X) (.type X)) Q E s := by
  show wpAny _ A (richCompare .NotEq _ _) Q E s
  refine wpAny_richCompare_same (T := "type") (hX s) (hX s) slot_type_ne ?_
  refine wpAny_call_entry slot_type_ne (hX s) PySem.F.cmpEntry_ne ?_ (PySem.F.cmpArgs_ne _ _)
  unfold Builtin.«object.__ne__»
  have key : wpAny (model prog w) A.in1 (call (.builtin "object.__eq__") [.type X, .type X]) (fun v s' => v = .bool true ∧ s' = s) E s :=
    call_gives slot_type_eqN (hX s) F.entry_object_eq (F.args_object_eq_2 _ _) (PySem.TypeEq.object_eq_same rfl (by simp)) ⟨rfl, rfl⟩
  repeat (first
    | with_reducible refine wpAny_cRoomFor (by show A.units + 1 < cLine; exact hu) ?_
    | (refine wpAny_bind (m := callSpecialIfBound? (.type X) (Str.ofString "__eq__") [.type X])
        (wpAny_callSpecialIfBound?_slot (hX _) slot_type_eqN (wpAny_mono key (fun r s' hr => by
          obtain ⟨rfl, rfl⟩ := hr
          have hq : Q (.bool false) s' := h
          repeat (first | exact ⟨_, rfl, (by intro e; cases e), hq⟩ | exact wpAny_pure ⟨_, rfl, (by intro e; cases e), hq⟩ | (refine wpAny_bind (m := truthy (.bool _)) (wpAny_truthy_bool ?_)) | wp_step)) fun _ _ e => e)))
    | wp_step)
end
end Kit
set_option Elab.async false
set_option linter.all false
set_option maxRecDepth 100000
set_option maxHeartbeats 4000000
namespace Kit
open PySem PySem.Spec PyProof.Rows L2 Evl
section
variable {X : Cx}
def rNeTyS : R2 := fun x y H Q => ∃ m, x = .ty m ∧ y = .ty m ∧ Meta m ∧ Q (.bl false) H
theorem op_neTyS (hu : X.A.units + 1 < cLine) : OpR X (compareOp .NotEq) rNeTyS := by
  intro pins s σ H x y v u Q I rx ry h
  obtain ⟨m, rfl, rfl, hm, q⟩ := h
  cases (show v = Value.type m from rx)
  cases (show u = Value.type m from ry)
  exact ne_type_same hm hu ⟨.bl false, H, I, rfl, q⟩
/-- min of a tuple of ints -/
def rMinT (K : PySem.W.Frag) : List V → Hp → VK → Prop := fun vs H Q => ∃ (a : Addr) (n : Int) (ns : List Int), vs = [V.ref a] ∧ SqT K H a ((n :: ns).map V.int) ∧ Q (.int (ns.foldl min n)) H
theorem alike_ints (ns : List Int) : PySem.W.AlikeAll (ns.map PyData.int) := by
  refine ⟨fun x hx y hy => ?_, fun x hx => ?_⟩
  · obtain ⟨a, _, rfl⟩ := List.mem_map.mp hx
    obtain ⟨b, _, rfl⟩ := List.mem_map.mp hy
    rfl
  · obtain ⟨a, _, rfl⟩ := List.mem_map.mp hx
    exact fun z => by cases z
theorem depth_ints : ∀ ms : List Int, PyData.depthAll (ms.map PyData.int) = 0
  | [] => rfl
  | m :: r => by simp [PyData.depthAll, PyData.depth, depth_ints r]
theorem cr_minT (hc : X.calm = true) (hu : X.A.units + 1 < cLine) : CallR X (.builtin "min") (rMinT X.K) := by
  intro pins s σ H vs us Q I r h
  obtain ⟨a, n, ns, rfl, hs, q⟩ := h
  obtain ⟨its, rv, hl, _⟩ := I.tuple hs
  rw [Vals.ref1 r]
  obtain ⟨as, rd⟩ := Dp.readsAll I (PyData.int n :: ns.map PyData.int) _ its (dpa_ints (n :: ns)) rv
  refine PySem.W.min_tuple_data (I.ok.hd hc) (show s.heap.IsTuple a its.toArray from hl) (by simpa using rd) (alike_ints (n :: ns)) ?_ fun i v h' tk bs hv hr hk => ?_
  · have := depth_ints (n :: ns)
    rw [List.map_cons] at this
    rw [this]
    exact hu
  · rw [PySem.W.minD_ints] at hr
    cases hr with
    | int _ t => exact ⟨.int (ns.foldl min n), H, I.kept (t' := tk) hk, ⟨_, rfl⟩, q⟩
theorem foldl_min_spec : ∀ (ns : List Int) (n : Int), ns.foldl min n ∈ n :: ns ∧ ∀ y ∈ n :: ns, ns.foldl min n ≤ y
  | [], n => ⟨by simp, by simp⟩
  | k :: r, n => by
    obtain ⟨h1, h2⟩ := foldl_min_spec r (min n k)
    refine ⟨?_, fun y hy => ?_⟩
    · rcases List.mem_cons.mp h1 with e | e
      · rw [List.foldl_cons, e]
        rcases Int.le_total n k with h | h
        · rw [Int.min_eq_left h]; simp
        · rw [Int.min_eq_right h]; simp
      · simp [List.foldl_cons, e]
    · have h3 := h2 (min n k) (by simp)
      rw [List.foldl_cons]
      rcases List.mem_cons.mp hy with e | hy
      · omega
      · rcases List.mem_cons.mp hy with e | hy
        · omega
        · exact h2 y (by simp [hy])
end
/-! readings of these -/
section
variable {K : PySem.W.Frag} {σ : L2.St} {H H' : Hp} {ta tb te tl : TE} {D : Ends} {tu tz : TS} {t : TT}
theorem ev_typeL {p : Addr} {xs : List V} (h : Ev ta σ H (.ref p)) (hp : H p = some (.lst xs)) : Ev (tThenZ ta kTyp) σ H (.ty "list") := fun H1 e Q q => h H1 e _ fun H2 e2 => ⟨"list", by
  have := e2 p _ (e p _ hp)
  simp [zTyV, this], q H2 e2⟩
theorem ev_typeT {p : Addr} {xs : List V} (h : Ev ta σ H (.ref p)) (hp : H p = some (.tup xs)) : Ev (tThenZ ta kTyp) σ H (.ty "tuple") := fun H1 e Q q => h H1 e _ fun H2 e2 => ⟨"tuple", by
  have := e2 p _ (e p _ hp)
  simp [zTyV, this], q H2 e2⟩
theorem rv_neTyS {m : String} (hm : Meta m) : RV rNeTyS (.ty m) (.ty m) H (.bl false) := fun H1 _ _ q => ⟨m, rfl, rfl, hm, q H1 (Ex.refl H1)⟩
theorem ev_sumN {ns : List Int} (h : EvL ta σ H (ns.map V.int)) : Ev (tCB (rSum K) (tCons ta tNil)) σ H (.int ns.sum) := fun H1 e Q q => h H1 e _ fun p H2 _ e2 h2 => ⟨p, ns, rfl, sq_of h2, q H2 e2⟩
theorem ev_allN {bs : List Bool} (h : EvL ta σ H (bs.map V.bl)) : Ev (tCB (rAll K) (tCons ta tNil)) σ H (.bl (bs.all id)) := fun H1 e Q q => h H1 e _ fun p H2 _ e2 h2 => ⟨p, bs, rfl, sq_of h2, q H2 e2⟩
theorem ev_minT {p : Addr} {n : Int} {ns : List Int} (h : Ev ta σ H (.ref p)) (hp : SqT K H p ((n :: ns).map V.int)) : Ev (tCB (rMinT K) (tCons ta tNil)) σ H (.int (ns.foldl min n)) := fun H1 e Q q => h H1 e _ fun H2 e2 => ⟨p, n, ns, rfl, ex_t (e.trans e2) hp, q H2 e2⟩
/-- sorted(xs), told by what it is -/
theorem ed_sorted {p : Addr} {ns ms : List Int} (h : Ev ta σ H (.ref p)) (hp : SqL K H p (ns.map V.int)) (hl : ns.length < 64) (hm : ms.Perm ns) (hs : ms.Pairwise (· ≤ ·)) : EvD K (tCB (rSorted K) (tCons ta tNil)) σ H (.list (ms.map PyData.int)) := fun H1 e Q q => h H1 e _ fun H2 e2 =>
  ⟨p, ns, rfl, ex_l (e.trans e2) hp, hl, fun ns' l pm so new => by
    have eq : ns' = ms := by
      exact List.Perm.eq_of_pairwise (le := fun a b : Int => a ≤ b) (fun a b _ _ h1 h2 => Int.le_antisymm h1 h2) so hs (pm.trans hm.symm)
    subst eq
    exact q _ _ (e2.trans (Ex.new new)) (.lst (sq_of upd_same) (dpa_ints _))⟩
/-- a new tuple of a list's items -/
theorem eu_tupOf {p : Addr} {xs : List V} (h : Ev ta σ H (.ref p)) (hp : SqL K H p xs) : EvU (tCB (rTupS K) (tCons ta tNil)) σ H xs := fun H1 e Q q => h H1 e _ fun H2 e2 =>
  ⟨p, xs, rfl, ex_l (e.trans e2) hp, fun l hl => q l _ (fresh_back e2 hl) (e2.trans (Ex.new hl)) upd_same⟩
/-- [0] * n -/
theorem el_rep {xs : List V} {k : Int} (ha : EvL ta σ H xs) (hb : Ev tb σ H (.int k)) (h0 : 0 ≤ k) (h1 : k ≤ 1000) (hx : xs.length ≤ 50) : EvL (tOp rRep ta tb) σ H (List.replicate k.toNat xs).flatten := fun H1 e Q q =>
  ha H1 e _ fun p H2 hp e2 h2 => hb H2 (e.trans e2) _ fun H3 e3 => ⟨p, k, xs, rfl, rfl, e3 p _ h2, by omega, by omega, sz_of (by
    have : xs.length * k.toNat ≤ 50 * 1000 := Nat.mul_le_mul hx (by omega)
    omega), fun l hl => q l _ (fresh_back (e2.trans e3) hl) ((e2.trans e3).trans (Ex.new hl)) upd_same⟩
/-- xs[::-1] -/
theorem el_rev {p : Addr} {xs : List V} (h : Ev ta σ H (.ref p)) (hp : SqL K H p xs) : EvL (tRevL K ta) σ H xs.reverse := fun H1 e Q q => h H1 e _ fun H2 e2 =>
  ⟨p, xs, rfl, ex_l (e.trans e2) hp, fun l hl => q l _ (fresh_back e2 hl) (e2.trans (Ex.new hl)) upd_same⟩
theorem el_revN {xs : List V} (h : EvL ta σ H xs) : EvL (tRevL K ta) σ H xs.reverse := fun H1 e Q q => h H1 e _ fun p H2 _ e2 h2 =>
  ⟨p, xs, rfl, sq_of h2, fun l hl => q l _ (fresh_back e2 hl) (e2.trans (Ex.new hl)) upd_same⟩
/-- for i, x in enumerate(xs): the pair is a new tuple -/
theorem s_forEn {ta : TA} {i j : Nat} {a : Addr} {xs : List V} (h : EvA ta σ H [.ref a]) (hx : SqL K H a xs) (Pv : Nat → L2.St → Hp → Prop) (h0 : ∀ H1, Ex H H1 → Pv 0 σ H1) (hl : ∀ n σ' H', n ≤ xs.length → Pv n σ' H' → SqL K H' a xs)
    (hs : ∀ n x σ' H' H2, xs[n]? = some x → Pv n σ' H' → Ex H' H2 → tu { D with nx := Pv (n + 1), ct := Pv (n + 1), bk := D.nx } ((σ'.set i (some (.int (n : Int)))).set j (some x)) H2) (hd : ∀ σ' H', Pv xs.length σ' H' → D.nx σ' H') :
    tFor (iEnum K ta) (gTup K 2 (gCons (gName i) (gCons (gName j) gNil))) tu D σ H := h H (Ex.refl H) _ fun H1 e => ⟨a, xs, rfl, ex_l e hx, by
  refine for_it walk_enum Pv (h0 H1 e) (fun n σ' H' hn p => hl n σ' H' hn p) ?_ hd
  rintro n v σ' Hh H2 hn p ⟨T, x, y, rfl, nT, rfl, g1, g2⟩
  have ex : V.int (n : Nat) = x := Option.some.inj g1
  subst ex
  exact ⟨T, [.int (n : Nat), y], rfl, st_of upd_same, rfl, _, [y], rfl, y, [], rfl, rfl, hs n y σ' Hh _ g2 p (Ex.new nT)⟩⟩
theorem q_forEn {ta : TA} {i j : Nat} {a : Addr} {xs : List V} (h : EvA ta σ H [.ref a]) (hx : SqL K H a xs) (Pv : Nat → L2.St → Hp → Prop) (h0 : ∀ H1, Ex H H1 → Pv 0 σ H1) (hl : ∀ n σ' H', n ≤ xs.length → Pv n σ' H' → SqL K H' a xs)
    (hs : ∀ n x σ' H' H2, xs[n]? = some x → Pv n σ' H' → Ex H' H2 → tu { D with nx := Pv (n + 1), ct := Pv (n + 1), bk := tz D } ((σ'.set i (some (.int (n : Int)))).set j (some x)) H2) (hd : ∀ σ' H', Pv xs.length σ' H' → tz D σ' H') :
    tSeq (tFor (iEnum K ta) (gTup K 2 (gCons (gName i) (gCons (gName j) gNil))) tu) tz D σ H := s_forEn (D := { D with nx := tz D }) h hx Pv h0 hl hs hd
end
end Kit
set_option Elab.async false
set_option linter.all false
set_option maxRecDepth 100000
set_option maxHeartbeats 4000000
namespace Kit
open PySem PySem.Spec PyProof.Rows L2 Evl
/-! ### new lists of new tuples -/
def TL (H : Hp) (vs : List V) (rs : List (List V)) : Prop := Paired (fun v r => ∃ a, v = .ref a ∧ H a = some (.tup r)) vs rs
theorem TL.imp {H H' : Hp} (f : ∀ a r, H a = some (.tup r) → H' a = some (.tup r)) : ∀ {vs : List V} {rs : List (List V)}, TL H vs rs → TL H' vs rs
  | _, _, .nil => .nil
  | _, _, .cons ⟨a, e, h⟩ t => .cons ⟨a, e, f a _ h⟩ (TL.imp f t)
theorem TL.ex {H H' : Hp} {vs : List V} {rs : List (List V)} (e : Ex H H') (h : TL H vs rs) : TL H' vs rs := h.imp fun a r x => e a _ x
theorem TL.upd {H : Hp} {l : Addr} {xs : List V} {o : HO} {vs : List V} {rs : List (List V)} (hl : H l = some (.lst xs)) (h : TL H vs rs) : TL (upd H l o) vs rs := h.imp fun a r x => by
  rw [upd_ne (ne_of x hl (by intro z; cases z))]
  exact x
theorem TL.len {H : Hp} : ∀ {vs : List V} {rs : List (List V)}, TL H vs rs → vs.length = rs.length
  | _, _, .nil => rfl
  | _, _, .cons _ t => by rw [List.length_cons, List.length_cons, TL.len t]
theorem TL.app {H : Hp} {v : V} {r : List V} (hv : ∃ a, v = .ref a ∧ H a = some (.tup r)) : ∀ {vs : List V} {rs : List (List V)}, TL H vs rs → TL H (vs ++ [v]) (rs ++ [r])
  | _, _, .nil => .cons hv .nil
  | _, _, .cons q t => .cons q (TL.app hv t)
theorem TL.get {H : Hp} : ∀ {vs : List V} {rs : List (List V)} {i : Nat} {v : V}, TL H vs rs → vs[i]? = some v → ∃ a r, v = .ref a ∧ H a = some (.tup r) ∧ rs[i]? = some r
  | _, _, 0, v, .cons ⟨a, e, h⟩ t, hv => ⟨a, _, (Option.some.inj (by simpa using hv)).symm.trans e, h, rfl⟩
  | _, _, i + 1, v, .cons _ t, hv => by
    obtain ⟨a, r, h1, h2, h3⟩ := TL.get (i := i) t (by simpa using hv)
    exact ⟨a, r, h1, h2, by simpa using h3⟩
  | _, _, 0, v, .nil, hv => by simp at hv
  | _, _, i + 1, v, .nil, hv => by simp at hv
theorem TL.rev {H : Hp} : ∀ {vs : List V} {rs : List (List V)}, TL H vs rs → TL H vs.reverse rs.reverse
  | _, _, .nil => .nil
  | _, _, .cons q t => by
    rw [List.reverse_cons, List.reverse_cons]
    exact TL.app q (TL.rev t)
def EvLT (te : TE) (σ : L2.St) (H : Hp) (rs : List (List V)) : Prop := ∀ H1, Ex H H1 → ∀ Q : VK, (∀ p vs H2, H1 p = none → Ex H1 H2 → H2 p = some (.lst vs) → TL H2 vs rs → Q (.ref p) H2) → te σ H1 Q
section
variable {K : PySem.W.Frag} {σ : L2.St} {H H' : Hp} {te tl : TE} {D : Ends} {tz : TS} {t : TT}
/-- [a new tuple for i in range(n)] -/
theorem elt_R1 {ta : TA} {j : Nat} {vs : List Nat} {n : Int} (f : Nat → List V) (h : EvA ta σ H [.int n]) (hn : 0 ≤ n ∧ n ≤ 40000) (hw : ∀ x, wipe ((wipe σ vs).set j (some x)) vs = wipe σ vs)
    (he : ∀ (i : Nat) H1, Ex H H1 → (i : Int) < n → EvU te ((wipe σ vs).set j (some (.int (i : Int)))) H1 (f i)) : EvLT (tLc (iRng1 ta) (gName j) tYes te vs) σ H ((List.range n.toNat).map f) := fun H0 e Q q => h H0 e _ fun H1 e1 => ⟨n, rfl, by omega, by omega, fun Dl hD =>
  lc_range (lo := 0) (n := n.toNat) (fun i H' => Ex H1 H' ∧ ∃ ws, H' Dl = some (.lst ws) ∧ TL H' ws ((List.range i).map f)) ⟨Ex.new hD, [], upd_same, .nil⟩ (fun i H' hi p => by
    obtain ⟨p1, ws, p2, p3⟩ := p
    have e0 : (0 : Int) + (i : Int) = (i : Int) := Int.zero_add _
    show wipe ((wipe σ vs).set j (some (.int ((0 : Int) + (i : Int))))) vs = wipe σ vs ∧ te ((wipe σ vs).set j (some (.int ((0 : Int) + (i : Int))))) H' fun y H4 => ∃ acc, H4 Dl = some (.lst acc) ∧ acc.length < sizeLine ∧ _
    rw [e0]
    refine ⟨hw _, he i H1 (e.trans e1) (by omega) H' p1 _ fun p H4 hp e4 h4 => ⟨ws, e4 Dl _ p2, sz_lt (by
      have := p3.len
      simp at this
      omega), Ex.mut (p1.trans e4) hD, ws ++ [.ref p], upd_same, ?_⟩⟩
    rw [List.range_succ, List.map_append]
    exact ((p3.ex e4).app ⟨p, rfl, h4⟩).upd (e4 Dl _ p2)) (fun H' p => by
      obtain ⟨p1, ws, p2, p3⟩ := p
      exact q Dl ws H' (fresh_back e1 hD) (e1.trans p1) p2 p3)⟩
/-- [a new tuple for x in xs] -/
theorem elt_map {a : Addr} {xs : List V} {j : Nat} {vs : List Nat} (f : Nat → List V) (h : Ev tl σ H (.ref a)) (hx : SqL K H a xs) (hz : xs.length ≤ 40000) (hw : ∀ x, wipe ((wipe σ vs).set j (some x)) vs = wipe σ vs)
    (he : ∀ (i : Nat) (x : V) H1, Ex H H1 → xs[i]? = some x → EvU te ((wipe σ vs).set j (some x)) H1 (f i)) : EvLT (tLc (iList K tl) (gName j) tYes te vs) σ H ((List.range xs.length).map f) := fun H0 e Q q => h H0 e _ fun H1 e1 => ⟨a, rfl, ⟨xs, ex_l (e.trans e1) hx⟩, fun Dl hD =>
  lc_list (xs := xs) (fun i H' => Ex H1 H' ∧ ∃ ws, H' Dl = some (.lst ws) ∧ TL H' ws ((List.range i).map f)) ⟨Ex.new hD, [], upd_same, .nil⟩ (fun i H' _ p => ex_l ((e.trans e1).trans p.1) hx) (fun i x H' hi p => by
    obtain ⟨p1, ws, p2, p3⟩ := p
    show wipe ((wipe σ vs).set j (some x)) vs = wipe σ vs ∧ te ((wipe σ vs).set j (some x)) H' fun y H4 => ∃ acc, H4 Dl = some (.lst acc) ∧ acc.length < sizeLine ∧ _
    refine ⟨hw _, he i x H1 (e.trans e1) hi H' p1 _ fun p H4 hp e4 h4 => ⟨ws, e4 Dl _ p2, sz_lt (by
      have := p3.len
      have := (List.getElem?_eq_some_iff.mp hi).1
      simp at *
      omega), Ex.mut (p1.trans e4) hD, ws ++ [.ref p], upd_same, ?_⟩⟩
    rw [List.range_succ, List.map_append]
    exact ((p3.ex e4).app ⟨p, rfl, h4⟩).upd (e4 Dl _ p2)) (fun H' p => by
      obtain ⟨p1, ws, p2, p3⟩ := p
      exact q Dl ws H' (fresh_back e1 hD) (e1.trans p1) p2 p3)⟩
theorem range_get {α : Type} (rs : List α) (d : α) : rs = (List.range rs.length).map fun i => rs.getD i d := by
  refine List.ext_getElem (by simp) fun i h1 h2 => ?_
  simp [h1]
theorem paired_map {α β γ : Type} {F : β → γ → Prop} (f : α → β) (g : α → γ) : ∀ l : List α, (∀ x ∈ l, F (f x) (g x)) → Paired F (l.map f) (l.map g)
  | [], _ => .nil
  | x :: r, h => .cons (h x (by simp)) (paired_map f g r fun y hy => h y (by simp [hy]))
/-- [x for x in xs if test(x)], xs a list of tuples, the test P of the tuple's items -/
theorem elt_filter {a : Addr} {xs : List V} {rs : List (List V)} {j : Nat} {vs : List Nat} (P : List V → Bool) (h : Ev tl σ H (.ref a)) (hx : SqL K H a xs) (ht : TL H xs rs) (hz : xs.length ≤ 40000) (hw : ∀ x, wipe ((wipe σ vs).set j (some x)) vs = wipe σ vs) (hj : ∀ x, ((wipe σ vs).set j (some x))[j]? = some (some x))
    (he : ∀ (b : Addr) (r : List V) H1, Ex H H1 → r ∈ rs → H1 b = some (.tup r) → EvT t ((wipe σ vs).set j (some (.ref b))) H1 (P r)) : EvLT (tLc (iList K tl) (gName j) t (tVar j) vs) σ H (rs.filter P) := fun H0 e Q q => by
  refine el_lcL (K := K) (f := fun i => P (rs.getD i [])) (v := fun i => xs.getD i .non) h hx hz hw (fun i x H1 e1 hi => ?_) (fun i x H1 e1 hi hf => ?_) H0 e Q fun p H2 hp e2 h2 => ?_
  · obtain ⟨b, r, rfl, hb, hr⟩ := ht.get hi
    have g : rs.getD i [] = r := by rw [List.getD_eq_getElem?_getD, hr] <;> rfl
    show EvT _ _ _ (P (rs.getD i []))
    rw [g]
    exact he b r H1 e1 (List.mem_of_getElem? hr) (e1 b _ hb)
  · have g : xs.getD i .non = x := by rw [List.getD_eq_getElem?_getD, hi] <;> rfl
    show Ev _ _ _ (xs.getD i .non)
    rw [g]
    exact ev_var (hj x)
  · refine q p _ H2 hp e2 h2 ?_
    have e3 : rs.filter P = ((List.range rs.length).filter fun i => P (rs.getD i [])).map fun i => rs.getD i [] := by
      conv => lhs; rw [range_get rs [], List.filter_map]
      rfl
    unfold given
    rw [e3, ht.len]
    refine paired_map _ _ _ fun i hi => ?_
    have hi := List.mem_range.mp (List.mem_filter.mp hi).1
    have hlx : i < xs.length := by rw [ht.len]; exact hi
    obtain ⟨b, r, h1, h2', h3⟩ := ht.get (List.getElem?_eq_getElem hlx)
    refine ⟨b, ?_, ?_⟩
    · rw [List.getD_eq_getElem?_getD, List.getElem?_eq_getElem hlx, h1]
      rfl
    · rw [List.getD_eq_getElem?_getD, h3]
      exact (e.trans e2) b _ h2'
theorem q_asgLT {i : Nat} {rs : List (List V)} (h : EvLT te σ H rs) (k : ∀ p vs H1, H p = none → Ex H H1 → H1 p = some (.lst vs) → TL H1 vs rs → tz D (σ.set i (some (.ref p))) H1) : tSeq (tAsg te (gName i)) tz D σ H := h H (Ex.refl H) _ fun p vs H1 hp e h1 h2 => k p vs H1 hp e h1 h2
theorem s_retLT {rs : List (List V)} (h : EvLT te σ H rs) (k : ∀ p vs H1, H p = none → Ex H H1 → H1 p = some (.lst vs) → TL H1 vs rs → D.rt (.ref p) H1) : tRet te D σ H := h H (Ex.refl H) _ k
end
end Kit
set_option Elab.async false
set_option linter.all false
set_option maxRecDepth 100000
set_option maxHeartbeats 4000000
namespace Kit
open PySem PySem.Spec PyProof.Rows L2 Evl
/-! ### a promise of a def that shows data (repr): no repr may be under way around it -/
structure FnOkG (P : Program) (w : World) (K : PySem.W.Frag) (mg : Str → Option Value) (base : Heap) (n : Nat) (f : Addr) (fd : FuncData) (names : List Str) (want : Sp) : Prop where
  many : ∀ xs H Q E, want xs H Q E → xs.length = names.length
  go : ∀ (A : Around) (frames : List Env) (st : Shared) (H : Hp) (given : Args) (us : List Value) (xs : List V) (Q : VK) (E : XK), A.guards = some [] → Room n A → Env0 P w K mg base A frames st H →
    BindsTo st fd given (names.zip us) → Vals xs us → want xs H Q E → codeAny (model P w) A (.call (.ref f) given) (CR CX0 frames P w H st Q E) st
section
variable {P : Program} {w : World} {K : PySem.W.Frag} {mg : Str → Option Value} {base : Heap}
theorem FnOkG.mono {j n : Nat} {f : Addr} {fd : FuncData} {names : List Str} {want : Sp} (F : FnOkG P w K mg base j f fd names want) (h : j ≤ n) : FnOkG P w K mg base n f fd names want :=
  ⟨F.many, fun A fr st H g us xs Q E hg r => F.go A fr st H g us xs Q E hg (r.mono h)⟩
/-- the rule for such a def -/
theorem funG {x qual : Str} {d : Stmt} {f : Addr} {fd : FuncData} {N names : List Str} {n : Nat} {want : Sp} (F : Fun K x qual d f fd) (S : FnScope N names (defScope d)) (many : ∀ xs H Q E, want xs H Q E → xs.length = names.length)
    (body : ∀ (cv : Value) (A : Around) (frames : List Env) (st : Shared) (H : Hp) (xs : List V) (Q : VK) (E : XK), A.guards = some [] → Room n (A.deeper (envOfC qual (defScope d) st.heap.objs.size f cv)) → want xs H Q E →
      ∃ t, PSs (cxOf CX0 P w K mg base N qual (defScope d) f cv A frames st H E).nox (defBody d) t ∧ t { nx := fun _ H' => Q .non H', rt := Q } (start N xs) H) : FnOkG P w K mg base (n + 1) f fd names want := by
  obtain ⟨o1, o2, v1, v2, v3, an, cv, ct, sl, rfl, look, code⟩ := F.ex
  refine ⟨many, fun A frames st H given us xs Q E hg room en bind vals hw => ?_⟩
  have size := many _ _ _ _ hw
  have inK : K.In st.heap := en.mod.kin.keeps fun b o q => (en.bs b o q).1
  have noLim : st.heap.NoLimit := en.mod.nolimit.keeps fun b o q => (en.bs b o q).1
  have kinds : ∀ y ∈ names.zip us, (defScope d).names.lookup y.1 = some .local ∨ ((defScope d).names.lookup y.1 = some .cell ∧ ((cellsFrom (st.heap.objs.size + 1) (defScope d).names []).lookup y.1).isSome = true) := by
    rintro ⟨a, b⟩ hy
    exact (S.par a (List.of_mem_zip hy).1).elim .inl fun q => .inr ⟨q, PySem.W.cellsFrom_some _ _ _ (.inl q)⟩
  refine codeAny_call_function room.depth (inK _ _ look) rfl S.co S.gen rfl (PySem.W.codeRec_of inK code) (bind _ _ _ _ (wpAny_newFunctionEnv_cells S.kind kinds fun env eq st1 made => ?_))
  cases eq
  refine ⟨noLim.keeps made.toInCall.keep, codeAny_func ?_⟩
  obtain ⟨t, rule, done⟩ := body cv A frames st H xs Q E hg (room.deeper _) hw
  have J : Inv (cxOf CX0 P w K mg base N qual (defScope d) f cv A frames st H E) [] (start N xs) H st1 := inv_start S room.hd en size vals made
  have back : ∀ {σ' : L2.St} {H' : Hp} {v : V} {u : Value} {st2 : Shared}, Inv (cxOf CX0 P w K mg base N qual (defScope d) f cv A frames st H E) [] σ' H' st2 → RelV v u → Q v H' → CE frames P w H st Q u st2 := fun J2 rv q => ⟨_, _, J2.os, J2.bare, J2.base, J2.hok, rv, q⟩
  refine wpAny_mono (rule.nox.run [] st1 (start N xs) H _ J done) (fun r st2 hs => ?_) fun _ _ hs => hs
  match r, hs with
  | .ret u, ⟨v, σ2, H2, J2, rv, q⟩ => exact back J2 rv q
  | .next, ⟨σ2, H2, J2, q⟩ => exact back (v := V.non) (u := Value.none) J2 rfl q
  | .brk, ⟨_, _, _, q⟩ => exact False.elim q
  | .cont, ⟨_, _, _, q⟩ => exact False.elim q
end
/-- such a def is called -/
theorem pe_callG {X : Cx} {n : Nat} {f : Addr} {fd : FuncData} {names : List Str} {want : Sp} {x : Str} {p pos : Pos} {e : Expr} {es : List Expr} {t : TA} (F : FnOkG X.prog X.w X.K X.mg X.base n f fd names want) (hg : X.A.guards = some []) (room : Room n X.A) (gl : Gl X x)
    (at_ : X.mg x = some (.ref f)) (keep : PySem.W.keepIn X.K (.ref f) = true) (bind : Binds X.K fd names []) (ha : PA X (e :: es) t) (nd : (x == ("__debug__" : Str)) = false := by decide)
    (one : starEach (e :: es) X.env = (false, eval e X.env) :: starEach es X.env := by rfl) (plain : (backTo pos (starEach es X.env)).any (·.1) = false := by rfl) : PE X (.Call (.Name x p) (e :: es) [] pos) (tCall want [] E0 t) := by
  refine ⟨fun pins st σ H Q J h => wpAny_Call_Name_kw (ld_glob J gl at_ ?_ nd)⟩
  refine PySem.W.callWith_K (h₀ := X.base) J.ok.mod.kin keep (thn (ha.run pos pins st σ H _ J h) fun us st1 ⟨vs, H1, J1, r, q⟩ => ⟨J1.kIn, ?_⟩) one plain
  have q : want vs H1 Q E0 := by
    have q' : want (vs ++ []) H1 Q E0 := q
    rwa [List.append_nil] at q'
  have size : us.length = names.length := r.length.symm.trans (F.many _ _ _ _ q)
  have bd := bind st1 us J1.kIn (by rw [List.append_nil]; exact size)
  rw [List.append_nil] at bd
  refine wpAny_call (codeAny_mono (F.go X.A X.stack st1 H1 ⟨us, []⟩ us vs Q E0 hg room J1.env0 bd r q) fun res st2 hq => ?_)
  match res, hq with
  | .error _, hq => exact False.elim hq
  | .ok (.ret _), hq => exact J1.after hq
  | .ok .next, hq => exact False.elim hq
  | .ok .brk, hq => exact False.elim hq
  | .ok .cont, hq => exact False.elim hq
/-- the law's promise, at the heap behind the top -/
theorem headG {P : Program} {w : World} {K : PySem.W.Frag} {mg mb : Str → Option Value} {n : Nat} {fa a : Addr} {fd : FuncData} {x : Str} {want : Sp} {st : Shared} {us : List Value} {ns : List Int}
    (inK : K.In st.heap) (glob : st.heap.Ns mainGlobals mg) (blt : st.heap.Ns builtinsNs mb) (boot : ∀ x : Str, x ≠ "__name__" → mb x = bootBuiltins x) (noLim : st.heap.NoLimit) (gens : st.gens = #[])
    (obj : st.heap.get? a = some { cls := .type "list", data := .seq us.toArray }) (allInt : IntsAre us ns) (short : ns.length ≤ sizeLine) (room : Room n callerA)
    (F : ∀ base : Heap, K.In base → base.Ns mainGlobals mg → FnOkG P w K mg base n fa fd [x] want) (bind : ∀ (s : Shared) (u : Value), BindsTo s fd ⟨[u], []⟩ [(x, u)])
    (ask : ∀ H : Hp, Only H → SqL K H a (ns.map V.int) → want [.ref a] H (fun v _ => v = .bl true) fun _ _ _ => False) :
    codeAny (model P w) callerA (.call (.ref fa) ⟨[.ref a], []⟩) (fun r s' => r = .ok (.ret (.bool true)) ∧ OldK st.heap s'.heap ∧ s'.os = st.os ∧ AllBare s'.gens) st := by
  have vals := vals_ints allInt
  have size := allInt.length
  have main : ∀ H : Hp, Only H → SqL K H a (ns.map V.int) → HOk P w H st.heap → (∀ b, H b ≠ none → b = a) → (H a ≠ none → K.lookup a = none) →
      codeAny (model P w) callerA (.call (.ref fa) ⟨[.ref a], []⟩) (fun r s' => r = .ok (.ret (.bool true)) ∧ OldK st.heap s'.heap ∧ s'.os = st.os ∧ AllBare s'.gens) st := by
    intro H only sq ok one not
    have stay : ∀ {b : Addr} {o : Obj}, st.heap.get? b = some o → H b = none → (hidT st.heap H).get? b = some o := fun q z => hidT_get q z
    have free : ∀ {b : Addr}, (b = a → False) → H b = none := fun {b} ne => by
      cases q : H b with
      | none => rfl
      | some u => exact (ne (one b (by rw [q]; exact Option.some_ne_none u))).elim
    have space : ∀ {b : Addr} {m : Str → Option Value}, st.heap.Ns b m → (hidT st.heap H).Ns b m := fun {b m} ⟨o, es, ep, q, d, r⟩ => ⟨o, es, ep, stay q (free fun z => by
      subst z
      rw [obj] at q
      cases q
      exact Data.noConfusion (show Data.seq us.toArray _ = Data.dict es ep from d)), d, r⟩
    have kin : K.In (hidT st.heap H) := fun b o q => stay (inK b o q) (by
      cases z : H b with
      | none => rfl
      | some u =>
        have ne : H b ≠ none := by rw [z]; exact Option.some_ne_none u
        have ba := one b ne
        subst ba
        rw [not ne] at q
        cases q)
    obtain ⟨mc, l1, l2⟩ := noLim
    have md : Mod K mg (hidT st.heap H) := ⟨kin, space glob, ⟨mb, space blt, boot⟩, ⟨mc, space l1, l2⟩⟩
    have en : Env0 P w K mg (hidT st.heap H) callerA [] st H := ⟨rfl, md, fun b o q => of_hidT q, Nat.le_of_eq (hidT_size _ _), trivial, fun b hb => absurd (show b ∈ ([] : List Addr) from hb) (by simp), ok, .of_eq gens⟩
    refine codeAny_mono ((F _ kin (space glob)).go callerA [] st H ⟨[.ref a], []⟩ [.ref a] [.ref a] _ _ rfl room en (bind st (.ref a)) (.cons rfl .nil) (ask H only sq)) fun r s' h => ?_
    match r, h with
    | .error _, h => exact False.elim h
    | .ok .next, h => exact False.elim h
    | .ok .brk, h => exact False.elim h
    | .ok .cont, h => exact False.elim h
    | .ok (.ret u), ⟨v, H', os, bare, un, ok', rel, q⟩ =>
      have q2 : v = .bl true := q
      cases q2
      have r2 : u = Value.bool true := rel
      cases r2
      refine ⟨rfl, OldK.of_keep fun b o e => ?_, os, bare⟩
      rcases only b with z | ⟨ob, xs, z⟩
      · exact un.keep b o e z (fun t => absurd (show b ∈ ([] : List Addr) from t) (by simp)) (by simp)
      · have z2 := un.frzs b ob _ z
        obtain ⟨g1, _⟩ := ok b _ z
        obtain ⟨g2, _⟩ := ok' b _ z2
        rw [e] at g1
        cases g1
        exact g2
  cases own : K.lookup a with
  | some o =>
    have e := inK a o own
    rw [obj] at e
    cases e
    exact main (fun _ => none) (fun _ => .inl rfl) (.inr ⟨_, us.toArray, _, own, rfl, rfl, rfl, by rw [List.size_toArray, size]; exact short, by simpa using vals⟩) (fun b u z => by have y : (none : Option HO) = some u := z; cases y) (fun b z => absurd rfl z) fun z => absurd rfl z
  | none =>
    have yes : (fun b => if b = a then some (HO.frz { cls := .type "list", data := .seq us.toArray } (.lst (ns.map V.int))) else none) a = some (HO.frz { cls := .type "list", data := .seq us.toArray } (.lst (ns.map V.int))) := if_pos rfl
    have no : ∀ b, b ≠ a → (fun b => if b = a then some (HO.frz { cls := .type "list", data := .seq us.toArray } (.lst (ns.map V.int))) else none) b = none := fun b ne => if_neg ne
    generalize (fun b => if b = a then some (HO.frz { cls := .type "list", data := .seq us.toArray } (.lst (ns.map V.int))) else none) = G at yes no
    refine main G (fun b => ?_) (.inl (.inr ⟨_, yes⟩)) (fun b u z => ?_) (fun b z => ?_) fun _ => own
    · by_cases hb : b = a
      · subst hb
        exact .inr ⟨_, _, yes⟩
      · exact .inl (no b hb)
    · by_cases hb : b = a
      · subst hb
        rw [yes] at z
        cases z
        exact ⟨obj, by rw [List.length_map]; exact short, us, _, vals, obj⟩
      · rw [no b hb] at z
        cases z
    · by_cases hb : b = a
      · exact hb
      · exact absurd (no b hb) z
theorem walk_G {l : PySem.W.OpenLaw} {m n : Nat} {q : Program} {loose : List Str} {XP : (Str → Option Value) → Heap → Prop} {YP : World → Heap → Prop} {d : DefRec} {K : Params → PySem.W.Frag} {want : World → Sp} {x : Str}
    (most : l.most = some m) (most2 : m ≤ sizeLine) (noDef : d.params.defaults = []) (room : Room n callerA) (inK : ∀ (w : World) (h : Heap), YP w h → (K w.params).In h)
    (F : ∀ (w : World) (mg : Str → Option Value) (fa : Addr) (h : Heap), (K w.params).In h → h.Ns mainGlobals mg → mg d.name = some (.ref fa) →
      ∃ fd : FuncData, (∀ (s : Shared) (u : Value), BindsTo s fd ⟨[u], []⟩ [(x, u)]) ∧ ∀ base : Heap, (K w.params).In base → base.Ns mainGlobals mg → FnOkG l.prog w (K w.params) mg base n fa fd [x] (want w))
    (ask : ∀ (w : World) (H : Hp) (a : Addr) (ns : List Int), ns.length ≤ m → Only H → SqL (K w.params) H a (ns.map V.int) → want w [.ref a] H (fun v _ => v = .bl true) fun _ _ _ => False) :
    PySem.W.WalkO q loose XP YP l.row.toRowW d [] (fun f vs => PySem.call f vs) :=
  Att.attach_call most noDef fun w s₀ st mg mb fa o pm cd doc a us ns G Y ho hd hcd named obj allInt short gens => by
    have kin := inK w _ Y
    obtain ⟨fd, bind, FF⟩ := F w mg fa _ kin G.T.g named
    exact headG kin G.T.g G.T.b G.T.builtins G.T.nolimit gens obj allInt (Nat.le_trans short most2) room FF bind fun H only sq => ask w H a ns short only sq
/-! ### repr of data -/
def rRepr (K : PySem.W.Frag) : List V → Hp → VK → Prop := fun xs H Q => ∃ p d, xs = [.ref p] ∧ Dp K H (.ref p) d ∧ d.showable = true ∧ d.hasDict = false ∧ d.depth ≤ 50 ∧ d.shown.length ≤ sizeLine ∧ Q (.str d.shown) H
theorem call_reprD {X : Cx} (hg : X.A.guards = some []) (hu : X.A.units + 64 < cLine) : CallR X (.builtin "repr") (rRepr X.K) := by
  intro pins st σ H xs us Q J r h
  obtain ⟨p, d, rfl, dp, hs, hd, hdp, hz, q⟩ := h
  obtain ⟨u, rfl, hu2⟩ : ∃ u, us = [u] ∧ RelV (.ref p) u := by
    cases r with
    | cons a b =>
      cases b
      exact ⟨_, rfl, a⟩
  have e : u = Value.ref p := hu2
  subst e
  obtain ⟨as, rd⟩ := Dp.reads J d _ _ dp hu2
  refine repr_of_reads' rd hs (fun z => by rw [hd] at z; cases z) hg (by omega) (fun _ _ e => e) (fun h' u tk keep => ?_) hz
  exact ⟨.str d.shown, H, J.turnedL (ch := []) (fun b o _ e => keep b o e) (fun b hb => absurd hb (by simp)), ⟨_, rfl⟩, q⟩
section
variable {K : PySem.W.Frag} {σ : L2.St} {H : Hp} {te : TE}
theorem ev_repr {d : PyData} (h : EvD K te σ H d) (hl : isDisplay d = true) (hs : d.showable = true) (hd : d.hasDict = false) (hdp : d.depth ≤ 50) (hz : d.shown.length ≤ sizeLine) : Ev (tCB (rRepr K) (tCons te tNil)) σ H (.str d.shown) := fun H1 e Q q =>
  h H1 e _ fun v H2 e2 dv => by
    have hp : ∃ p, v = .ref p := by
      cases dv with
      | lst _ _ => exact ⟨_, rfl⟩
      | tup _ _ => exact ⟨_, rfl⟩
      | non => cases hl
      | bl _ => cases hl
      | int _ => cases hl
      | str _ => cases hl
    obtain ⟨p, rfl⟩ := hp
    exact ⟨p, d, rfl, dv, hs, hd, hdp, hz, q H2 e2⟩
end
end Kit
set_option Elab.async false
set_option linter.all false
set_option maxRecDepth 100000
set_option maxHeartbeats 4000000
namespace Kit
open PySem PySem.Spec PyProof.Rows L2 Evl
/-! ### data that repr shows, with long ints: at most n signs -/
structure ShN (d : PyData) (n : Nat) : Prop where
  shw : d.showable = true
  nod : d.hasDict = false
  len : d.shown.length ≤ n
  dep : d.depth ≤ 20
theorem shn_int {i : Int} (h : i.natAbs.log2 < 1920) : ShN (.int i) 1921 := ⟨decide_eq_true h, rfl, int_text_len_1921 h, Nat.zero_le _⟩
theorem shn_int2 {i : Int} (h : i.natAbs < 2 ^ 1900) : ShN (.int i) 1921 := shn_int (by
  by_cases z : i.natAbs = 0
  · rw [z]
    decide
  · exact Nat.lt_of_lt_of_le ((Nat.log2_lt z).mpr h) (by decide))
theorem shn_all {n : Nat} : ∀ {ds : List PyData}, (∀ d ∈ ds, ShN d n ∧ d.depth ≤ 19) → PyData.showableAll ds = true ∧ PyData.hasDictAll ds = false ∧ ((PyData.shownAll ds).map (·.length)).sum ≤ n * ds.length ∧ (PyData.shownAll ds).length = ds.length ∧ PyData.depthAll ds ≤ 19
  | [], _ => ⟨rfl, rfl, Nat.zero_le _, rfl, Nat.zero_le _⟩
  | d :: r, h => by
    obtain ⟨a, b, c, e, f⟩ := shn_all fun x hx => h x (List.mem_cons_of_mem _ hx)
    obtain ⟨⟨p, q, s, _⟩, t⟩ := h d List.mem_cons_self
    refine ⟨by simp [PyData.showableAll, a, p], by simp [PyData.hasDictAll, b, q], ?_, by simp [PyData.shownAll, e], by simp only [PyData.depthAll]; omega⟩
    simp only [PyData.shownAll, List.map_cons, List.sum_cons, List.length_cons, Nat.mul_succ]
    omega
theorem shn_list {ds : List PyData} {n : Nat} (h : ∀ d ∈ ds, ShN d n ∧ d.depth ≤ 19) : ShN (.list ds) ((n + 2) * ds.length + 3) := by
  obtain ⟨a, b, c, e, f⟩ := shn_all h
  refine ⟨by simpa [PyData.showable] using a, by simpa [PyData.hasDict] using b, ?_, by simp only [PyData.depth]; omega⟩
  have := listText_len_le (PyData.shownAll ds)
  show (listText (PyData.shownAll ds)).length ≤ _
  rw [e] at this
  rw [Nat.add_mul]
  omega
theorem shn_tup {ds : List PyData} {n : Nat} (h : ∀ d ∈ ds, ShN d n ∧ d.depth ≤ 19) : ShN (.tuple ds) ((n + 2) * ds.length + 3) := by
  obtain ⟨a, b, c, e, f⟩ := shn_all h
  refine ⟨by simpa [PyData.showable] using a, by simpa [PyData.hasDict] using b, ?_, by simp only [PyData.depth]; omega⟩
  have := tupleText_len_le (PyData.shownAll ds)
  show (tupleText (PyData.shownAll ds)).length ≤ _
  rw [e] at this
  rw [Nat.add_mul]
  omega
section
variable {K : PySem.W.Frag} {σ : L2.St} {H : Hp} {te : TE}
theorem ev_reprN {d : PyData} {n : Nat} (h : EvD K te σ H d) (hl : isDisplay d = true) (s : ShN d n) (hn : n ≤ 1000000) : Ev (tCB (rRepr K) (tCons te tNil)) σ H (.str d.shown) :=
  ev_repr h hl s.shw s.nod (by have := s.dep; omega) (Nat.le_trans s.len (Nat.le_trans hn (by rw [sizeLine_eq]; decide)))
end
end Kit
set_option Elab.async false
set_option linter.all false
set_option maxRecDepth 100000
set_option maxHeartbeats 4000000
namespace Kit
open PySem PySem.Spec PyProof.Rows L2 Evl
section
variable {K : PySem.W.Frag} {σ : L2.St} {H : Hp} {ta tb te : TE} {t : TT}
/-- max(xs), told by what it is -/
theorem ev_maxV {a : Addr} {ns : List Int} {m : Int} (h : Ev ta σ H (.ref a)) (ha : SqL K H a (ns.map V.int)) (hm : m ∈ ns) (hl : ∀ y ∈ ns, y ≤ m) : Ev (tCB (rMax K) (tCons ta tNil)) σ H (.int m) := fun H1 e Q q =>
  h H1 e _ fun H2 e2 => ⟨a, ns, rfl, ex_l (e.trans e2) ha, List.length_pos_of_mem hm, fun m' hm' hl' => by
    have h1 := hl m' hm'
    have h2 := hl' m hm
    have : m' = m := by omega
    rw [this]
    exact q H2 e2⟩
/-- [e for i, x in enumerate(xs) if t] -/
theorem el_en {ta : TA} {i j : Nat} {vs : List Nat} {a : Addr} {xs : List V} (f : Nat → Bool) (v : Nat → V) (h : EvA ta σ H [.ref a]) (hx : SqL K H a xs) (hz : xs.length ≤ 40000) (hw : ∀ x y, wipe (((wipe σ vs).set i (some x)).set j (some y)) vs = wipe σ vs)
    (ht : ∀ (n : Nat) x H1, Ex H H1 → xs[n]? = some x → EvT t (((wipe σ vs).set i (some (.int (n : Int)))).set j (some x)) H1 (f n))
    (he : ∀ (n : Nat) x H1, Ex H H1 → xs[n]? = some x → f n = true → Ev te (((wipe σ vs).set i (some (.int (n : Int)))).set j (some x)) H1 (v n)) :
    EvL (tLc (iEnum K ta) (gTup K 2 (gCons (gName i) (gCons (gName j) gNil))) t te vs) σ H (given xs.length f v) := fun H0 e Q q => h H0 e _ fun H1 e1 => ⟨a, xs, rfl, ex_l (e.trans e1) hx, fun Dl hD => by
  refine lc_it walk_enum (Cw H1 f v Dl) ⟨hD, Ex.new hD, upd_same⟩ (fun n H' _ p => ex_l ((e.trans e1).trans p.2.1) hx) ?_ fun H' p => q Dl H' (fresh_back e1 p.1) (e1.trans p.2.1) p.2.2
  rintro n w Hh H' hn p ⟨T, x, y, rfl, nT, rfl, g1, g2⟩
  have ex : V.int (n : Nat) = x := Option.some.inj g1
  subst ex
  have eT : Ex Hh (upd Hh T (.tup [.int (n : Nat), y])) := Ex.new nT
  refine ⟨T, [.int (n : Nat), y], rfl, st_of upd_same, rfl, _, [y], rfl, y, [], rfl, rfl, hw _ y, ?_⟩
  exact cw_turn (H := H1) ⟨p.1, p.2.1.trans eT, eT Dl _ p.2.2⟩ (by omega) (ht n y H1 (e.trans e1) g2) fun hf => he n y H1 (e.trans e1) g2 hf⟩
/-- [e for x, y in zip(xs, ys)], both new lists -/
theorem el_zipN {i j : Nat} {vs : List Nat} {xs ys : List V} (F : V → V → V) (h : EvL ta σ H xs) (h2 : EvL tb σ H ys) (hl : xs.length = ys.length) (hz : xs.length ≤ 40000) (hw : ∀ x y, wipe (((wipe σ vs).set i (some x)).set j (some y)) vs = wipe σ vs)
    (he : ∀ (n : Nat) x y H1, Ex H H1 → xs[n]? = some x → ys[n]? = some y → Ev te (((wipe σ vs).set i (some x)).set j (some y)) H1 (F x y)) :
    EvL (tLc (iZip K (tCons ta (tCons tb tNil))) (gTup K 2 (gCons (gName i) (gCons (gName j) gNil))) tYes te vs) σ H (List.zipWith F xs ys) := fun H0 e Q q =>
  h H0 e _ fun a H1 na e1 ha => h2 H1 (e.trans e1) _ fun b H2 nb e2 hb => by
    have := el_zip (K := K) (H := H2) (ta := fun _ H' R => R [.ref a, .ref b] H') (te := te) (vs := vs) F (fun H3 _ Q q => q H3 (Ex.refl _)) (sq_of (e2 a _ ha)) (sq_of hb) hl hz hw fun n x y H3 e3 g1 g2 => he n x y H3 (e.trans (e1.trans (e2.trans e3))) g1 g2
    exact this H2 (Ex.refl _) Q fun p H3 hp e3 h3 => q p H3 (fresh_back (e1.trans e2) hp) (e1.trans (e2.trans e3)) h3
/-- xs + y, y an old list; x + ys, x an old list -/
theorem el_catR {a : Addr} {xs ys : List V} (h : EvL ta σ H xs) (h2 : Ev tb σ H (.ref a)) (ha : H a = some (.lst ys)) (hz : xs.length + ys.length ≤ 1000) : EvL (tOp rCat ta tb) σ H (xs ++ ys) := fun H1 e Q q =>
  h H1 e _ fun p H2 _ e2 h3 => h2 H2 (e.trans e2) _ fun H3 e3 => ⟨p, a, xs, ys, rfl, rfl, e3 p _ h3, e3 a _ (e2 a _ (e a _ ha)), sz_of (by omega), fun l hl => q l _ (fresh_back (e2.trans e3) hl) ((e2.trans e3).trans (Ex.new hl)) upd_same⟩
theorem el_catL {a : Addr} {xs ys : List V} (h : Ev ta σ H (.ref a)) (ha : H a = some (.lst xs)) (h2 : EvL tb σ H ys) (hz : xs.length + ys.length ≤ 1000) : EvL (tOp rCat ta tb) σ H (xs ++ ys) := fun H1 e Q q =>
  h H1 e _ fun H2 e2 => h2 H2 (e.trans e2) _ fun p H3 _ e3 h3 => ⟨a, p, xs, ys, rfl, rfl, e3 a _ (e2 a _ (e a _ ha)), h3, sz_of (by omega), fun l hl => q l _ (fresh_back (e2.trans e3) hl) ((e2.trans e3).trans (Ex.new hl)) upd_same⟩
end
end Kit
set_option Elab.async false
set_option linter.all false
set_option maxRecDepth 100000
namespace Kit
open PySem PySem.Spec PyProof.Rows L2 Evl
def fac (n : Nat) : Nat := Builtin.Math.factorialNat n
theorem fac_succ (n : Nat) : fac (n + 1) = fac n * (n + 1) := PySem.W.mc_fac_succ n
theorem fac_pos (n : Nat) : 1 ≤ fac n := PySem.W.mc_fac_pos n
theorem fac_mono : ∀ {m n : Nat}, m ≤ n → fac m ≤ fac n := fun {m n} h => by
  induction h with
  | refl => exact Nat.le_refl _
  | step _ ih =>
    rw [Nat.succ_eq_add_one, fac_succ]
    exact Nat.le_trans ih (Nat.le_mul_of_pos_right _ (Nat.succ_pos _))
theorem fac20 : fac 20 < 2 ^ 64 := by decide +kernel
def rFac : List V → Hp → VK → Prop := fun vs H Q => ∃ n : Nat, vs = [.int (n : Int)] ∧ n ≤ 20000 ∧ Q (.int ((fac n : Nat) : Int)) H
section
variable {X : Cx}
theorem cr_factorial : CallR X (.builtin "math.factorial") rFac := by
  intro pins s σ H vs us Q I r h
  obtain ⟨n, rfl, hn, q⟩ := h
  cases r with
  | cons ru rt =>
    cases rt
    obtain ⟨t, rfl⟩ := ru
    refine PySem.W.mc_factorial (Int.natCast_nonneg n) (by omega) fun _ => ?_
    rw [Int.toNat_natCast]
    exact ⟨.int _, H, I.tok _, ⟨_, rfl⟩, q⟩
def rDivmod : List V → Hp → VK → Prop := fun xs H Q => ∃ i j, xs = [.int i, .int j] ∧ CDivP i j ∧ ∀ p, H p = none → Q (.ref p) (upd H p (.tup [.int (i / j), .int (i % j)]))
theorem call_divmodR : CallR X (.builtin "divmod") rDivmod := call_divmodW
end
section
variable {K : PySem.W.Frag} {σ : L2.St} {H : Hp} {ta tb te tl : TE} {D : Ends} {tu tz : TS}
theorem ev_fac {n : Nat} (h : Ev ta σ H (.int (n : Int))) (hn : n ≤ 20000) : Ev (tCB rFac (tCons ta tNil)) σ H (.int ((fac n : Nat) : Int)) := fun H1 e Q q => h H1 e _ fun H2 e2 => ⟨n, rfl, hn, q H2 e2⟩
theorem divp_small {i j : Int} (h : 0 < j) (hj : j.natAbs < 2 ^ 8000) : CDivP i j := ⟨h, PyProof.noPylong_of_log2 (by
  have h2 := (Nat.log2_lt (n := j.natAbs) (k := 8000) (by omega)).mpr hj
  omega)⟩
theorem eu_divmod {a b : Nat} (h : Ev ta σ H (.int (a : Int))) (h2 : Ev tb σ H (.int (b : Int))) (hb : 0 < b) (hb2 : b < 2 ^ 8000) : EvU (tCB rDivmod (tCons ta (tCons tb tNil))) σ H [.int ((a / b : Nat) : Int), .int ((a % b : Nat) : Int)] := fun H1 e Q q =>
  h H1 e _ fun H2 e2 => h2 H2 (e.trans e2) _ fun H3 e3 => ⟨a, b, rfl, divp_small (by omega) (by rw [Int.natAbs_natCast]; exact hb2), fun p hp => q p _ (fresh_back (e2.trans e3) hp) ((e2.trans e3).trans (Ex.new hp)) (by rw [upd_same, Int.natCast_ediv, Int.natCast_emod])⟩
end
end Kit
set_option Elab.async false
set_option linter.all false
set_option maxRecDepth 100000
set_option maxHeartbeats 4000000
namespace Kit
open PySem PySem.Spec PyProof.Rows L2 Evl
section
variable {K : PySem.W.Frag} {σ : L2.St} {H : Hp} {ta tb te tl : TE} {D : Ends} {tu tz : TS} {t : TT}
/-- for i in reversed(range(n)) -/
theorem s_forRev {j n : Nat} (h : Ev ta σ H (.int (n : Int))) (hn : n ≤ 40000) (Pv : Nat → L2.St → Hp → Prop) (h0 : ∀ H1, Ex H H1 → Pv 0 σ H1)
    (hs : ∀ (i : Nat) σ' H', i < n → Pv i σ' H' → tu { D with nx := Pv (i + 1), ct := Pv (i + 1), bk := D.nx } (σ'.set j (some (.int ((n - 1 - i : Nat) : Int)))) H') (hd : ∀ σ' H', Pv n σ' H' → D.nx σ' H') : tFor (iRevR (tRg1 ta)) (gName j) tu D σ H :=
  h H (Ex.refl H) _ fun H1 e => ⟨n, rfl, by
    have e0 : ((n : Int) - 0).toNat = n := by omega
    refine ⟨by omega, by omega, by omega, by omega, ?_⟩
    rw [e0]
    exact for_rangeC Pv (h0 H1 e) (fun i σ' H' hi p => by
      have e1 : (0 : Int) + (n : Int) - 1 + (i : Nat) * (-1) = ((n - 1 - i : Nat) : Int) := by omega
      rw [e1]
      exact hs i σ' H' hi p) hd⟩
theorem q_forRev {j n : Nat} (h : Ev ta σ H (.int (n : Int))) (hn : n ≤ 40000) (Pv : Nat → L2.St → Hp → Prop) (h0 : ∀ H1, Ex H H1 → Pv 0 σ H1)
    (hs : ∀ (i : Nat) σ' H', i < n → Pv i σ' H' → tu { D with nx := Pv (i + 1), ct := Pv (i + 1), bk := tz D } (σ'.set j (some (.int ((n - 1 - i : Nat) : Int)))) H') (hd : ∀ σ' H', Pv n σ' H' → tz D σ' H') : tSeq (tFor (iRevR (tRg1 ta)) (gName j) tu) tz D σ H := s_forRev (D := { D with nx := tz D }) h hn Pv h0 hs hd
/-- [a new tuple for i in range(lo, n)] -/
theorem elt_R2 {ta : TA} {j : Nat} {vs : List Nat} {lo n : Int} (f : Nat → List V) (h : EvA ta σ H [.int lo, .int n]) (hn : 0 ≤ lo ∧ lo ≤ 40000 ∧ -40000 ≤ n ∧ n ≤ 40000) (hw : ∀ x, wipe ((wipe σ vs).set j (some x)) vs = wipe σ vs)
    (he : ∀ (i : Nat) H1, Ex H H1 → lo + (i : Int) < n → EvU te ((wipe σ vs).set j (some (.int (lo + (i : Int))))) H1 (f i)) : EvLT (tLc (iRng2 ta) (gName j) tYes te vs) σ H ((List.range (n - lo).toNat).map f) := fun H0 e Q q => h H0 e _ fun H1 e1 => ⟨lo, n, rfl, ⟨by omega, by omega, by omega, by omega⟩, fun Dl hD =>
  lc_range (lo := lo) (n := (n - lo).toNat) (fun i H' => Ex H1 H' ∧ ∃ ws, H' Dl = some (.lst ws) ∧ TL H' ws ((List.range i).map f)) ⟨Ex.new hD, [], upd_same, .nil⟩ (fun i H' hi p => by
    obtain ⟨p1, ws, p2, p3⟩ := p
    show wipe ((wipe σ vs).set j (some (.int (lo + (i : Int))))) vs = wipe σ vs ∧ te ((wipe σ vs).set j (some (.int (lo + (i : Int))))) H' fun y H4 => ∃ acc, H4 Dl = some (.lst acc) ∧ acc.length < sizeLine ∧ _
    refine ⟨hw _, he i H1 (e.trans e1) (by omega) H' p1 _ fun p H4 hp e4 h4 => ⟨ws, e4 Dl _ p2, sz_lt (by
      have := p3.len
      simp at this
      omega), Ex.mut (p1.trans e4) hD, ws ++ [.ref p], upd_same, ?_⟩⟩
    rw [List.range_succ, List.map_append]
    exact ((p3.ex e4).app ⟨p, rfl, h4⟩).upd (e4 Dl _ p2)) (fun H' p => by
      obtain ⟨p1, ws, p2, p3⟩ := p
      exact q Dl ws H' (fresh_back e1 hD) (e1.trans p1) p2 p3)⟩
end
end Kit
set_option Elab.async false
set_option linter.all false
set_option maxRecDepth 100000
set_option maxHeartbeats 4000000
namespace Kit
open PySem PySem.Spec PyProof.Rows L2 Evl
/-! ### choosing -/
def cho : Nat → Nat → Nat
  | _, 0 => 1
  | 0, _ + 1 => 0
  | n + 1, k + 1 => cho n k + cho n (k + 1)
theorem fac_zero : fac 0 = 1 := rfl
theorem cho_zero (n : Nat) : cho n 0 = 1 := by cases n <;> rfl
theorem cho_gt : ∀ {n k : Nat}, n < k → cho n k = 0
  | 0, _ + 1, _ => rfl
  | n + 1, k + 1, h => by
    show cho n k + cho n (k + 1) = 0
    rw [cho_gt (by omega : n < k), cho_gt (by omega : n < k + 1)]
theorem cho_self : ∀ n : Nat, cho n n = 1
  | 0 => rfl
  | n + 1 => by
    show cho n n + cho n (n + 1) = 1
    rw [cho_self n, cho_gt (Nat.lt_succ_self n)]
theorem cho_next : ∀ n k : Nat, cho n (k + 1) * (k + 1) = cho n k * (n - k)
  | 0, k => by
    rw [Nat.zero_sub, Nat.mul_zero]
    show 0 * (k + 1) = 0
    rw [Nat.zero_mul]
  | n + 1, 0 => by
    have a := cho_next n 0
    show (cho n 0 + cho n 1) * (0 + 1) = cho (n + 1) 0 * (n + 1 - 0)
    rw [cho_zero, cho_zero] at *
    simp only [Nat.zero_add, Nat.mul_one, Nat.sub_zero, Nat.one_mul] at *
    omega
  | n + 1, k + 1 => by
    have a := cho_next n (k + 1)
    have b := cho_next n k
    show (cho n (k + 1) + cho n (k + 2)) * (k + 1 + 1) = (cho n k + cho n (k + 1)) * (n + 1 - (k + 1))
    rcases Nat.lt_or_ge k n with h | h
    · obtain ⟨d, rfl⟩ : ∃ d, n = k + 1 + d := ⟨n - (k + 1), by omega⟩
      rw [show k + 1 + d - (k + 1) = d by omega] at a
      rw [show k + 1 + d - k = d + 1 by omega] at b
      rw [show k + 1 + d + 1 - (k + 1) = d + 1 by omega]
      generalize cho (k + 1 + d) (k + 1) = x at *
      generalize cho (k + 1 + d) k = y at *
      generalize cho (k + 1 + d) (k + 1 + 1) = z at *
      grind
    · rw [show n + 1 - (k + 1) = 0 by omega, cho_gt (by omega : n < k + 1), cho_gt (by omega : n < k + 2)]
      simp
/-- k of n: n! = C(n, k) k! (n - k)! -/
theorem cho_fac : ∀ {n k : Nat}, k ≤ n → cho n k * (fac k * fac (n - k)) = fac n
  | n, 0, _ => by
    rw [cho_zero, Nat.sub_zero]
    rw [fac_zero]
    omega
  | n, k + 1, h => by
    have ih := cho_fac (n := n) (k := k) (by omega)
    have a := cho_next n k
    rw [show n - k = (n - (k + 1)) + 1 by omega, fac_succ] at ih
    rw [show n - k = n - (k + 1) + 1 by omega] at a
    rw [fac_succ]
    generalize fac (n - (k + 1)) = y at *
    generalize fac n = v at *
    generalize cho n (k + 1) = z at *
    generalize cho n k = x at *
    generalize fac k = u at *
    generalize n - (k + 1) = d at *
    have e : z * (u * (k + 1) * y) = z * (k + 1) * (u * y) := by grind
    rw [e, a, ← ih]
    grind
theorem cho_pos {n k : Nat} (h : k ≤ n) : 1 ≤ cho n k := by
  have a := cho_fac h
  have b := fac_pos n
  rcases Nat.eq_zero_or_pos (cho n k) with z | z
  · rw [z, Nat.zero_mul] at a
    omega
  · exact z
theorem cho_le : ∀ n k : Nat, cho n k ≤ 2 ^ n
  | n, 0 => by rw [cho_zero]; exact Nat.one_le_two_pow
  | 0, _ + 1 => Nat.zero_le _
  | n + 1, k + 1 => by
    have a := cho_le n k
    have b := cho_le n (k + 1)
    rw [Nat.pow_succ]
    show cho n k + cho n (k + 1) ≤ _
    omega
theorem fp_fac (n : Nat) : ∀ k : Nat, k ≤ n → Builtin.Math.fallingProduct (n : Int) k * (fac (n - k) : Int) = (fac n : Int)
  | 0, _ => by
    rw [PySem.W.mc_fp_zero, Nat.sub_zero, Int.one_mul]
  | k + 1, h => by
    have ih := fp_fac n k (by omega)
    rw [show n - k = n - (k + 1) + 1 by omega, fac_succ] at ih
    rw [PySem.W.mc_fp_succ, ← ih, show (n : Int) - (k : Int) = ((n - (k + 1) + 1 : Nat) : Int) by omega]
    push_cast
    generalize (fac (n - (k + 1)) : Int) = x
    generalize Builtin.Math.fallingProduct (n : Int) k = y
    grind
theorem fp_self (n : Nat) : Builtin.Math.fallingProduct (n : Int) n = (fac n : Int) := by
  have := fp_fac n n (Nat.le_refl _)
  rw [Nat.sub_self, fac_zero] at this
  simpa using this
theorem cho_sym {n k : Nat} (h : k ≤ n) : cho n k = cho n (n - k) := by
  have a := cho_fac h
  have b := cho_fac (n := n) (k := n - k) (by omega)
  rw [show n - (n - k) = k by omega, Nat.mul_comm (fac (n - k))] at b
  have p : 0 < fac k * fac (n - k) := Nat.mul_pos (fac_pos _) (fac_pos _)
  exact Nat.eq_of_mul_eq_mul_right p (a.trans b.symm)
theorem comb_cho (n k : Nat) : PySem.W.mcComb (n : Int) (k : Int) = (cho n k : Int) := by
  by_cases h : k ≤ n
  · have key : ∀ m : Nat, m ≤ n → Builtin.Math.fallingProduct (n : Int) m / Builtin.Math.fallingProduct (m : Int) m = (cho n m : Int) := fun m hm => by
      have a := fp_fac n m hm
      have b := cho_fac hm
      have f := fac_pos m
      have g := fac_pos (n - m)
      rw [fp_self]
      have e : Builtin.Math.fallingProduct (n : Int) m = (cho n m : Int) * (fac m : Int) := by
        refine Int.eq_of_mul_eq_mul_right (a := (fac (n - m) : Int)) (by omega) ?_
        rw [a, ← b]
        push_cast
        grind
      rw [e]
      exact Int.mul_ediv_cancel _ (by omega)
    rw [PySem.W.mcComb_at (m := ((min k (n - k) : Nat) : Int)) (by omega) (by omega) (by omega), Int.toNat_natCast, key _ (by omega)]
    rcases Nat.le_total k (n - k) with q | q
    · rw [Nat.min_eq_left q]
    · rw [Nat.min_eq_right q, ← cho_sym h]
  · rw [PySem.W.mcComb_above (by omega), cho_gt (by omega)]
    rfl
def prm (n k : Nat) : Int := PySem.W.mcPerm (n : Int) (k : Int)
theorem prm_fac {n k : Nat} (h : k ≤ n) : prm n k * (fac (n - k) : Int) = (fac n : Int) := by
  unfold prm
  rw [PySem.W.mcPerm_at (by omega), Int.toNat_natCast]
  exact fp_fac n k h
theorem prm_pos {n k : Nat} (h : k ≤ n) : 1 ≤ prm n k := PySem.W.mcPerm_pos (by omega) (by omega)
def rComb : List V → Hp → VK → Prop := fun vs H Q => ∃ n k : Nat, vs = [.int (n : Int), .int (k : Int)] ∧ n ≤ 10000 ∧ Q (.int (cho n k : Int)) H
def rPerm : List V → Hp → VK → Prop := fun vs H Q => ∃ n k : Nat, vs = [.int (n : Int), .int (k : Int)] ∧ n ≤ 10000 ∧ k ≤ 10000 ∧ Q (.int (prm n k)) H
section
variable {X : Cx}
theorem cr_comb : CallR X (.builtin "math.comb") rComb := by
  intro pins s σ H vs us Q I r h
  obtain ⟨n, k, rfl, hn, q⟩ := h
  cases r with
  | cons ru r2 =>
    cases r2 with
    | cons rv rt =>
      cases rt
      obtain ⟨t, rfl⟩ := ru
      obtain ⟨u, rfl⟩ := rv
      refine PySem.W.mc_comb_v (Int.natCast_nonneg n) (Int.natCast_nonneg k) (by omega) (by omega) (comb_cho n k) ?_
      exact ⟨.int _, H, I.tok _, ⟨_, rfl⟩, q⟩
theorem cr_perm : CallR X (.builtin "math.perm") rPerm := by
  intro pins s σ H vs us Q I r h
  obtain ⟨n, k, rfl, hn, hk, q⟩ := h
  cases r with
  | cons ru r2 =>
    cases r2 with
    | cons rv rt =>
      cases rt
      obtain ⟨t, rfl⟩ := ru
      obtain ⟨u, rfl⟩ := rv
      refine PySem.W.mc_perm_v (Int.natCast_nonneg n) (Int.natCast_nonneg k) (by omega) (by omega) rfl ?_
      exact ⟨.int _, H, I.tok _, ⟨_, rfl⟩, q⟩
end
section
variable {K : PySem.W.Frag} {σ : L2.St} {H : Hp} {ta tb te tl : TE} {D : Ends} {tu tz : TS}
theorem ev_comb {n k : Nat} (h : Ev ta σ H (.int (n : Int))) (h2 : Ev tb σ H (.int (k : Int))) (hn : n ≤ 10000) : Ev (tCB rComb (tCons ta (tCons tb tNil))) σ H (.int (cho n k : Int)) := fun H1 e Q q => h H1 e _ fun H2 e2 => h2 H2 (e.trans e2) _ fun H3 e3 => ⟨n, k, rfl, hn, q H3 (e2.trans e3)⟩
theorem ev_perm {n k : Nat} (h : Ev ta σ H (.int (n : Int))) (h2 : Ev tb σ H (.int (k : Int))) (hn : n ≤ 10000) (hk : k ≤ 10000) : Ev (tCB rPerm (tCons ta (tCons tb tNil))) σ H (.int (prm n k)) := fun H1 e Q q => h H1 e _ fun H2 e2 => h2 H2 (e.trans e2) _ fun H3 e3 => ⟨n, k, rfl, hn, hk, q H3 (e2.trans e3)⟩
/-- for x, y in zip(xs, ys): the pair is a new tuple -/
theorem s_forZip {ta : TA} {i j n : Nat} {a b : Addr} {xs ys : List V} (h : EvA ta σ H [.ref a, .ref b]) (hx : SqL K H a xs) (hy : SqL K H b ys) (hn : n = min xs.length ys.length) (Pv : Nat → L2.St → Hp → Prop) (h0 : ∀ H1, Ex H H1 → Pv 0 σ H1) (hl : ∀ k σ' H', k ≤ n → Pv k σ' H' → SqL K H' a xs ∧ SqL K H' b ys)
    (hs : ∀ k x y σ' H' H2, xs[k]? = some x → ys[k]? = some y → Pv k σ' H' → Ex H' H2 → tu { D with nx := Pv (k + 1), ct := Pv (k + 1), bk := D.nx } ((σ'.set i (some x)).set j (some y)) H2) (hd : ∀ σ' H', Pv n σ' H' → D.nx σ' H') :
    tFor (iZip K ta) (gTup K 2 (gCons (gName i) (gCons (gName j) gNil))) tu D σ H := h H (Ex.refl H) _ fun H1 e => ⟨a, b, xs, ys, rfl, ex_l e hx, ex_l e hy, by
  refine for_it (walk_zip (n := n) hn) Pv (h0 H1 e) (fun k σ' H' hk p => hl k σ' H' hk p) ?_ hd
  rintro k v σ' Hh H2 hk p ⟨T, x, y, rfl, nT, rfl, g1, g2⟩
  exact ⟨T, [x, y], rfl, st_of upd_same, rfl, x, [y], rfl, y, [], rfl, rfl, hs k x y σ' Hh _ g1 g2 p (Ex.new nT)⟩⟩
theorem q_forZip {ta : TA} {i j n : Nat} {a b : Addr} {xs ys : List V} (h : EvA ta σ H [.ref a, .ref b]) (hx : SqL K H a xs) (hy : SqL K H b ys) (hn : n = min xs.length ys.length) (Pv : Nat → L2.St → Hp → Prop) (h0 : ∀ H1, Ex H H1 → Pv 0 σ H1) (hl : ∀ k σ' H', k ≤ n → Pv k σ' H' → SqL K H' a xs ∧ SqL K H' b ys)
    (hs : ∀ k x y σ' H' H2, xs[k]? = some x → ys[k]? = some y → Pv k σ' H' → Ex H' H2 → tu { D with nx := Pv (k + 1), ct := Pv (k + 1), bk := tz D } ((σ'.set i (some x)).set j (some y)) H2) (hd : ∀ σ' H', Pv n σ' H' → tz D σ' H') :
    tSeq (tFor (iZip K ta) (gTup K 2 (gCons (gName i) (gCons (gName j) gNil))) tu) tz D σ H := s_forZip (D := { D with nx := tz D }) h hx hy hn Pv h0 hl hs hd
/-- [e for x, y in zip(xs, ys)], xs an old list, ys a new one -/
theorem el_zipO {i j : Nat} {vs : List Nat} {a : Addr} {xs ys : List V} (F : V → V → V) (h : Ev ta σ H (.ref a)) (hx : SqL K H a xs) (h2 : EvL tb σ H ys) (hl : xs.length = ys.length) (hz : xs.length ≤ 40000) (hw : ∀ x y, wipe (((wipe σ vs).set i (some x)).set j (some y)) vs = wipe σ vs)
    (he : ∀ (n : Nat) x y H1, Ex H H1 → xs[n]? = some x → ys[n]? = some y → Ev te (((wipe σ vs).set i (some x)).set j (some y)) H1 (F x y)) :
    EvL (tLc (iZip K (tCons ta (tCons tb tNil))) (gTup K 2 (gCons (gName i) (gCons (gName j) gNil))) tYes te vs) σ H (List.zipWith F xs ys) := fun H0 e Q q =>
  h H0 e _ fun H1 e1 => h2 H1 (e.trans e1) _ fun b H2 nb e2 hb => by
    have := el_zip (K := K) (H := H2) (ta := fun _ H' R => R [.ref a, .ref b] H') (te := te) (vs := vs) F (fun H3 _ Q q => q H3 (Ex.refl _)) (ex_l (e.trans (e1.trans e2)) hx) (sq_of hb) hl hz hw fun n x y H3 e3 g1 g2 => he n x y H3 (e.trans (e1.trans (e2.trans e3))) g1 g2
    exact this H2 (Ex.refl _) Q fun p H3 hp e3 h3 => q p H3 (fresh_back (e1.trans e2) hp) (e1.trans (e2.trans e3)) h3
end
end Kit
namespace K34
open PySem PySem.Spec PyProof.Rows L2 Evl Kit
def topS (i : Nat) : Stmt := PySem.Challenge.pw_newtables_k34_growth_of_great_halls.main.body.getD i (.Pass ⟨0, 0, 0, 0⟩)
abbrev s_is_whole : Stmt := topS 9
abbrev n_is_whole : List Str := ["thing"]
theorem sc_is_whole : FnScope n_is_whole ["thing"] (defScope s_is_whole) := ⟨rfl, rfl, rfl, by decide +kernel, rfl, by decide +kernel, by decide +kernel⟩
abbrev s_is_within : Stmt := topS 10
abbrev n_is_within : List Str := ["thing", "least", "most"]
theorem sc_is_within : FnScope n_is_within ["thing", "least", "most"] (defScope s_is_within) := ⟨rfl, rfl, rfl, by decide +kernel, rfl, by decide +kernel, by decide +kernel⟩
abbrev s_check_weight : Stmt := topS 11
abbrev n_check_weight : List Str := ["weight"]
theorem sc_check_weight : FnScope n_check_weight ["weight"] (defScope s_check_weight) := ⟨rfl, rfl, rfl, by decide +kernel, rfl, by decide +kernel, by decide +kernel⟩
abbrev s_check_number : Stmt := topS 12
abbrev n_check_number : List Str := ["number", "least", "most"]
theorem sc_check_number : FnScope n_check_number ["number", "least", "most"] (defScope s_check_number) := ⟨rfl, rfl, rfl, by decide +kernel, rfl, by decide +kernel, by decide +kernel⟩
abbrev s_rising : Stmt := topS 13
abbrev n_rising : List Str := ["weight", "guests", "total", "guest"]
theorem sc_rising : FnScope n_rising ["weight", "guests"] (defScope s_rising) := ⟨rfl, rfl, rfl, by decide +kernel, rfl, by decide +kernel, by decide +kernel⟩
abbrev s_fraction : Stmt := topS 14
abbrev n_fraction : List Str := ["top", "bottom", "common"]
theorem sc_fraction : FnScope n_fraction ["top", "bottom"] (defScope s_fraction) := ⟨rfl, rfl, rfl, by decide +kernel, rfl, by decide +kernel, by decide +kernel⟩
abbrev s_check_sizes : Stmt := topS 16
abbrev n_check_sizes : List Str := ["sizes"]
theorem sc_check_sizes : FnScope n_check_sizes ["sizes"] (defScope s_check_sizes) := ⟨rfl, rfl, rfl, by decide +kernel, rfl, by decide +kernel, by decide +kernel⟩
abbrev s_are_sizes : Stmt := topS 17
abbrev n_are_sizes : List Str := ["thing", "item"]
theorem sc_are_sizes : FnScope n_are_sizes ["thing"] (defScope s_are_sizes) := ⟨rfl, rfl, rfl, by decide +kernel, rfl, by decide +kernel, by decide +kernel⟩
abbrev s_grow_share : Stmt := topS 21
abbrev n_grow_share : List Str := ["sizes", "weight", "later", "more", "fresh", "top", "size", "now"]
theorem sc_grow_share : FnScope n_grow_share ["sizes", "weight", "later"] (defScope s_grow_share) := ⟨rfl, rfl, rfl, by decide +kernel, rfl, by decide +kernel, by decide +kernel⟩
abbrev s_mean_later : Stmt := topS 22
abbrev n_mean_later : List Str := ["sizes", "weight", "number", "now", "size"]
theorem sc_mean_later : FnScope n_mean_later ["sizes", "weight", "number"] (defScope s_mean_later) := ⟨rfl, rfl, rfl, by decide +kernel, rfl, by decide +kernel, by decide +kernel⟩
abbrev s_new_shares : Stmt := topS 23
abbrev n_new_shares : List Str := ["sizes", "weight", "number", "guests", "total", "shares", "fresh", "ways"]
theorem sc_new_shares : FnScope n_new_shares ["sizes", "weight", "number"] (defScope s_new_shares) := ⟨rfl, rfl, rfl, by decide +kernel, rfl, by decide +kernel, by decide +kernel⟩
abbrev s_check_later : Stmt := topS 24
abbrev n_check_later : List Str := ["later", "sizes"]
theorem sc_check_later : FnScope n_check_later ["later", "sizes"] (defScope s_check_later) := ⟨rfl, rfl, rfl, by decide +kernel, rfl, by decide +kernel, by decide +kernel⟩
abbrev s_are_later : Stmt := topS 25
abbrev n_are_later : List Str := ["thing", "sizes", "item", "now", "size"]
theorem sc_are_later : FnScope n_are_later ["thing", "sizes"] (defScope s_are_later) := ⟨rfl, rfl, rfl, by decide +kernel, rfl, by decide +kernel, by decide +kernel⟩
abbrev s_law_store : Stmt := topS 27
abbrev n_law_store : List Str := ["script", "k", "cell"]
theorem sc_law_store : FnScope n_law_store ["script", "k"] (defScope s_law_store) := ⟨rfl, rfl, rfl, by decide +kernel, rfl, by decide +kernel, by decide +kernel⟩
abbrev s_law_pick : Stmt := topS 28
abbrev n_law_pick : List Str := ["store", "bound", "digit", "mixed"]
theorem sc_law_pick : FnScope n_law_pick ["store", "bound"] (defScope s_law_pick) := ⟨rfl, rfl, rfl, by decide +kernel, rfl, by decide +kernel, by decide +kernel⟩
abbrev s_law_lowest : Stmt := topS 29
abbrev n_law_lowest : List Str := ["top", "bottom", "one", "two"]
theorem sc_law_lowest : FnScope n_law_lowest ["top", "bottom"] (defScope s_law_lowest) := ⟨rfl, rfl, rfl, by decide +kernel, rfl, by decide +kernel, by decide +kernel⟩
abbrev s_law_rising : Stmt := topS 30
abbrev n_law_rising : List Str := ["base", "many_here", "found", "turn"]
theorem sc_law_rising : FnScope n_law_rising ["base", "many_here"] (defScope s_law_rising) := ⟨rfl, rfl, rfl, by decide +kernel, rfl, by decide +kernel, by decide +kernel⟩
abbrev s_law_heavy : Stmt := topS 31
abbrev n_law_heavy : List Str := ["store"]
theorem sc_law_heavy : FnScope n_law_heavy ["store"] (defScope s_law_heavy) := ⟨rfl, rfl, rfl, by decide +kernel, rfl, by decide +kernel, by decide +kernel⟩
abbrev s_law_wide : Stmt := topS 33
abbrev n_law_wide : List Str := ["store", "left", "found", "rare"]
theorem sc_law_wide : FnScope n_law_wide ["store"] (defScope s_law_wide) := ⟨rfl, rfl, rfl, by decide +kernel, rfl, by decide +kernel, by decide +kernel⟩
abbrev s_law_choose : Stmt := topS 34
abbrev n_law_choose : List Str := ["many_here", "few", "found", "turn"]
theorem sc_law_choose : FnScope n_law_choose ["many_here", "few"] (defScope s_law_choose) := ⟨rfl, rfl, rfl, by decide +kernel, rfl, by decide +kernel, by decide +kernel⟩
abbrev s_law_share : Stmt := topS 35
abbrev n_law_share : List Str := ["heavy", "wide", "late", "rest", "left", "top", "bottom", "now", "then", "more"]
theorem sc_law_share : FnScope n_law_share ["heavy", "wide", "late"] (defScope s_law_share) := ⟨rfl, rfl, rfl, by decide +kernel, rfl, by decide +kernel, by decide +kernel⟩
abbrev s_law_fresh : Stmt := topS 36
abbrev n_law_fresh : List Str := ["heavy", "here", "many_more", "row", "turn", "place", "part", "stay", "move", "one", "two"]
theorem sc_law_fresh : FnScope n_law_fresh ["heavy", "here", "many_more"] (defScope s_law_fresh) := ⟨rfl, rfl, rfl, by decide +kernel, rfl, by decide +kernel, by decide +kernel⟩
abbrev s_law_right : Stmt := topS 37
abbrev n_law_right : List Str := ["store", "heavy", "wide", "many_more", "here", "late", "turn", "spot", "kept", "far", "due", "row", "whole", "part"]
theorem sc_law_right : FnScope n_law_right ["store", "heavy", "wide"] (defScope s_law_right) := ⟨rfl, rfl, rfl, by decide +kernel, rfl, by decide +kernel, by decide +kernel⟩
abbrev s_law : Stmt := topS 38
abbrev n_law : List Str := ["script", "k", "store", "turn", "heavy", "told"]
theorem sc_law : FnScope n_law ["script"] (defScope s_law) := ⟨rfl, rfl, rfl, by decide +kernel, rfl, by decide +kernel, by decide +kernel⟩
/-! what the top has written -/
structure Tx (K : PySem.W.Frag) (mg : Str → Option Value) where
  f_is_whole : Addr
  d_is_whole : FuncData
  F_is_whole : Fun K "is_whole" "is_whole" s_is_whole f_is_whole d_is_whole
  g_is_whole : mg "is_whole" = some (.ref f_is_whole)
  b_is_whole : Binds K d_is_whole ["thing"] []
  f_is_within : Addr
  d_is_within : FuncData
  F_is_within : Fun K "is_within" "is_within" s_is_within f_is_within d_is_within
  g_is_within : mg "is_within" = some (.ref f_is_within)
  b_is_within : Binds K d_is_within ["thing", "least", "most"] []
  f_check_weight : Addr
  d_check_weight : FuncData
  F_check_weight : Fun K "check_weight" "check_weight" s_check_weight f_check_weight d_check_weight
  g_check_weight : mg "check_weight" = some (.ref f_check_weight)
  b_check_weight : Binds K d_check_weight ["weight"] []
  f_check_number : Addr
  d_check_number : FuncData
  F_check_number : Fun K "check_number" "check_number" s_check_number f_check_number d_check_number
  g_check_number : mg "check_number" = some (.ref f_check_number)
  b_check_number : Binds K d_check_number ["number", "least", "most"] []
  f_rising : Addr
  d_rising : FuncData
  F_rising : Fun K "rising" "rising" s_rising f_rising d_rising
  g_rising : mg "rising" = some (.ref f_rising)
  b_rising : Binds K d_rising ["weight", "guests"] []
  f_fraction : Addr
  d_fraction : FuncData
  F_fraction : Fun K "fraction" "fraction" s_fraction f_fraction d_fraction
  g_fraction : mg "fraction" = some (.ref f_fraction)
  b_fraction : Binds K d_fraction ["top", "bottom"] []
  f_check_sizes : Addr
  d_check_sizes : FuncData
  F_check_sizes : Fun K "check_sizes" "check_sizes" s_check_sizes f_check_sizes d_check_sizes
  g_check_sizes : mg "check_sizes" = some (.ref f_check_sizes)
  b_check_sizes : Binds K d_check_sizes ["sizes"] []
  f_are_sizes : Addr
  d_are_sizes : FuncData
  F_are_sizes : Fun K "are_sizes" "are_sizes" s_are_sizes f_are_sizes d_are_sizes
  g_are_sizes : mg "are_sizes" = some (.ref f_are_sizes)
  b_are_sizes : Binds K d_are_sizes ["thing"] []
  f_grow_share : Addr
  d_grow_share : FuncData
  F_grow_share : Fun K "grow_share" "grow_share" s_grow_share f_grow_share d_grow_share
  g_grow_share : mg "grow_share" = some (.ref f_grow_share)
  b_grow_share : Binds K d_grow_share ["sizes", "weight", "later"] []
  f_mean_later : Addr
  d_mean_later : FuncData
  F_mean_later : Fun K "mean_later" "mean_later" s_mean_later f_mean_later d_mean_later
  g_mean_later : mg "mean_later" = some (.ref f_mean_later)
  b_mean_later : Binds K d_mean_later ["sizes", "weight", "number"] []
  f_new_shares : Addr
  d_new_shares : FuncData
  F_new_shares : Fun K "new_shares" "new_shares" s_new_shares f_new_shares d_new_shares
  g_new_shares : mg "new_shares" = some (.ref f_new_shares)
  b_new_shares : Binds K d_new_shares ["sizes", "weight", "number"] []
  f_check_later : Addr
  d_check_later : FuncData
  F_check_later : Fun K "check_later" "check_later" s_check_later f_check_later d_check_later
  g_check_later : mg "check_later" = some (.ref f_check_later)
  b_check_later : Binds K d_check_later ["later", "sizes"] []
  f_are_later : Addr
  d_are_later : FuncData
  F_are_later : Fun K "are_later" "are_later" s_are_later f_are_later d_are_later
  g_are_later : mg "are_later" = some (.ref f_are_later)
  b_are_later : Binds K d_are_later ["thing", "sizes"] []
  f_law_store : Addr
  d_law_store : FuncData
  F_law_store : Fun K "_law_store" "_law_store" s_law_store f_law_store d_law_store
  g_law_store : mg "_law_store" = some (.ref f_law_store)
  b_law_store : Binds K d_law_store ["script", "k"] []
  f_law_pick : Addr
  d_law_pick : FuncData
  F_law_pick : Fun K "_law_pick" "_law_pick" s_law_pick f_law_pick d_law_pick
  g_law_pick : mg "_law_pick" = some (.ref f_law_pick)
  b_law_pick : Binds K d_law_pick ["store", "bound"] []
  f_law_lowest : Addr
  d_law_lowest : FuncData
  F_law_lowest : Fun K "_law_lowest" "_law_lowest" s_law_lowest f_law_lowest d_law_lowest
  g_law_lowest : mg "_law_lowest" = some (.ref f_law_lowest)
  b_law_lowest : Binds K d_law_lowest ["top", "bottom"] []
  f_law_rising : Addr
  d_law_rising : FuncData
  F_law_rising : Fun K "_law_rising" "_law_rising" s_law_rising f_law_rising d_law_rising
  g_law_rising : mg "_law_rising" = some (.ref f_law_rising)
  b_law_rising : Binds K d_law_rising ["base", "many_here"] []
  f_law_heavy : Addr
  d_law_heavy : FuncData
  F_law_heavy : Fun K "_law_heavy" "_law_heavy" s_law_heavy f_law_heavy d_law_heavy
  g_law_heavy : mg "_law_heavy" = some (.ref f_law_heavy)
  b_law_heavy : Binds K d_law_heavy ["store"] []
  f_law_wide : Addr
  d_law_wide : FuncData
  F_law_wide : Fun K "_law_wide" "_law_wide" s_law_wide f_law_wide d_law_wide
  g_law_wide : mg "_law_wide" = some (.ref f_law_wide)
  b_law_wide : Binds K d_law_wide ["store"] []
  f_law_choose : Addr
  d_law_choose : FuncData
  F_law_choose : Fun K "_law_choose" "_law_choose" s_law_choose f_law_choose d_law_choose
  g_law_choose : mg "_law_choose" = some (.ref f_law_choose)
  b_law_choose : Binds K d_law_choose ["many_here", "few"] []
  f_law_share : Addr
  d_law_share : FuncData
  F_law_share : Fun K "_law_share" "_law_share" s_law_share f_law_share d_law_share
  g_law_share : mg "_law_share" = some (.ref f_law_share)
  b_law_share : Binds K d_law_share ["heavy", "wide", "late"] []
  f_law_fresh : Addr
  d_law_fresh : FuncData
  F_law_fresh : Fun K "_law_fresh" "_law_fresh" s_law_fresh f_law_fresh d_law_fresh
  g_law_fresh : mg "_law_fresh" = some (.ref f_law_fresh)
  b_law_fresh : Binds K d_law_fresh ["heavy", "here", "many_more"] []
  f_law_right : Addr
  d_law_right : FuncData
  F_law_right : Fun K "_law_right" "_law_right" s_law_right f_law_right d_law_right
  g_law_right : mg "_law_right" = some (.ref f_law_right)
  b_law_right : Binds K d_law_right ["store", "heavy", "wide"] []
  f_law : Addr
  d_law : FuncData
  F_law : Fun K "law" "law" s_law f_law d_law
  g_law : mg "law" = some (.ref f_law)
  b_law : Binds K d_law ["script"] []
  m_abs : mg "abs" = none
  m_all : mg "all" = none
  m_enumerate : mg "enumerate" = none
  m_int : mg "int" = none
  m_len : mg "len" = none
  m_list : mg "list" = none
  m_max : mg "max" = none
  m_min : mg "min" = none
  m_range : mg "range" = none
  m_repr : mg "repr" = none
  m_sum : mg "sum" = none
  m_type : mg "type" = none
  m_zip : mg "zip" = none
  c_MOST_GUESTS : ∃ u, mg "MOST_GUESTS" = some u ∧ RelV (.int 20) u
  c_MOST_WEIGHT : ∃ u, mg "MOST_WEIGHT" = some u ∧ RelV (.int 1000000000000) u
  c_MOST_LATER : ∃ u, mg "MOST_LATER" = some u ∧ RelV (.int 60) u
  c_MOST_MORE : ∃ u, mg "MOST_MORE" = some u ∧ RelV (.int 40) u
  i_comb : mg "comb" = some (.builtin "math.comb")
  i_gcd : mg "gcd" = some (.builtin "math.gcd")
  i_perm : mg "perm" = some (.builtin "math.perm")
/-! readings that go by themselves -/
local macro_rules | `(tactic| walk_at "side") => `(tactic| first | with_reducible assumption | with_reducible rfl | omega | decide | (constructor <;> first | assumption | omega | decide))
local macro_rules | `(tactic| walk_at "ev") => `(tactic| first
  | ((with_reducible refine' ev_var ?e1); (case e1 => rfl))
  | (with_reducible exact ev_c)
  | ((with_reducible refine' ev_op ?e1 ?e2 rv_I0); (case e1 => walk_at "ev"); (case e2 => walk_at "ev"))
  | ((with_reducible refine' ev_op ?e1 ?e2 (rv_I ?e3)); (case e1 => walk_at "ev"); (case e2 => walk_at "ev"); (case e3 => walk_at "side"))
  | ((with_reducible refine' ev_op ?e1 ?e2 (rv_eq ?e3)); (case e1 => walk_at "ev"); (case e2 => walk_at "ev"); (case e3 => rfl))
  | ((with_reducible refine' ev_op ?e1 ?e2 (rv_ne ?e3)); (case e1 => walk_at "ev"); (case e2 => walk_at "ev"); (case e3 => rfl))
  | ((with_reducible refine' ev_op ?e1 ?e2 (rv_ixL ?e3 ?e4)); (case e1 => walk_at "ev"); (case e2 => walk_at "ev"); (case e3 => walk_at "sq"); (case e4 => walk_at "at"))
  | ((with_reducible refine' ev_op ?e1 ?e2 (rv_ixT ?e3 ?e4)); (case e1 => walk_at "ev"); (case e2 => walk_at "ev"); (case e3 => walk_at "sq"); (case e4 => walk_at "at"))
  | ((with_reducible refine' ev_op ?e1 ?e2 rv_isN); (case e1 => walk_at "ev"); (case e2 => walk_at "ev"))
  | ((with_reducible refine' ev_op ?e1 ?e2 rv_notN); (case e1 => walk_at "ev"); (case e2 => walk_at "ev"))
  | ((with_reducible refine' ev_op ?e1 ?e2 (rv_eqTy ?e3 ?e4)); (case e1 => walk_at "ev"); (case e2 => walk_at "ev"); (case e3 => exact PySem.TypeEq.meta_int); (case e4 => exact PySem.TypeEq.meta_int))
  | ((with_reducible refine' ev_un ?e1 ru_neg); (case e1 => walk_at "ev"))
  | ((with_reducible refine' ev_intI ?e1); (case e1 => walk_at "ev"))
  | ((with_reducible refine' ev_intB ?e1); (case e1 => walk_at "ev"))
  | ((with_reducible refine' ev_typeI ?e1); (case e1 => walk_at "ev"))
  | ((with_reducible refine' ev_abs ?e1); (case e1 => walk_at "ev"))
  | ((with_reducible refine' ev_max2 ?e1 ?e2); (case e1 => walk_at "ev"); (case e2 => walk_at "ev"))
  | ((with_reducible refine' ev_min2 ?e1 ?e2); (case e1 => walk_at "ev"); (case e2 => walk_at "ev"))
  | ((with_reducible refine' ev_gcd ?e1 ?e2); (case e1 => walk_at "ev"); (case e2 => walk_at "ev"))
  | ((with_reducible refine' ev_len ?e1 ?e2); (case e1 => walk_at "ev"); (case e2 => walk_at "sq"))
  | ((with_reducible refine' ev_chainI ?e1 ?e2 ?e3); (case e1 => walk_at "ev"); (case e2 => walk_at "ev"); (case e3 => walk_at "ev"))
  | ((with_reducible refine' ev_chain3I ?e1 ?e2 ?e3 ?e4); (case e1 => walk_at "ev"); (case e2 => walk_at "ev"); (case e3 => walk_at "ev"); (case e4 => walk_at "ev"))
  | ((with_reducible refine' ev_notV ?e1); (case e1 => walk_at "ev"))
  | ((with_reducible refine' ev_andV ?e1 ?e2); (case e1 => walk_at "ev"); (case e2 => (intro _; walk_at "ev")))
  | ((with_reducible refine' ev_orV ?e1 ?e2); (case e1 => walk_at "ev"); (case e2 => (intro _; walk_at "ev")))
  | ((with_reducible refine' ev_if ?e1 ?e2 ?e3); (case e1 => walk_at "et"); (case e2 => (intro _; walk_at "ev")); (case e3 => (intro _; walk_at "ev")))
  | ((with_reducible refine' ev_call ?e1 ?e2); (case e1 => walk_at "ea"); (case e2 => walk_at "call")))
local macro_rules | `(tactic| walk_at "ea") => `(tactic| first
  | (with_reducible exact ea_nil)
  | ((with_reducible refine' ea_cons ?e1 ?e2); (case e1 => walk_at "ev"); (case e2 => walk_at "ea")))
local macro_rules | `(tactic| walk_at "et") => `(tactic| first
  | ((with_reducible refine' et_test ?e1); (case e1 => walk_at "ev"))
  | ((with_reducible refine' et_B ?e1); (case e1 => walk_at "ev"))
  | ((with_reducible refine' et_not ?e1); (case e1 => walk_at "et"))
  | ((with_reducible refine' et_and ?e1 ?e2); (case e1 => walk_at "et"); (case e2 => (intro _; walk_at "et")))
  | ((with_reducible refine' et_or ?e1 ?e2); (case e1 => walk_at "et"); (case e2 => (intro _; walk_at "et"))))
local macro_rules | `(tactic| walk_at "eu") => `(tactic| first
  | ((with_reducible refine' eu_tup ?e1 ?e2); (case e1 => walk_at "ea"); (case e2 => exact Nat.le_of_ble_eq_true rfl))
  | ((with_reducible refine' eu_call ?e1 ?e2); (case e1 => walk_at "ea"); (case e2 => walk_at "callU")))
local macro_rules | `(tactic| walk_at "el") => `(tactic| first
  | ((with_reducible refine' el_call ?e1 ?e2); (case e1 => walk_at "ea"); (case e2 => walk_at "callL"))
  | ((with_reducible refine' el_lst ?e1 ?e2); (case e1 => walk_at "ea"); (case e2 => exact Nat.le_of_ble_eq_true rfl)))
local macro_rules | `(tactic| walk_at "sq") => `(tactic| first | assumption | exact sq_of (by assumption) | exact st_of (by assumption))
local macro_rules | `(tactic| walk_at "at") => `(tactic| first | assumption | rfl | (apply atI_nat; rfl))
local macro_rules | `(tactic| walk_at "call") => `(tactic| assumption)

/-! ### the pouch -/
/-- H without p -/
def Hm (p : Addr) (H : Hp) : Hp := fun b => if b = p then none else H b
theorem hm_p {p : Addr} {H : Hp} : Hm p H p = none := if_pos rfl
theorem hm_sub {p : Addr} {H : Hp} : Ex (Hm p H) H := fun a o h => by
  unfold Hm at h
  split at h
  · cases h
  · exact h
theorem hm_mono {p : Addr} {H H' : Hp} (e : Ex H H') : Ex (Hm p H) (Hm p H') := fun a o h => by
  unfold Hm at h ⊢
  split at h
  · cases h
  · rename_i ne
    rw [if_neg ne]
    exact e a o h
theorem ex_hm {p : Addr} {H0 H : Hp} (e : Ex H0 H) (h : H0 p = none) : Ex H0 (Hm p H) := fun a o ha => by
  unfold Hm
  rw [if_neg (ne_of_none ha h)]
  exact e a o ha
/-- a pouch after at most n mixed draws -/
def Po (p : Addr) (n : Nat) (H : Hp) : Prop := ∃ a b c : Int, H p = some (.lst [.int a, .int b, .int c]) ∧ (0 ≤ b ∧ b < 2 ^ 200) ∧ 0 ≤ c ∧ c ≤ n
theorem Po.ex {p : Addr} {n : Nat} {H H' : Hp} (h : Po p n H) (e : Ex H H') : Po p n H' := by
  obtain ⟨a, b, c, h1, h2⟩ := h
  exact ⟨a, b, c, e p _ h1, h2⟩
theorem Po.mono {p : Addr} {n m : Nat} {H : Hp} (h : Po p n H) (e : n ≤ m) : Po p m H := by
  obtain ⟨a, b, c, h1, h2, h3, h4⟩ := h
  exact ⟨a, b, c, h1, h2, h3, by omega⟩
theorem pow3_ok {i : Int} (h : i.natAbs < 2 ^ 250) : CPowX i 3 := by
  have := PyProof.Rows.intBits_le h
  unfold CPowX
  omega
theorem divw_ok {i j : Int} (h : 0 < j) (hb : j < 2 ^ 200) : CDivW i j := wide_div (b := 200) h (by omega) (by decide) (by decide)
theorem mulk_ok {i j : Int} (h : i.natAbs < 2 ^ 100000) (hb : j.natAbs < 2 ^ 100000) : CMulX i j := mulx_ok h hb (by decide)
def sp_law_store (K : PySem.W.Frag) : Sp := fun vs H Q _ => ∃ (s : Addr) (ns : List Int) (i : Nat), vs = [.ref s, .int (i : Int)] ∧ SqL K H s (ns.map V.int) ∧ i ≤ 100 ∧ ∀ p H', H p = none → Ex H H' → Po p 0 H' → Q (.ref p) H'
def sp_law_pick : Sp := fun vs H Q _ => ∃ (p : Addr) (n : Nat) (w : Int), vs = [.ref p, .int w] ∧ Po p n H ∧ n < 1000000000 ∧ 0 < w ∧ w < 2 ^ 200 ∧
  ∀ r H', 0 ≤ r → r < w → Po p (n + 1) H' → Ex (Hm p H) H' → Q (.int r) H'
section
variable {P : Program} {w : World} {K : PySem.W.Frag} {mg : Str → Option Value} {base : Heap}
theorem ok_law_pick (T : Tx K mg) : FnOk P w K mg base CX0 1 T.f_law_pick T.d_law_pick ["store", "bound"] sp_law_pick := by
  refine T.F_law_pick.ok sc_law_pick (fun vs H Q E h => ?_) (fun cdv A outer s H vs Q E hr h => ?_)
  · obtain ⟨p, n, w, rfl, _⟩ := h
    rfl
  · obtain ⟨p, n, w, rfl, ⟨a, b, c, hp, ⟨hb0, hb1⟩, hc0, hc1⟩, hn, hw0, hw1, k⟩ := h
    refine ⟨_, (pss_cons (ps_if (pt_cmpR op_gt (pe_ix ix_list (pv 0) pe_int (fun _ _ => rfl)) pe_int (nomark _)) (pss_cons (ps_set (i := 2) sc_law_pick.nd rfl (Or.inl rfl) (pe_op op_mod (pe_callTy call_intI (by rfl) T.m_int (by decide +kernel) (pa_cons (pe_ix ix_list (pv 0) pe_int (fun _ _ => rfl)) pa_nil)) (pv 1)))
      (pss_cons (ps_asg (pe_op op_fdivW (pe_ix ix_list (pv 0) pe_int (fun _ _ => rfl)) (pv 1)) (pg_sub (pv 0) pe_int set_list))
      (pss_one (ps_ret (pv 2))))) pss_nil)
      (pss_cons (ps_asg (pe_op op_add (pe_ix ix_list (pv 0) pe_int (fun _ _ => rfl)) pe_int) (pg_sub (pv 0) pe_int set_list))
      (pss_cons (ps_set (i := 3) sc_law_pick.nd rfl (Or.inl rfl) (pe_op op_mod (pe_callTy call_intI (by rfl) T.m_int (by decide +kernel) (pa_cons (pe_op op_powX (pe_op op_add (pe_ix ix_list (pv 0) pe_int (fun _ _ => rfl)) (pe_op op_mulX pe_int (pe_ix ix_list (pv 0) pe_int (fun _ _ => rfl)))) pe_int) pa_nil)) (pe_op op_add (pe_op op_powX pe_int pe_int) pe_int)))
      (pss_cons (ps_set (i := 3) sc_law_pick.nd rfl (Or.inl rfl) (pe_op op_mod (pe_callTy call_intI (by rfl) T.m_int (by decide +kernel) (pa_cons (pe_op op_powX (pe_op op_add (pv 3) (pe_op op_mulX pe_int (pe_ix ix_list (pv 0) pe_int (fun _ _ => rfl)))) pe_int) pa_nil)) (pe_op op_add (pe_op op_powX pe_int pe_int) pe_int)))
      (pss_one (ps_ret (pe_op op_mod (pe_callTy call_intI (by rfl) T.m_int (by decide +kernel) (pa_cons (pe_op op_fdivW (pv 3) pe_int) pa_nil)) (pv 1)))))))), ?_⟩
    have hp0 : Hm p H p = none := hm_p
    refine q_when (by walk_at "et") (fun hb H1 e1 => ?_) (fun hb H1 e1 => ?_)
    · have hp1 := e1 p _ hp
      refine q_asg (by walk_at "ev") fun H2 e2 => ?_
      have hp2 := e2 p _ hp1
      have hd : CDivW a w := divw_ok hw0 hw1
      refine q_setL (j := 0) hp2 (by walk_at "ev") (by walk_at "ev") ev_c (by show 0 < 3; decide) fun H3 e3 => ?_
      refine s_ret (by walk_at "ev") fun H4 e4 => ?_
      refine k _ _ (Int.emod_nonneg _ (by omega)) (Int.emod_lt_of_pos _ hw0) ⟨a / w, b, c, e4 p _ upd_same, ⟨hb0, hb1⟩, hc0, by omega⟩ ?_
      exact Ex.trans (Ex.mut (hm_sub.trans (e1.trans (e2.trans e3))) hp0) e4
    · have hp1 := e1 p _ hp
      refine q_setL (j := 2) hp1 (by walk_at "ev") (by walk_at "ev") ev_c (by show 2 < 3; decide) fun H2 e2 => ?_
      have hp2 : ∀ H3, Ex (upd H2 p (.lst ([V.int a, .int b, .int c].set 2 (.int (c + 1))))) H3 → H3 p = some (.lst [.int a, .int b, .int (c + 1)]) := fun H3 e => e p _ upd_same
      have hq := hp2 _ (Ex.refl _)
      have hm1 : CMulX 32416187567 (c + 1) := mulx_ok (a := 64) (b := 64) (by decide) (by omega) (by decide)
      have hw1' : CPowX (b + 32416187567 * (c + 1)) 3 := pow3_ok (by omega)
      have hw2 : CPowX 10 40 := ⟨by decide, by decide +kernel⟩
      refine q_asg (by walk_at "ev") fun H3 e3 => ?_
      have hq3 := hp2 _ e3
      have hm2 : CMulX 27644437 (c + 1) := mulx_ok (a := 64) (b := 64) (by decide) (by omega) (by decide)
      generalize hz : (b + 32416187567 * (c + 1)) ^ (3 : Int).toNat % ((10 : Int) ^ (40 : Int).toNat + 121) = z
      have hz0 : 0 ≤ z := by
        rw [← hz]
        exact Int.emod_nonneg _ (by decide)
      have hz1 : z < (10 : Int) ^ (40 : Int).toNat + 121 := by
        rw [← hz]
        exact Int.emod_lt_of_pos _ (by decide)
      have hz2 : z < 2 ^ 200 := Int.lt_trans hz1 (by decide)
      have hw3 : CPowX (z + 27644437 * (c + 1)) 3 := pow3_ok (by omega)
      have hw4 : CPowX 10 39 := ⟨by decide, by decide +kernel⟩
      refine q_asg (by walk_at "ev") fun H4 e4 => ?_
      generalize (z + 27644437 * (c + 1)) ^ (3 : Int).toNat % ((10 : Int) ^ (39 : Int).toNat + 3) = y
      have hd : CDivW y 16381 := divw_ok (by decide) (by decide)
      refine s_ret (by walk_at "ev") fun H5 e5 => ?_
      refine k _ _ (Int.emod_nonneg _ (by omega)) (Int.emod_lt_of_pos _ hw0) ⟨a, b, c + 1, hp2 _ (e3.trans (e4.trans e5)), ⟨hb0, hb1⟩, by omega, by omega⟩ ?_
      exact Ex.trans (Ex.mut (hm_sub.trans (e1.trans e2)) hp0) (e3.trans (e4.trans e5))
theorem ok_law_store (T : Tx K mg) : FnOk P w K mg base CX0 1 T.f_law_store T.d_law_store ["script", "k"] (sp_law_store K) := by
  refine T.F_law_store.ok sc_law_store (fun vs H Q E h => ?_) (fun cdv A outer s H vs Q E hr h => ?_)
  · obtain ⟨a, ns, i, rfl, _⟩ := h
    rfl
  · obtain ⟨a, ns, i, rfl, hs, hi, k⟩ := h
    refine ⟨_, (pss_cons (ps_set (i := 2) sc_law_store.nd rfl (Or.inl rfl) (pe_ifExp (pt_cmpR op_lt (pv 1) (pe_callB call_lenR (by rfl) T.m_len (by decide +kernel) (pa_cons (pv 0) pa_nil)) (nomark _)) (pe_callB call_absR (by rfl) T.m_abs (by decide +kernel) (pa_cons (pe_ix ix_list (pv 0) (pv 1) (fun _ _ => rfl)) pa_nil)) pe_int))
      (pss_one (ps_ret (pe_lst (pa_cons (pe_callB (call_maxR rfl) (by rfl) T.m_max (by decide +kernel) (pa_cons pe_int (pa_cons (pe_op op_sub (pv 2) (pe_op op_powX pe_int pe_int)) pa_nil))) (pa_cons (pe_op op_add (pe_op op_mulX (pe_op op_mod (pe_callTy call_intI (by rfl) T.m_int (by decide +kernel) (pa_cons (pv 2) pa_nil)) (pe_op op_add (pe_op op_powX pe_int pe_int) pe_int)) pe_int) (pe_op op_mulX pe_int (pv 1))) (pa_cons pe_int pa_nil))))))), ?_⟩
    have hlen : (ns.map V.int).length = ns.length := List.length_map ..
    refine q_asg (v := .int (if ns.getD i 0 < 0 then -(ns.getD i 0) else ns.getD i 0)) ?_ fun H1 e1 => ?_
    · refine ev_if (b := decide ((i : Int) < ((ns.map V.int).length : Int))) (by walk_at "et") (fun hb => ?_) (fun hb => ?_)
      · have hb := of_decide_eq_true hb
        rw [hlen] at hb
        have hlt : i < ns.length := by omega
        refine ev_abs (ev_op (ev_var rfl) (ev_var rfl) (rv_ixL hs (atI_nat (j := i) ?_)))
        rw [List.getElem?_map, List.getElem?_eq_getElem hlt]
        simp [List.getD_eq_getElem?_getD, hlt]
      · have hb := of_decide_eq_false hb
        rw [hlen] at hb
        have e0 : ns.getD i 0 = 0 := by
          rw [List.getD_eq_getElem?_getD, List.getElem?_eq_none (by omega)]
          rfl
        rw [e0]
        exact ev_c (v := .int 0)
    · generalize (if ns.getD i 0 < 0 then -(ns.getD i 0) else ns.getD i 0) = z
      have hw1 : CPowX 10 18 := ⟨by decide, by decide +kernel⟩
      have hw2 : CPowX 10 37 := ⟨by decide, by decide +kernel⟩
      have hy0 : 0 ≤ z % ((10 : Int) ^ (37 : Int).toNat + 43) := Int.emod_nonneg _ (by decide)
      have hy1 : z % ((10 : Int) ^ (37 : Int).toNat + 43) < (10 : Int) ^ (37 : Int).toNat + 43 := Int.emod_lt_of_pos _ (by decide)
      have hy2 : z % ((10 : Int) ^ (37 : Int).toNat + 43) < 2 ^ 150 := Int.lt_trans hy1 (by decide)
      have hpos : 0 < (10 : Int) ^ (37 : Int).toNat + 43 := by decide
      have hm1 : CMulX (z % ((10 : Int) ^ (37 : Int).toNat + 43)) 83 := mulx_ok (a := 150) (b := 64) (by omega) (by decide) (by decide)
      have hm2 : CMulX 7 (i : Int) := mulx_ok (a := 64) (b := 64) (by decide) (by omega) (by decide)
      refine s_retL (el_lst (ea_cons (by walk_at "ev") (ea_cons (by walk_at "ev") (ea_cons ev_c ea_nil))) (Nat.le_of_ble_eq_true rfl)) fun p H2 hp e2 hl => ?_
      refine k p H2 (fresh_back e1 hp) (e1.trans e2) ⟨_, _, _, hl, ⟨?_, ?_⟩, by omega, by omega⟩
      · generalize z % ((10 : Int) ^ (37 : Int).toNat + 43) = y at hy0 hy2 ⊢
        omega
      · generalize z % ((10 : Int) ^ (37 : Int).toNat + 43) = y at hy0 hy2 ⊢
        omega
end

/-! ### expressions that draw -/
theorem hm_trans {p : Addr} {H H1 H2 : Hp} (a : Ex (Hm p H) H1) (b : Ex (Hm p H1) H2) : Ex (Hm p H) H2 := fun x o h => by
  have ne : x ≠ p := fun z => by
    subst z
    rw [hm_p] at h
    cases h
  have h1 := a x o h
  refine b x o ?_
  unfold Hm
  rw [if_neg ne]
  exact h1
theorem hm_next {p : Addr} {H0 H H1 : Hp} (h0 : H0 p = none) (e : Ex H0 H) (s : Ex (Hm p H) H1) : Ex H0 H1 := (ex_hm e h0).trans s
theorem hm_of {p : Addr} {H H1 : Hp} (e : Ex H H1) : Ex (Hm p H) H1 := hm_sub.trans e
theorem hm_at {p a : Addr} {H H1 : Hp} {o : HO} (s : Ex (Hm p H) H1) (ne : a ≠ p) (h : H a = some o) : H1 a = some o := s a o (by
  unfold Hm
  rw [if_neg ne]
  exact h)
theorem Po.ne {p l : Addr} {n : Nat} {H : Hp} (h : Po p n H) (hl : H l = none) : l ≠ p := fun z => by
  subst z
  obtain ⟨_, _, _, h1, _⟩ := h
  rw [hl] at h1
  cases h1
def EvP (p : Addr) (k : Nat) (te : TE) (σ : L2.St) (H0 : Hp) (R : V → Hp → Prop) : Prop := ∀ n H1, Ex H0 H1 → Po p n H1 → n + k ≤ 1000000000 →
  ∀ Q : VK, (∀ v H2, R v H2 → Po p (n + k) H2 → Ex (Hm p H1) H2 → Q v H2) → te σ H1 Q
def Stb (p : Addr) (R : V → Hp → Prop) : Prop := ∀ v H H', R v H → Ex (Hm p H) H' → R v H'
section
variable {K : PySem.W.Frag} {σ : L2.St} {H0 H : Hp} {p : Addr} {k k1 k2 : Nat} {te ta tb : TE} {R Ra Rb : V → Hp → Prop}
theorem ep_ev {v : V} (h : Ev te σ H0 v) : EvP p 0 te σ H0 (fun x _ => x = v) := fun n H1 e hp _ Q q => h H1 e Q fun H2 e2 => q v H2 rfl (hp.ex e2) (hm_of e2)
theorem ep_L {xs : List V} (h : EvL te σ H0 xs) : EvP p 0 te σ H0 (fun x H => ∃ l, l ≠ p ∧ x = .ref l ∧ H l = some (.lst xs)) := fun n H1 e hp _ Q q => h H1 e Q fun l H2 hl e2 h2 => q _ H2 ⟨l, hp.ne hl, rfl, h2⟩ (hp.ex e2) (hm_of e2)
theorem stb_L {xs : List V} : Stb p (fun x H => ∃ l, l ≠ p ∧ x = .ref l ∧ H l = some (.lst xs)) := fun v H H' ⟨l, ne, e, h⟩ s => ⟨l, ne, e, hm_at s ne h⟩
theorem stb_c {C : V → Prop} : Stb p (fun x _ => C x) := fun _ _ _ h _ => h
theorem ep_op {r : R2} (h0 : H0 p = none) (ha : EvP p k1 ta σ H0 Ra) (hb : EvP p k2 tb σ H0 Rb) (s1 : Stb p Ra) (s : Stb p R) (hr : ∀ x y H, Ra x H → Rb y H → ∃ z, R z H ∧ RV r x y H z) : EvP p (k1 + k2) (tOp r ta tb) σ H0 R :=
  fun n H1 e hp hn Q q => ha n H1 e hp (by omega) _ fun x H2 hx p2 e2 => hb (n + k1) H2 (hm_next h0 e e2) p2 (by omega) _ fun y H3 hy p3 e3 => by
    obtain ⟨z, hz, hv⟩ := hr x y H3 (s1 x H2 H3 hx e3) hy
    refine hv H3 (Ex.refl H3) Q fun H4 e4 => q z H4 (s z H3 H4 hz (hm_of e4)) ?_ (hm_trans (hm_trans e2 e3) (hm_of e4))
    rw [← Nat.add_assoc]
    exact p3.ex e4
theorem ep_dip {tw : TE} {E : XK} {C : Int → Prop} (h0 : H0 p = none) (hp : Ev ta σ H0 (.ref p)) (hw : EvP p k tw σ H0 (fun v _ => ∃ w, v = .int w ∧ 0 < w ∧ w < 2 ^ 200 ∧ C w)) :
    EvP p (k + 1) (tCall sp_law_pick [] E (tCons ta (tCons tw tNil))) σ H0 (fun v _ => ∃ r w, v = .int r ∧ 0 ≤ r ∧ r < w ∧ C w) :=
  fun n H1 e hpo hn Q q => hp H1 e _ fun H2 e2 => hw n H2 (e.trans e2) (hpo.ex e2) (by omega) _ fun y H3 hy p3 e3 => by
    obtain ⟨w, rfl, w0, w1, c⟩ := hy
    exact ⟨p, n + k, w, rfl, p3, by omega, w0, w1, fun r H' r0 r1 p4 e4 => q _ H' ⟨r, w, rfl, r0, r1, c⟩ p4 (hm_trans (hm_trans (hm_of e2) e3) e4)⟩
theorem ep_is {R' : V → Hp → Prop} (h : EvP p k te σ H0 R) (e : ∀ v H, R v H → R' v H) : EvP p k te σ H0 R' := fun n H1 a b c Q q => h n H1 a b c Q fun v H2 hv => q v H2 (e v H2 hv)
/-- the width is a pure int -/
theorem ep_dipI {tw : TE} {E : XK} {w : Int} (h0 : H0 p = none) (hp : Ev ta σ H0 (.ref p)) (hw : Ev tw σ H0 (.int w)) (w0 : 0 < w) (w1 : w < 2 ^ 200) :
    EvP p 1 (tCall sp_law_pick [] E (tCons ta (tCons tw tNil))) σ H0 (fun v _ => ∃ r, v = .int r ∧ 0 ≤ r ∧ r < w) :=
  ep_is (ep_dip (k := 0) (C := fun z => z = w) h0 hp (ep_is (ep_ev hw) fun v H e => ⟨w, e, w0, w1, rfl⟩)) fun v H ⟨r, z, e, r0, r1, e2⟩ => ⟨r, e, r0, e2 ▸ r1⟩
/-- a + b, b drawn -/
theorem ep_add {a : Int} {C : Int → Prop} (h0 : H0 p = none) (ha : Ev ta σ H0 (.int a)) (hb : EvP p k tb σ H0 (fun v _ => ∃ r, v = .int r ∧ C r)) : EvP p (0 + k) (tOp (rI0 fun i j => .int (i + j)) ta tb) σ H0 (fun v _ => ∃ r, v = .int (a + r) ∧ C r) :=
  ep_op h0 (ep_ev ha) hb stb_c stb_c fun x y H e ⟨r, e2, c⟩ => ⟨.int (a + r), ⟨r, rfl, c⟩, by
    subst e
    subst e2
    exact rv_I0⟩
theorem p_asg {i n : Nat} {D : Ends} (h : EvP p k te σ H0 R) (e : Ex H0 H) (hp : Po p n H) (hn : n + k ≤ 1000000000) (q : ∀ v H2, R v H2 → Po p (n + k) H2 → Ex (Hm p H) H2 → D.nx (σ.set i (some v)) H2) : tAsg te (gName i) D σ H := h n H e hp hn _ q
theorem pq_asg {i n : Nat} {D : Ends} {tz : TS} (h : EvP p k te σ H0 R) (e : Ex H0 H) (hp : Po p n H) (hn : n + k ≤ 1000000000) (q : ∀ v H2, R v H2 → Po p (n + k) H2 → Ex (Hm p H) H2 → tz D (σ.set i (some v)) H2) : tSeq (tAsg te (gName i)) tz D σ H := h n H e hp hn _ q
/-- tests that draw -/
def EtP (p : Addr) (k : Nat) (t : TT) (σ : L2.St) (H0 : Hp) (b : Bool) : Prop := ∀ n H1, Ex H0 H1 → Po p n H1 → n + k ≤ 1000000000 →
  ∀ Q : Bool → Hp → Prop, (∀ H2, Po p (n + k) H2 → Ex (Hm p H1) H2 → Q b H2) → t σ H1 Q
variable {t u : TT} {b c : Bool}
theorem tp_B (h : EvP p k te σ H0 (fun v _ => v = .bl b)) : EtP p k (tB te) σ H0 b := fun n H1 e hp hn Q q => h n H1 e hp hn _ fun v H2 hv p2 e2 => ⟨b, hv, q H2 p2 e2⟩
theorem tp_not (h : EtP p k t σ H0 b) : EtP p k (tNot t) σ H0 (!b) := fun n H1 e hp hn Q q => h n H1 e hp hn _ fun H2 p2 e2 => q H2 p2 e2
theorem tp_is (h : EtP p k t σ H0 b) (e : b = c) : EtP p k t σ H0 c := e ▸ h
theorem tp_or (h0 : H0 p = none) (h : EtP p k1 t σ H0 false) (h' : EtP p k2 u σ H0 b) : EtP p (k1 + k2) (tOr t u) σ H0 b := fun n H1 e hp hn Q q => h n H1 e hp (by omega) _ fun H2 p2 e2 => by
  show u σ H2 Q
  refine h' (n + k1) H2 (hm_next h0 e e2) p2 (by omega) Q fun H3 p3 e3 => q H3 ?_ (hm_trans e2 e3)
  rw [← Nat.add_assoc]
  exact p3
theorem tp_et (h : EvT t σ H0 b) : EtP p 0 t σ H0 b := fun n H1 e hp _ Q q => h H1 e Q fun H2 e2 => q H2 (hp.ex e2) (hm_of e2)
/-- a test that is false: what follows -/
theorem pq_no {n : Nat} {D : Ends} {tu tz : TS} (h : EtP p k t σ H0 false) (e : Ex H0 H) (hp : Po p n H) (hn : n + k ≤ 1000000000) (q : ∀ H2, Po p (n + k) H2 → Ex (Hm p H) H2 → tz D σ H2) : tSeq (tIfS t tu tNext) tz D σ H := h n H e hp hn _ q
theorem ps_no {n : Nat} {D : Ends} {tu : TS} (h : EtP p k t σ H0 false) (e : Ex H0 H) (hp : Po p n H) (hn : n + k ≤ 1000000000) (q : ∀ H2, Po p (n + k) H2 → Ex (Hm p H) H2 → D.nx σ H2) : tIfS t tu tNext D σ H := h n H e hp hn _ q
/-- pouch = _law_store(script, at) -/
theorem pq_pouch {ta : TA} {E : XK} {D : Ends} {tz : TS} {j i : Nat} {s : Addr} {ns : List Int} (h : EvA ta σ H [.ref s, .int (i : Int)]) (hs : SqL K H s (ns.map V.int)) (hi : i ≤ 100) (q : ∀ p H2, H p = none → Ex H H2 → Po p 0 H2 → tz D (σ.set j (some (.ref p))) H2) :
    tSeq (tAsg (tCall (sp_law_store K) [] E ta) (gName j)) tz D σ H := h H (Ex.refl H) _ fun H1 e1 => ⟨s, ns, i, rfl, ex_l e1 hs, hi, fun p H2 hp e2 hpo => q p H2 (fresh_back e1 hp) (e1.trans e2) hpo⟩
end

def iz (xs : List Nat) : List Int := xs.map fun x : Nat => (x : Int)
def nv (xs : List Nat) : List V := (iz xs).map V.int
theorem nv_len (xs : List Nat) : (nv xs).length = xs.length := by simp [nv, iz]
theorem nv_get {xs : List Nat} {i x : Nat} (h : xs[i]? = some x) : (nv xs)[i]? = some (.int x) := by simp [nv, iz, h]
theorem nv_app (xs ys : List Nat) : nv (xs ++ ys) = nv xs ++ nv ys := by simp [nv, iz]
theorem nv_eq (xs : List Nat) : nv xs = xs.map fun x : Nat => V.int (x : Int) := by simp [nv, iz]
def sp_is_whole : Sp := fun vs H Q _ => ∃ x : Int, vs = [.int x] ∧ RetV (.bl true) H Q
theorem sv_whole {H : Hp} {x : Int} : SpV sp_is_whole ([.int x] ++ []) H (.bl true) := fun H1 _ Q q E => ⟨x, rfl, q⟩
section
variable {P : Program} {w : World} {K : PySem.W.Frag} {mg : Str → Option Value} {base : Heap}
theorem ok_is_whole (T : Tx K mg) : FnOk P w K mg base CX0 1 T.f_is_whole T.d_is_whole ["thing"] sp_is_whole := by
  refine T.F_is_whole.ok sc_is_whole (fun vs H Q E h => ?_) (fun cdv A outer s H vs Q E hr h => ?_)
  · obtain ⟨x, rfl, _⟩ := h
    rfl
  · obtain ⟨x, rfl, k⟩ := h
    refine ⟨_, (pss_one (ps_ret (pe_cmpR op_eqTy (pe_typeOf (by rfl) T.m_type (pv 0)) (pe_bltn (v := .ty "int") (by rfl) T.m_int (by decide +kernel) rfl) (nomark _)))), ?_⟩
    refine s_ret (by walk_at "ev") fun H1 e1 => ?_
    rw [show decide (("int" : String) = "int") = true from decide_eq_true rfl]
    exact k _ e1
end

section
variable {P : Program} {w : World} {K : PySem.W.Frag} {mg : Str → Option Value} {base : Heap}
local macro_rules | `(tactic| walk_at "call") => `(tactic| (with_reducible exact sv_whole))
def sp_is_within : Sp := fun vs H Q _ => ∃ x l m : Int, vs = [.int x, .int l, .int m] ∧ RetV (.bl (decide (l ≤ x) && decide (x ≤ m))) H Q
theorem sv_between {H : Hp} {x l m : Int} : SpV sp_is_within ([.int x, .int l, .int m] ++ []) H (.bl (decide (l ≤ x) && decide (x ≤ m))) := fun H1 _ Q q E => ⟨x, l, m, rfl, q⟩
theorem ok_is_within (T : Tx K mg) : FnOk P w K mg base CX0 2 T.f_is_within T.d_is_within ["thing", "least", "most"] sp_is_within := by
  refine T.F_is_within.ok sc_is_within (fun vs H Q E h => ?_) (fun cdv A outer s H vs Q E hr h => ?_)
  · obtain ⟨x, l, m, rfl, _⟩ := h
    rfl
  · obtain ⟨x, l, m, rfl, k⟩ := h
    refine ⟨_, (pss_one (ps_ret (pe_and (pe_call (ok_is_whole T) (hr.mono (by decide)) (by rfl) T.g_is_whole T.F_is_whole.kp T.b_is_whole .nil pass0 (pa_cons (pv 0) pa_nil)) (pe_one (pe_chain op_le op_le (pv 1) (pv 0) (pv 2)))))), ?_⟩
    refine s_ret (by walk_at "ev") fun H1 e1 => ?_
    exact k _ e1
local macro_rules | `(tactic| walk_at "call") => `(tactic| (with_reducible exact sv_between))
def sp_check1 (lo hi : Int) : Sp := fun vs H Q _ => ∃ x : Int, vs = [.int x] ∧ lo ≤ x ∧ x ≤ hi ∧ RetV .non H Q
theorem sv_check1 {H : Hp} {lo hi x : Int} (h0 : lo ≤ x) (h1 : x ≤ hi) : SpV (sp_check1 lo hi) ([.int x] ++ []) H .non := fun H1 _ Q q E => ⟨x, rfl, h0, h1, q⟩
theorem ok_check_weight (T : Tx K mg) : FnOk P w K mg base CX0 3 T.f_check_weight T.d_check_weight ["weight"] (sp_check1 1 1000000000000) := by
  refine T.F_check_weight.ok sc_check_weight (fun vs H Q E h => ?_) (fun cdv A outer s H vs Q E hr h => ?_)
  · obtain ⟨x, rfl, _⟩ := h
    rfl
  · obtain ⟨x, rfl, h0, h1, k⟩ := h
    refine ⟨_, (pss_one (ps_if (pt_not (pt_val (pe_call (ok_is_within T) (hr.mono (by decide)) (by rfl) T.g_is_within T.F_is_within.kp T.b_is_within .nil pass0 (pa_cons (pv 0) (pa_cons pe_int (pa_cons (pe_gc (by rfl) T.c_MOST_WEIGHT) pa_nil)))))) (pss_one ps_never) pss_nil)), ?_⟩
    refine s_when (by walk_at "et") (fun hb H1 e1 => ?_) fun hb H1 e1 => k _ e1
    rw [decide_eq_true h0, decide_eq_true h1] at hb
    cases hb
def sp_check_number : Sp := fun vs H Q _ => ∃ x lo hi : Int, vs = [.int x, .int lo, .int hi] ∧ lo ≤ x ∧ x ≤ hi ∧ RetV .non H Q
theorem sv_check_number {H : Hp} {lo hi x : Int} (h0 : lo ≤ x) (h1 : x ≤ hi) : SpV sp_check_number ([.int x, .int lo, .int hi] ++ []) H .non := fun H1 _ Q q E => ⟨x, lo, hi, rfl, h0, h1, q⟩
theorem ok_check_number (T : Tx K mg) : FnOk P w K mg base CX0 3 T.f_check_number T.d_check_number ["number", "least", "most"] sp_check_number := by
  refine T.F_check_number.ok sc_check_number (fun vs H Q E h => ?_) (fun cdv A outer s H vs Q E hr h => ?_)
  · obtain ⟨x, lo, hi, rfl, _⟩ := h
    rfl
  · obtain ⟨x, lo, hi, rfl, h0, h1, k⟩ := h
    refine ⟨_, (pss_one (ps_if (pt_not (pt_val (pe_call (ok_is_within T) (hr.mono (by decide)) (by rfl) T.g_is_within T.F_is_within.kp T.b_is_within .nil pass0 (pa_cons (pv 0) (pa_cons (pv 1) (pa_cons (pv 2) pa_nil)))))) (pss_one ps_never) pss_nil)), ?_⟩
    refine s_when (by walk_at "et") (fun hb H1 e1 => ?_) fun hb H1 e1 => k _ e1
    rw [decide_eq_true h0, decide_eq_true h1] at hb
    cases hb
local macro_rules | `(tactic| walk_at "call") => `(tactic| ((with_reducible refine' sv_check1 ?c1 ?c2); (case c1 => walk_at "side"); (case c2 => walk_at "side")))
local macro_rules | `(tactic| walk_at "call") => `(tactic| ((with_reducible refine' sv_check_number ?c1 ?c2); (case c1 => walk_at "side"); (case c2 => walk_at "side")))
/-! ### fraction -/
def cd (a b : Int) : Int := ((Nat.gcd a.natAbs b.natAbs : Nat) : Int)
theorem cd_pos {a b : Int} (h : 0 < b) : 0 < cd a b := by
  unfold cd
  have := Nat.gcd_pos_of_pos_right a.natAbs (show 0 < b.natAbs by omega)
  omega
theorem cd_le {a b : Int} (h : 0 < b) : cd a b ≤ b := by
  unfold cd
  have := Nat.le_of_dvd (show 0 < b.natAbs by omega) (Nat.gcd_dvd_right a.natAbs b.natAbs)
  omega
theorem cd_dvd1 {a b : Int} : cd a b ∣ a := Int.ofNat_dvd_left.mpr (Nat.gcd_dvd_left a.natAbs b.natAbs)
theorem cd_dvd2 {a b : Int} : cd a b ∣ b := Int.ofNat_dvd_left.mpr (Nat.gcd_dvd_right a.natAbs b.natAbs)
def sp_fraction : Sp := fun vs H Q _ => ∃ a b : Int, vs = [.int a, .int b] ∧ 0 < b ∧ b.natAbs < 2 ^ 8000 ∧ RetU [.int (a / cd a b), .int (b / cd a b)] H Q
theorem su_fraction {H : Hp} {a b : Int} (h0 : 0 < b) (h1 : b.natAbs < 2 ^ 8000) : SpU sp_fraction ([.int a, .int b] ++ []) H [.int (a / cd a b), .int (b / cd a b)] := fun H1 _ Q q E => ⟨a, b, rfl, h0, h1, q⟩
theorem ok_fraction (T : Tx K mg) : FnOk P w K mg base CX0 1 T.f_fraction T.d_fraction ["top", "bottom"] sp_fraction := by
  refine T.F_fraction.ok sc_fraction (fun vs H Q E h => ?_) (fun cdv A outer s H vs Q E hr h => ?_)
  · obtain ⟨a, b, rfl, _⟩ := h
    rfl
  · obtain ⟨a, b, rfl, h0, h1, k⟩ := h
    refine ⟨_, (pss_cons (ps_set (i := 2) sc_fraction.nd rfl (Or.inl rfl) (pe_callBfun cr_gcd (by rfl) T.i_gcd (pa_cons (pv 0) (pa_cons (pv 1) pa_nil))))
      (pss_one (ps_ret (pe_tup (pa_cons (pe_op op_fdivW (pv 0) (pv 2)) (pa_cons (pe_op op_fdivW (pv 1) (pv 2)) pa_nil)))))), ?_⟩
    refine q_asg (by walk_at "ev") fun H1 e1 => ?_
    have hd : ∀ x : Int, CDivW x (cd a b) := fun x => wide_div (cd_pos h0) (Nat.lt_of_le_of_lt (by have := cd_le (a := a) h0; have := cd_pos (a := a) h0; omega) h1) (by decide) (by decide)
    have hd1 := hd a
    have hd2 := hd b
    refine s_retU (by walk_at "eu") fun p H2 hp e2 h2 => k p H2 (fresh_back e1 hp) (e1.trans e2) h2
local macro_rules | `(tactic| walk_at "callU") => `(tactic| ((with_reducible refine' su_fraction ?c1 ?c2); (case c1 => walk_at "side"); (case c2 => walk_at "side")))
end

/-! ### rising products -/
def rise (w : Int) : Nat → Int
  | 0 => 1
  | n + 1 => rise w n * (w + n)
theorem rise_pos {w : Int} (h : 1 ≤ w) : ∀ n, 0 < rise w n
  | 0 => by
    show (0 : Int) < 1
    decide
  | n + 1 => Int.mul_pos (rise_pos h n) (by omega)

local macro_rules | `(tactic| walk_at "call") => `(tactic| (with_reducible exact sv_whole))
local macro_rules | `(tactic| walk_at "call") => `(tactic| (with_reducible exact sv_between))
local macro_rules | `(tactic| walk_at "call") => `(tactic| ((with_reducible refine' sv_check1 ?c1 ?c2); (case c1 => walk_at "side"); (case c2 => walk_at "side")))
local macro_rules | `(tactic| walk_at "call") => `(tactic| ((with_reducible refine' sv_check_number ?c1 ?c2); (case c1 => walk_at "side"); (case c2 => walk_at "side")))
local macro_rules | `(tactic| walk_at "callU") => `(tactic| ((with_reducible refine' su_fraction ?c1 ?c2); (case c1 => walk_at "side"); (case c2 => walk_at "side")))

/-! ### numbers -/
theorem rise_le {w : Int} (h : w.natAbs < 2 ^ 130) : ∀ n : Nat, n ≤ 100 → (rise w n).natAbs ≤ 2 ^ (131 * n)
  | 0, _ => by
    show (1 : Int).natAbs ≤ 2 ^ 0
    decide
  | n + 1, hn => by
    have ih := rise_le h n (by omega)
    show (rise w n * (w + n)).natAbs ≤ _
    rw [Int.natAbs_mul, Nat.mul_succ, Nat.pow_add]
    exact Nat.mul_le_mul ih (by omega)
def sp_rise : Sp := fun vs H Q _ => ∃ (b : Int) (n : Nat), vs = [.int b, .int n] ∧ b.natAbs < 2 ^ 130 ∧ n ≤ 60 ∧ RetV (.int (rise b n)) H Q
theorem sv_rise {H : Hp} {b : Int} {n : Nat} (hb : b.natAbs < 2 ^ 130) (h1 : n ≤ 60) : SpV sp_rise ([.int b, .int (n : Int)] ++ []) H (.int (rise b n)) := fun H1 _ Q q E => ⟨b, n, rfl, hb, h1, q⟩
section
variable {P : Program} {w : World} {K : PySem.W.Frag} {mg : Str → Option Value} {base : Heap}
theorem ok_rising (T : Tx K mg) : FnOk P w K mg base CX0 1 T.f_rising T.d_rising ["weight","guests"] sp_rise := by
  refine T.F_rising.ok sc_rising (fun vs H Q E h => ?_) (fun cdv A outer s H vs Q E hr h => ?_)
  · obtain ⟨b, n, rfl, _⟩ := h
    rfl
  · obtain ⟨b, n, rfl, hb, hn, k⟩ := h
    refine ⟨_, (pss_cons (ps_set (i := 2) sc_rising.nd rfl (Or.inl rfl) pe_int)
      (pss_cons (ps_for PassesOwn.never rfl (pi_range1 (by rfl) T.m_range (pa_cons (pv 1) pa_nil)) (pg_name (i := 3) sc_rising.nd rfl (Or.inl rfl)) (pss_one (ps_set (i := 2) sc_rising.nd rfl (Or.inl rfl) (pe_op op_mulX (pv 2) (pe_op op_add (pv 0) (pv 3))))))
      (pss_one (ps_ret (pv 2))))), ?_⟩
    refine q_asg ev_c fun H1 e1 => ?_
    refine q_forR1 (n := (n : Int)) (by walk_at "ea") ⟨by omega, by omega⟩ (fun i σ' H' => ∃ y, σ' = [some (.int b), some (.int n), some (.int (rise b i)), y] ∧ Ex H H') (fun H2 e2 => ⟨none, rfl, e1.trans e2⟩) ?_ ?_
    · rintro i σ' H' hi ⟨y, rfl, e⟩
      have hs : (b + (i : Int)).natAbs < 2 ^ 131 := by omega
      have hm : CMulX (rise b i) (b + (i : Int)) := mulx_ok (lt_of_le2 (rise_le hb i (by omega))) hs (by omega)
      exact s_asg (by walk_at "ev") fun H2 e2 => ⟨_, rfl, e.trans e2⟩
    · rintro σ' H' ⟨y, rfl, e⟩
      exact s_ret (by walk_at "ev") fun H2 e2 => k _ (e.trans e2)

theorem ok_law_rising (T : Tx K mg) : FnOk P w K mg base CX0 1 T.f_law_rising T.d_law_rising ["base","many_here"] sp_rise := by
  refine T.F_law_rising.ok sc_law_rising (fun vs H Q E h => ?_) (fun cdv A outer s H vs Q E hr h => ?_)
  · obtain ⟨b, n, rfl, _⟩ := h
    rfl
  · obtain ⟨b, n, rfl, hb, hn, k⟩ := h
    refine ⟨_, (pss_cons (ps_set (i := 2) sc_law_rising.nd rfl (Or.inl rfl) pe_int)
      (pss_cons (ps_for PassesOwn.never rfl (pi_range1 (by rfl) T.m_range (pa_cons (pv 1) pa_nil)) (pg_name (i := 3) sc_law_rising.nd rfl (Or.inl rfl)) (pss_one (ps_set (i := 2) sc_law_rising.nd rfl (Or.inl rfl) (pe_op op_mulX (pv 2) (pe_op op_add (pv 0) (pv 3))))))
      (pss_one (ps_ret (pv 2))))), ?_⟩
    refine q_asg ev_c fun H1 e1 => ?_
    refine q_forR1 (n := (n : Int)) (by walk_at "ea") ⟨by omega, by omega⟩ (fun i σ' H' => ∃ y, σ' = [some (.int b), some (.int n), some (.int (rise b i)), y] ∧ Ex H H') (fun H2 e2 => ⟨none, rfl, e1.trans e2⟩) ?_ ?_
    · rintro i σ' H' hi ⟨y, rfl, e⟩
      have hs : (b + (i : Int)).natAbs < 2 ^ 131 := by omega
      have hm : CMulX (rise b i) (b + (i : Int)) := mulx_ok (lt_of_le2 (rise_le hb i (by omega))) hs (by omega)
      exact s_asg (by walk_at "ev") fun H2 e2 => ⟨_, rfl, e.trans e2⟩
    · rintro σ' H' ⟨y, rfl, e⟩
      exact s_ret (by walk_at "ev") fun H2 e2 => k _ (e.trans e2)

end

def frac (a b : Int) : List V := [.int (a / cd a b), .int (b / cd a b)]
def sp_lowest : Sp := fun vs H Q _ => ∃ a b : Int, vs = [.int a, .int b] ∧ 0 ≤ a ∧ 0 < b ∧ b.natAbs < 2 ^ 8000 ∧ RetU (frac a b) H Q
theorem su_lowest {H : Hp} {a b : Int} (h0 : 0 ≤ a) (h1 : 0 < b) (h2 : b.natAbs < 2 ^ 8000) : SpU sp_lowest ([.int a, .int b] ++ []) H (frac a b) := fun H1 _ Q q E => ⟨a, b, rfl, h0, h1, h2, q⟩
section
variable {P : Program} {w : World} {K : PySem.W.Frag} {mg : Str → Option Value} {base : Heap}
theorem ok_law_lowest (T : Tx K mg) : FnOk P w K mg base CX0 1 T.f_law_lowest T.d_law_lowest ["top", "bottom"] sp_lowest := by
  refine T.F_law_lowest.ok sc_law_lowest (fun vs H Q E h => ?_) (fun cdv A outer s H vs Q E hr h => ?_)
  · obtain ⟨a, b, rfl, _⟩ := h
    rfl
  · obtain ⟨a, b, rfl, ha, hb, hs, k⟩ := h
    refine ⟨_, (pss_cons (ps_par (i := 2) (j := 3) (by rfl) sc_law_lowest.nd rfl rfl (by decide) rfl rfl (pa_cons (pv 0) (pa_cons (pv 1) pa_nil)) (by rfl))
      (pss_cons (ps_while PassesOwn.never (pt_cmpR op_gt (pv 3) pe_int (nomark _)) (pss_one (ps_par (i := 2) (j := 3) (by rfl) sc_law_lowest.nd rfl rfl (by decide) rfl rfl (pa_cons (pv 3) (pa_cons (pe_op op_mod (pe_callTy call_intI (by rfl) T.m_int (by decide +kernel) (pa_cons (pv 2) pa_nil)) (pv 3)) pa_nil)) (by rfl))))
      (pss_one (ps_ret (pe_tup (pa_cons (pe_op op_fdivW (pv 0) (pv 2)) (pa_cons (pe_op op_fdivW (pv 1) (pv 2)) pa_nil))))))), ?_⟩
    obtain ⟨A, rfl⟩ : ∃ z : Nat, a = z := ⟨a.toNat, by omega⟩
    obtain ⟨B, rfl⟩ : ∃ z : Nat, b = z := ⟨b.toNat, by omega⟩
    refine q_par (by walk_at "ea") fun H1 e1 => ?_
    refine q_while (fun m σ' H' => ∃ x y : Nat, σ' = [some (.int (A : Int)), some (.int (B : Int)), some (.int (x : Int)), some (.int (y : Int))] ∧ Ex H H' ∧ Nat.gcd x y = Nat.gcd A B ∧ (y = 0 → 0 < x) ∧ m = y) B ⟨A, B, rfl, e1, rfl, by omega, rfl⟩ ?_
    rintro m σ' H' ⟨x, y, rfl, e, g, hx, hm⟩
    refine ⟨decide (y ≠ 0), et_is (by walk_at "et") ?_, fun hb2 H2 e2 => ?_, fun hb2 H2 e2 => ?_⟩
    · rw [Bool.eq_iff_iff]
      simp only [decide_eq_true_eq]
      omega
    · have hy := of_decide_eq_true hb2
      refine ⟨fun σ2 H3 => σ2 = [some (.int (A : Int)), some (.int (B : Int)), some (.int (y : Int)), some (.int ((x % y : Nat) : Int))] ∧ Ex H H3, fun σ2 H3 ⟨q1, q2⟩ => ⟨x % y, by rw [hm]; exact Nat.mod_lt _ (by omega), y, x % y, q1, q2, ?_, by omega, rfl⟩, ?_⟩
      · rw [Nat.gcd_comm, ← Nat.gcd_rec, Nat.gcd_comm]
        exact g
      · refine s_par (ea_cons (ev_var rfl) (ea_cons (ev_op (ev_intI (ev_var rfl)) (ev_var rfl) (rv_I (by omega))) ea_nil)) fun H3 e3 => ⟨?_, e.trans (e2.trans e3)⟩
        rw [Int.natCast_emod]
        rfl
    · have hy : y = 0 := by simpa using hb2
      subst hy
      rw [Nat.gcd_zero_right] at g
      have gx : (x : Int) = cd (A : Int) (B : Int) := by
        unfold cd
        rw [Int.natAbs_natCast, Int.natAbs_natCast, ← g]
      rw [gx]
      have hd : ∀ z : Int, CDivW z (cd (A : Int) (B : Int)) := fun z => wide_div (cd_pos hb) (Nat.lt_of_le_of_lt (by have := cd_le (a := (A : Int)) hb; have := cd_pos (a := (A : Int)) hb; omega) hs) (by decide) (by decide)
      exact s_retU (eu_tup (ea_cons (ev_op (ev_var rfl) (ev_var rfl) (rv_I (hd _))) (ea_cons (ev_op (ev_var rfl) (ev_var rfl) (rv_I (hd _))) ea_nil)) (Nat.le_of_ble_eq_true rfl)) fun p H3 hp e3 h3 => k p H3 (fresh_back (e.trans e2) hp) (e.trans (e2.trans e3)) h3
end

/-- rising from s: s (s + 1) .. -/
theorem rise_fac (s : Nat) : ∀ m : Nat, (fac s : Int) * rise ((s + 1 : Nat) : Int) m = (fac (s + m) : Int)
  | 0 => by
    show (fac s : Int) * 1 = _
    rw [Int.mul_one]
    rfl
  | m + 1 => by
    have ih := rise_fac s m
    show (fac s : Int) * (rise ((s + 1 : Nat) : Int) m * (((s + 1 : Nat) : Int) + m)) = ((fac (s + m + 1) : Nat) : Int)
    rw [fac_succ, ← Int.mul_assoc, ih]
    push_cast
    congr 1
    omega
theorem cho_rise {s m : Nat} (h : 1 ≤ s) : (cho (s + m - 1) (s - 1) : Int) * (fac m : Int) = rise (s : Int) m := by
  obtain ⟨t, rfl⟩ : ∃ t, s = t + 1 := ⟨s - 1, by omega⟩
  have a := cho_fac (n := t + m) (k := t) (by omega)
  have b := rise_fac t m
  rw [show t + m - t = m by omega] at a
  rw [show t + 1 + m - 1 = t + m by omega, show t + 1 - 1 = t by omega]
  have c : (fac t : Int) * ((cho (t + m) t : Int) * (fac m : Int)) = (fac t : Int) * rise ((t + 1 : Nat) : Int) m := by
    rw [b, ← a]
    push_cast
    grind
  have p := fac_pos t
  exact Int.eq_of_mul_eq_mul_left (by omega) c

/-! ### fractions of one ratio -/
theorem cd_scale {k a b : Int} (hk : 0 ≤ k) : cd (k * a) (k * b) = k * cd a b := by
  unfold cd
  rw [Int.natAbs_mul, Int.natAbs_mul, Nat.gcd_mul_left, Int.natCast_mul]
  congr 1
  omega
theorem quo_scale {k a b : Int} (hk : 0 < k) : k * a / cd (k * a) (k * b) = a / cd a b ∧ k * b / cd (k * a) (k * b) = b / cd a b := by
  rw [cd_scale (by omega)]
  exact ⟨Int.mul_ediv_mul_of_pos _ _ hk, Int.mul_ediv_mul_of_pos _ _ hk⟩
theorem quo_eq {a b c d : Int} (hb : 0 < b) (hd : 0 < d) (h : a * d = c * b) : a / cd a b = c / cd c d ∧ b / cd a b = d / cd c d := by
  have x := quo_scale (k := d) (a := a) (b := b) hd
  have y := quo_scale (k := b) (a := c) (b := d) hb
  rw [show d * a = b * c by rw [Int.mul_comm d a, h, Int.mul_comm], show d * b = b * d from Int.mul_comm _ _] at x
  exact ⟨x.1.symm.trans y.1, x.2.symm.trans y.2⟩

/-! ### growth -/
/-- how many sit down at each table -/
def mores (s t : List Nat) : List Nat := List.zipWith (fun a b => b - a) s t
/-- the law's top without the last factor: the tables one by one -/
def gtop (M : Int) : Nat → List Nat → List Nat → Int
  | left, s :: r, t :: q => gtop (M * (cho left (t - s) : Int) * rise (s : Int) (t - s)) (left - (t - s)) r q
  | _, _, _ => M
/-- the program's top -/
def gcho (M : Int) : List Nat → List Nat → Int
  | s :: r, t :: q => gcho (M * (cho (t - 1) (s - 1) : Int)) r q
  | _, _ => M
def gfac (M : Int) : List Nat → List Nat → Int
  | s :: r, t :: q => gfac (M * (fac (t - s) : Int)) r q
  | _, _ => M
def grs (M : Int) : List Nat → List Nat → Int
  | s :: r, t :: q => grs (M * rise (s : Int) (t - s)) r q
  | _, _ => M
/-- all tables grow, no more than so many sit down -/
def Grow : Nat → List Nat → List Nat → Nat → Prop
  | left, s :: r, t :: q, fresh => 1 ≤ s ∧ s ≤ t ∧ t - s ≤ left ∧ Grow (left - (t - s)) r q fresh
  | left, [], [fresh'], fresh => fresh' = fresh ∧ left = fresh
  | _, _, _, _ => False
theorem gtop_mul (c : Int) : ∀ (s t : List Nat) (left : Nat) (M : Int), gtop (c * M) left s t = c * gtop M left s t
  | [], _, _, _ => rfl
  | _ :: _, [], _, _ => rfl
  | s :: r, t :: q, left, M => by
    show gtop (c * M * _ * _) _ r q = c * gtop _ _ r q
    rw [← gtop_mul c r q, Int.mul_assoc c, Int.mul_assoc c]
theorem gcho_mul (c : Int) : ∀ (s t : List Nat) (M : Int), gcho (c * M) s t = c * gcho M s t
  | [], _, _ => rfl
  | _ :: _, [], _ => rfl
  | s :: r, t :: q, M => by
    show gcho (c * M * _) r q = c * gcho _ r q
    rw [← gcho_mul c r q, Int.mul_assoc c]
theorem gfac_mul (c : Int) : ∀ (s t : List Nat) (M : Int), gfac (c * M) s t = c * gfac M s t
  | [], _, _ => rfl
  | _ :: _, [], _ => rfl
  | s :: r, t :: q, M => by
    show gfac (c * M * _) r q = c * gfac _ r q
    rw [← gfac_mul c r q, Int.mul_assoc c]
theorem grs_mul (c : Int) : ∀ (s t : List Nat) (M : Int), grs (c * M) s t = c * grs M s t
  | [], _, _ => rfl
  | _ :: _, [], _ => rfl
  | s :: r, t :: q, M => by
    show grs (c * M * _) r q = c * grs _ r q
    rw [← grs_mul c r q, Int.mul_assoc c]
theorem gtop_one (s t : List Nat) (left : Nat) (M : Int) : gtop M left s t = M * gtop 1 left s t := by
  have := gtop_mul M s t left 1
  rwa [Int.mul_one] at this
theorem gcho_one (s t : List Nat) (M : Int) : gcho M s t = M * gcho 1 s t := by
  have := gcho_mul M s t 1
  rwa [Int.mul_one] at this
theorem gfac_one (s t : List Nat) (M : Int) : gfac M s t = M * gfac 1 s t := by
  have := gfac_mul M s t 1
  rwa [Int.mul_one] at this
theorem grs_one (s t : List Nat) (M : Int) : grs M s t = M * grs 1 s t := by
  have := grs_mul M s t 1
  rwa [Int.mul_one] at this
theorem gfac_pos : ∀ (s t : List Nat) (M : Int), 0 < M → 0 < gfac M s t
  | [], _, _, h => h
  | _ :: _, [], _, h => h
  | s :: r, t :: q, M, h => gfac_pos r q _ (Int.mul_pos h (by have := fac_pos (t - s); omega))
theorem gtop_fac : ∀ (s t : List Nat) (left fresh : Nat), Grow left s t fresh → gtop 1 left s t * ((fac fresh : Int) * gfac 1 s t) = (fac left : Int) * grs 1 s t
  | [], [f], left, fresh, h => by
    obtain ⟨_, rfl⟩ := h
    show 1 * ((fac left : Int) * 1) = (fac left : Int) * 1
    omega
  | [], [], _, _, h => h.elim
  | [], _ :: _ :: _, _, _, h => h.elim
  | _ :: _, [], _, _, h => h.elim
  | s :: r, t :: q, left, fresh, h => by
    obtain ⟨h1, h2, h3, h4⟩ := h
    have ih := gtop_fac r q _ fresh h4
    have c := cho_fac h3
    show gtop (1 * (cho left (t - s) : Int) * rise (s : Int) (t - s)) (left - (t - s)) r q * ((fac fresh : Int) * gfac (1 * (fac (t - s) : Int)) r q) = (fac left : Int) * grs (1 * rise (s : Int) (t - s)) r q
    rw [gtop_one, gfac_one, grs_one, ← c]
    push_cast
    generalize gtop 1 (left - (t - s)) r q = A at *
    generalize gfac 1 r q = B at *
    generalize grs 1 r q = D at *
    generalize rise (s : Int) (t - s) = R at *
    generalize (cho left (t - s) : Int) = C at *
    generalize (fac (t - s) : Int) = F at *
    generalize (fac (left - (t - s)) : Int) = G at *
    generalize (fac fresh : Int) = U at *
    have e : 1 * C * R * A * (U * (1 * F * B)) = C * R * F * (A * (U * B)) := by grind
    rw [e, ih]
    grind
theorem gcho_fac : ∀ (s t : List Nat) (left fresh : Nat), Grow left s t fresh → gcho 1 s t * gfac 1 s t = grs 1 s t
  | [], [f], left, fresh, h => rfl
  | [], [], _, _, h => h.elim
  | [], _ :: _ :: _, _, _, h => h.elim
  | _ :: _, [], _, _, h => h.elim
  | s :: r, t :: q, left, fresh, h => by
    obtain ⟨h1, h2, h3, h4⟩ := h
    have ih := gcho_fac r q _ fresh h4
    have c := cho_rise (s := s) (m := t - s) h1
    rw [show s + (t - s) - 1 = t - 1 by omega] at c
    show gcho (1 * (cho (t - 1) (s - 1) : Int)) r q * gfac (1 * (fac (t - s) : Int)) r q = grs (1 * rise (s : Int) (t - s)) r q
    rw [gcho_one, gfac_one, grs_one, ← ih, ← c]
    grind
theorem Grow.le : ∀ {s t : List Nat} {left fresh : Nat}, Grow left s t fresh → fresh ≤ left
  | [], [f], left, fresh, h => by
    have := h.2
    omega
  | [], [], _, _, h => h.elim
  | [], _ :: _ :: _, _, _, h => h.elim
  | _ :: _, [], _, _, h => h.elim
  | s :: r, t :: q, left, fresh, h => by
    obtain ⟨h1, h2, h3, h4⟩ := h
    have := Grow.le h4
    omega
/-- the law's top is the program's -/
theorem gtop_gcho {s t : List Nat} {left fresh : Nat} {pm : Int} (h : Grow left s t fresh) (hp : pm * (fac fresh : Int) = (fac left : Int)) : gtop 1 left s t = pm * gcho 1 s t := by
  have a := gtop_fac s t left fresh h
  have b := gcho_fac s t left fresh h
  have p := gfac_pos s t 1 (by decide)
  have f := fac_pos fresh
  have q : 0 < (fac fresh : Int) * gfac 1 s t := Int.mul_pos (by omega) p
  refine Int.eq_of_mul_eq_mul_right (by omega : (fac fresh : Int) * gfac 1 s t ≠ 0) ?_
  rw [a, ← b, ← hp]
  grind
/-- the fresh ones, newcomer by newcomer -/
def frw (w S : Int) : Nat → List Int
  | 0 => [1]
  | t + 1 => List.zipWith (· + ·) ((List.range (frw w S t).length).map (fun p : Nat => (frw w S t).getD p 0 * (S + t - p)) ++ [0]) ([0] ++ (List.range (frw w S t).length).map (fun p : Nat => (frw w S t).getD p 0 * (w + p)))
theorem frw_len (w S : Int) : ∀ t : Nat, (frw w S t).length = t + 1
  | 0 => rfl
  | t + 1 => by
    have := frw_len w S t
    simp [frw, this]
theorem frw_get (w S : Int) : ∀ t p : Nat, p ≤ t → (frw w S t).getD p 0 = (cho t p : Int) * rise S (t - p) * rise w p
  | 0, 0, _ => rfl
  | t + 1, p, h => by
    have l := frw_len w S t
    have ih := frw_get w S t
    have e : (frw w S (t + 1)).getD p 0 = (if p < t + 1 then (frw w S t).getD p 0 * (S + t - p) else 0) + (if p = 0 then 0 else (frw w S t).getD (p - 1) 0 * (w + ((p - 1 : Nat) : Int))) := by
      rw [List.getD_eq_getElem?_getD]
      show (List.zipWith (· + ·) _ _)[p]?.getD 0 = _
      rw [List.getElem?_zipWith, l]
      have x : ((List.range (t + 1)).map (fun p : Nat => (frw w S t).getD p 0 * (S + t - p)) ++ [0])[p]? = some (if p < t + 1 then (frw w S t).getD p 0 * (S + t - p) else 0) := by
        by_cases hp : p < t + 1
        · rw [List.getElem?_append_left (by simpa using hp), List.getElem?_map, List.getElem?_range hp, if_pos hp]
          rfl
        · have : p = t + 1 := by omega
          subst this
          rw [List.getElem?_append_right (by simp), if_neg hp]
          simp
      have y : ([0] ++ (List.range (t + 1)).map (fun p : Nat => (frw w S t).getD p 0 * (w + p)))[p]? = some (if p = 0 then 0 else (frw w S t).getD (p - 1) 0 * (w + ((p - 1 : Nat) : Int))) := by
        cases p with
        | zero => rfl
        | succ k =>
          rw [if_neg (by omega), show k + 1 - 1 = k by omega]
          show ((List.range (t + 1)).map (fun p : Nat => (frw w S t).getD p 0 * (w + p)))[k]? = _
          rw [List.getElem?_map, List.getElem?_range (by omega)]
          rfl
      rw [x, y]
      rfl
    rw [e]
    cases p with
    | zero =>
      rw [if_pos (by omega), if_pos rfl, ih 0 (by omega), cho_zero, cho_zero]
      show 1 * rise S (t - 0) * 1 * (S + t - 0) + 0 = 1 * rise S (t + 1) * 1
      rw [show rise S (t + 1) = rise S t * (S + t) from rfl, Nat.sub_zero]
      grind
    | succ k =>
      rw [if_neg (by omega : ¬ k + 1 = 0), show k + 1 - 1 = k by omega, ih k (by omega), show t + 1 - (k + 1) = t - k by omega]
      show _ = ((cho t k + cho t (k + 1) : Nat) : Int) * _ * (rise w k * (w + k))
      by_cases hk : k + 1 < t + 1
      · rw [if_pos hk, ih (k + 1) (by omega), show rise w (k + 1) = rise w k * (w + k) from rfl, show t - k = t - (k + 1) + 1 by omega]
        show _ = _ * (rise S (t - (k + 1)) * (S + ((t - (k + 1) : Nat) : Int))) * _
        have : ((t - (k + 1) : Nat) : Int) = (t : Int) - ((k + 1 : Nat) : Int) := by omega
        rw [this]
        push_cast
        show (cho t (k + 1) : Int) * rise S (t - (k + 1)) * (rise w k * (w + k)) * (S + t - (k + 1)) + (cho t k : Int) * (rise S (t - (k + 1)) * (S + ((t - (k + 1) : Nat) : Int))) * rise w k * (w + k) = _
        rw [this]
        push_cast
        grind
      · have : k = t := by omega
        subst this
        rw [if_neg hk, cho_gt (Nat.lt_succ_self k), Nat.sub_self]
        push_cast
        grind
theorem sum_map_add {α : Type} (f g : α → Int) : ∀ l : List α, (l.map f).sum + (l.map g).sum = (l.map fun x => f x + g x).sum
  | [] => rfl
  | x :: r => by
    have := sum_map_add f g r
    simp only [List.map_cons, List.sum_cons]
    omega
theorem sum_map_mul {α : Type} (f : α → Int) (c : Int) : ∀ l : List α, (l.map fun x => f x * c).sum = (l.map f).sum * c
  | [] => by simp
  | x :: r => by
    have := sum_map_mul f c r
    simp only [List.map_cons, List.sum_cons]
    rw [this, Int.add_mul]
theorem zips_sum : ∀ {as bs : List Int}, as.length = bs.length → (List.zipWith (· + ·) as bs).sum = as.sum + bs.sum
  | [], [], _ => rfl
  | [], _ :: _, h => by simp at h
  | _ :: _, [], h => by simp at h
  | a :: r, b :: q, h => by
    have := zips_sum (as := r) (bs := q) (by simpa using h)
    simp only [List.zipWith_cons_cons, List.sum_cons]
    omega
theorem getD_map (l : List Int) : (List.range l.length).map (fun p => l.getD p 0) = l := by
  refine List.ext_getElem (by simp) fun i h1 h2 => ?_
  simp [h2]
theorem frw_sum (w S : Int) : ∀ t : Nat, (frw w S t).sum = rise (w + S) t
  | 0 => rfl
  | t + 1 => by
    have ih := frw_sum w S t
    have l := frw_len w S t
    show (List.zipWith (· + ·) _ _).sum = rise (w + S) t * (w + S + t)
    rw [zips_sum (by simp), List.sum_append, List.sum_append]
    have a := sum_map_add (fun p : Nat => (frw w S t).getD p 0 * (S + t - p)) (fun p : Nat => (frw w S t).getD p 0 * (w + p)) (List.range (frw w S t).length)
    have b : ((List.range (frw w S t).length).map fun p : Nat => (frw w S t).getD p 0 * (S + t - p) + (frw w S t).getD p 0 * (w + p)) = (List.range (frw w S t).length).map fun p : Nat => (frw w S t).getD p 0 * (w + S + t) := by
      refine List.map_congr_left fun p _ => ?_
      grind
    rw [b, sum_map_mul, getD_map, ih] at a
    simp only [List.sum_cons, List.sum_nil]
    omega

local macro_rules | `(tactic| walk_at "call") => `(tactic| (with_reducible exact sv_whole))
local macro_rules | `(tactic| walk_at "call") => `(tactic| (with_reducible exact sv_between))
local macro_rules | `(tactic| walk_at "call") => `(tactic| ((with_reducible refine' sv_check1 ?c1 ?c2); (case c1 => walk_at "side"); (case c2 => walk_at "side")))
local macro_rules | `(tactic| walk_at "call") => `(tactic| ((with_reducible refine' sv_check_number ?c1 ?c2); (case c1 => walk_at "side"); (case c2 => walk_at "side")))
local macro_rules | `(tactic| walk_at "callU") => `(tactic| ((with_reducible refine' su_fraction ?c1 ?c2); (case c1 => walk_at "side"); (case c2 => walk_at "side")))
local macro_rules | `(tactic| walk_at "call") => `(tactic| ((with_reducible refine' sv_rise ?c1 ?c2); (case c1 => walk_at "side"); (case c2 => walk_at "side")))

/-! ### sizes -/
def Sz (s : List Nat) : Prop := s ≠ [] ∧ (∀ x ∈ s, 1 ≤ x) ∧ s.sum ≤ 20
theorem len_sum : ∀ {s : List Nat}, (∀ x ∈ s, 1 ≤ x) → s.length ≤ s.sum
  | [], _ => Nat.zero_le _
  | x :: r, h => by
    have a := len_sum (s := r) fun y hy => h y (by simp [hy])
    have b := h x (by simp)
    simp only [List.length_cons, List.sum_cons]
    omega
theorem Sz.len {s : List Nat} (h : Sz s) : s.length ≤ 20 := Nat.le_trans (len_sum h.2.1) h.2.2
theorem Sz.pos {s : List Nat} (h : Sz s) : 1 ≤ s.sum := by
  have a := len_sum h.2.1
  have b := h.1
  cases s with
  | nil => exact absurd rfl b
  | cons x r => simp only [List.length_cons] at a; omega
theorem iz_sum : ∀ s : List Nat, (iz s).sum = (s.sum : Int)
  | [] => rfl
  | x :: r => by
    have := iz_sum r
    show ((x : Int) :: iz r).sum = _
    simp only [List.sum_cons, this]
    omega
theorem mem_le_sum : ∀ {s : List Nat} {x : Nat}, x ∈ s → x ≤ s.sum
  | y :: r, x, h => by
    simp only [List.sum_cons]
    rcases List.mem_cons.mp h with e | h
    · omega
    · have := mem_le_sum h
      omega
/-- what the tables may be later -/
def Up : List Nat → List Nat → Prop
  | s :: r, t :: q => s ≤ t ∧ Up r q
  | [], [_] => True
  | _, _ => False
theorem Up.len : ∀ {s t : List Nat}, Up s t → t.length = s.length + 1
  | [], [_], _ => rfl
  | [], [], h => h.elim
  | [], _ :: _ :: _, h => h.elim
  | _ :: _, [], h => h.elim
  | _ :: r, _ :: q, h => by
    have := Up.len h.2
    simp only [List.length_cons, this]
theorem Up.start : ∀ s : List Nat, Up s (s ++ [0])
  | [] => trivial
  | s :: r => ⟨Nat.le_refl _, Up.start r⟩
theorem Up.bump : ∀ {s t : List Nat} {i x : Nat}, Up s t → t[i]? = some x → Up s (t.set i (x + 1)) ∧ (t.set i (x + 1)).sum = t.sum + 1
  | [], [f], 0, x, _, h => by
    have : f = x := Option.some.inj h
    subst this
    exact ⟨trivial, rfl⟩
  | [], [f], i + 1, x, _, h => by simp at h
  | [], [], _, _, h, _ => h.elim
  | [], _ :: _ :: _, _, _, h, _ => h.elim
  | _ :: _, [], _, _, h, _ => h.elim
  | s :: r, t :: q, 0, x, h, hx => by
    have : t = x := Option.some.inj hx
    subst this
    refine ⟨⟨Nat.le_succ_of_le h.1, h.2⟩, ?_⟩
    simp only [List.set_cons_zero, List.sum_cons]
    omega
  | s :: r, t :: q, i + 1, x, h, hx => by
    obtain ⟨a, b⟩ := Up.bump (i := i) h.2 hx
    refine ⟨⟨h.1, a⟩, ?_⟩
    simp only [List.set_cons_succ, List.sum_cons, b]
    omega
theorem Up.get : ∀ {s t : List Nat}, Up s t → ∀ (i x y : Nat), t[i]? = some x → (s ++ [0])[i]? = some y → y ≤ x
  | [], [_], _, 0, x, y, h1, h2 => by
    have : 0 = y := Option.some.inj h2
    omega
  | [], [_], _, i + 1, x, y, h1, h2 => by simp at h1
  | [], [], h, _, _, _, _, _ => h.elim
  | [], _ :: _ :: _, h, _, _, _, _, _ => h.elim
  | _ :: _, [], h, _, _, _, _, _ => h.elim
  | s :: r, t :: q, h, 0, x, y, h1, h2 => by
    have a : t = x := Option.some.inj h1
    have b : s = y := Option.some.inj h2
    have := h.1
    omega
  | s :: r, t :: q, h, i + 1, x, y, h1, h2 => Up.get h.2 i x y h1 h2
theorem Up.sum : ∀ {s t : List Nat}, Up s t → s.sum + t.getLast?.getD 0 ≤ t.sum
  | [], [f], _ => by simp
  | [], [], h => h.elim
  | [], _ :: _ :: _, h => h.elim
  | _ :: _, [], h => h.elim
  | s :: r, t :: q, h => by
    have a := Up.sum h.2
    have b := h.1
    have c := Up.len h.2
    obtain ⟨z, w, rfl⟩ : ∃ z w, q = z :: w := by
      cases q with
      | nil => simp at c
      | cons z w => exact ⟨z, w, rfl⟩
    simp only [List.sum_cons, List.getLast?_cons_cons] at *
    omega
theorem Up.grow : ∀ {s t : List Nat} {left : Nat}, Up s t → (∀ x ∈ s, 1 ≤ x) → t.sum = s.sum + left → Grow left s t (t.getLast?.getD 0)
  | [], [f], left, _, _, e => by
    simp at e
    exact ⟨rfl, e.symm⟩
  | [], [], _, h, _, _ => h.elim
  | [], _ :: _ :: _, _, h, _, _ => h.elim
  | _ :: _, [], _, h, _, _ => h.elim
  | s :: r, t :: q, left, h, h1, e => by
    have b := h.1
    have c := Up.len h.2
    have d := Up.sum h.2
    obtain ⟨z, w, rfl⟩ : ∃ z w, q = z :: w := by
      cases q with
      | nil => simp at c
      | cons z w => exact ⟨z, w, rfl⟩
    simp only [List.sum_cons] at e d
    have g := Up.grow (left := left - (t - s)) h.2 (fun x hx => h1 x (by simp [hx])) (by simp only [List.sum_cons]; omega)
    exact ⟨h1 s (by simp), b, by omega, by rw [List.getLast?_cons_cons]; exact g⟩
def sp_szs (v : V) : Sp := fun vs H Q _ => ∃ (a : Addr) (s : List Nat), vs = [.ref a] ∧ H a = some (.lst (nv s)) ∧ Sz s ∧ RetV v H Q
theorem sv_szs {H : Hp} {v : V} {a : Addr} {s : List Nat} (ha : H a = some (.lst (nv s))) (o : Sz s) : SpV (sp_szs v) ([.ref a] ++ []) H v := fun H1 e Q q E => ⟨a, s, rfl, e a _ ha, o, q⟩
def sp_lat (v : V) : Sp := fun vs H Q _ => ∃ (b a : Addr) (t s : List Nat), vs = [.ref b, .ref a] ∧ H b = some (.lst (nv t)) ∧ H a = some (.lst (nv s)) ∧ Sz s ∧ Up s t ∧ t.sum ≤ 60 ∧ RetV v H Q
theorem sv_lat {H : Hp} {v : V} {a b : Addr} {s t : List Nat} (hb : H b = some (.lst (nv t))) (ha : H a = some (.lst (nv s))) (o : Sz s) (u : Up s t) (h : t.sum ≤ 60) : SpV (sp_lat v) ([.ref b, .ref a] ++ []) H v := fun H1 e Q q E => ⟨b, a, t, s, rfl, e b _ hb, e a _ ha, o, u, h, q⟩
section
variable {K : PySem.W.Frag} {σ : L2.St} {H : Hp} {ta tb te : TE} {D : Ends} {tz : TS}
theorem ev_sumV {a : Addr} {ns : List Int} (h : Ev ta σ H (.ref a)) (ha : SqL K H a (ns.map V.int)) : Ev (tCB (rSum K) (tCons ta tNil)) σ H (.int ns.sum) := fun H1 e Q q => h H1 e _ fun H2 e2 => ⟨a, ns, rfl, ex_l (e.trans e2) ha, q H2 e2⟩
end
section
variable {P : Program} {w : World} {K : PySem.W.Frag} {mg : Str → Option Value} {base : Heap}
theorem ok_are_sizes (T : Tx K mg) : FnOk P w K mg base CX0 3 T.f_are_sizes T.d_are_sizes ["thing"] (sp_szs (.bl true)) := by
  refine T.F_are_sizes.ok sc_are_sizes (fun vs H Q E h => ?_) (fun cdv A outer s H vs Q E hr h => ?_)
  · obtain ⟨a, h, rfl, _⟩ := h
    rfl
  · obtain ⟨a, h, rfl, ha, o, k⟩ := h
    refine ⟨_, (pss_cons (ps_if (PW.pt (pw_or (pt_cmpR (op_neTyS (hu_of hr)) (pe_typeOf (by rfl) T.m_type (pv 0)) (pe_bltn (v := .ty "list") (by rfl) T.m_list (by decide +kernel) rfl) (nomark _)) (pw_or1 (pt_not (pt_val (pe_callB (cr_all rfl) (by rfl) T.m_all (by decide +kernel) (pa_cons (pe_lc (own := [("item", 1)]) (g := (gName 1)) (tt := tYes) rfl sc_are_sizes.nd (pi_list (pv 0)) (blkOk_by (own := [("item", 1)]) (N := n_are_sizes) (sc := defScope s_are_sizes) (by decide +kernel)) (fun _ _ _ _ _ => (pg_name (i := 1) sc_are_sizes.nd rfl (Or.inl rfl))) (fun _ _ _ _ _ => pts_nil) (fun _ _ _ _ _ => (pe_and (pe_call (ok_is_whole T) (hr.mono (by decide)) (by rfl) T.g_is_whole T.F_is_whole.kp T.b_is_whole .nil pass0 (pa_cons (pv 1) pa_nil)) (pe_one (pe_cmpR op_ge (pv 1) pe_int (nomark _)))))) pa_nil))))))) (pss_one (ps_ret pe_bl)) pss_nil)
      (pss_one (ps_ret (pe_call (ok_is_within T) (hr.mono (by decide)) (by rfl) T.g_is_within T.F_is_within.kp T.b_is_within .nil pass0 (pa_cons (pe_callB (cr_sum rfl) (by rfl) T.m_sum (by decide +kernel) (pa_cons (pv 0) pa_nil)) (pa_cons pe_int (pa_cons (pe_gc (by rfl) T.c_MOST_GUESTS) pa_nil))))))), ?_⟩
    have hl := nv_len h
    have l20 := o.len
    have hm : (nv h).map (fun _ => V.bl true) = (List.replicate h.length true).map V.bl := by
      rw [nv_eq, List.map_map, List.map_replicate]
      exact List.map_const' ..
    refine q_when (b := false) (et_is (et_or (et_test (ev_op (ev_typeL (ev_var rfl) ha) ev_c (rv_neTyS PySem.TypeEq.meta_list))) fun _ => et_not (et_B (ev_allN (bs := List.replicate h.length true) ?_))) (by simp)) (fun hb => Bool.noConfusion hb) fun _ H1 e1 => ?_
    · rw [← hm]
      refine el_map (fun _ => V.bl true) (ev_var rfl) (sq_of ha) (by omega) (fun _ => rfl) fun i x H2 e2 hx => ?_
      rw [nv_eq, List.getElem?_map] at hx
      obtain ⟨z, hz, rfl⟩ := Option.map_eq_some_iff.mp hx
      have := o.2.1 z (List.mem_of_getElem? hz)
      refine ev_is (by walk_at "ev") ?_
      rw [decide_eq_true (show (1 : Int) ≤ (z : Int) by omega)]
      rfl
    · have h1 := e1 a _ ha
      have sm := ev_sumV (K := K) (ta := tVar 0) (σ := start n_are_sizes [.ref a]) (ns := iz h) (ev_var (i := 0) (v := .ref a) rfl) (sq_of h1)
      rw [iz_sum] at sm
      have p := o.pos
      have q := o.2.2
      refine s_ret (v := .bl true) (ev_is (ev_call (ea_cons sm (ea_cons ev_c (ea_cons (by walk_at "ev") ea_nil))) sv_between) ?_) fun H2 e2 => k _ (e1.trans e2)
      rw [decide_eq_true (show (1 : Int) ≤ (h.sum : Int) by omega), decide_eq_true (show (h.sum : Int) ≤ 20 by omega)]
      rfl
theorem ok_check_sizes (T : Tx K mg) : FnOk P w K mg base CX0 4 T.f_check_sizes T.d_check_sizes ["sizes"] (sp_szs .non) := by
  refine T.F_check_sizes.ok sc_check_sizes (fun vs H Q E h => ?_) (fun cdv A outer s H vs Q E hr h => ?_)
  · obtain ⟨a, h, rfl, _⟩ := h
    rfl
  · obtain ⟨a, h, rfl, ha, o, k⟩ := h
    refine ⟨_, (pss_one (ps_if (pt_not (pt_val (pe_call (ok_are_sizes T) (hr.mono (by decide)) (by rfl) T.g_are_sizes T.F_are_sizes.kp T.b_are_sizes .nil pass0 (pa_cons (pv 0) pa_nil)))) (pss_one ps_never) pss_nil)), ?_⟩
    exact s_when (b := false) (et_is (et_not (et_B (ev_call (ea_cons (ev_var rfl) ea_nil) (sv_szs ha o)))) (by rfl)) (fun hb => Bool.noConfusion hb) fun _ H1 e1 => k _ e1
theorem ok_are_later (T : Tx K mg) : FnOk P w K mg base CX0 3 T.f_are_later T.d_are_later ["thing", "sizes"] (sp_lat (.bl true)) := by
  refine T.F_are_later.ok sc_are_later (fun vs H Q E h => ?_) (fun cdv A outer s H vs Q E hr h => ?_)
  · obtain ⟨b, a, t, r, rfl, _⟩ := h
    rfl
  · obtain ⟨b, a, t, r, rfl, hb, ha, o, u, h60, k⟩ := h
    refine ⟨_, (pss_cons (ps_if (PW.pt (pw_or (pt_cmpR (op_neTyS (hu_of hr)) (pe_typeOf (by rfl) T.m_type (pv 0)) (pe_bltn (v := .ty "list") (by rfl) T.m_list (by decide +kernel) rfl) (nomark _)) (pw_or1 (pt_cmpR op_ne (pe_callB call_lenR (by rfl) T.m_len (by decide +kernel) (pa_cons (pv 0) pa_nil)) (pe_op op_add (pe_callB call_lenR (by rfl) T.m_len (by decide +kernel) (pa_cons (pv 1) pa_nil)) pe_int) (nomark _))))) (pss_one (ps_ret pe_bl)) pss_nil)
      (pss_cons (ps_if (PW.pt (pw_or (pt_not (pt_val (pe_callB (cr_all rfl) (by rfl) T.m_all (by decide +kernel) (pa_cons (pe_lc (own := [("item", 2)]) (g := (gName 2)) (tt := tYes) rfl sc_are_later.nd (pi_list (pv 0)) (blkOk_by (own := [("item", 2)]) (N := n_are_later) (sc := defScope s_are_later) (by decide +kernel)) (fun _ _ _ _ _ => (pg_name (i := 2) sc_are_later.nd rfl (Or.inl rfl))) (fun _ _ _ _ _ => pts_nil) (fun _ _ _ _ _ => (pe_call (ok_is_whole T) (hr.mono (by decide)) (by rfl) T.g_is_whole T.F_is_whole.kp T.b_is_whole .nil pass0 (pa_cons (pv 2) pa_nil)))) pa_nil)))) (pw_or1 (pt_cmpR op_gt (pe_callB (cr_sum rfl) (by rfl) T.m_sum (by decide +kernel) (pa_cons (pv 0) pa_nil)) (pe_gc (by rfl) T.c_MOST_LATER) (nomark _))))) (pss_one (ps_ret pe_bl)) pss_nil)
      (pss_one (ps_ret (pe_callB (cr_all rfl) (by rfl) T.m_all (by decide +kernel) (pa_cons (pe_lc (own := [("now", 3), ("size", 4)]) (g := (gTup _ 2 (gCons (gName 3) (gCons (gName 4) gNil)))) (tt := tYes) rfl sc_are_later.nd (pi_zip (by rfl) T.m_zip (pa_cons (pv 0) (pa_cons (pe_op op_cat (pv 1) (pe_lst (pa_cons pe_int pa_nil))) pa_nil))) (blkOk_by (own := [("now", 3), ("size", 4)]) (N := n_are_later) (sc := defScope s_are_later) (by decide +kernel)) (fun _ _ _ _ _ => (pg_tup rfl (pgs_cons (pg_name (i := 3) sc_are_later.nd rfl (Or.inl rfl)) (pgs_cons (pg_name (i := 4) sc_are_later.nd rfl (Or.inl rfl)) pgs_nil)))) (fun _ _ _ _ _ => pts_nil) (fun _ _ _ _ _ => (pe_cmpR op_ge (pv 3) (pv 4) (nomark _)))) pa_nil)))))), ?_⟩
    have hl := nv_len t
    have hr2 := nv_len r
    have l20 := o.len
    have ul := u.len
    have hm : (nv t).map (fun _ => V.bl true) = (List.replicate t.length true).map V.bl := by
      rw [nv_eq, List.map_map, List.map_replicate]
      exact List.map_const' ..
    refine q_when (b := false) (et_is (et_or (et_test (ev_op (ev_typeL (ev_var rfl) hb) ev_c (rv_neTyS PySem.TypeEq.meta_list))) fun _ => et_test (ev_op (ev_len (ev_var rfl) (sq_of hb)) (ev_op (ev_len (ev_var rfl) (sq_of ha)) ev_c rv_I0) (rv_ne rfl))) ?_) (fun hb => Bool.noConfusion hb) fun _ H1 e1 => ?_
    · rw [hl, hr2, ul]
      simp
    have hb1 := e1 b _ hb
    have ha1 := e1 a _ ha
    have sm := ev_sumV (K := K) (ta := tVar 0) (σ := start n_are_later [.ref b, .ref a]) (ns := iz t) (ev_var (i := 0) (v := .ref b) rfl) (sq_of hb1)
    rw [iz_sum] at sm
    refine q_when (b := false) (et_is (et_or (et_not (et_B (ev_allN (bs := List.replicate t.length true) ?_))) fun _ => et_test (ev_op sm (by walk_at "ev") rv_I0)) ?_) (fun hb => Bool.noConfusion hb) fun _ H2 e2 => ?_
    · rw [← hm]
      refine el_map (fun _ => V.bl true) (ev_var rfl) (sq_of hb1) (by omega) (fun _ => rfl) fun i x H2 e2 hx => ?_
      rw [nv_eq, List.getElem?_map] at hx
      obtain ⟨z, hz, rfl⟩ := Option.map_eq_some_iff.mp hx
      exact by walk_at "ev"
    · rw [decide_eq_false (show ¬ ((t.sum : Int) > 60) by omega)]
      simp
    · have hb2 := e2 b _ hb1
      have ha2 := e2 a _ ha1
      refine s_ret (v := .bl true) (ev_is (ev_allN (K := K) (bs := List.replicate t.length true) ?_) (by simp)) fun H3 e3 => k _ (e1.trans (e2.trans e3))
      have e : List.zipWith (fun _ _ => V.bl true) (nv t) (nv r ++ [.int 0]) = (List.replicate t.length true).map V.bl := by
        rw [List.map_replicate]
        refine List.ext_getElem (by simp [hl, hr2, ul]) fun n h1 h2 => ?_
        simp
      rw [← e]
      refine el_zipO (fun _ _ => .bl true) (ev_var rfl) (sq_of hb2) (el_catL (ev_var rfl) ha2 (el_lst (ea_cons ev_c ea_nil) (Nat.le_of_ble_eq_true rfl)) (by simp [hr2]; omega)) (by simp [hl, hr2, ul]) (by omega) (fun _ _ => rfl) fun n x y H3 e3 hx hy => ?_
      rw [nv_eq, List.getElem?_map] at hx
      obtain ⟨z, hz, rfl⟩ := Option.map_eq_some_iff.mp hx
      rw [show nv r ++ [.int 0] = nv (r ++ [0]) by rw [nv_app]; rfl, nv_eq, List.getElem?_map] at hy
      obtain ⟨z2, hz2, rfl⟩ := Option.map_eq_some_iff.mp hy
      have := u.get n z z2 hz hz2
      refine ev_is (by walk_at "ev") ?_
      rw [decide_eq_true (show (z : Int) ≥ (z2 : Int) by omega)]
theorem ok_check_later (T : Tx K mg) : FnOk P w K mg base CX0 4 T.f_check_later T.d_check_later ["later", "sizes"] (sp_lat .non) := by
  refine T.F_check_later.ok sc_check_later (fun vs H Q E h => ?_) (fun cdv A outer s H vs Q E hr h => ?_)
  · obtain ⟨b, a, t, r, rfl, _⟩ := h
    rfl
  · obtain ⟨b, a, t, r, rfl, hb, ha, o, u, h60, k⟩ := h
    refine ⟨_, (pss_one (ps_if (pt_not (pt_val (pe_call (ok_are_later T) (hr.mono (by decide)) (by rfl) T.g_are_later T.F_are_later.kp T.b_are_later .nil pass0 (pa_cons (pv 0) (pa_cons (pv 1) pa_nil))))) (pss_one ps_never) pss_nil)), ?_⟩
    exact s_when (b := false) (et_is (et_not (et_B (ev_call (ea_cons (ev_var rfl) (ea_cons (ev_var rfl) ea_nil)) (sv_lat hb ha o u h60)))) (by rfl)) (fun hb => Bool.noConfusion hb) fun _ H1 e1 => k _ e1
end

local macro_rules | `(tactic| walk_at "call") => `(tactic| (with_reducible exact sv_whole))
local macro_rules | `(tactic| walk_at "call") => `(tactic| (with_reducible exact sv_between))
local macro_rules | `(tactic| walk_at "call") => `(tactic| ((with_reducible refine' sv_check1 ?c1 ?c2); (case c1 => walk_at "side"); (case c2 => walk_at "side")))
local macro_rules | `(tactic| walk_at "call") => `(tactic| ((with_reducible refine' sv_check_number ?c1 ?c2); (case c1 => walk_at "side"); (case c2 => walk_at "side")))
local macro_rules | `(tactic| walk_at "callU") => `(tactic| ((with_reducible refine' su_fraction ?c1 ?c2); (case c1 => walk_at "side"); (case c2 => walk_at "side")))
local macro_rules | `(tactic| walk_at "call") => `(tactic| ((with_reducible refine' sv_rise ?c1 ?c2); (case c1 => walk_at "side"); (case c2 => walk_at "side")))

/-! ### growth -/
theorem rise_le2 {x : Int} {k : Nat} (h : x.natAbs + 100 ≤ 2 ^ k) : ∀ n : Nat, n ≤ 100 → (rise x n).natAbs ≤ 2 ^ (k * n)
  | 0, _ => by
    show (1 : Int).natAbs ≤ 2 ^ 0
    decide
  | n + 1, hn => by
    have ih := rise_le2 h n (by omega)
    show (rise x n * (x + n)).natAbs ≤ _
    rw [Int.natAbs_mul, Nat.mul_succ, Nat.pow_add]
    exact Nat.mul_le_mul ih (by omega)
theorem rise60 {x : Int} (h0 : 0 ≤ x) (h : x ≤ 2 ^ 41) {n : Nat} (hn : n ≤ 60) : (rise x n).natAbs < 2 ^ 2600 := by
  have := rise_le2 (x := x) (k := 42) (by omega) n (by omega)
  exact Nat.lt_of_le_of_lt (Nat.le_trans this (Nat.pow_le_pow_right (by decide) (show 42 * n ≤ 2520 by omega))) (Nat.pow_lt_pow_right (by decide) (by decide))
theorem fac60 {n : Nat} (h : n ≤ 60) : fac n < 2 ^ 300 := Nat.lt_of_le_of_lt (fac_mono h) (by decide +kernel)
theorem prm60 {n k : Nat} (h : k ≤ n) (hn : n ≤ 60) : 0 ≤ prm n k ∧ (prm n k).natAbs < 2 ^ 300 := by
  have a := prm_fac h
  have b := prm_pos h
  have c := fac_pos (n - k)
  have d := fac60 hn
  refine ⟨by omega, ?_⟩
  have : prm n k * 1 ≤ prm n k * (fac (n - k) : Int) := Int.mul_le_mul_of_nonneg_left (by omega) (by omega)
  rw [a, Int.mul_one] at this
  omega
theorem cho60 {n k : Nat} (hn : n ≤ 60) : ((cho n k : Nat) : Int).natAbs < 2 ^ 61 := by
  have := cho_le n k
  have b : 2 ^ n ≤ 2 ^ 60 := Nat.pow_le_pow_right (by decide) hn
  omega
def gnum (x : Int) (left : Nat) (s t : List Nat) (fresh : Nat) : Int := gcho (prm left (left - fresh) * rise x fresh) s t
theorem gcho_pos : ∀ (s t : List Nat) (M : Int), 0 ≤ M → 0 ≤ gcho M s t
  | [], _, _, h => h
  | _ :: _, [], _, h => h
  | s :: r, t :: q, M, h => gcho_pos r q _ (Int.mul_nonneg h (by omega))
theorem gnum_pos {x : Int} (h : 1 ≤ x) {left fresh : Nat} (hf : fresh ≤ left) (s t : List Nat) : 0 ≤ gnum x left s t fresh := gcho_pos _ _ _ (Int.mul_nonneg (by have := prm_pos (n := left) (k := left - fresh) (by omega); omega) (by have := rise_pos h fresh; omega))
theorem gtop_gnum {x : Int} {left fresh : Nat} {s t : List Nat} (h : Grow left s t fresh) : gtop 1 left s t * rise x fresh = gnum x left s t fresh := by
  have hl := h.le
  have p := prm_fac (n := left) (k := left - fresh) (by omega)
  rw [show left - (left - fresh) = fresh by omega] at p
  rw [gtop_gcho h p]
  unfold gnum
  rw [gcho_one s t (prm left (left - fresh) * rise x fresh)]
  grind
theorem nv_last {t : List Nat} (h : t ≠ []) : atI (nv t) (-1) = some (.int ((t.getLast?.getD 0 : Nat) : Int)) := by
  obtain ⟨r, x, rfl⟩ : ∃ r x, t = r ++ [x] := ⟨_, _, (List.dropLast_concat_getLast h).symm⟩
  have e : (r ++ [x]).getLast?.getD 0 = x := by simp
  rw [e, nv_app]
  exact atI_last (nv r) _
theorem map_getD {β : Type} (f : Nat → β) (s : List Nat) : (List.range s.length).map (fun i => f (s.getD i 0)) = s.map f := by
  refine List.ext_getElem (by simp) fun i h1 h2 => ?_
  simp at h1
  simp [h1]
theorem mul_size {a b : Int} {n k m : Nat} (ha : a.natAbs < 2 ^ n) (hb : b.natAbs < 2 ^ k) (h : n + k ≤ m) : (a * b).natAbs < 2 ^ m := lt2_mono (natAbs_mul_lt ha hb) h
def sp_grow : Sp := fun vs H Q _ => ∃ (a b : Addr) (s t : List Nat) (x : Int) (left : Nat), vs = [.ref a, .int x, .ref b] ∧ H a = some (.lst (nv s)) ∧ H b = some (.lst (nv t)) ∧ Sz s ∧ Up s t ∧ t.sum ≤ 60 ∧ t.sum = s.sum + left ∧ 1 ≤ x ∧ x ≤ 1000000000000 ∧
  RetU (frac (gnum x left s t (t.getLast?.getD 0)) (rise (x + (s.sum : Int)) left)) H Q
theorem su_grow {H : Hp} {a b : Addr} {s t : List Nat} {x : Int} {left : Nat} (ha : H a = some (.lst (nv s))) (hb : H b = some (.lst (nv t))) (o : Sz s) (u : Up s t) (h60 : t.sum ≤ 60) (hl : t.sum = s.sum + left) (h1 : 1 ≤ x) (h2 : x ≤ 1000000000000) : SpU sp_grow ([.ref a, .int x, .ref b] ++ []) H (frac (gnum x left s t (t.getLast?.getD 0)) (rise (x + (s.sum : Int)) left)) := fun H1 e Q q E => ⟨a, b, s, t, x, left, rfl, e a _ ha, e b _ hb, o, u, h60, hl, h1, h2, q⟩
def meanF (x : Int) (S : Nat) (m : Nat) (s : Nat) : List V := frac ((s : Int) * ((S : Int) + x + m)) ((S : Int) + x)
def sp_mean_later : Sp := fun vs H Q _ => ∃ (a : Addr) (s : List Nat) (x : Int) (m : Nat), vs = [.ref a, .int x, .int (m : Int)] ∧ H a = some (.lst (nv s)) ∧ Sz s ∧ m ≤ 40 ∧ 1 ≤ x ∧ x ≤ 1000000000000 ∧ (∀ p ws H2, H p = none → Ex H H2 → H2 p = some (.lst ws) → TL H2 ws (s.map (meanF x s.sum m)) → Q (.ref p) H2)
def freshN (x S : Int) (m r : Nat) : Int := (cho m r : Int) * rise S (m - r) * rise x r
def sp_new_shares : Sp := fun vs H Q _ => ∃ (a : Addr) (s : List Nat) (x : Int) (m : Nat), vs = [.ref a, .int x, .int (m : Int)] ∧ H a = some (.lst (nv s)) ∧ Sz s ∧ m ≤ 40 ∧ 1 ≤ x ∧ x ≤ 1000000000000 ∧ (∀ p ws H2, H p = none → Ex H H2 → H2 p = some (.lst ws) → TL H2 ws ((List.range (m + 1)).map fun r => frac (freshN x (s.sum : Int) m r) (rise (x + (s.sum : Int)) m)) → Q (.ref p) H2)
theorem drop_cons {α : Type} {l : List α} {k : Nat} {x : α} (h : l[k]? = some x) : l.drop k = x :: l.drop (k + 1) := by
  obtain ⟨hk, e⟩ := List.getElem?_eq_some_iff.mp h
  rw [List.drop_eq_getElem_cons hk, e]
section
variable {P : Program} {w : World} {K : PySem.W.Frag} {mg : Str → Option Value} {base : Heap}
theorem ok_grow_share (T : Tx K mg) : FnOk P w K mg base CX0 5 T.f_grow_share T.d_grow_share ["sizes", "weight", "later"] sp_grow := by
  refine T.F_grow_share.ok sc_grow_share (fun vs H Q E h => ?_) (fun cdv A outer s0 H vs Q E hr h => ?_)
  · obtain ⟨a, b, s, t, x, left, rfl, _⟩ := h
    rfl
  · obtain ⟨a, b, s, t, x, left, rfl, ha, hb, o, u, h60, hl, h1, h2, k⟩ := h
    refine ⟨_, (pss_cons (ps_expr (pe_call (ok_check_sizes T) (hr.mono (by decide)) (by rfl) T.g_check_sizes T.F_check_sizes.kp T.b_check_sizes .nil pass0 (pa_cons (pv 0) pa_nil)))
      (pss_cons (ps_expr (pe_call (ok_check_weight T) (hr.mono (by decide)) (by rfl) T.g_check_weight T.F_check_weight.kp T.b_check_weight .nil pass0 (pa_cons (pv 1) pa_nil)))
      (pss_cons (ps_expr (pe_call (ok_check_later T) (hr.mono (by decide)) (by rfl) T.g_check_later T.F_check_later.kp T.b_check_later .nil pass0 (pa_cons (pv 2) (pa_cons (pv 0) pa_nil))))
      (pss_cons (ps_set (i := 3) sc_grow_share.nd rfl (Or.inl rfl) (pe_op op_sub (pe_callB (cr_sum rfl) (by rfl) T.m_sum (by decide +kernel) (pa_cons (pv 2) pa_nil)) (pe_callB (cr_sum rfl) (by rfl) T.m_sum (by decide +kernel) (pa_cons (pv 0) pa_nil))))
      (pss_cons (ps_set (i := 4) sc_grow_share.nd rfl (Or.inl rfl) (pe_ix ix_list (pv 2) (pe_un un_neg pe_int) (fun _ _ => rfl)))
      (pss_cons (ps_set (i := 5) sc_grow_share.nd rfl (Or.inl rfl) (pe_op op_mulX (pe_callBfun cr_perm (by rfl) T.i_perm (pa_cons (pv 3) (pa_cons (pe_op op_sub (pv 3) (pv 4)) pa_nil))) (pe_call (ok_rising T) (hr.mono (by decide)) (by rfl) T.g_rising T.F_rising.kp T.b_rising .nil pass0 (pa_cons (pv 1) (pa_cons (pv 4) pa_nil)))))
      (pss_cons (ps_for PassesOwn.never rfl (pi_zip (by rfl) T.m_zip (pa_cons (pv 0) (pa_cons (pv 2) pa_nil))) (pg_tup rfl (pgs_cons (pg_name (i := 6) sc_grow_share.nd rfl (Or.inl rfl)) (pgs_cons (pg_name (i := 7) sc_grow_share.nd rfl (Or.inl rfl)) pgs_nil))) (pss_one (ps_set (i := 5) sc_grow_share.nd rfl (Or.inl rfl) (pe_op op_mulX (pv 5) (pe_callBfun cr_comb (by rfl) T.i_comb (pa_cons (pe_op op_sub (pv 7) pe_int) (pa_cons (pe_op op_sub (pv 6) pe_int) pa_nil)))))))
      (pss_one (ps_ret (pe_call (ok_fraction T) (hr.mono (by decide)) (by rfl) T.g_fraction T.F_fraction.kp T.b_fraction .nil pass0 (pa_cons (pv 5) (pa_cons (pe_call (ok_rising T) (hr.mono (by decide)) (by rfl) T.g_rising T.F_rising.kp T.b_rising .nil pass0 (pa_cons (pe_op op_add (pv 1) (pe_callB (cr_sum rfl) (by rfl) T.m_sum (by decide +kernel) (pa_cons (pv 0) pa_nil))) (pa_cons (pv 3) pa_nil))) pa_nil)))))))))))), ?_⟩
    have G := u.grow o.2.1 hl
    have fl := G.le
    have l20 := o.len
    have ul := u.len
    have s20 := o.2.2
    generalize hfr : t.getLast?.getD 0 = fresh at *
    refine q_drop (ev_call (ea_cons (ev_var rfl) ea_nil) (sv_szs ha o)) fun H1 e1 => ?_
    refine q_drop (by walk_at "ev") fun H2 e2 => ?_
    have ha2 := e2 a _ (e1 a _ ha)
    have hb2 := e2 b _ (e1 b _ hb)
    refine q_drop (ev_call (ea_cons (ev_var rfl) (ea_cons (ev_var rfl) ea_nil)) (sv_lat hb2 ha2 o u h60)) fun H3 e3 => ?_
    have ha3 := e3 a _ ha2
    have hb3 := e3 b _ hb2
    have sa := ev_sumV (K := K) (ta := tVar 0) (σ := start n_grow_share [.ref a, .int x, .ref b]) (ns := iz s) (ev_var (i := 0) (v := .ref a) rfl) (sq_of ha3)
    have sb := ev_sumV (K := K) (ta := tVar 2) (σ := start n_grow_share [.ref a, .int x, .ref b]) (ns := iz t) (ev_var (i := 2) (v := .ref b) rfl) (sq_of hb3)
    rw [iz_sum] at sa sb
    refine q_asg (v := .int (left : Int)) (ev_is (ev_op sb sa rv_I0) (by congr 1; omega)) fun H4 e4 => ?_
    have ha4 := e4 a _ ha3
    have hb4 := e4 b _ hb3
    have tne : t ≠ [] := fun z => by
      rw [z] at ul
      simp at ul
    have last := nv_last tne
    rw [hfr] at last
    refine q_asg (v := .int (fresh : Int)) (ev_op (ev_var rfl) (ev_un ev_c ru_neg) (rv_ixL (K := K) (sq_of hb4) last)) fun H5 e5 => ?_
    have ha5 := e5 a _ ha4
    have hb5 := e5 b _ hb4
    have rf := rise60 (x := x) (n := fresh) (by omega) (by omega) (by omega)
    have pf := prm60 (n := left) (k := left - fresh) (by omega) (by omega)
    have m1 : CMulX (prm left (left - fresh)) (rise x fresh) := mulx_ok (a := 300) (b := 2600) pf.2 rf (by decide)
    refine q_asg (v := .int (prm left (left - fresh) * rise x fresh)) (ev_op (ev_perm (ev_var rfl) (ev_is (ev_op (ev_var rfl) (ev_var rfl) rv_I0) (by congr 1; omega)) (by omega) (by omega)) (by walk_at "ev") (rv_I m1)) fun H6 e6 => ?_
    have ha6 := e6 a _ ha5
    have hb6 := e6 b _ hb5
    have hs := nv_len s
    have ht := nv_len t
    refine q_forZip (n := s.length) (ea_cons (ev_var rfl) (ea_cons (ev_var rfl) ea_nil)) (sq_of ha6) (sq_of hb6) (by omega)
      (fun i σ' H' => ∃ (M : Int) (y z : Option V), σ' = [some (.ref a), some (.int x), some (.ref b), some (.int (left : Int)), some (.int (fresh : Int)), some (.int M), y, z] ∧ Ex H H' ∧ gcho M (s.drop i) (t.drop i) = gnum x left s t fresh ∧ M.natAbs < 2 ^ (3000 + 100 * i) ∧ (∀ p ∈ t.drop i, p ≤ 60) ∧ i ≤ s.length)
      (fun H7 e7 => ⟨_, none, none, rfl, e1.trans (e2.trans (e3.trans (e4.trans (e5.trans (e6.trans e7))))), rfl, mul_size pf.2 rf (by decide), fun p hp => by
        have := mem_le_sum (List.mem_of_mem_drop hp)
        omega, Nat.zero_le _⟩) (fun i σ' H' hi ⟨M, y, z, _, e, _⟩ => ⟨sq_of (e a _ ha), sq_of (e b _ hb)⟩) ?_ ?_
    · rintro i vx vy σ' H' H7 hx hy ⟨M, y, z, rfl, e, g, hM, h6, hi⟩ e7
      rw [nv_eq, List.getElem?_map] at hx hy
      obtain ⟨p, hp, rfl⟩ := Option.map_eq_some_iff.mp hx
      obtain ⟨q, hq, rfl⟩ := Option.map_eq_some_iff.mp hy
      have q60 := h6 q (by rw [drop_cons hq]; exact List.mem_cons_self)
      have p1 := o.2.1 p (List.mem_of_getElem? hp)
      have qp : p ≤ q := u.get i q p hq (by rw [List.getElem?_append_left (List.getElem?_eq_some_iff.mp hp).1]; exact hp)
      rw [drop_cons hp, drop_cons hq] at g
      have c60 := cho60 (n := q - 1) (k := p - 1) (by omega)
      have i20 := (List.getElem?_eq_some_iff.mp hp).1
      have m2 : CMulX M ((cho (q - 1) (p - 1) : Nat) : Int) := mulx_ok (a := 6000) (b := 61) (lt2_mono hM (by omega)) c60 (by decide)
      refine s_asg (ev_op (ev_var rfl) (ev_comb (n := q - 1) (k := p - 1) (ev_is (ev_op (ev_var rfl) ev_c rv_I0) (by congr 1; omega)) (ev_is (ev_op (ev_var rfl) ev_c rv_I0) (by congr 1; omega)) (by omega)) (rv_I m2)) fun H8 e8 => ⟨_, _, _, rfl, e.trans (e7.trans e8), g, mul_size hM c60 (by omega), fun r hr => h6 r (by rw [drop_cons hq]; exact List.mem_cons_of_mem _ hr), i20⟩
    · rintro σ' H' ⟨M, y, z, rfl, e, g, hM, h6, hi⟩
      rw [List.drop_length] at g
      have gM : M = gnum x left s t fresh := g
      rw [gM]
      have ha7 := e a _ ha
      have sa7 := ev_sumV (K := K) (ta := tVar 0) (σ := [some (.ref a), some (.int x), some (.ref b), some (.int (left : Int)), some (.int (fresh : Int)), some (.int (gnum x left s t fresh)), y, z]) (ns := iz s) (ev_var (i := 0) (v := .ref a) rfl) (sq_of ha7)
      rw [iz_sum] at sa7
      have rp := rise_pos (w := x + (s.sum : Int)) (by omega) left
      have rz := rise60 (x := x + (s.sum : Int)) (n := left) (by omega) (by omega) (by omega)
      exact s_retU (eu_call (ea_cons (ev_var rfl) (ea_cons (ev_call (ea_cons (ev_op (ev_var rfl) sa7 rv_I0) (ea_cons (ev_var rfl) ea_nil)) (sv_rise (by omega) (by omega))) ea_nil)) (su_fraction rp (lt2_mono rz (by decide)))) fun p H8 hp e8 h8 => k p H8 (fresh_back e hp) (e.trans e8) h8
theorem ok_mean_later (T : Tx K mg) : FnOk P w K mg base CX0 5 T.f_mean_later T.d_mean_later ["sizes", "weight", "number"] sp_mean_later := by
  refine T.F_mean_later.ok sc_mean_later (fun vs H Q E h => ?_) (fun cdv A outer s0 H vs Q E hr h => ?_)
  · obtain ⟨a, s, x, m, rfl, _⟩ := h
    rfl
  · obtain ⟨a, s, x, m, rfl, ha, o, hm, h1, h2, k⟩ := h
    refine ⟨_, (pss_cons (ps_expr (pe_call (ok_check_sizes T) (hr.mono (by decide)) (by rfl) T.g_check_sizes T.F_check_sizes.kp T.b_check_sizes .nil pass0 (pa_cons (pv 0) pa_nil)))
      (pss_cons (ps_expr (pe_call (ok_check_weight T) (hr.mono (by decide)) (by rfl) T.g_check_weight T.F_check_weight.kp T.b_check_weight .nil pass0 (pa_cons (pv 1) pa_nil)))
      (pss_cons (ps_expr (pe_call (ok_check_number T) (hr.mono (by decide)) (by rfl) T.g_check_number T.F_check_number.kp T.b_check_number .nil pass0 (pa_cons (pv 2) (pa_cons pe_int (pa_cons (pe_gc (by rfl) T.c_MOST_MORE) pa_nil)))))
      (pss_cons (ps_set (i := 3) sc_mean_later.nd rfl (Or.inr rfl) (pe_op op_add (pe_callB (cr_sum rfl) (by rfl) T.m_sum (by decide +kernel) (pa_cons (pv 0) pa_nil)) (pv 1)))
      (pss_one (ps_ret (pe_lc (own := [("size", 4)]) (g := (gName 4)) (tt := tYes) rfl sc_mean_later.nd (pi_list (pv 0)) (blkOk_by (own := [("size", 4)]) (N := n_mean_later) (sc := defScope s_mean_later) (by decide +kernel)) (fun _ _ _ _ _ => (pg_name (i := 4) sc_mean_later.nd rfl (Or.inl rfl))) (fun _ _ _ _ _ => pts_nil) (fun _ _ _ _ _ => (pe_call (ok_fraction T) (hr.mono (by decide)) (by rfl) T.g_fraction T.F_fraction.kp T.b_fraction .nil pass0 (pa_cons (pe_op op_mulX (pv 4) (pe_op op_add (pv 3) (pv 2))) (pa_cons (pv 3) pa_nil))))))))))), ?_⟩
    have l20 := o.len
    have s20 := o.2.2
    refine q_drop (ev_call (ea_cons (ev_var rfl) ea_nil) (sv_szs ha o)) fun H1 e1 => ?_
    refine q_drop (by walk_at "ev") fun H2 e2 => ?_
    refine q_drop (by walk_at "ev") fun H3 e3 => ?_
    have ha3 := e3 a _ (e2 a _ (e1 a _ ha))
    have sa := ev_sumV (K := K) (ta := tVar 0) (σ := start n_mean_later [.ref a, .int x, .int (m : Int)]) (ns := iz s) (ev_var (i := 0) (v := .ref a) rfl) (sq_of ha3)
    rw [iz_sum] at sa
    refine q_asg (v := .int ((s.sum : Int) + x)) (ev_op sa (ev_var rfl) rv_I0) fun H4 e4 => ?_
    have ha4 := e4 a _ ha3
    refine s_retLT (rs := s.map (meanF x s.sum m)) ?_ fun p ws H5 hp e5 h5 t5 => k p ws H5 (fresh_back (e1.trans (e2.trans (e3.trans e4))) hp) (e1.trans (e2.trans (e3.trans (e4.trans e5)))) h5 t5
    have g := elt_map (K := K) (te := tCall sp_fraction [] E0 (tCons (tOp (rI CMulX fun i j => .int (i * j)) (tVar 4) (tOp (rI0 fun i j => .int (i + j)) (tVar 3) (tVar 2))) (tCons (tVar 3) tNil))) (tl := tVar 0) (j := 4) (vs := [4]) (H := H4) (xs := nv s) (σ := [some (.ref a), some (.int x), some (.int (m : Int)), some (.int ((s.sum : Int) + x)), none]) (fun i => meanF x s.sum m (s.getD i 0)) (ev_var rfl) (sq_of ha4) (by rw [nv_len]; omega) (fun _ => rfl) fun i v H5 e5 hv => ?_
    · have e : (List.range (nv s).length).map (fun i => meanF x s.sum m (s.getD i 0)) = s.map (meanF x s.sum m) := by
        rw [nv_len]
        exact map_getD (meanF x s.sum m) s
      rw [e] at g
      exact g
    · rw [nv_eq, List.getElem?_map] at hv
      obtain ⟨z, hz, rfl⟩ := Option.map_eq_some_iff.mp hv
      have hz20 := mem_le_sum (List.mem_of_getElem? hz)
      have ez : s.getD i 0 = z := by
        rw [List.getD_eq_getElem?_getD, hz]
        rfl
      rw [ez]
      have mm : CMulX (z : Int) ((s.sum : Int) + x + m) := mulx_ok (a := 64) (b := 64) (by omega) (by omega) (by decide)
      exact eu_call (ea_cons (by walk_at "ev") (ea_cons (ev_var rfl) ea_nil)) (su_fraction (by omega) (by
        have : ((s.sum : Int) + x).natAbs < 2 ^ 64 := by omega
        exact lt2_mono this (by decide)))
end

local macro_rules | `(tactic| walk_at "call") => `(tactic| (with_reducible exact sv_whole))
local macro_rules | `(tactic| walk_at "call") => `(tactic| (with_reducible exact sv_between))
local macro_rules | `(tactic| walk_at "call") => `(tactic| ((with_reducible refine' sv_check1 ?c1 ?c2); (case c1 => walk_at "side"); (case c2 => walk_at "side")))
local macro_rules | `(tactic| walk_at "call") => `(tactic| ((with_reducible refine' sv_check_number ?c1 ?c2); (case c1 => walk_at "side"); (case c2 => walk_at "side")))
local macro_rules | `(tactic| walk_at "callU") => `(tactic| ((with_reducible refine' su_fraction ?c1 ?c2); (case c1 => walk_at "side"); (case c2 => walk_at "side")))
local macro_rules | `(tactic| walk_at "call") => `(tactic| ((with_reducible refine' sv_rise ?c1 ?c2); (case c1 => walk_at "side"); (case c2 => walk_at "side")))

/-! ### new_shares, the law's helpers -/
theorem s_appE {K : PySem.W.Frag} {σ : L2.St} {H : Hp} {ta te : TE} {D : Ends} {l : Addr} {xs : List V} (hl : H l = some (.lst xs)) (ha : Ev ta σ H (.ref l)) (k : ∀ H1, Ex H H1 → te σ H1 fun v H2 => rAppend (.ref l) [v] H2 fun _ H3 => D.nx σ H3) : tDrop (tBM K "list" rAppend ta (tCons te tNil)) D σ H :=
  ha H (Ex.refl H) _ fun H1 e1 => ⟨Or.inl ⟨rfl, xs, sq_of (e1 l _ hl)⟩, k H1 e1⟩
theorem given_at {n : Nat} (v : Nat → V) : given n (fun _ => true) v = (List.range n).map v := by
  unfold given
  rw [List.filter_eq_self.mpr fun _ _ => rfl]
/-- a call whose argument is a new list -/
theorem freshN_bd {x S : Int} (h0 : 1 ≤ x) (h1 : x ≤ 1000000000000) (s0 : 1 ≤ S) (s1 : S ≤ 100) {m r : Nat} (hm : m ≤ 60) (hr : r ≤ m) : 0 ≤ freshN x S m r ∧ (freshN x S m r).natAbs < 2 ^ 5300 := by
  have a := rise_pos s0 (m - r)
  have b := rise_pos h0 r
  refine ⟨Int.mul_nonneg (Int.mul_nonneg (by omega) (by omega)) (by omega), ?_⟩
  exact mul_size (mul_size (cho60 hm) (rise60 (x := S) (n := m - r) (by omega) (by omega) (by omega)) (Nat.le_refl _)) (rise60 (x := x) (n := r) (by omega) (by omega) (by omega)) (by decide)
theorem frw_bd {x S : Int} (h0 : 1 ≤ x) (h1 : x ≤ 1000000000000) (s0 : 1 ≤ S) (s1 : S ≤ 100) {m : Nat} (hm : m ≤ 60) : ∀ z ∈ frw x S m, 0 ≤ z ∧ z.natAbs < 2 ^ 5300 := fun z hz => by
  obtain ⟨i, hi⟩ := List.mem_iff_getElem?.mp hz
  have il := (List.getElem?_eq_some_iff.mp hi).1
  rw [frw_len] at il
  have e := frw_get x S m i (by omega)
  rw [List.getD_eq_getElem?_getD, hi] at e
  have e : z = freshN x S m i := e
  rw [e]
  exact freshN_bd h0 h1 s0 s1 hm (by omega)
def sp_choose : Sp := fun vs H Q _ => ∃ n k : Nat, vs = [.int (n : Int), .int (k : Int)] ∧ n ≤ 60 ∧ k ≤ n ∧ RetV (.int (cho n k : Int)) H Q
theorem sv_choose {H : Hp} {n k : Nat} (h : n ≤ 60) (h2 : k ≤ n) : SpV sp_choose ([.int (n : Int), .int (k : Int)] ++ []) H (.int (cho n k : Int)) := fun H1 _ Q q E => ⟨n, k, rfl, h, h2, q⟩
def sp_law_fresh : Sp := fun vs H Q _ => ∃ (x : Int) (S m : Nat), vs = [.int x, .int (S : Int), .int (m : Int)] ∧ m ≤ 40 ∧ 1 ≤ S ∧ S ≤ 20 ∧ 1 ≤ x ∧ x ≤ 1000000000000 ∧ RetL ((frw x S m).map V.int) H Q
theorem sl_fresh {H : Hp} {x : Int} {S m : Nat} (h0 : m ≤ 40) (h1 : 1 ≤ S) (h2 : S ≤ 20) (h3 : 1 ≤ x) (h4 : x ≤ 1000000000000) : SpL sp_law_fresh ([.int x, .int (S : Int), .int (m : Int)] ++ []) H ((frw x S m).map V.int) := fun H1 _ Q q E => ⟨x, S, m, rfl, h0, h1, h2, h3, h4, q⟩
def sp_law_share : Sp := fun vs H Q _ => ∃ (a b : Addr) (s t : List Nat) (x : Int) (left : Nat), vs = [.int x, .ref a, .ref b] ∧ H a = some (.lst (nv s)) ∧ H b = some (.lst (nv t)) ∧ Sz s ∧ Up s t ∧ t.sum ≤ 60 ∧ t.sum = s.sum + left ∧ 1 ≤ x ∧ x ≤ 1000000000000 ∧
  RetU (frac (gnum x left s t (t.getLast?.getD 0)) (rise (x + (s.sum : Int)) left)) H Q
theorem su_law_share {H : Hp} {a b : Addr} {s t : List Nat} {x : Int} {left : Nat} (ha : H a = some (.lst (nv s))) (hb : H b = some (.lst (nv t))) (o : Sz s) (u : Up s t) (h60 : t.sum ≤ 60) (hl : t.sum = s.sum + left) (h1 : 1 ≤ x) (h2 : x ≤ 1000000000000) : SpU sp_law_share ([.int x, .ref a, .ref b] ++ []) H (frac (gnum x left s t (t.getLast?.getD 0)) (rise (x + (s.sum : Int)) left)) := fun H1 e Q q E => ⟨a, b, s, t, x, left, rfl, e a _ ha, e b _ hb, o, u, h60, hl, h1, h2, q⟩
def sp_law_wide : Sp := fun vs H Q _ => ∃ (p : Addr) (n : Nat), vs = [.ref p] ∧ Po p n H ∧ n + 100 < 1000000000 ∧ ∀ l s H', H l = none → H' l = some (.lst (nv s)) → Sz s → Po p (n + 22) H' → Ex (Hm p H) H' → Q (.ref l) H'
theorem frac_eq {a b c d : Int} (hb : 0 < b) (hd : 0 < d) (h : a * d = c * b) : frac a b = frac c d := by
  obtain ⟨x, y⟩ := quo_eq hb hd h
  unfold frac
  rw [x, y]
theorem cd_self {a : Int} (h : 0 < a) : cd a a = a := by
  unfold cd
  rw [Nat.gcd_self]
  omega
section
variable {K : PySem.W.Frag} {σ : L2.St} {H0 H : Hp} {p : Addr} {k k1 k2 : Nat} {te ta tb : TE} {R : V → Hp → Prop} {D : Ends} {tu tz : TS}
/-- x, y = a draw, a value -/
theorem pq_tupV {n i j : Nat} {y : V} (h : EvP p k ta σ H0 R) (st : Stb p R) (e : Ex H0 H) (hp : Po p n H) (hn : n + k ≤ 1000000000) (hb : ∀ H1, Ex (Hm p H) H1 → Ev tb σ H1 y) (q : ∀ v H2, R v H2 → Po p (n + k) H2 → Ex (Hm p H) H2 → tz D ((σ.set i (some v)).set j (some y)) H2) :
    tSeq (tAsg (tTup (tCons ta (tCons tb tNil))) (gTup K 2 (gCons (gName i) (gCons (gName j) gNil)))) tz D σ H := h n H e hp hn _ fun v H2 hv p2 e2 => hb H2 e2 H2 (Ex.refl _) _ fun H3 e3 =>
  ⟨sz_of (by show 2 ≤ 100000; decide), fun t ht => ⟨t, [v, y], rfl, st_of upd_same, rfl, v, [y], rfl, y, [], rfl, rfl, q v _ (st v H2 _ hv (hm_of (e3.trans (Ex.new ht)))) (p2.ex (e3.trans (Ex.new ht))) (hm_trans e2 (hm_of (e3.trans (Ex.new ht))))⟩⟩
/-- x, y = a list of draws -/
theorem p_app {n : Nat} {l : Addr} {xs : List V} {A : V → Prop} (hl : H l = some (.lst xs)) (lp : l ≠ p) (ha : Ev ta σ H (.ref l)) (h : EvP p k te σ H0 (fun v _ => A v)) (e : Ex H0 H) (hp : Po p n H) (hn : n + k ≤ 1000000000) (hz : xs.length < 100000)
    (q : ∀ v H2, A v → Po p (n + k) H2 → Ex (Hm p H) H2 → H2 l = some (.lst xs) → D.nx σ (upd H2 l (.lst (xs ++ [v])))) : tDrop (tBM K "list" rAppend ta (tCons te tNil)) D σ H :=
  s_appE hl ha fun H1 e1 => h n H1 (e.trans e1) (hp.ex e1) hn _ fun v H2 hv p2 e2 => by
    have h2 := hm_at e2 lp (e1 l _ hl)
    exact ⟨l, xs, v, rfl, rfl, h2, sz_lt hz, q v H2 hv p2 (hm_trans (hm_of e1) e2) h2⟩
theorem pq_app {n : Nat} {l : Addr} {xs : List V} {A : V → Prop} (hl : H l = some (.lst xs)) (lp : l ≠ p) (ha : Ev ta σ H (.ref l)) (h : EvP p k te σ H0 (fun v _ => A v)) (e : Ex H0 H) (hp : Po p n H) (hn : n + k ≤ 1000000000) (hz : xs.length < 100000)
    (q : ∀ v H2, A v → Po p (n + k) H2 → Ex (Hm p H) H2 → H2 l = some (.lst xs) → tz D σ (upd H2 l (.lst (xs ++ [v])))) : tSeq (tDrop (tBM K "list" rAppend ta (tCons te tNil))) tz D σ H := p_app (D := { D with nx := tz D }) hl lp ha h e hp hn hz q
end
theorem Po.upd {p l : Addr} {n : Nat} {H : Hp} {o : HO} (h : Po p n H) (ne : l ≠ p) : Po p n (upd H l o) := by
  obtain ⟨a, b, c, h1, h2⟩ := h
  exact ⟨a, b, c, by rw [upd_ne (Ne.symm ne)]; exact h1, h2⟩
section
variable {P : Program} {w : World} {K : PySem.W.Frag} {mg : Str → Option Value} {base : Heap}
theorem ok_law_choose (T : Tx K mg) : FnOk P w K mg base CX0 1 T.f_law_choose T.d_law_choose ["many_here", "few"] sp_choose := by
  refine T.F_law_choose.ok sc_law_choose (fun vs H Q E h => ?_) (fun cdv A outer s H vs Q E hr h => ?_)
  · obtain ⟨n, c, rfl, _⟩ := h
    rfl
  · obtain ⟨n, c, rfl, hn, hc, k⟩ := h
    refine ⟨_, (pss_cons (ps_set (i := 2) sc_law_choose.nd rfl (Or.inl rfl) pe_int)
      (pss_cons (ps_for PassesOwn.never rfl (pi_range1 (by rfl) T.m_range (pa_cons (pv 1) pa_nil)) (pg_name (i := 3) sc_law_choose.nd rfl (Or.inl rfl)) (pss_one (ps_set (i := 2) sc_law_choose.nd rfl (Or.inl rfl) (pe_op op_fdivW (pe_op op_mulX (pv 2) (pe_op op_sub (pv 0) (pv 3))) (pe_op op_add (pv 3) pe_int)))))
      (pss_one (ps_ret (pv 2))))), ?_⟩
    refine q_asg ev_c fun H1 e1 => ?_
    refine q_forR1 (n := (c : Int)) (by walk_at "ea") ⟨by omega, by omega⟩ (fun i σ' H' => ∃ y, σ' = [some (.int n), some (.int c), some (.int (cho n i : Int)), y] ∧ Ex H H') (fun H2 e2 => ⟨none, by rw [cho_zero]; rfl, e1.trans e2⟩) ?_ ?_
    · rintro i σ' H' hi ⟨y, rfl, e⟩
      have c60 := cho60 (n := n) (k := i) hn
      have m1 : CMulX ((cho n i : Nat) : Int) ((n : Int) - (i : Int)) := mulx_ok (a := 61) (b := 64) c60 (by omega) (by decide)
      have d1 : CDivW (((cho n i : Nat) : Int) * ((n : Int) - (i : Int))) ((i : Int) + 1) := divw_ok (by omega) (by omega)
      refine s_asg (ev_is (ev_op (ev_op (ev_var rfl) (ev_op (ev_var rfl) (ev_var rfl) rv_I0) (rv_I m1)) (ev_op (ev_var rfl) ev_c rv_I0) (rv_I d1)) ?_) fun H2 e2 => ⟨_, rfl, e.trans e2⟩
      have a := cho_next n i
      have b : ((cho n i : Nat) : Int) * ((n : Int) - (i : Int)) = ((cho n (i + 1) : Nat) : Int) * ((i : Int) + 1) := by
        rw [show (n : Int) - (i : Int) = ((n - i : Nat) : Int) by omega, show (i : Int) + 1 = ((i + 1 : Nat) : Int) by omega, ← Int.natCast_mul, ← a, Int.natCast_mul]
      rw [b]
      congr 1
      exact Int.mul_ediv_cancel _ (by omega)
    · rintro σ' H' ⟨y, rfl, e⟩
      exact s_ret (by walk_at "ev") fun H2 e2 => k _ (e.trans e2)
theorem ok_law_fresh (T : Tx K mg) : FnOk P w K mg base CX0 1 T.f_law_fresh T.d_law_fresh ["heavy", "here", "many_more"] sp_law_fresh := by
  refine T.F_law_fresh.ok sc_law_fresh (fun vs H Q E h => ?_) (fun cdv A outer s H vs Q E hr h => ?_)
  · obtain ⟨x, S, m, rfl, _⟩ := h
    rfl
  · obtain ⟨x, S, m, rfl, hm, hs1, hs2, h1, h2, k⟩ := h
    refine ⟨_, (pss_cons (ps_set (i := 3) sc_law_fresh.nd rfl (Or.inl rfl) (pe_lst (pa_cons pe_int pa_nil)))
      (pss_cons (ps_for PassesOwn.never rfl (pi_range1 (by rfl) T.m_range (pa_cons (pv 2) pa_nil)) (pg_name (i := 4) sc_law_fresh.nd rfl (Or.inr rfl)) (pss_cons (ps_set (i := 7) sc_law_fresh.nd rfl (Or.inl rfl) (pe_op op_cat (pe_lc (own := [("place", 5), ("part", 6)]) (g := (gTup _ 2 (gCons (gName 5) (gCons (gName 6) gNil)))) (tt := tYes) rfl sc_law_fresh.nd (pi_enum (by rfl) T.m_enumerate (pa_cons (pv 3) pa_nil)) (blkOk_by (own := [("place", 5), ("part", 6)]) (N := n_law_fresh) (sc := defScope s_law_fresh) (by decide +kernel)) (fun _ _ _ _ _ => (pg_tup rfl (pgs_cons (pg_name (i := 5) sc_law_fresh.nd rfl (Or.inl rfl)) (pgs_cons (pg_name (i := 6) sc_law_fresh.nd rfl (Or.inl rfl)) pgs_nil)))) (fun _ _ _ _ _ => pts_nil) (fun _ _ _ _ _ => (pe_op op_mulX (pv 6) (pe_op op_sub (pe_op op_add (pv 1) (pv 4)) (pv 5))))) (pe_lst (pa_cons pe_int pa_nil))))
      (pss_cons (ps_set (i := 8) sc_law_fresh.nd rfl (Or.inl rfl) (pe_op op_cat (pe_lst (pa_cons pe_int pa_nil)) (pe_lc (own := [("place", 5), ("part", 6)]) (g := (gTup _ 2 (gCons (gName 5) (gCons (gName 6) gNil)))) (tt := tYes) rfl sc_law_fresh.nd (pi_enum (by rfl) T.m_enumerate (pa_cons (pv 3) pa_nil)) (blkOk_by (own := [("place", 5), ("part", 6)]) (N := n_law_fresh) (sc := defScope s_law_fresh) (by decide +kernel)) (fun _ _ _ _ _ => (pg_tup rfl (pgs_cons (pg_name (i := 5) sc_law_fresh.nd rfl (Or.inl rfl)) (pgs_cons (pg_name (i := 6) sc_law_fresh.nd rfl (Or.inl rfl)) pgs_nil)))) (fun _ _ _ _ _ => pts_nil) (fun _ _ _ _ _ => (pe_op op_mulX (pv 6) (pe_op op_add (pv 0) (pv 5)))))))
      (pss_one (ps_setLc (i := 3) (own := [("one", 9), ("two", 10)]) (g := (gTup _ 2 (gCons (gName 9) (gCons (gName 10) gNil)))) (tt := tYes) rfl sc_law_fresh.nd rfl rfl (sw_true rfl rfl rfl (by decide +kernel)) (pi_zip (by rfl) T.m_zip (pa_cons (pv 7) (pa_cons (pv 8) pa_nil))) (blkOk_by (own := [("one", 9), ("two", 10)]) (N := n_law_fresh) (sc := defScope s_law_fresh) (by decide +kernel)) (fun _ _ _ _ _ => (pg_tup rfl (pgs_cons (pg_name (i := 9) sc_law_fresh.nd rfl (Or.inl rfl)) (pgs_cons (pg_name (i := 10) sc_law_fresh.nd rfl (Or.inl rfl)) pgs_nil)))) (fun _ _ _ _ _ => pts_nil) (fun _ _ _ _ _ => (pe_op op_add (pv 9) (pv 10))))))))
      (pss_one (ps_ret (pv 3))))), ?_⟩
    refine q_asgL (xs := [.int 1]) (el_lst (ea_cons ev_c ea_nil) (Nat.le_of_ble_eq_true rfl)) fun p H1 hp e1 hp1 => ?_
    refine q_forR1 (n := (m : Int)) (by walk_at "ea") ⟨by omega, by omega⟩ (fun i σ' H' => ∃ q y z u, σ' = [some (.int x), some (.int (S : Int)), some (.int (m : Int)), some (.ref q), y, none, none, z, u, none, none] ∧ H q = none ∧ Ex H H' ∧ H' q = some (.lst ((frw x S i).map V.int))) (fun H2 e2 => ⟨p, none, none, none, rfl, hp, e1.trans e2, e2 p _ hp1⟩) ?_ ?_
    · rintro i σ' H' hi ⟨q, y, z, u, rfl, hq, e, hl⟩
      have bd := frw_bd (x := x) (S := (S : Int)) h1 h2 (by omega) (by omega) (m := i) (by omega)
      have fl := frw_len x (S : Int) i
      have item : ∀ (n : Nat) (v : V), ((frw x S i).map V.int)[n]? = some v → v = .int ((frw x S i).getD n 0) ∧ ((frw x S i).getD n 0).natAbs < 2 ^ 5300 ∧ n < i + 1 := fun n v hv => by
        rw [List.getElem?_map] at hv
        obtain ⟨c, hc, rfl⟩ := Option.map_eq_some_iff.mp hv
        have : (frw x S i).getD n 0 = c := by
          rw [List.getD_eq_getElem?_getD, hc]
          rfl
        rw [this]
        refine ⟨rfl, (bd c (List.mem_of_getElem? hc)).2, ?_⟩
        have := (List.getElem?_eq_some_iff.mp hc).1
        omega
      have given_i : ∀ (f : Nat → Int), given ((frw x S i).map V.int).length (fun _ => true) (fun n => V.int (f n)) = ((List.range (frw x S i).length).map f).map V.int := fun f => by
        rw [given_at, List.length_map, List.map_map]
        rfl
      refine q_asgL (xs := ((List.range (frw x S i).length).map (fun p : Nat => (frw x S i).getD p 0 * ((S : Int) + i - p)) ++ [0]).map V.int) ?_ fun a H3 na e3 ha3 => ?_
      · rw [List.map_append]
        refine el_cat ?_ (el_lst (ea_cons ev_c ea_nil) (Nat.le_of_ble_eq_true rfl)) (by simp [fl]; omega)
        rw [← given_i]
        refine el_en (fun _ => true) _ (ea_cons (ev_var rfl) ea_nil) (sq_of hl) (by simp [fl]; omega) (fun _ _ => rfl) (fun n v H3 e3 hv => et_yes) fun n v H3 e3 hv _ => ?_
        obtain ⟨rfl, hb, hn⟩ := item n v hv
        have mm : CMulX ((frw x S i).getD n 0) ((S : Int) + i - n) := mulx_ok (a := 5300) (b := 64) hb (by omega) (by decide)
        exact by walk_at "ev"
      have hl3 := e3 q _ hl
      refine q_asgL (xs := ([0] ++ (List.range (frw x S i).length).map (fun p : Nat => (frw x S i).getD p 0 * (x + p))).map V.int) ?_ fun b H4 nb e4 hb4 => ?_
      · rw [List.map_append]
        refine el_cat (el_lst (ea_cons ev_c ea_nil) (Nat.le_of_ble_eq_true rfl)) ?_ (by simp [fl]; omega)
        rw [← given_i]
        refine el_en (fun _ => true) _ (ea_cons (ev_var rfl) ea_nil) (sq_of hl3) (by simp [fl]; omega) (fun _ _ => rfl) (fun n v H4 e4 hv => et_yes) fun n v H4 e4 hv _ => ?_
        obtain ⟨rfl, hb, hn⟩ := item n v hv
        have mm : CMulX ((frw x S i).getD n 0) (x + n) := mulx_ok (a := 5300) (b := 64) hb (by omega) (by decide)
        exact by walk_at "ev"
      have ha4 := e4 a _ ha3
      have zs : ∀ as bs : List Int, List.zipWith (fun v w : V => match v, w with | .int i, .int j => V.int (i + j) | v, _ => v) (as.map V.int) (bs.map V.int) = (List.zipWith (· + ·) as bs).map V.int := fun as bs => by
        rw [List.map_zipWith, List.zipWith_map]
      refine s_asgL (xs := (frw x S (i + 1)).map V.int) ?_ fun c H5 nc e5 hc5 => ⟨c, _, _, _, rfl, fresh_back (e.trans (e3.trans e4)) nc, e.trans (e3.trans (e4.trans e5)), hc5⟩
      have es : (frw x S (i + 1)).map V.int = List.zipWith (fun v w : V => match v, w with | .int i, .int j => V.int (i + j) | v, _ => v) (((List.range (frw x S i).length).map (fun p : Nat => (frw x S i).getD p 0 * ((S : Int) + i - p)) ++ [0]).map V.int) (([0] ++ (List.range (frw x S i).length).map (fun p : Nat => (frw x S i).getD p 0 * (x + p))).map V.int) := by
        rw [zs]
        rfl
      rw [es]
      refine el_zip (K := K) _ (ea_cons (ev_var rfl) (ea_cons (ev_var rfl) ea_nil)) (sq_of ha4) (sq_of hb4) (by simp) (by simp [fl]; omega) (fun _ _ => rfl) fun n v v2 H5 e5 hv hv2 => ?_
      rw [List.getElem?_map] at hv hv2
      obtain ⟨c, hc, rfl⟩ := Option.map_eq_some_iff.mp hv
      obtain ⟨d, hd, rfl⟩ := Option.map_eq_some_iff.mp hv2
      exact by walk_at "ev"
    · rintro σ' H' ⟨q, y, z, u, rfl, hq, e, hl⟩
      exact s_ret (ev_var rfl) fun H2 e2 => k q H2 hq (e.trans e2) (e2 q _ hl)
end

local macro_rules | `(tactic| walk_at "call") => `(tactic| (with_reducible exact sv_whole))
local macro_rules | `(tactic| walk_at "call") => `(tactic| (with_reducible exact sv_between))
local macro_rules | `(tactic| walk_at "call") => `(tactic| ((with_reducible refine' sv_check1 ?c1 ?c2); (case c1 => walk_at "side"); (case c2 => walk_at "side")))
local macro_rules | `(tactic| walk_at "call") => `(tactic| ((with_reducible refine' sv_check_number ?c1 ?c2); (case c1 => walk_at "side"); (case c2 => walk_at "side")))
local macro_rules | `(tactic| walk_at "callU") => `(tactic| ((with_reducible refine' su_fraction ?c1 ?c2); (case c1 => walk_at "side"); (case c2 => walk_at "side")))
local macro_rules | `(tactic| walk_at "call") => `(tactic| ((with_reducible refine' sv_rise ?c1 ?c2); (case c1 => walk_at "side"); (case c2 => walk_at "side")))

/-! ### drawn lists -/
def EvPA (p : Addr) (k : Nat) (ta : TA) (σ : L2.St) (H0 : Hp) (C : List V → Prop) : Prop := ∀ n H1, Ex H0 H1 → Po p n H1 → n + k ≤ 1000000000 →
  ∀ Q : List V → Hp → Prop, (∀ vs H2, C vs → Po p (n + k) H2 → Ex (Hm p H1) H2 → Q vs H2) → ta σ H1 Q
section
variable {K : PySem.W.Frag} {σ : L2.St} {H0 H : Hp} {p : Addr} {k k1 k2 : Nat} {te ta tb : TE} {R Ra Rb : V → Hp → Prop} {tr : TA} {A : V → Prop} {B C : List V → Prop}
theorem epa_nil : EvPA p 0 tNil σ H0 (fun vs => vs = []) := fun n H1 e hp _ Q q => q [] H1 rfl hp (hm_of (Ex.refl _))
theorem epa_cons (h0 : H0 p = none) (h : EvP p k1 te σ H0 (fun v _ => A v)) (hr : EvPA p k2 tr σ H0 B) : EvPA p (k1 + k2) (tCons te tr) σ H0 (fun vs => ∃ v r, vs = v :: r ∧ A v ∧ B r) := fun n H1 e hp hn Q q =>
  h n H1 e hp (by omega) _ fun v H2 hv p2 e2 => hr (n + k1) H2 (hm_next h0 e e2) p2 (by omega) _ fun vs H3 hvs p3 e3 => q (v :: vs) H3 ⟨v, vs, rfl, hv, hvs⟩ (by rw [← Nat.add_assoc]; exact p3) (hm_trans e2 e3)
theorem epa_pure {v : V} (h0 : H0 p = none) (h : Ev te σ H0 v) (hr : EvPA p k2 tr σ H0 B) : EvPA p (0 + k2) (tCons te tr) σ H0 (fun vs => ∃ x r, vs = x :: r ∧ x = v ∧ B r) := epa_cons (A := fun x => x = v) h0 (ep_ev h) hr
theorem ep_lst (h : EvPA p k tr σ H0 C) (hs : ∀ vs, C vs → vs.length ≤ 100000) : EvP p k (tLst tr) σ H0 (fun x H => ∃ l vs, l ≠ p ∧ x = .ref l ∧ H l = some (.lst vs) ∧ C vs) := fun n H1 e hp hn Q q =>
  h n H1 e hp hn _ fun vs H2 c p2 e2 => ⟨sz_of (hs vs c), fun l hl => q _ _ ⟨l, vs, p2.ne hl, rfl, upd_same, c⟩ (p2.ex (Ex.new hl)) (hm_trans e2 (hm_of (Ex.new hl)))⟩
theorem stb_lst : Stb p (fun x H => ∃ l vs, l ≠ p ∧ x = .ref l ∧ H l = some (.lst vs) ∧ C vs) := fun v H H' ⟨l, vs, ne, e, h, c⟩ s => ⟨l, vs, ne, e, hm_at s ne h, c⟩
theorem ep_ix (h0 : H0 p = none) {ix : V → Prop} (ha : EvP p k1 (tLst tr) σ H0 (fun x H => ∃ l vs, l ≠ p ∧ x = .ref l ∧ H l = some (.lst vs) ∧ C vs)) (hb : EvP p k2 tb σ H0 (fun v _ => ix v)) (hat : ∀ vs v, C vs → ix v → ∃ i z, v = .int i ∧ atI vs i = some z ∧ A z) :
    EvP p (k1 + k2) (tOp (rIxL K) (tLst tr) tb) σ H0 (fun v _ => A v) := ep_op h0 ha hb stb_lst stb_c fun x y H hx hy => by
  obtain ⟨l, vs, ne, rfl, hl, c⟩ := hx
  obtain ⟨i, z, rfl, hz, az⟩ := hat vs y c hy
  exact ⟨z, az, rv_ixL (sq_of hl) hz⟩
theorem ep_isZ (h0 : H0 p = none) (h : EvP p k te σ H0 (fun v _ => ∃ r, v = .int r ∧ 0 ≤ r)) : EvP p (k + 0) (tCB rIntB (tCons (tOp rEq te (tC (.int 0))) tNil)) σ H0 (fun v _ => v = .int 0 ∨ v = .int 1) := fun n H1 e hp hn Q q =>
  (ep_op (k1 := k) (k2 := 0) (R := fun v _ => ∃ b, v = .bl b) h0 h (ep_ev (v := .int 0) ev_c) stb_c stb_c fun x y H ⟨r, e1, _⟩ e2 => ⟨.bl (decide (x = y)), ⟨_, rfl⟩, by
    subst e1
    subst e2
    exact rv_eq rfl⟩) n H1 e hp hn _ fun v H2 ⟨b, hb⟩ p2 e2 => ⟨b, by rw [hb], q _ H2 (by cases b <;> simp) p2 e2⟩
theorem pq_parL {n i j : Nat} {D : Ends} {tz : TS} {ys : List V} (h : EvP p k ta σ H0 R) (e : Ex H0 H) (hp : Po p n H) (hn : n + k ≤ 1000000000) (hb : ∀ H1, EvL tb σ H1 ys) (q : ∀ v l H2 H3, R v H2 → H2 l = none → Ex H2 H3 → H3 l = some (.lst ys) → Po p (n + k) H3 → Ex (Hm p H) H2 → tz D ((σ.set i (some v)).set j (some (.ref l))) H3) :
    tSeq (tPar i j (tCons ta (tCons tb tNil))) tz D σ H := h n H e hp hn _ fun v H2 hv p2 e2 => hb H2 H2 (Ex.refl _) _ fun l H3 hl e3 h3 => ⟨_, _, rfl, q v l H2 H3 hv hl e3 h3 (p2.ex e3) e2⟩
end

/-! ### the law's share, its sizes; new_shares -/
theorem frac_pos {a b : Int} (ha : 0 ≤ a) (hb : 0 < b) : 0 ≤ a / cd a b ∧ 0 < b / cd a b ∧ a / cd a b ≤ a ∧ b / cd a b ≤ b := by
  have g := cd_pos (a := a) hb
  have l := cd_le (a := a) hb
  have e := Int.ediv_mul_cancel (cd_dvd2 (a := a) (b := b))
  refine ⟨Int.ediv_nonneg ha (by omega), ?_, Int.ediv_le_self _ ha, Int.ediv_le_self _ (by omega)⟩
  have z : 0 ≤ b / cd a b := Int.ediv_nonneg (by omega) (by omega)
  rcases Int.lt_or_eq_of_le z with h | h
  · exact h
  · rw [← h] at e
    simp at e
    omega
theorem drop_sum : ∀ (s : List Nat) (i : Nat), (s.drop i).sum ≤ s.sum
  | [], i => by rw [List.drop_nil]; exact Nat.le_refl _
  | x :: r, 0 => Nat.le_refl _
  | x :: r, i + 1 => by
    have := drop_sum r i
    rw [List.drop_succ_cons, List.sum_cons]
    omega
section
variable {P : Program} {w : World} {K : PySem.W.Frag} {mg : Str → Option Value} {base : Heap}
theorem ok_law_share (T : Tx K mg) : FnOk P w K mg base CX0 2 T.f_law_share T.d_law_share ["heavy", "wide", "late"] sp_law_share := by
  refine T.F_law_share.ok sc_law_share (fun vs H Q E h => ?_) (fun cdv A outer s0 H vs Q E hr h => ?_)
  · obtain ⟨a, b, s, t, x, left, rfl, _⟩ := h
    rfl
  · obtain ⟨a, b, s, t, x, left, rfl, ha, hb, o, u, h60, hl, h1, h2, k⟩ := h
    refine ⟨_, (pss_cons (ps_par (i := 3) (j := 4) (by rfl) sc_law_share.nd rfl rfl (by decide) rfl rfl (pa_cons (pe_op op_add (pv 0) (pe_callB (cr_sum rfl) (by rfl) T.m_sum (by decide +kernel) (pa_cons (pv 1) pa_nil))) (pa_cons (pe_op op_sub (pe_callB (cr_sum rfl) (by rfl) T.m_sum (by decide +kernel) (pa_cons (pv 2) pa_nil)) (pe_callB (cr_sum rfl) (by rfl) T.m_sum (by decide +kernel) (pa_cons (pv 1) pa_nil))) pa_nil)) (by rfl))
      (pss_cons (ps_asg (pe_tup (pa_cons pe_int (pa_cons pe_int pa_nil))) (pg_tup rfl (pgs_cons (pg_name (i := 5) sc_law_share.nd rfl (Or.inl rfl)) (pgs_cons (pg_name (i := 6) sc_law_share.nd rfl (Or.inl rfl)) pgs_nil))))
      (pss_cons (ps_for PassesOwn.never rfl (pi_zip (by rfl) T.m_zip (pa_cons (pv 1) (pa_cons (pv 2) pa_nil))) (pg_tup rfl (pgs_cons (pg_name (i := 7) sc_law_share.nd rfl (Or.inl rfl)) (pgs_cons (pg_name (i := 8) sc_law_share.nd rfl (Or.inl rfl)) pgs_nil))) (pss_cons (ps_par (i := 9) (j := 3) (by rfl) sc_law_share.nd rfl rfl (by decide) rfl rfl (pa_cons (pe_op op_sub (pv 8) (pv 7)) (pa_cons (pe_op op_sub (pv 3) (pv 7)) pa_nil)) (by rfl))
      (pss_cons (ps_set (i := 5) sc_law_share.nd rfl (Or.inl rfl) (pe_op op_mulX (pe_op op_mulX (pe_op op_mulX (pv 5) (pe_call (ok_law_choose T) (hr.mono (by decide)) (by rfl) T.g_law_choose T.F_law_choose.kp T.b_law_choose .nil pass0 (pa_cons (pv 4) (pa_cons (pv 9) pa_nil)))) (pe_call (ok_law_rising T) (hr.mono (by decide)) (by rfl) T.g_law_rising T.F_law_rising.kp T.b_law_rising .nil pass0 (pa_cons (pv 7) (pa_cons (pv 9) pa_nil)))) (pe_call (ok_law_rising T) (hr.mono (by decide)) (by rfl) T.g_law_rising T.F_law_rising.kp T.b_law_rising .nil pass0 (pa_cons (pv 3) (pa_cons (pe_op op_sub (pv 4) (pv 9)) pa_nil)))))
      (pss_cons (ps_set (i := 6) sc_law_share.nd rfl (Or.inl rfl) (pe_op op_mulX (pv 6) (pe_call (ok_law_rising T) (hr.mono (by decide)) (by rfl) T.g_law_rising T.F_law_rising.kp T.b_law_rising .nil pass0 (pa_cons (pe_op op_add (pv 7) (pv 3)) (pa_cons (pv 4) pa_nil)))))
      (pss_cons (ps_asg (pe_call (ok_law_lowest T) (hr.mono (by decide)) (by rfl) T.g_law_lowest T.F_law_lowest.kp T.b_law_lowest .nil pass0 (pa_cons (pv 5) (pa_cons (pv 6) pa_nil))) (pg_tup rfl (pgs_cons (pg_name (i := 5) sc_law_share.nd rfl (Or.inl rfl)) (pgs_cons (pg_name (i := 6) sc_law_share.nd rfl (Or.inl rfl)) pgs_nil))))
      (pss_one (ps_set (i := 4) sc_law_share.nd rfl (Or.inl rfl) (pe_op op_sub (pv 4) (pv 9)))))))))
      (pss_one (ps_ret (pe_tup (pa_cons (pv 5) (pa_cons (pv 6) pa_nil)))))))), ?_⟩
    have G := u.grow o.2.1 hl
    have fl := G.le
    have l20 := o.len
    have ul := u.len
    have s20 := o.2.2
    have gn := gtop_gnum (x := x) G
    generalize hfr : t.getLast?.getD 0 = fresh at *
    have R0p := rise_pos (w := x + (s.sum : Int)) (by omega) left
    have R0b := rise60 (x := x + (s.sum : Int)) (n := left) (by omega) (by omega) (by omega)
    generalize hR : rise (x + (s.sum : Int)) left = R0 at *
    have sa := ev_sumV (K := K) (ta := tVar 1) (σ := start n_law_share [.int x, .ref a, .ref b]) (ns := iz s) (ev_var (i := 1) (v := .ref a) rfl) (sq_of ha)
    have sb := ev_sumV (K := K) (ta := tVar 2) (σ := start n_law_share [.int x, .ref a, .ref b]) (ns := iz t) (ev_var (i := 2) (v := .ref b) rfl) (sq_of hb)
    rw [iz_sum] at sa sb
    refine q_par (ea_cons (ev_op (ev_var rfl) sa rv_I0) (ea_cons (ev_is (v := V.int ((t.sum : Int) - (s.sum : Int))) (w := V.int (left : Int)) (ev_op sb sa rv_I0) (by congr 1; omega)) ea_nil)) fun H1 e1 => ?_
    refine q_tup2U (K := K) (eu_tup (ea_cons ev_c (ea_cons ev_c ea_nil)) (Nat.le_of_ble_eq_true rfl)) fun H2 e2 => ?_
    have ha2 := e2 a _ (e1 a _ ha)
    have hb2 := e2 b _ (e1 b _ hb)
    have hs := nv_len s
    have ht := nv_len t
    refine q_forZip (n := s.length) (ea_cons (ev_var rfl) (ea_cons (ev_var rfl) ea_nil)) (sq_of ha2) (sq_of hb2) (by omega)
      (fun i σ' H' => ∃ (M : Int) (lf : Nat) (y z v : Option V), σ' = [some (.int x), some (.ref a), some (.ref b), some (.int (x + ((s.drop i).sum : Int))), some (.int (lf : Int)), some (.int (M * rise (x + ((s.drop i).sum : Int)) lf / cd (M * rise (x + ((s.drop i).sum : Int)) lf) R0)), some (.int (R0 / cd (M * rise (x + ((s.drop i).sum : Int)) lf) R0)), y, z, v] ∧ Ex H H' ∧ gtop M lf (s.drop i) (t.drop i) = gtop 1 left s t ∧ Grow lf (s.drop i) (t.drop i) fresh ∧ 0 ≤ M ∧ M.natAbs < 2 ^ (1 + 2700 * i) ∧ lf ≤ 60 ∧ i ≤ s.length)
      (fun H7 e7 => ⟨1, left, none, none, none, by
        show _ = ([some (.int x), some (.ref a), some (.ref b), some (.int (x + (s.sum : Int))), some (.int (left : Int)), some (.int (1 * rise (x + (s.sum : Int)) left / cd (1 * rise (x + (s.sum : Int)) left) R0)), some (.int (R0 / cd (1 * rise (x + (s.sum : Int)) left) R0)), none, none, none] : L2.St)
        rw [Int.one_mul, hR, cd_self R0p, Int.ediv_self (by omega)]
        rfl, e1.trans (e2.trans e7), rfl, G, by decide, by decide, by omega, Nat.zero_le _⟩) (fun i σ' H' hi ⟨M, lf, y, z, v, _, e, _⟩ => ⟨sq_of (e a _ ha), sq_of (e b _ hb)⟩) ?_ ?_
    · rintro i vx vy σ' H' H7 hx hy ⟨M, lf, y, z, v, rfl, e, g, G2, M0, hM, l60, hi⟩ e7
      rw [nv_eq, List.getElem?_map] at hx hy
      obtain ⟨p, hp, rfl⟩ := Option.map_eq_some_iff.mp hx
      obtain ⟨q, hq, rfl⟩ := Option.map_eq_some_iff.mp hy
      have i20 := (List.getElem?_eq_some_iff.mp hp).1
      rw [drop_cons hp, drop_cons hq] at g G2
      obtain ⟨p1, pq, ql, G3⟩ := G2
      have sd : (s.drop i).sum = p + (s.drop (i + 1)).sum := by rw [drop_cons hp, List.sum_cons]
      have sdl : (s.drop i).sum ≤ 20 := Nat.le_trans (drop_sum s i) s20
      rw [sd]
      generalize hr' : (s.drop (i + 1)).sum = rs at *
      have rest1 : 1 ≤ x + ((p + rs : Nat) : Int) := by omega
      have Rp := rise_pos rest1 lf
      have Rb := rise60 (x := x + ((p + rs : Nat) : Int)) (n := lf) (by omega) (by omega) l60
      generalize hRi : rise (x + ((p + rs : Nat) : Int)) lf = Ri at *
      have N0 : 0 ≤ M * Ri := Int.mul_nonneg M0 (by omega)
      obtain ⟨t0, b0, t1, b1⟩ := frac_pos N0 R0p
      have Nb : (M * Ri).natAbs < 2 ^ (1 + 2700 * i + 2600) := natAbs_mul_lt hM Rb
      have gp := cd_pos (a := M * Ri) R0p
      have d1 := Int.ediv_mul_cancel (cd_dvd1 (a := M * Ri) (b := R0))
      have d2 := Int.ediv_mul_cancel (cd_dvd2 (a := M * Ri) (b := R0))
      generalize cd (M * Ri) R0 = g0 at *
      generalize hA : M * Ri / g0 = A at *
      generalize hB : R0 / g0 = B at *
      have c60 := cho60 (n := lf) (k := q - p) l60
      have cp := cho_pos (n := lf) (k := q - p) ql
      have r1 := rise60 (x := (p : Int)) (n := q - p) (by omega) (by omega) (by omega)
      have r1p := rise_pos (w := (p : Int)) (by omega) (q - p)
      have r2 := rise60 (x := x + (rs : Int)) (n := lf - (q - p)) (by omega) (by omega) (by omega)
      have r2p := rise_pos (w := x + (rs : Int)) (by omega) (lf - (q - p))
      have Ab : A.natAbs < 2 ^ (1 + 2700 * i + 2600) := by omega
      have Bb : B.natAbs < 2 ^ 2600 := by omega
      refine q_par (ea_cons (ev_is (w := V.int ((q - p : Nat) : Int)) (ev_op (ev_var rfl) (ev_var rfl) rv_I0) (by congr 1; omega)) (ea_cons (ev_is (w := V.int (x + (rs : Int))) (ev_op (ev_var rfl) (ev_var rfl) rv_I0) (by congr 1; omega)) ea_nil)) fun H8 e8 => ?_
      have m1 : CMulX A ((cho lf (q - p) : Nat) : Int) := mulx_ok (a := 60000) (b := 61) (lt2_mono Ab (by omega)) c60 (by decide)
      have s1 := natAbs_mul_lt Ab c60
      have m2 : CMulX (A * ((cho lf (q - p) : Nat) : Int)) (rise (p : Int) (q - p)) := mulx_ok (a := 60100) (b := 2600) (lt2_mono s1 (by omega)) r1 (by decide)
      have s2 := natAbs_mul_lt s1 r1
      have m3 : CMulX (A * ((cho lf (q - p) : Nat) : Int) * rise (p : Int) (q - p)) (rise (x + (rs : Int)) (lf - (q - p))) := mulx_ok (a := 65000) (b := 2600) (lt2_mono s2 (by omega)) r2 (by decide)
      refine q_asg (ev_op (ev_op (ev_op (ev_var rfl) (ev_call (ea_cons (ev_var rfl) (ea_cons (ev_var rfl) ea_nil)) (sv_choose l60 ql)) (rv_I m1)) (ev_call (ea_cons (ev_var rfl) (ea_cons (ev_var rfl) ea_nil)) (sv_rise (b := (p : Int)) (by omega) (by omega))) (rv_I m2)) (ev_call (ea_cons (ev_var rfl) (ea_cons (ev_is (w := V.int ((lf - (q - p) : Nat) : Int)) (ev_op (ev_var rfl) (ev_var rfl) rv_I0) (by congr 1; omega)) ea_nil)) (sv_rise (b := x + (rs : Int)) (by omega) (by omega))) (rv_I m3)) fun H9 e9 => ?_
      have m4 : CMulX B Ri := mulx_ok (a := 2600) (b := 2600) Bb Rb (by decide)
      have rr : Ev (tCall sp_rise [] E0 (tCons (tOp (rI0 fun i j => .int (i + j)) (tVar 7) (tVar 3)) (tCons (tVar 4) tNil))) [some (.int x), some (.ref a), some (.ref b), some (.int (x + (rs : Int))), some (.int (lf : Int)), some (.int (A * ((cho lf (q - p) : Nat) : Int) * rise (p : Int) (q - p) * rise (x + (rs : Int)) (lf - (q - p)))), some (.int B), some (.int (p : Int)), some (.int (q : Int)), some (.int ((q - p : Nat) : Int))] H9 (.int Ri) := by
        rw [← hRi]
        exact ev_call (ea_cons (ev_is (w := V.int (x + ((p + rs : Nat) : Int))) (ev_op (ev_var rfl) (ev_var rfl) rv_I0) (by congr 1; omega)) (ea_cons (ev_var rfl) ea_nil)) (sv_rise (by omega) (by omega))
      refine q_asg (ev_op (ev_var rfl) rr (rv_I m4)) fun H10 e10 => ?_
      have BRp : 0 < B * Ri := Int.mul_pos b0 Rp
      have tp : 0 ≤ A * ((cho lf (q - p) : Nat) : Int) * rise (p : Int) (q - p) * rise (x + (rs : Int)) (lf - (q - p)) := Int.mul_nonneg (Int.mul_nonneg (Int.mul_nonneg t0 (by omega)) (by omega)) (by omega)
      have q3 : frac (A * ((cho lf (q - p) : Nat) : Int) * rise (p : Int) (q - p) * rise (x + (rs : Int)) (lf - (q - p))) (B * Ri) = frac (M * ((cho lf (q - p) : Nat) : Int) * rise (p : Int) (q - p) * rise (x + (rs : Int)) (lf - (q - p))) R0 := by
        refine frac_eq BRp R0p ?_
        generalize ((cho lf (q - p) : Nat) : Int) = c0
        generalize rise (p : Int) (q - p) = c1
        generalize rise (x + (rs : Int)) (lf - (q - p)) = c2
        have : A * R0 = M * (B * Ri) := by
          rw [← d2]
          have : A * (B * g0) = A * g0 * B := by grind
          rw [this, d1]
          grind
        have h3 : A * c0 * c1 * c2 * R0 = A * R0 * c0 * c1 * c2 := by grind
        rw [h3, this]
        grind
      have lw := eu_call (E := E0) (σ := [some (.int x), some (.ref a), some (.ref b), some (.int (x + (rs : Int))), some (.int (lf : Int)), some (.int (A * ((cho lf (q - p) : Nat) : Int) * rise (p : Int) (q - p) * rise (x + (rs : Int)) (lf - (q - p)))), some (.int (B * Ri)), some (.int (p : Int)), some (.int (q : Int)), some (.int ((q - p : Nat) : Int))]) (H := H10) (ea_cons (ev_var (i := 5) rfl) (ea_cons (ev_var (i := 6) rfl) ea_nil)) (su_lowest tp BRp (lt2_mono (natAbs_mul_lt Bb Rb) (by decide)))
      rw [q3] at lw
      refine q_tup2U (K := K) lw fun H11 e11 => ?_
      refine s_asg (ev_is (w := V.int ((lf - (q - p) : Nat) : Int)) (ev_op (ev_var rfl) (ev_var rfl) rv_I0) (by congr 1; omega)) fun H12 e12 => ⟨M * ((cho lf (q - p) : Nat) : Int) * rise (p : Int) (q - p), lf - (q - p), _, _, _, rfl, e.trans (e7.trans (e8.trans (e9.trans (e10.trans (e11.trans e12))))), g, G3, Int.mul_nonneg (Int.mul_nonneg M0 (by omega)) (by omega), mul_size (natAbs_mul_lt hM c60) r1 (by omega), by omega, i20⟩
    · rintro σ' H' ⟨M, lf, y, z, v, rfl, e, g, G2, M0, hM, l60, hi⟩
      have sd : s.drop s.length = [] := List.drop_length
      rw [sd] at g G2
      have gM : M = gtop 1 left s t := g
      have tl : t.drop s.length = [fresh] ∧ lf = fresh := by
        have : (t.drop s.length).length = 1 := by rw [List.length_drop, ul]; omega
        obtain ⟨c, hc⟩ := List.length_eq_one_iff.mp this
        rw [hc] at G2
        rw [hc]
        obtain ⟨rfl, h⟩ := G2
        exact ⟨rfl, h⟩
      rw [sd]
      show tRet _ _ [some (.int x), some (.ref a), some (.ref b), some (.int (x + ((0 : Nat) : Int))), some (.int (lf : Int)), some (.int (M * rise (x + ((0 : Nat) : Int)) lf / cd (M * rise (x + ((0 : Nat) : Int)) lf) R0)), some (.int (R0 / cd (M * rise (x + ((0 : Nat) : Int)) lf) R0)), y, z, v] H'
      rw [show x + ((0 : Nat) : Int) = x by omega, tl.2, gM, gn]
      exact s_retU (xs := frac (gnum x left s t fresh) R0) (eu_tup (ea_cons (ev_var rfl) (ea_cons (ev_var rfl) ea_nil)) (Nat.le_of_ble_eq_true rfl)) fun p H8 hp e8 h8 => k p H8 (fresh_back e hp) (e.trans e8) h8
theorem ok_law_wide (T : Tx K mg) : FnOk P w K mg base CX0 2 T.f_law_wide T.d_law_wide ["store"] sp_law_wide := by
  refine T.F_law_wide.ok sc_law_wide (fun vs H Q E h => ?_) (fun cdv A outer s H vs Q E hr h => ?_)
  · obtain ⟨p, n, rfl, _⟩ := h
    rfl
  · obtain ⟨p, n, rfl, hpo, hn, k⟩ := h
    refine ⟨_, (pss_cons (ps_par (i := 1) (j := 2) (by rfl) sc_law_wide.nd rfl rfl (by decide) rfl rfl (pa_cons (pe_op op_add pe_int (pe_call (ok_law_pick T) (hr.mono (by decide)) (by rfl) T.g_law_pick T.F_law_pick.kp T.b_law_pick .nil pass0 (pa_cons (pv 0) (pa_cons pe_int pa_nil)))) (pa_cons (pe_lst pa_nil) pa_nil)) (by rfl))
      (pss_cons (ps_set (i := 3) sc_law_wide.nd rfl (Or.inl rfl) (pe_ix ix_list (pe_lst (pa_cons pe_int (pa_cons pe_int (pa_cons pe_int pa_nil)))) (pe_call (ok_law_pick T) (hr.mono (by decide)) (by rfl) T.g_law_pick T.F_law_pick.kp T.b_law_pick .nil pass0 (pa_cons (pv 0) (pa_cons pe_int pa_nil))) (fun _ _ => rfl)))
      (pss_cons (ps_while PassesOwn.never (pt_cmpR op_gt (pv 1) pe_int (nomark _)) (pss_cons (ps_expr (pe_bm PySem.F.plainAttrs_list PySem.F.slot_list_append PySem.F.type_list_append mt_append (pv 2) (pa_cons (pe_op op_add pe_int (pe_call (ok_law_pick T) (hr.mono (by decide)) (by rfl) T.g_law_pick T.F_law_pick.kp T.b_law_pick .nil pass0 (pa_cons (pv 0) (pa_cons (pe_callB (call_minR rfl) (by rfl) T.m_min (by decide +kernel) (pa_cons (pv 3) (pa_cons (pv 1) pa_nil))) pa_nil)))) pa_nil)))
      (pss_one (ps_set (i := 1) sc_law_wide.nd rfl (Or.inl rfl) (pe_op op_sub (pv 1) (pe_ix ix_list (pv 2) (pe_un un_neg pe_int) (fun _ _ => rfl)))))))
      (pss_one (ps_ret (pv 2)))))), ?_⟩
    refine pq_parL (p := p) (k := 0 + 1) (H0 := Hm p H) (ys := []) (ep_add (a := 1) (C := fun r => 0 ≤ r ∧ r < 20) hm_p ev_c (ep_dipI (w := 20) hm_p (ev_var rfl) ev_c (by decide) (by decide))) hm_sub hpo (by omega) (fun H1 => el_lst ea_nil (Nat.le_of_ble_eq_true rfl)) ?_
    rintro v b H1 H2 ⟨L, rfl, s0, s1⟩ hb1 e2 hb2 p2 e1
    have hbp : b ≠ p := fun z => by
      subst z
      obtain ⟨x, y, z, q, _⟩ := p2
      rw [hb2] at q
      cases q
    have hb : H b = none := by
      have := fresh_back e1 hb1
      unfold Hm at this
      rw [if_neg hbp] at this
      exact this
    have e02 : Ex (Hm p H) H2 := e1.trans e2
    refine pq_asg (p := p) (k := (0 + (0 + (0 + 0))) + 1) (H0 := Hm p H2) (R := fun v _ => ∃ r : Int, v = .int r ∧ 2 ≤ r ∧ r ≤ 20) (ep_ix (A := fun v => ∃ r : Int, v = .int r ∧ 2 ≤ r ∧ r ≤ 20) (ix := fun v => ∃ r, v = .int r ∧ 0 ≤ r ∧ r < 3) (C := fun vs => vs = [.int 2, .int 5, .int 20]) hm_p
      (ep_is (ep_lst (epa_pure hm_p ev_c (epa_pure hm_p ev_c (epa_pure hm_p ev_c epa_nil))) ?_) ?_) (ep_dipI (w := 3) hm_p (ev_var rfl) ev_c (by decide) (by decide)) ?_) hm_sub p2 (by omega) ?_
    · rintro vs ⟨_, _, rfl, _, _, _, rfl, _, _, _, rfl, _, rfl⟩
      exact Nat.le_of_ble_eq_true rfl
    · rintro v H4 ⟨l, vs, ne, rfl, hl, _, _, rfl, rfl, _, _, rfl, rfl, _, _, rfl, rfl, rfl⟩
      exact ⟨l, _, ne, rfl, hl, rfl⟩
    · rintro vs v rfl ⟨i, rfl, i0, i1⟩
      have : i = 0 ∨ i = 1 ∨ i = 2 := by omega
      rcases this with rfl | rfl | rfl
      · exact ⟨0, .int 2, rfl, rfl, 2, rfl, by decide, by decide⟩
      · exact ⟨1, .int 5, rfl, rfl, 5, rfl, by decide, by decide⟩
      · exact ⟨2, .int 20, rfl, rfl, 20, rfl, by decide, by decide⟩
    rintro v H3 ⟨rare, rfl, r2, r20⟩ p3 e3
    have hb3 := hm_at e3 hbp hb2
    refine q_while (fun m σ' H' => ∃ (s : List Nat) (lf : Nat), σ' = [some (.ref p), some (.int (lf : Int)), some (.ref b), some (.int rare)] ∧ H' b = some (.lst (nv s)) ∧ (lf : Int) + (s.sum : Int) = 1 + L ∧ (∀ y ∈ s, 1 ≤ y) ∧ Po p (n + 2 + s.length) H' ∧ Ex (Hm p H) H' ∧ m = lf) (1 + L).toNat ⟨[], (1 + L).toNat, by
      rw [show (((1 + L).toNat : Nat) : Int) = 1 + L by omega]
      rfl, hb3, by
      show (((1 + L).toNat : Nat) : Int) + 0 = 1 + L
      omega, by simp, p3.mono (by simp), hm_trans e02 e3, rfl⟩ ?_
    rintro m σ' H' ⟨s, lf, rfl, hs, hsum, hpos, p4, e4, hml⟩
    subst m
    have sl := len_sum hpos
    refine ⟨decide (lf ≠ 0), et_is (by walk_at "et") ?_, fun hb2 H4 e5 => ?_, fun hb2 H4 e5 => ?_⟩
    · rw [Bool.eq_iff_iff]
      simp only [decide_eq_true_eq]
      omega
    · have lf0 := of_decide_eq_true hb2
      have hs4 := e5 b _ hs
      refine ⟨fun σ2 H5 => ∃ y : Nat, σ2 = [some (.ref p), some (.int ((lf : Int) - y)), some (.ref b), some (.int rare)] ∧ 1 ≤ y ∧ y ≤ lf ∧ H5 b = some (.lst (nv (s ++ [y]))) ∧ Po p (n + 2 + (s.length + 1)) H5 ∧ Ex (Hm p H) H5, ?_, ?_⟩
      · rintro σ2 H5 ⟨y, rfl, y1, y2, hy, p5, e6⟩
        refine ⟨lf - y, by omega, s ++ [y], lf - y, by rw [show (((lf - y : Nat)) : Int) = (lf : Int) - y by omega], hy, by rw [List.sum_append]; simp; omega, fun z hz => ?_, by rw [List.length_append]; exact p5, e6, rfl⟩
        rcases List.mem_append.mp hz with h | h
        · exact hpos z h
        · have := List.mem_singleton.mp h
          omega
      · have q5 := p4.ex e5
        have mv : (if (lf : Int) < rare then (lf : Int) else rare) = ((min lf rare.toNat : Nat) : Int) := by
          split <;> omega
        have minv : Ev (tCB rMin2 (tCons (tVar 3) (tCons (tVar 1) tNil))) [some (.ref p), some (.int (lf : Int)), some (.ref b), some (.int rare)] (Hm p H4) (.int ((min lf rare.toNat : Nat) : Int)) := by
          rw [← mv]
          exact ev_min2 (ev_var rfl) (ev_var rfl)
        refine pq_app (p := p) (k := 0 + 1) (H0 := Hm p H4) (A := fun v => ∃ r : Int, v = .int (1 + r) ∧ (0 ≤ r ∧ r < ((min lf rare.toNat : Nat) : Int))) hs4 hbp (ev_var rfl) (ep_add (C := fun r => 0 ≤ r ∧ r < ((min lf rare.toNat : Nat) : Int)) hm_p ev_c (ep_dipI hm_p (ev_var rfl) minv (by omega) (by omega))) hm_sub q5 (by omega) (by rw [nv_len]; omega) ?_
        rintro v H6 ⟨r, rfl, r0, r1⟩ p6 e6 hb6
        obtain ⟨y, hy⟩ : ∃ y : Nat, 1 + r = (y : Int) := ⟨(1 + r).toNat, by omega⟩
        rw [hy]
        have es : nv s ++ [V.int (y : Int)] = nv (s ++ [y]) := by rw [nv_app]; rfl
        rw [es]
        have at1 : atI (nv (s ++ [y])) (-1) = some (.int (y : Int)) := by rw [← es]; exact atI_last _ _
        have e46 : Ex (Hm p H) (upd H6 b (.lst (nv (s ++ [y])))) := Ex.mut (hm_trans (hm_trans e4 (hm_of e5)) e6) (by unfold Hm; rw [if_neg hbp]; exact hb)
        refine s_asg (ev_op (ev_var rfl) (ev_op (ev_var rfl) (ev_un ev_c ru_neg) (rv_ixL (K := K) (sq_of upd_same) at1)) rv_I0) fun H7 e7 => ⟨y, rfl, by omega, by omega, e7 b _ upd_same, ((p6.upd hbp).ex e7).mono (by omega), hm_trans e46 (hm_of e7)⟩
    · have lf0 : lf = 0 := by simpa using hb2
      subst lf0
      have hne : s ≠ [] := fun z => by
        subst z
        simp at hsum
        omega
      exact s_ret (ev_var (i := 2) rfl) fun H5 e6 => k b s H5 hb (e6 b _ (e5 b _ hs)) ⟨hne, hpos, by omega⟩ ((p4.ex (e5.trans e6)).mono (by omega)) (hm_trans e4 (hm_of (e5.trans e6)))
theorem ok_new_shares (T : Tx K mg) : FnOk P w K mg base CX0 5 T.f_new_shares T.d_new_shares ["sizes", "weight", "number"] sp_new_shares := by
  refine T.F_new_shares.ok sc_new_shares (fun vs H Q E h => ?_) (fun cdv A outer s0 H vs Q E hr h => ?_)
  · obtain ⟨a, s, x, m, rfl, _⟩ := h
    rfl
  · obtain ⟨a, s, x, m, rfl, ha, o, hm, h1, h2, k⟩ := h
    refine ⟨_, (pss_cons (ps_expr (pe_call (ok_check_sizes T) (hr.mono (by decide)) (by rfl) T.g_check_sizes T.F_check_sizes.kp T.b_check_sizes .nil pass0 (pa_cons (pv 0) pa_nil)))
      (pss_cons (ps_expr (pe_call (ok_check_weight T) (hr.mono (by decide)) (by rfl) T.g_check_weight T.F_check_weight.kp T.b_check_weight .nil pass0 (pa_cons (pv 1) pa_nil)))
      (pss_cons (ps_expr (pe_call (ok_check_number T) (hr.mono (by decide)) (by rfl) T.g_check_number T.F_check_number.kp T.b_check_number .nil pass0 (pa_cons (pv 2) (pa_cons pe_int (pa_cons (pe_gc (by rfl) T.c_MOST_MORE) pa_nil)))))
      (pss_cons (ps_set (i := 3) sc_new_shares.nd rfl (Or.inl rfl) (pe_callB (cr_sum rfl) (by rfl) T.m_sum (by decide +kernel) (pa_cons (pv 0) pa_nil)))
      (pss_cons (ps_set (i := 4) sc_new_shares.nd rfl (Or.inl rfl) (pe_call (ok_rising T) (hr.mono (by decide)) (by rfl) T.g_rising T.F_rising.kp T.b_rising .nil pass0 (pa_cons (pe_op op_add (pv 1) (pv 3)) (pa_cons (pv 2) pa_nil))))
      (pss_cons (ps_set (i := 5) sc_new_shares.nd rfl (Or.inl rfl) (pe_lst pa_nil))
      (pss_cons (ps_for PassesOwn.never rfl (pi_range1 (by rfl) T.m_range (pa_cons (pe_op op_add (pv 2) pe_int) pa_nil)) (pg_name (i := 6) sc_new_shares.nd rfl (Or.inl rfl)) (pss_cons (ps_set (i := 7) sc_new_shares.nd rfl (Or.inl rfl) (pe_op op_mulX (pe_callBfun cr_comb (by rfl) T.i_comb (pa_cons (pv 2) (pa_cons (pv 6) pa_nil))) (pe_call (ok_rising T) (hr.mono (by decide)) (by rfl) T.g_rising T.F_rising.kp T.b_rising .nil pass0 (pa_cons (pv 3) (pa_cons (pe_op op_sub (pv 2) (pv 6)) pa_nil)))))
      (pss_one (ps_expr (pe_bm PySem.F.plainAttrs_list PySem.F.slot_list_append PySem.F.type_list_append mt_append (pv 5) (pa_cons (pe_call (ok_fraction T) (hr.mono (by decide)) (by rfl) T.g_fraction T.F_fraction.kp T.b_fraction .nil pass0 (pa_cons (pe_op op_mulX (pv 7) (pe_call (ok_rising T) (hr.mono (by decide)) (by rfl) T.g_rising T.F_rising.kp T.b_rising .nil pass0 (pa_cons (pv 1) (pa_cons (pv 6) pa_nil)))) (pa_cons (pv 4) pa_nil))) pa_nil))))))
      (pss_one (ps_ret (pv 5)))))))))), ?_⟩
    have l20 := o.len
    have s20 := o.2.2
    have s1 := o.pos
    refine q_drop (ev_call (ea_cons (ev_var rfl) ea_nil) (sv_szs ha o)) fun H1 e1 => ?_
    refine q_drop (by walk_at "ev") fun H2 e2 => ?_
    refine q_drop (by walk_at "ev") fun H3 e3 => ?_
    have ha3 := e3 a _ (e2 a _ (e1 a _ ha))
    have sa := ev_sumV (K := K) (ta := tVar 0) (σ := start n_new_shares [.ref a, .int x, .int (m : Int)]) (ns := iz s) (ev_var (i := 0) (v := .ref a) rfl) (sq_of ha3)
    rw [iz_sum] at sa
    refine q_asg (v := .int (s.sum : Int)) sa fun H4 e4 => ?_
    refine q_asg (v := .int (rise (x + (s.sum : Int)) m)) (ev_call (ea_cons (ev_op (ev_var rfl) (ev_var rfl) rv_I0) (ea_cons (ev_var rfl) ea_nil)) (sv_rise (by omega) (by omega))) fun H5 e5 => ?_
    refine q_asgL (xs := []) (el_lst ea_nil (Nat.le_of_ble_eq_true rfl)) fun p H6 hp e6 hp6 => ?_
    have np : H p = none := fresh_back (e1.trans (e2.trans (e3.trans (e4.trans e5)))) hp
    have rp := rise_pos (w := x + (s.sum : Int)) (by omega) m
    have rz := rise60 (x := x + (s.sum : Int)) (n := m) (by omega) (by omega) (by omega)
    refine q_forR1 (n := (m : Int) + 1) (by walk_at "ea") ⟨by omega, by omega⟩ (fun i σ' H' => ∃ ws y z, σ' = [some (.ref a), some (.int x), some (.int (m : Int)), some (.int (s.sum : Int)), some (.int (rise (x + (s.sum : Int)) m)), some (.ref p), y, z] ∧ Ex H H' ∧ H' p = some (.lst ws) ∧ TL H' ws ((List.range i).map fun r => frac (freshN x (s.sum : Int) m r) (rise (x + (s.sum : Int)) m)))
      (fun H7 e7 => ⟨[], none, none, rfl, e1.trans (e2.trans (e3.trans (e4.trans (e5.trans (e6.trans e7))))), e7 p _ hp6, .nil⟩) ?_ ?_
    · rintro i σ' H' hi ⟨ws, y, z, rfl, e, hpw, tl⟩
      have im : i ≤ m := by omega
      have c60 := cho60 (n := m) (k := i) (by omega)
      have r1 := rise60 (x := (s.sum : Int)) (n := m - i) (by omega) (by omega) (by omega)
      have r2 := rise60 (x := x) (n := i) (by omega) (by omega) (by omega)
      have m1 : CMulX ((cho m i : Nat) : Int) (rise (s.sum : Int) (m - i)) := mulx_ok (a := 61) (b := 2600) c60 r1 (by decide)
      have m2 : CMulX (((cho m i : Nat) : Int) * rise (s.sum : Int) (m - i)) (rise x i) := mulx_ok (a := 2661) (b := 2600) (natAbs_mul_lt c60 r1) r2 (by decide)
      refine q_asg (v := .int (((cho m i : Nat) : Int) * rise (s.sum : Int) (m - i))) (ev_op (ev_comb (ev_var rfl) (ev_var rfl) (by omega)) (ev_call (ea_cons (ev_var rfl) (ea_cons (ev_is (w := V.int ((m - i : Nat) : Int)) (ev_op (ev_var rfl) (ev_var rfl) rv_I0) (by congr 1; omega)) ea_nil)) (sv_rise (by omega) (by omega))) (rv_I m1)) fun H7 e7 => ?_
      have h7 := e7 p _ hpw
      refine s_appU (K := K) (ys := frac (freshN x (s.sum : Int) m i) (rise (x + (s.sum : Int)) m)) h7 (ev_var rfl) (eu_call (ea_cons (ev_op (ev_var rfl) (ev_call (ea_cons (ev_var rfl) (ea_cons (ev_var rfl) ea_nil)) (sv_rise (by omega) (by omega))) (rv_I m2)) (ea_cons (ev_var rfl) ea_nil)) (su_fraction rp (lt2_mono rz (by decide)))) (by
        have := tl.len
        simp at this
        omega) fun u H8 nu e8 hu => ?_
      have h8 := e8 p _ h7
      refine ⟨ws ++ [.ref u], _, _, rfl, Ex.mut (e.trans (e7.trans e8)) np, upd_same, ?_⟩
      rw [List.range_succ, List.map_append]
      exact ((tl.ex (e7.trans e8)).app ⟨u, rfl, hu⟩).upd h8
    · rintro σ' H' ⟨ws, y, z, rfl, e, hpw, tl⟩
      rw [show ((m : Int) + 1).toNat = m + 1 by omega] at tl
      exact s_ret (ev_var rfl) fun H7 e7 => k p ws H7 np (e.trans e7) (e7 p _ hpw) (tl.ex e7)
end

local macro_rules | `(tactic| walk_at "call") => `(tactic| (with_reducible exact sv_whole))
local macro_rules | `(tactic| walk_at "call") => `(tactic| (with_reducible exact sv_between))
local macro_rules | `(tactic| walk_at "call") => `(tactic| ((with_reducible refine' sv_check1 ?c1 ?c2); (case c1 => walk_at "side"); (case c2 => walk_at "side")))
local macro_rules | `(tactic| walk_at "call") => `(tactic| ((with_reducible refine' sv_check_number ?c1 ?c2); (case c1 => walk_at "side"); (case c2 => walk_at "side")))
local macro_rules | `(tactic| walk_at "callU") => `(tactic| ((with_reducible refine' su_fraction ?c1 ?c2); (case c1 => walk_at "side"); (case c2 => walk_at "side")))
local macro_rules | `(tactic| walk_at "call") => `(tactic| ((with_reducible refine' sv_rise ?c1 ?c2); (case c1 => walk_at "side"); (case c2 => walk_at "side")))

/-! ### data -/
def di (r : List Nat) : PyData := .list ((iz r).map PyData.int)
theorem shaped_di (r : List Nat) : SeqAt.shaped (di r) = true := shaped_ints _
section
variable {K : PySem.W.Frag} {σ : L2.St} {H : Hp} {te : TE}
theorem dpa_nv (r : List Nat) : DpAll K H (nv r) ((iz r).map PyData.int) := dpa_ints _
theorem dp_L {a : Addr} {r : List Nat} (h : H a = some (.lst (nv r))) : Dp K H (.ref a) (di r) := .lst (sq_of h) (dpa_nv r)
theorem ed_L {r : List Nat} (h : EvL te σ H (nv r)) : EvD K te σ H (di r) := ed_ofL h (dpa_nv r)
end
def shareD (a b : Int) : PyData := .tuple [.int (a / cd a b), .int (b / cd a b)]
theorem dpa_frac {K : PySem.W.Frag} {H : Hp} (a b : Int) : DpAll K H (frac a b) [.int (a / cd a b), .int (b / cd a b)] := .cons (.int _) (.cons (.int _) .nil)
theorem dpa_fracs {K : PySem.W.Frag} {H : Hp} (f : Nat → Int × Int) : ∀ {ws : List V} (l : List Nat), TL H ws (l.map fun t => frac (f t).1 (f t).2) → DpAll K H ws (l.map fun t => shareD (f t).1 (f t).2)
  | [], [], _ => .nil
  | _ :: _, t :: l, .cons ⟨b, e, h⟩ q => by
    subst e
    exact .cons (.tup (st_of h) (dpa_frac _ _)) (dpa_fracs f l q)
theorem shaped_sh (a b : Int) : SeqAt.shaped (.tuple [.int a, .int b]) = true := by
  simp [SeqAt.shaped, PyData.canLay0, PyData.canLayAll0, PyData.depth, PyData.depthAll]
theorem shaped_shD (a b : Int) : SeqAt.shaped (shareD a b) = true := shaped_sh _ _
theorem canLay_shs (f : Nat → Int × Int) : ∀ l : List Nat, PyData.canLayAll0 (l.map fun t => shareD (f t).1 (f t).2) = true
  | [] => rfl
  | m :: r => by
    have := canLay_shs f r
    show (PyData.canLayAll0 (shareD _ _ :: r.map _)) = true
    rw [PyData.canLayAll0, this]
    simp [PyData.canLay0, PyData.canLayAll0, shareD]
theorem depth_shs (f : Nat → Int × Int) : ∀ l : List Nat, PyData.depthAll (l.map fun t => shareD (f t).1 (f t).2) ≤ 1
  | [] => by simp [PyData.depthAll]
  | m :: r => by
    have := depth_shs f r
    show PyData.depthAll (shareD _ _ :: r.map _) ≤ 1
    rw [PyData.depthAll]
    have e : (shareD (f m).1 (f m).2).depth ≤ 1 := by simp [PyData.depthAll, PyData.depth, shareD]
    omega
theorem shaped_shs (f : Nat → Int × Int) (l : List Nat) : SeqAt.shaped (.list (l.map fun t => shareD (f t).1 (f t).2)) = true := by
  have := depth_shs f l
  simp [SeqAt.shaped, PyData.canLay0, canLay_shs, PyData.depth]
  omega
section
variable {K : PySem.W.Frag} {σ : L2.St} {H : Hp} {te : TE}
theorem ed_fracs {f : Nat → Int × Int} {l : List Nat} (h : EvLT te σ H (l.map fun t => frac (f t).1 (f t).2)) : EvD K te σ H (.list (l.map fun t => shareD (f t).1 (f t).2)) := fun H1 e Q q => h H1 e _ fun p ws H2 _ e2 h2 ht => q _ H2 e2 (.lst (sq_of h2) (dpa_fracs f l ht))
theorem ed_frac {a b : Int} (h : EvU te σ H (frac a b)) : EvD K te σ H (shareD a b) := ed_ofU h (dpa_frac a b)
end
/-- a list of small numbers, told -/
theorem shn_di {r : List Nat} (hl : r.length ≤ 100) (h : ∀ x ∈ r, x ≤ 1000) : ShN (di r) 200000 := by
  have := shn_list (n := 1921) (ds := (iz r).map PyData.int) fun d hd => by
    obtain ⟨i, hi, rfl⟩ := List.mem_map.mp hd
    obtain ⟨x, hx, rfl⟩ := List.mem_map.mp hi
    have := h x hx
    refine ⟨shn_int2 ?_, Nat.zero_le _⟩
    exact lt2_mono (show ((x : Int)).natAbs < 2 ^ 64 by omega) (by decide)
  refine ⟨this.shw, this.nod, ?_, this.dep⟩
  have l := this.len
  have : ((iz r).map PyData.int).length ≤ 100 := by simp [iz]; omega
  exact Nat.le_trans l (by omega)
theorem shn_two {r s : List Nat} (hr : ShN (di r) 200000) (hs : ShN (di s) 200000) : ShN (.list [di r, di s]) 400100 := by
  have := shn_list (n := 200000) (ds := [di r, di s]) fun d hd => by
    rcases List.mem_cons.mp hd with e | hd
    · rw [e]
      exact ⟨hr, by simp [di, PyData.depth, depth_ints]⟩
    · rw [List.mem_singleton.mp hd]
      exact ⟨hs, by simp [di, PyData.depth, depth_ints]⟩
  refine ⟨this.shw, this.nod, Nat.le_trans this.len (by show (200000 + 2) * 2 + 3 ≤ 400100; decide), this.dep⟩

/-! ### the weight, the law's case -/
def sp_law_heavy : Sp := fun vs H Q _ => ∃ (p : Addr) (n : Nat), vs = [.ref p] ∧ Po p n H ∧ n + 3 < 1000000000 ∧ ∀ (w : Int) H', 1 ≤ w → w ≤ 1000000000000 → Po p (n + 3) H' → Ex (Hm p H) H' → Q (.int w) H'
theorem p_ret {σ : L2.St} {H0 H : Hp} {p : Addr} {k n : Nat} {te : TE} {R : V → Hp → Prop} {D : Ends} (h : EvP p k te σ H0 R) (e : Ex H0 H) (hp : Po p n H) (hn : n + k ≤ 1000000000) (q : ∀ v H2, R v H2 → Po p (n + k) H2 → Ex (Hm p H) H2 → D.rt v H2) : tRet te D σ H := h n H e hp hn _ q
section
variable {K : PySem.W.Frag} {σ : L2.St} {H0 H : Hp} {p : Addr} {k k1 k2 : Nat} {te ta tb : TE} {R : V → Hp → Prop} {D : Ends} {tu tz : TS}
/-- a - b, b drawn -/
theorem ep_sub {a : Int} {C : Int → Prop} (h0 : H0 p = none) (ha : Ev ta σ H0 (.int a)) (hb : EvP p k tb σ H0 (fun v _ => ∃ r, v = .int r ∧ C r)) : EvP p (0 + k) (tOp (rI0 fun i j => .int (i - j)) ta tb) σ H0 (fun v _ => ∃ r, v = .int (a - r) ∧ C r) :=
  ep_op h0 (ep_ev ha) hb stb_c stb_c fun x y H e ⟨r, e2, c⟩ => ⟨.int (a - r), ⟨r, rfl, c⟩, by
    subst e
    subst e2
    exact rv_I0⟩
/-- for i in range(a drawn number) -/
theorem pq_forR1 {n j : Nat} {C : Nat → Prop} (h : EvP p k te σ H0 (fun v _ => ∃ m : Nat, v = .int (m : Int) ∧ C m)) (e : Ex H0 H) (hp : Po p n H) (hn : n + k ≤ 1000000000)
    (q : ∀ (m : Nat) H2, C m → Po p (n + k) H2 → Ex (Hm p H) H2 → tSeq (tFor (iRng1 (tCons (tC (.int (m : Int))) tNil)) (gName j) tu) tz D σ H2) : tSeq (tFor (iRng1 (tCons te tNil)) (gName j) tu) tz D σ H := h n H e hp hn _ fun v H2 ⟨m, ev, hm⟩ p2 e2 => by
  subst ev
  exact q m H2 hm p2 e2
end
def sp_law_right : Sp := fun vs H Q _ => ∃ (p a : Addr) (n : Nat) (s : List Nat) (x : Int), vs = [.ref p, .int x, .ref a] ∧ Po p n H ∧ n + 1000 < 1000000000 ∧ a ≠ p ∧ H a = some (.lst (nv s)) ∧ Sz s ∧ 1 ≤ x ∧ x ≤ 1000000000000 ∧ ∀ H', Po p (n + 500) H' → Ex (Hm p H) H' → Q (.bl true) H'
theorem elt_mean {σ : L2.St} {H : Hp} {t : TA} {E : XK} {a : Addr} {s : List Nat} {x : Int} {m : Nat} (h : EvA t σ H [.ref a, .int x, .int (m : Int)]) (ha : H a = some (.lst (nv s))) (o : Sz s) (hm : m ≤ 40) (h1 : 1 ≤ x) (h2 : x ≤ 1000000000000) : EvLT (tCall sp_mean_later [] E t) σ H (s.map (meanF x s.sum m)) := fun H1 e Q q =>
  h H1 e _ fun H2 e2 => ⟨a, s, x, m, rfl, (e.trans e2) a _ ha, o, hm, h1, h2, fun p ws H3 hp e3 h3 t => q p ws H3 (fresh_back e2 hp) (e2.trans e3) h3 t⟩
theorem elt_new {σ : L2.St} {H : Hp} {t : TA} {E : XK} {a : Addr} {s : List Nat} {x : Int} {m : Nat} (h : EvA t σ H [.ref a, .int x, .int (m : Int)]) (ha : H a = some (.lst (nv s))) (o : Sz s) (hm : m ≤ 40) (h1 : 1 ≤ x) (h2 : x ≤ 1000000000000) : EvLT (tCall sp_new_shares [] E t) σ H ((List.range (m + 1)).map fun r => frac (freshN x (s.sum : Int) m r) (rise (x + (s.sum : Int)) m)) := fun H1 e Q q =>
  h H1 e _ fun H2 e2 => ⟨a, s, x, m, rfl, (e.trans e2) a _ ha, o, hm, h1, h2, fun p ws H3 hp e3 h3 t => q p ws H3 (fresh_back e2 hp) (e2.trans e3) h3 t⟩
section
variable {P : Program} {w : World} {K : PySem.W.Frag} {mg : Str → Option Value} {base : Heap}
theorem ok_law_heavy (T : Tx K mg) : FnOk P w K mg base CX0 2 T.f_law_heavy T.d_law_heavy ["store"] sp_law_heavy := by
  refine T.F_law_heavy.ok sc_law_heavy (fun vs H Q E h => ?_) (fun cdv A outer s H vs Q E hr h => ?_)
  · obtain ⟨p, n, rfl, _⟩ := h
    rfl
  · obtain ⟨p, n, rfl, hpo, hn, k⟩ := h
    refine ⟨_, (pss_one (ps_ret (pe_ix ix_list (pe_lst (pa_cons pe_int (pa_cons pe_int (pa_cons (pe_op op_add pe_int (pe_call (ok_law_pick T) (hr.mono (by decide)) (by rfl) T.g_law_pick T.F_law_pick.kp T.b_law_pick .nil pass0 (pa_cons (pv 0) (pa_cons pe_int pa_nil)))) (pa_cons (pe_op op_sub (pe_op op_powX pe_int pe_int) (pe_call (ok_law_pick T) (hr.mono (by decide)) (by rfl) T.g_law_pick T.F_law_pick.kp T.b_law_pick .nil pass0 (pa_cons (pv 0) (pa_cons (pe_op op_powX pe_int pe_int) pa_nil)))) pa_nil))))) (pe_call (ok_law_pick T) (hr.mono (by decide)) (by rfl) T.g_law_pick T.F_law_pick.kp T.b_law_pick .nil pass0 (pa_cons (pv 0) (pa_cons pe_int pa_nil))) (fun _ _ => rfl)))), ?_⟩
    have ten : Ev (tOp (rI CPowX fun i j => .int (i ^ j.toNat)) (tC (.int 10)) (tC (.int 12))) (start n_law_heavy [.ref p]) (Hm p H) (.int 1000000000000) := ev_op ev_c ev_c (rv_I (by constructor <;> decide +kernel))
    refine p_ret (p := p) (k := ((0 + (0 + ((0 + 1) + ((0 + 1) + 0))))) + 1) (H0 := Hm p H) (R := fun v _ => ∃ w : Int, v = .int w ∧ 1 ≤ w ∧ w ≤ 1000000000000) (ep_ix (A := fun v => ∃ w : Int, v = .int w ∧ 1 ≤ w ∧ w ≤ 1000000000000) (ix := fun v => ∃ r, v = .int r ∧ 0 ≤ r ∧ r < 4) (C := fun vs => ∃ a b : Int, vs = [.int 1, .int 2, .int (1 + a), .int (1000000000000 - b)] ∧ (0 ≤ a ∧ a < 9) ∧ (0 ≤ b ∧ b < 1000000000000)) hm_p
        (ep_is (ep_lst (epa_pure hm_p ev_c (epa_pure hm_p ev_c (epa_cons (A := fun v => ∃ a : Int, v = .int (1 + a) ∧ (0 ≤ a ∧ a < 9)) hm_p (ep_add (C := fun r => 0 ≤ r ∧ r < 9) hm_p ev_c (ep_dipI (w := 9) hm_p (ev_var rfl) ev_c (by decide) (by decide))) (epa_cons (A := fun v => ∃ b : Int, v = .int (1000000000000 - b) ∧ (0 ≤ b ∧ b < 1000000000000)) hm_p (ep_sub (C := fun r => 0 ≤ r ∧ r < 1000000000000) hm_p ten (ep_dipI (w := 1000000000000) hm_p (ev_var rfl) ten (by decide) (by decide))) epa_nil)))) ?_) ?_) (ep_dipI (w := 4) hm_p (ev_var rfl) ev_c (by decide) (by decide)) ?_) hm_sub hpo (by omega) ?_
    · rintro vs ⟨_, _, rfl, _, _, _, rfl, _, _, _, rfl, _, _, _, rfl, _, rfl⟩
      exact Nat.le_of_ble_eq_true rfl
    · rintro v H4 ⟨l, vs, ne, rfl, hl, _, _, rfl, rfl, _, _, rfl, rfl, _, _, rfl, ⟨a, rfl, ha⟩, _, _, rfl, ⟨b, rfl, hb⟩, rfl⟩
      exact ⟨l, _, ne, rfl, hl, a, b, rfl, ha, hb⟩
    · rintro vs v ⟨a, b, rfl, ⟨a0, a1⟩, ⟨b0, b1⟩⟩ ⟨i, rfl, i0, i1⟩
      have : i = 0 ∨ i = 1 ∨ i = 2 ∨ i = 3 := by omega
      rcases this with rfl | rfl | rfl | rfl
      · exact ⟨0, .int 1, rfl, rfl, 1, rfl, by decide, by decide⟩
      · exact ⟨1, .int 2, rfl, rfl, 2, rfl, by decide, by decide⟩
      · exact ⟨2, .int (1 + a), rfl, rfl, _, rfl, by omega, by omega⟩
      · exact ⟨3, .int (1000000000000 - b), rfl, rfl, _, rfl, by omega, by omega⟩
    · rintro v H2 ⟨x, rfl, x0, x1⟩ p2 e2
      exact k x H2 x0 x1 (p2.mono (by omega)) e2
theorem ok_law_right (T : Tx K mg) : FnOkG P w K mg base 7 T.f_law_right T.d_law_right ["store", "heavy", "wide"] sp_law_right := by
  refine funG T.F_law_right sc_law_right (fun vs H Q E h => ?_) (fun cdv A outer s0 H vs Q E hg hr h => ?_)
  · obtain ⟨p, a, n, s, x, rfl, _⟩ := h
    rfl
  · obtain ⟨p, a, n, s, x, rfl, hpo, hn, ap, ha, o, h1, h2, k⟩ := h
    refine ⟨_, (pss_cons (ps_asg (pe_tup (pa_cons (pe_ix ix_list (pe_lst (pa_cons pe_int (pa_cons (pe_call (ok_law_pick T) (hr.mono (by decide)) (by rfl) T.g_law_pick T.F_law_pick.kp T.b_law_pick .nil pass0 (pa_cons (pv 0) (pa_cons pe_int pa_nil))) (pa_cons (pe_call (ok_law_pick T) (hr.mono (by decide)) (by rfl) T.g_law_pick T.F_law_pick.kp T.b_law_pick .nil pass0 (pa_cons (pv 0) (pa_cons pe_int pa_nil))) pa_nil)))) (pe_call (ok_law_pick T) (hr.mono (by decide)) (by rfl) T.g_law_pick T.F_law_pick.kp T.b_law_pick .nil pass0 (pa_cons (pv 0) (pa_cons pe_int pa_nil))) (fun _ _ => rfl)) (pa_cons (pe_callB (cr_sum rfl) (by rfl) T.m_sum (by decide +kernel) (pa_cons (pv 2) pa_nil)) pa_nil))) (pg_tup rfl (pgs_cons (pg_name (i := 3) sc_law_right.nd rfl (Or.inr rfl)) (pgs_cons (pg_name (i := 4) sc_law_right.nd rfl (Or.inr rfl)) pgs_nil))))
      (pss_cons (ps_set (i := 5) sc_law_right.nd rfl (Or.inl rfl) (pe_op op_cat (pe_callTy call_listR (by rfl) T.m_list (by decide +kernel) (pa_cons (pv 2) pa_nil)) (pe_lst (pa_cons pe_int pa_nil))))
      (pss_cons (ps_for PassesOwn.never rfl (pi_range1 (by rfl) T.m_range (pa_cons (pe_ix ix_list (pe_lst (pa_cons (pv 3) (pa_cons (pe_op op_sub pe_int (pv 4)) pa_nil))) (pe_call (ok_law_pick T) (hr.mono (by decide)) (by rfl) T.g_law_pick T.F_law_pick.kp T.b_law_pick .nil pass0 (pa_cons (pv 0) (pa_cons pe_int pa_nil))) (fun _ _ => rfl)) pa_nil)) (pg_name (i := 6) sc_law_right.nd rfl (Or.inl rfl)) (pss_cons (ps_set (i := 7) sc_law_right.nd rfl (Or.inl rfl) (pe_ix ix_list (pe_lst (pa_cons (pe_call (ok_law_pick T) (hr.mono (by decide)) (by rfl) T.g_law_pick T.F_law_pick.kp T.b_law_pick .nil pass0 (pa_cons (pv 0) (pa_cons (pe_callB call_lenR (by rfl) T.m_len (by decide +kernel) (pa_cons (pv 5) pa_nil)) pa_nil))) (pa_cons pe_int (pa_cons (pe_callB call_lenR (by rfl) T.m_len (by decide +kernel) (pa_cons (pv 2) pa_nil)) pa_nil)))) (pe_call (ok_law_pick T) (hr.mono (by decide)) (by rfl) T.g_law_pick T.F_law_pick.kp T.b_law_pick .nil pass0 (pa_cons (pv 0) (pa_cons pe_int pa_nil))) (fun _ _ => rfl)))
      (pss_one (ps_asg (pe_op op_add (pe_ix ix_list (pv 5) (pv 7) (fun _ _ => rfl)) pe_int) (pg_sub (pv 5) (pv 7) set_list)))))
      (pss_cons (ps_set (i := 8) sc_law_right.nd rfl (Or.inl rfl) (pe_callB (id := "repr") (r := rRepr K) (call_reprD hg hr.units) (by rfl) T.m_repr (by decide +kernel) (pa_cons (pe_lst (pa_cons (pv 2) (pa_cons (pv 5) pa_nil))) pa_nil)))
      (pss_cons (ps_if (pt_cmpR (op_neD hr.units) (pe_call (ok_grow_share T) (hr.mono (by decide)) (by rfl) T.g_grow_share T.F_grow_share.kp T.b_grow_share .nil pass0 (pa_cons (pv 2) (pa_cons (pv 1) (pa_cons (pv 5) pa_nil)))) (pe_call (ok_law_share T) (hr.mono (by decide)) (by rfl) T.g_law_share T.F_law_share.kp T.b_law_share .nil pass0 (pa_cons (pv 1) (pa_cons (pv 2) (pa_cons (pv 5) pa_nil)))) (nomark _)) (pss_one (ps_ret pe_bl)) pss_nil)
      (pss_cons (ps_setLc (i := 10) (own := [("far", 9)]) (g := (gName 9)) (tt := tYes) rfl sc_law_right.nd rfl rfl (sw_true rfl rfl rfl (by decide +kernel)) (pi_list (pv 2)) (blkOk_by (own := [("far", 9)]) (N := n_law_right) (sc := defScope s_law_right) (by decide +kernel)) (fun _ _ _ _ _ => (pg_name (i := 9) sc_law_right.nd rfl (Or.inl rfl))) (fun _ _ _ _ _ => pts_nil) (fun _ _ _ _ _ => (pe_call (ok_law_lowest T) (hr.mono (by decide)) (by rfl) T.g_law_lowest T.F_law_lowest.kp T.b_law_lowest .nil pass0 (pa_cons (pe_op op_add (pe_op op_mulX (pv 9) (pe_op op_add (pv 1) (pv 4))) (pe_op op_mulX (pv 9) (pv 3))) (pa_cons (pe_op op_add (pv 1) (pv 4)) pa_nil)))))
      (pss_cons (ps_if (pt_cmpR (op_neD hr.units) (pe_call (ok_mean_later T) (hr.mono (by decide)) (by rfl) T.g_mean_later T.F_mean_later.kp T.b_mean_later .nil pass0 (pa_cons (pv 2) (pa_cons (pv 1) (pa_cons (pv 3) pa_nil)))) (pv 10) (nomark _)) (pss_one (ps_ret pe_bl)) pss_nil)
      (pss_cons (ps_set (i := 11) sc_law_right.nd rfl (Or.inl rfl) (pe_call (ok_law_fresh T) (hr.mono (by decide)) (by rfl) T.g_law_fresh T.F_law_fresh.kp T.b_law_fresh .nil pass0 (pa_cons (pv 1) (pa_cons (pv 4) (pa_cons (pv 3) pa_nil)))))
      (pss_cons (ps_set (i := 12) sc_law_right.nd rfl (Or.inr rfl) (pe_call (ok_law_rising T) (hr.mono (by decide)) (by rfl) T.g_law_rising T.F_law_rising.kp T.b_law_rising .nil pass0 (pa_cons (pe_op op_add (pv 1) (pv 4)) (pa_cons (pv 3) pa_nil))))
      (pss_cons (ps_setLc (i := 10) (own := [("part", 13)]) (g := (gName 13)) (tt := tYes) rfl sc_law_right.nd rfl rfl (sw_true rfl rfl rfl (by decide +kernel)) (pi_list (pv 11)) (blkOk_by (own := [("part", 13)]) (N := n_law_right) (sc := defScope s_law_right) (by decide +kernel)) (fun _ _ _ _ _ => (pg_name (i := 13) sc_law_right.nd rfl (Or.inl rfl))) (fun _ _ _ _ _ => pts_nil) (fun _ _ _ _ _ => (pe_call (ok_law_lowest T) (hr.mono (by decide)) (by rfl) T.g_law_lowest T.F_law_lowest.kp T.b_law_lowest .nil pass0 (pa_cons (pv 13) (pa_cons (pv 12) pa_nil)))))
      (pss_cons (ps_if (PW.pt (pw_or (pt_cmpR (op_neD hr.units) (pe_call (ok_new_shares T) (hr.mono (by decide)) (by rfl) T.g_new_shares T.F_new_shares.kp T.b_new_shares .nil pass0 (pa_cons (pv 2) (pa_cons (pv 1) (pa_cons (pv 3) pa_nil)))) (pv 10) (nomark _)) (pw_or1 (pt_cmpR op_ne (pe_callB (cr_sum rfl) (by rfl) T.m_sum (by decide +kernel) (pa_cons (pv 11) pa_nil)) (pv 12) (nomark _))))) (pss_one (ps_ret pe_bl)) pss_nil)
      (pss_one (ps_ret (pe_cmpR op_eq (pe_callB (id := "repr") (r := rRepr K) (call_reprD hg hr.units) (by rfl) T.m_repr (by decide +kernel) (pa_cons (pe_lst (pa_cons (pv 2) (pa_cons (pv 5) pa_nil))) pa_nil)) (pv 8) (nomark _))))))))))))))), ?_⟩
    have l20 := o.len
    have s20 := o.2.2
    have s1 := o.pos
    have hma : Hm p H a = some (.lst (nv s)) := by
      unfold Hm
      rw [if_neg ap]
      exact ha
    have aOk : ∀ H1, Ex (Hm p H) H1 → H1 a = some (.lst (nv s)) := fun H1 e => e a _ hma
    refine pq_tupV (K := K) (p := p) (k := (0 + (1 + (1 + 0))) + 1) (H0 := Hm p H) (R := fun v _ => ∃ m : Nat, v = .int (m : Int) ∧ m ≤ 40) (y := .int (s.sum : Int)) (ep_ix (A := fun v => ∃ m : Nat, v = .int (m : Int) ∧ m ≤ 40) (ix := fun v => ∃ r, v = .int r ∧ 0 ≤ r ∧ r < 3) (C := fun vs => ∃ b c : Nat, vs = [.int 40, .int (b : Int), .int (c : Int)] ∧ b ≤ 40 ∧ c ≤ 3) hm_p
        (ep_is (ep_lst (epa_pure hm_p ev_c (epa_cons (A := fun v => ∃ b : Nat, v = .int (b : Int) ∧ b ≤ 40) hm_p (ep_is (ep_dipI (w := 41) hm_p (ev_var rfl) ev_c (by decide) (by decide)) ?_) (epa_cons (A := fun v => ∃ b : Nat, v = .int (b : Int) ∧ b ≤ 3) hm_p (ep_is (ep_dipI (w := 4) hm_p (ev_var rfl) ev_c (by decide) (by decide)) ?_) epa_nil))) ?_) ?_) (ep_dipI (w := 3) hm_p (ev_var rfl) ev_c (by decide) (by decide)) ?_) stb_c hm_sub hpo (by omega) (fun H1 e1 => ?_) ?_
    · rintro v _ ⟨r, rfl, r0, r1⟩
      exact ⟨r.toNat, by congr 1; omega, by omega⟩
    · rintro v _ ⟨r, rfl, r0, r1⟩
      exact ⟨r.toNat, by congr 1; omega, by omega⟩
    · rintro vs ⟨_, _, rfl, _, _, _, rfl, _, _, _, rfl, _, rfl⟩
      exact Nat.le_of_ble_eq_true rfl
    · rintro v H4 ⟨l, vs, ne, rfl, hl, _, _, rfl, rfl, _, _, rfl, ⟨b, rfl, hb⟩, _, _, rfl, ⟨c, rfl, hc⟩, rfl⟩
      exact ⟨l, _, ne, rfl, hl, b, c, rfl, hb, hc⟩
    · rintro vs v ⟨b, c, rfl, hb, hc⟩ ⟨i, rfl, i0, i1⟩
      have : i = 0 ∨ i = 1 ∨ i = 2 := by omega
      rcases this with rfl | rfl | rfl
      · exact ⟨0, .int 40, rfl, rfl, 40, rfl, by decide⟩
      · exact ⟨1, .int (b : Int), rfl, rfl, b, rfl, hb⟩
      · exact ⟨2, .int (c : Int), rfl, rfl, c, rfl, by omega⟩
    · have := ev_sumV (K := K) (ta := tVar 2) (σ := start n_law_right [.ref p, .int x, .ref a]) (H := H1) (ns := iz s) (ev_var (i := 2) (v := .ref a) rfl) (sq_of (aOk H1 e1))
      rw [iz_sum] at this
      exact this
    rintro v H2 ⟨m, rfl, hm⟩ p2 e2
    have ha2 := aOk H2 e2
    have hsl := nv_len s
    refine q_asgL (xs := nv (s ++ [0])) ?_ fun b H3 nb e3 hb3 => ?_
    · rw [nv_app]
      exact el_cat (el_list (ev_var rfl) (sq_of ha2)) (el_lst (ea_cons ev_c ea_nil) (Nat.le_of_ble_eq_true rfl)) (by simp [hsl, nv_len]; omega)
    have bp : b ≠ p := p2.ne nb
    have ba : b ≠ a := fun z => by
      subst z
      rw [ha2] at nb
      cases nb
    have nbH : Hm p H b = none := fresh_back e2 nb
    have e3' : Ex (Hm p H) H3 := e2.trans e3
    refine pq_forR1 (p := p) (k := (0 + (0 + 0)) + 1) (H0 := Hm p H3) (C := fun j => j ≤ 60 - s.sum) (ep_ix (A := fun v => ∃ m : Nat, v = .int (m : Int) ∧ m ≤ 60 - s.sum) (ix := fun v => ∃ r, v = .int r ∧ 0 ≤ r ∧ r < 2) (C := fun vs => vs = [.int (m : Int), .int ((60 - s.sum : Nat) : Int)]) hm_p
        (ep_is (ep_lst (epa_pure (v := .int (m : Int)) hm_p (ev_var rfl) (epa_pure (v := .int ((60 - s.sum : Nat) : Int)) hm_p (ev_is (ev_op ev_c (ev_var rfl) rv_I0) (by congr 1; omega)) epa_nil)) ?_) ?_) (ep_dipI (w := 2) hm_p (ev_var rfl) ev_c (by decide) (by decide)) ?_) hm_sub (p2.ex e3) (by omega) ?_
    · rintro vs ⟨_, _, rfl, _, _, _, rfl, _, rfl⟩
      exact Nat.le_of_ble_eq_true rfl
    · rintro v H4 ⟨l, vs, ne, rfl, hl, _, _, rfl, rfl, _, _, rfl, rfl, rfl⟩
      exact ⟨l, _, ne, rfl, hl, rfl⟩
    · rintro vs v rfl ⟨i, rfl, i0, i1⟩
      have : i = 0 ∨ i = 1 := by omega
      rcases this with rfl | rfl
      · exact ⟨0, .int (m : Int), rfl, rfl, m, rfl, by omega⟩
      · exact ⟨1, .int ((60 - s.sum : Nat) : Int), rfl, rfl, _, rfl, Nat.le_refl _⟩
    rintro left H4 hleft p4 e4
    have hb4 := hm_at e4 bp hb3
    have e4' : Ex (Hm p H) H4 := hm_trans e3' e4
    refine q_forR1 (n := (left : Int)) (ea_cons ev_c ea_nil) ⟨by omega, by omega⟩ (fun i σ' H' => ∃ (t : List Nat) (y6 y7 : Option V), σ' = [some (.ref p), some (.int x), some (.ref a), some (.int (m : Int)), some (.int (s.sum : Int)), some (.ref b), y6, y7, none, none, none, none, none, none] ∧ H' b = some (.lst (nv t)) ∧ Up s t ∧ t.sum = s.sum + i ∧ Po p (n + 4 + 2 * i) H' ∧ Ex (Hm p H) H')
      (fun H5 e5 => ⟨s ++ [0], none, none, rfl, e5 b _ hb4, Up.start s, by simp, (p4.ex e5).mono (by omega), e4'.trans e5⟩) ?_ ?_
    · rintro i σ' H' hi ⟨t, y6, y7, rfl, hbt, u, ts, pt, et⟩
      have ul := u.len
      have tl := nv_len t
      refine pq_asg (p := p) (k := (1 + (0 + (0 + 0))) + 1) (H0 := Hm p H') (R := fun v _ => ∃ r : Nat, v = .int (r : Int) ∧ r < t.length) (ep_ix (A := fun v => ∃ r : Nat, v = .int (r : Int) ∧ r < t.length) (ix := fun v => ∃ r, v = .int r ∧ 0 ≤ r ∧ r < 3) (C := fun vs => ∃ c : Nat, vs = [.int (c : Int), .int 0, .int (s.length : Int)] ∧ c < t.length) hm_p
          (ep_is (ep_lst (epa_cons (A := fun v => ∃ c : Nat, v = .int (c : Int) ∧ c < t.length) hm_p (ep_is (ep_dipI (w := (t.length : Int)) hm_p (ev_var rfl) ?_ (by omega) (by omega)) ?_) (epa_pure (v := .int 0) hm_p ev_c (epa_pure (v := .int (s.length : Int)) hm_p ?_ epa_nil))) ?_) ?_) (ep_dipI (w := 3) hm_p (ev_var rfl) ev_c (by decide) (by decide)) ?_) hm_sub pt (by omega) ?_
      · have hb' : Hm p H' b = some (.lst (nv t)) := by
          unfold Hm
          rw [if_neg bp]
          exact hbt
        have := ev_len (K := K) (ta := tVar 5) (σ := [some (.ref p), some (.int x), some (.ref a), some (.int (m : Int)), some (.int (s.sum : Int)), some (.ref b), some (.int (i : Int)), y7, none, none, none, none, none, none]) (H := Hm p H') (ev_var (i := 5) (v := .ref b) rfl) (sq_of hb')
        rw [tl] at this
        exact this
      · rintro v _ ⟨r, rfl, r0, r1⟩
        exact ⟨r.toNat, by congr 1; omega, by omega⟩
      · have ha' : Hm p H' a = some (.lst (nv s)) := by
          unfold Hm
          rw [if_neg ap]
          exact aOk H' et
        have := ev_len (K := K) (ta := tVar 2) (σ := [some (.ref p), some (.int x), some (.ref a), some (.int (m : Int)), some (.int (s.sum : Int)), some (.ref b), some (.int (i : Int)), y7, none, none, none, none, none, none]) (H := Hm p H') (ev_var (i := 2) (v := .ref a) rfl) (sq_of ha')
        rw [hsl] at this
        exact this
      · rintro vs ⟨_, _, rfl, _, _, _, rfl, _, _, _, rfl, _, rfl⟩
        exact Nat.le_of_ble_eq_true rfl
      · rintro v H5 ⟨l, vs, ne, rfl, hl, _, _, rfl, ⟨c, rfl, hc⟩, _, _, rfl, rfl, _, _, rfl, rfl, rfl⟩
        exact ⟨l, _, ne, rfl, hl, c, rfl, hc⟩
      · rintro vs v ⟨c, rfl, hc⟩ ⟨j, rfl, j0, j1⟩
        have : j = 0 ∨ j = 1 ∨ j = 2 := by omega
        rcases this with rfl | rfl | rfl
        · exact ⟨0, .int (c : Int), rfl, rfl, c, rfl, hc⟩
        · exact ⟨1, .int 0, rfl, rfl, 0, rfl, by omega⟩
        · exact ⟨2, .int (s.length : Int), rfl, rfl, _, rfl, by omega⟩
      rintro v H5 ⟨r, rfl, hr5⟩ p5 e5
      have hb5 := hm_at e5 bp hbt
      obtain ⟨z, hz⟩ : ∃ z, t[r]? = some z := ⟨_, List.getElem?_eq_getElem hr5⟩
      obtain ⟨u2, ts2⟩ := u.bump hz
      refine s_setL (j := r) (v := .int ((z + 1 : Nat) : Int)) hb5 (ev_is (ev_op (ev_op (ev_var rfl) (ev_var rfl) (rv_ixL (K := K) (sq_of hb5) (atI_nat (nv_get hz)))) ev_c rv_I0) (by congr 1)) (ev_var rfl) (ev_var rfl) (by rw [tl]; exact hr5) fun H6 e6 => ?_
      have es : (nv t).set r (.int ((z + 1 : Nat) : Int)) = nv (t.set r (z + 1)) := by
        rw [nv_eq, nv_eq, List.map_set]
      rw [es]
      exact ⟨t.set r (z + 1), _, _, rfl, upd_same, u2, by omega, ((p5.ex e6).upd bp).mono (by omega), Ex.mut (hm_trans et (e5.trans (Ex.refl _) |> fun q => hm_trans q (hm_of e6))) nbH⟩
    · rintro σ' H' ⟨t, y6, y7, rfl, hbt, u, ts, pt, et⟩
      rw [Int.toNat_natCast] at ts pt
      have ha5 := aOk H' et
      have G := u.grow o.2.1 ts
      have tm : t.sum ≤ 60 := by omega
      have tb : ∀ y ∈ t, y ≤ 1000 := fun y hy => by
        have := mem_le_sum hy
        omega
      have sb : ∀ y ∈ s, y ≤ 1000 := fun y hy => by
        have := mem_le_sum hy
        omega
      have ul := u.len
      have tl := nv_len t
      have sh := shn_two (shn_di (by omega) sb) (shn_di (by omega) tb)
      refine q_asg (ev_reprN (d := .list [di s, di t]) (ed_lst (eda_cons (ed_of (ev_var rfl) (dp_L ha5)) (eda_cons (ed_of (ev_var rfl) (dp_L hbt)) eda_nil)) (Nat.le_of_ble_eq_true rfl)) rfl sh (by decide)) fun H6 e6 => ?_
      have ha6 := e6 a _ ha5
      have hb6 := e6 b _ hbt
      refine q_when (b := false) (et_is (et_test (ev_neD (d := shareD (gnum x left s t (t.getLast?.getD 0)) (rise (x + (s.sum : Int)) left)) (e := shareD (gnum x left s t (t.getLast?.getD 0)) (rise (x + (s.sum : Int)) left)) (ed_frac (eu_call (ea_cons (ev_var rfl) (ea_cons (ev_var rfl) (ea_cons (ev_var rfl) ea_nil))) (su_grow ha6 hb6 o u tm ts h1 h2))) (ed_frac (eu_call (ea_cons (ev_var rfl) (ea_cons (ev_var rfl) (ea_cons (ev_var rfl) ea_nil))) (su_law_share ha6 hb6 o u tm ts h1 h2))) (shaped_shD _ _) (shaped_shD _ _))) (by rw [eqv_same (shaped_shD _ _)]; rfl)) (fun hb => Bool.noConfusion hb) fun _ H7 e7 => ?_
      have ha7 := e7 a _ ha6
      have hb7 := e7 b _ hb6
      have xS : 0 < x + (s.sum : Int) := by omega
      refine q_asgLT (rs := s.map (meanF x s.sum m)) ?_ fun c ws H8 nc e8 hc8 t8 => ?_
      · have g := elt_map (K := K) (te := tCall sp_lowest [] E0 (tCons (tOp (rI0 fun i j => .int (i + j)) (tOp (rI CMulX fun i j => .int (i * j)) (tVar 9) (tOp (rI0 fun i j => .int (i + j)) (tVar 1) (tVar 4))) (tOp (rI CMulX fun i j => .int (i * j)) (tVar 9) (tVar 3))) (tCons (tOp (rI0 fun i j => .int (i + j)) (tVar 1) (tVar 4)) tNil))) (tl := tVar 2) (j := 9) (vs := [9]) (H := H7) (xs := nv s) (σ := [some (.ref p), some (.int x), some (.ref a), some (.int (m : Int)), some (.int (s.sum : Int)), some (.ref b), y6, y7, some (.str (PyData.list [di s, di t]).shown), none, none, none, none, none]) (fun i => meanF x s.sum m (s.getD i 0)) (ev_var rfl) (sq_of ha7) (by rw [nv_len]; omega) (fun _ => rfl) fun i v H8 e8 hv => ?_
        · have e : (List.range (nv s).length).map (fun i => meanF x s.sum m (s.getD i 0)) = s.map (meanF x s.sum m) := by
            rw [nv_len]
            exact map_getD (meanF x s.sum m) s
          rw [e] at g
          exact g
        · rw [nv_eq, List.getElem?_map] at hv
          obtain ⟨z, hz, rfl⟩ := Option.map_eq_some_iff.mp hv
          have hz20 := mem_le_sum (List.mem_of_getElem? hz)
          have ez : s.getD i 0 = z := by
            rw [List.getD_eq_getElem?_getD, hz]
            rfl
          rw [ez]
          have m1 : CMulX (z : Int) (x + (s.sum : Int)) := mulx_ok (a := 64) (b := 64) (by omega) (by omega) (by decide)
          have m2 : CMulX (z : Int) (m : Int) := mulx_ok (a := 64) (b := 64) (by omega) (by omega) (by decide)
          have e : meanF x s.sum m z = frac ((z : Int) * (x + (s.sum : Int)) + (z : Int) * (m : Int)) (x + (s.sum : Int)) := by
            unfold meanF
            have e1 : (s.sum : Int) + x = x + (s.sum : Int) := Int.add_comm _ _
            have e2 : (z : Int) * ((s.sum : Int) + x + m) = (z : Int) * (x + (s.sum : Int)) + (z : Int) * (m : Int) := by
              rw [e1, Int.mul_add]
            rw [e2, e1]
          rw [e]
          exact eu_call (ea_cons (by walk_at "ev") (ea_cons (by walk_at "ev") ea_nil)) (su_lowest (Int.add_nonneg (Int.mul_nonneg (by omega) (by omega)) (Int.mul_nonneg (by omega) (by omega))) xS (lt2_mono (show (x + (s.sum : Int)).natAbs < 2 ^ 64 by omega) (by decide)))
      have ha8 := e8 a _ ha7
      have hb8 := e8 b _ hb7
      have mf : s.map (meanF x s.sum m) = s.map fun z : Nat => frac ((z : Int) * ((s.sum : Int) + x + m), (s.sum : Int) + x).1 ((z : Int) * ((s.sum : Int) + x + m), (s.sum : Int) + x).2 := rfl
      have shm := shaped_shs (fun z => ((z : Int) * ((s.sum : Int) + x + m), (s.sum : Int) + x)) s
      rw [mf] at t8
      refine q_when (b := false) (et_is (et_test (ev_neD (ed_fracs (f := fun z => ((z : Int) * ((s.sum : Int) + x + m), (s.sum : Int) + x)) (l := s) (elt_mean (ea_cons (ev_var rfl) (ea_cons (ev_var rfl) (ea_cons (ev_var rfl) ea_nil))) ha8 o hm h1 h2)) (ed_of (ev_var rfl) (.lst (sq_of hc8) (dpa_fracs (fun z => ((z : Int) * ((s.sum : Int) + x + m), (s.sum : Int) + x)) s t8))) shm shm)) (by rw [eqv_same shm]; rfl)) (fun hb => Bool.noConfusion hb) fun _ H9 e9 => ?_
      have ha9 := e9 a _ ha8
      have hb9 := e9 b _ hb8
      refine q_asgL (xs := (frw x (s.sum : Int) m).map V.int) (el_call (ea_cons (ev_var rfl) (ea_cons (ev_var rfl) (ea_cons (ev_var rfl) ea_nil))) (sl_fresh hm s1 s20 h1 h2)) fun d H10 nd e10 hd10 => ?_
      have ha10 := e10 a _ ha9
      have hb10 := e10 b _ hb9
      have rp := rise_pos (w := x + (s.sum : Int)) (by omega) m
      have rz := rise60 (x := x + (s.sum : Int)) (n := m) (by omega) (by omega) (by omega)
      have fl := frw_len x (s.sum : Int) m
      refine q_asg (v := .int (rise (x + (s.sum : Int)) m)) (ev_call (ea_cons (ev_op (ev_var rfl) (ev_var rfl) rv_I0) (ea_cons (ev_var rfl) ea_nil)) (sv_rise (by omega) (by omega))) fun H11 e11 => ?_
      have ha11 := e11 a _ ha10
      have hb11 := e11 b _ hb10
      have hd11 := e11 d _ hd10
      refine q_asgLT (rs := (List.range (m + 1)).map fun r => frac (freshN x (s.sum : Int) m r) (rise (x + (s.sum : Int)) m)) ?_ fun c2 ws2 H12 nc2 e12 hc12 t12 => ?_
      · have g := elt_map (K := K) (te := tCall sp_lowest [] E0 (tCons (tVar 13) (tCons (tVar 12) tNil))) (tl := tVar 11) (j := 13) (vs := [13]) (H := H11) (xs := (frw x (s.sum : Int) m).map V.int) (σ := [some (.ref p), some (.int x), some (.ref a), some (.int (m : Int)), some (.int (s.sum : Int)), some (.ref b), y6, y7, some (.str (PyData.list [di s, di t]).shown), none, some (.ref c), some (.ref d), some (.int (rise (x + (s.sum : Int)) m)), none]) (fun r => frac (freshN x (s.sum : Int) m r) (rise (x + (s.sum : Int)) m)) (ev_var rfl) (sq_of hd11) (by rw [List.length_map, fl]; omega) (fun _ => rfl) fun i v H12 e12 hv => ?_
        · rw [List.length_map, fl] at g
          exact g
        · rw [List.getElem?_map] at hv
          obtain ⟨z, hz, rfl⟩ := Option.map_eq_some_iff.mp hv
          have il := (List.getElem?_eq_some_iff.mp hz).1
          rw [fl] at il
          have ez : z = freshN x (s.sum : Int) m i := by
            have := frw_get x (s.sum : Int) m i (by omega)
            rw [List.getD_eq_getElem?_getD, hz] at this
            exact this
          subst ez
          exact eu_call (ea_cons (ev_var rfl) (ea_cons (ev_var rfl) ea_nil)) (su_lowest (freshN_bd h1 h2 (by omega) (by omega) (by omega) (by omega)).1 rp (lt2_mono rz (by decide)))
      have ha12 := e12 a _ ha11
      have hb12 := e12 b _ hb11
      have hd12 := e12 d _ hd11
      have shf := shaped_shs (fun r => (freshN x (s.sum : Int) m r, rise (x + (s.sum : Int)) m)) (List.range (m + 1))
      have sm := ev_sumV (K := K) (ta := tVar 11) (σ := [some (.ref p), some (.int x), some (.ref a), some (.int (m : Int)), some (.int (s.sum : Int)), some (.ref b), y6, y7, some (.str (PyData.list [di s, di t]).shown), none, some (.ref c2), some (.ref d), some (.int (rise (x + (s.sum : Int)) m)), none]) (H := H12) (ns := frw x (s.sum : Int) m) (ev_var (i := 11) rfl) (sq_of hd12)
      rw [frw_sum] at sm
      refine q_when (b := false) (et_is (et_or (et_test (ev_neD (ed_fracs (f := fun r => (freshN x (s.sum : Int) m r, rise (x + (s.sum : Int)) m)) (l := List.range (m + 1)) (elt_new (ea_cons (ev_var rfl) (ea_cons (ev_var rfl) (ea_cons (ev_var rfl) ea_nil))) ha12 o hm h1 h2)) (ed_of (ev_var rfl) (.lst (sq_of hc12) (dpa_fracs (fun r => (freshN x (s.sum : Int) m r, rise (x + (s.sum : Int)) m)) _ t12))) shf shf)) fun _ => et_test (ev_op sm (ev_var rfl) (rv_ne rfl))) (by rw [eqv_same shf]; simp)) (fun hb => Bool.noConfusion hb) fun _ H13 e13 => ?_
      have ha13 := e13 a _ ha12
      have hb13 := e13 b _ hb12
      have eAll : Ex H' H13 := e6.trans (e7.trans (e8.trans (e9.trans (e10.trans (e11.trans (e12.trans e13))))))
      refine s_ret (v := .bl true) (ev_is (ev_op (ev_reprN (d := .list [di s, di t]) (ed_lst (eda_cons (ed_of (ev_var rfl) (dp_L ha13)) (eda_cons (ed_of (ev_var rfl) (dp_L hb13)) eda_nil)) (Nat.le_of_ble_eq_true rfl)) rfl sh (by decide)) (ev_var rfl) (rv_eq rfl)) (by simp)) fun H14 e14 => k H14 ((pt.ex (eAll.trans e14)).mono (by omega)) (hm_trans et (hm_of (eAll.trans e14)))
end

local macro_rules | `(tactic| walk_at "call") => `(tactic| (with_reducible exact sv_whole))
local macro_rules | `(tactic| walk_at "call") => `(tactic| (with_reducible exact sv_between))
local macro_rules | `(tactic| walk_at "call") => `(tactic| ((with_reducible refine' sv_check1 ?c1 ?c2); (case c1 => walk_at "side"); (case c2 => walk_at "side")))
local macro_rules | `(tactic| walk_at "call") => `(tactic| ((with_reducible refine' sv_check_number ?c1 ?c2); (case c1 => walk_at "side"); (case c2 => walk_at "side")))
local macro_rules | `(tactic| walk_at "callU") => `(tactic| ((with_reducible refine' su_fraction ?c1 ?c2); (case c1 => walk_at "side"); (case c2 => walk_at "side")))
local macro_rules | `(tactic| walk_at "call") => `(tactic| ((with_reducible refine' sv_rise ?c1 ?c2); (case c1 => walk_at "side"); (case c2 => walk_at "side")))

/-! ### the law -/
section
variable {K : PySem.W.Frag} {σ : L2.St} {H0 H : Hp} {ta tb tc te tm tw : TE} {t : TT} {p : Addr} {k k1 k2 : Nat} {R : V → Hp → Prop}
theorem ep_right {E E1 : XK} {x : Int} (ha : Ev ta σ H (.ref p)) (hw : Ev tw σ H (.int x)) (h1 : 1 ≤ x) (h2 : x ≤ 1000000000000) : EvP p 1100 (tCall sp_law_right [] E (tCons ta (tCons tw (tCons (tCall sp_law_wide [] E1 (tCons ta tNil)) tNil)))) σ H (fun v _ => v = .bl true) := fun n H1 e hp hn Q q =>
  ha H1 e _ fun H2 e2 => hw H2 (e.trans e2) _ fun H3 e3 => ha H3 (e.trans (e2.trans e3)) _ fun H4 e4 => ⟨p, n, rfl, hp.ex (e2.trans (e3.trans e4)), by omega, fun l s H5 nl hl o p5 e5 =>
    ⟨p, l, n + 22, s, x, rfl, p5, by omega, (hp.ex (e2.trans (e3.trans e4))).ne nl, hl, o, h1, h2, fun H6 p6 e6 => q _ H6 rfl (p6.mono (by omega)) (hm_trans (hm_trans (hm_of (e2.trans (e3.trans e4))) e5) e6)⟩⟩
theorem ep_heavy {E : XK} (ha : Ev ta σ H (.ref p)) : EvP p 4 (tCall sp_law_heavy [] E (tCons ta tNil)) σ H (fun v _ => ∃ x : Int, v = .int x ∧ 1 ≤ x ∧ x ≤ 1000000000000) := fun n H1 e hp hn Q q =>
  ha H1 e _ fun H2 e2 => ⟨p, n, rfl, hp.ex e2, by omega, fun x H3 x1 x2 p3 e3 => q _ H3 ⟨x, rfl, x1, x2⟩ (p3.mono (by omega)) (hm_trans (hm_of e2) e3)⟩
theorem ep_if {b : Bool} (ht : EvT t σ H0 b) (h1 : b = true → EvP p k ta σ H0 R) (h2 : b = false → EvP p k tb σ H0 R) : EvP p k (tIf t ta tb) σ H0 R := fun n H1 e hp hn Q q => ht H1 e _ fun H2 e2 => by
  cases b with
  | true =>
    show ta σ H2 Q
    exact h1 rfl n H2 (e.trans e2) (hp.ex e2) hn Q fun v H3 hv p3 e3 => q v H3 hv p3 (hm_trans (hm_of e2) e3)
  | false =>
    show tb σ H2 Q
    exact h2 rfl n H2 (e.trans e2) (hp.ex e2) hn Q fun v H3 hv p3 e3 => q v H3 hv p3 (hm_trans (hm_of e2) e3)
theorem ep_mono (h : EvP p k te σ H0 R) (hk : k ≤ k1) : EvP p k1 te σ H0 R := fun n H1 e hp hn Q q => h n H1 e hp (by omega) Q fun v H2 hv p2 e2 => q v H2 hv (p2.mono (by omega)) e2
theorem ed_share {a b x y : Int} (h : EvU te σ H (frac a b)) (e1 : a / cd a b = x) (e2 : b / cd a b = y) : EvD K te σ H (.tuple [.int x, .int y]) := by
  subst e1
  subst e2
  exact ed_ofU h (dpa_frac a b)
theorem ed_pair {x y : Int} (h : Ev ta σ H (.int x)) (h2 : Ev tb σ H (.int y)) : EvD K (tTup (tCons ta (tCons tb tNil))) σ H (.tuple [.int x, .int y]) := ed_ofU (eu_tup (ea_cons h (ea_cons h2 ea_nil)) (Nat.le_of_ble_eq_true rfl)) (.cons (.int _) (.cons (.int _) .nil))
theorem ev_ten : Ev (tOp (rI CPowX fun i j => .int (i ^ j.toNat)) (tC (.int 10)) (tC (.int 12))) σ H (.int 1000000000000) := ev_is (ev_op ev_c ev_c (rv_I (by constructor <;> decide +kernel))) rfl
theorem eu_growN {s u : List Nat} {x : Int} {left : Nat} {E : XK} (h : EvL ta σ H (nv s)) (hx : Ev tb σ H (.int x)) (h' : EvL tc σ H (nv u)) (o : Sz s) (up : Up s u) (h60 : u.sum ≤ 60) (hl : u.sum = s.sum + left) (h1 : 1 ≤ x) (h2 : x ≤ 1000000000000) : EvU (tCall sp_grow [] E (tCons ta (tCons tb (tCons tc tNil)))) σ H (frac (gnum x left s u (u.getLast?.getD 0)) (rise (x + (s.sum : Int)) left)) := fun H1 e Q q =>
  h H1 e _ fun a H2 na e2 ha => hx H2 (e.trans e2) _ fun H3 e3 => h' H3 (e.trans (e2.trans e3)) _ fun b H4 nb e4 hb =>
    ⟨a, b, s, u, x, left, rfl, e4 a _ (e3 a _ ha), hb, o, up, h60, hl, h1, h2, fun c H5 nc e5 hc => q c H5 (fresh_back (e2.trans (e3.trans e4)) nc) (e2.trans (e3.trans (e4.trans e5))) hc⟩
theorem elt_newN {s : List Nat} {x : Int} {m : Nat} {E : XK} (h : EvL ta σ H (nv s)) (hx : Ev tb σ H (.int x)) (hm0 : Ev tc σ H (.int (m : Int))) (o : Sz s) (hm : m ≤ 40) (h1 : 1 ≤ x) (h2 : x ≤ 1000000000000) : EvLT (tCall sp_new_shares [] E (tCons ta (tCons tb (tCons tc tNil)))) σ H ((List.range (m + 1)).map fun r => frac (freshN x (s.sum : Int) m r) (rise (x + (s.sum : Int)) m)) := fun H1 e Q q =>
  h H1 e _ fun a H2 na e2 ha => hx H2 (e.trans e2) _ fun H3 e3 => hm0 H3 (e.trans (e2.trans e3)) _ fun H4 e4 =>
    ⟨a, s, x, m, rfl, e4 a _ (e3 a _ ha), o, hm, h1, h2, fun c ws H5 nc e5 hc t => q c ws H5 (fresh_back (e2.trans (e3.trans e4)) nc) (e2.trans (e3.trans (e4.trans e5))) hc t⟩
theorem elt_meanN {s : List Nat} {x : Int} {m : Nat} {E : XK} (h : EvL ta σ H (nv s)) (hx : Ev tb σ H (.int x)) (hm0 : Ev tc σ H (.int (m : Int))) (o : Sz s) (hm : m ≤ 40) (h1 : 1 ≤ x) (h2 : x ≤ 1000000000000) : EvLT (tCall sp_mean_later [] E (tCons ta (tCons tb (tCons tc tNil)))) σ H (s.map (meanF x s.sum m)) := fun H1 e Q q =>
  h H1 e _ fun a H2 na e2 ha => hx H2 (e.trans e2) _ fun H3 e3 => hm0 H3 (e.trans (e2.trans e3)) _ fun H4 e4 =>
    ⟨a, s, x, m, rfl, e4 a _ (e3 a _ ha), o, hm, h1, h2, fun c ws H5 nc e5 hc t => q c ws H5 (fresh_back (e2.trans (e3.trans e4)) nc) (e2.trans (e3.trans (e4.trans e5))) hc t⟩
/-- an item of a new list of tuples -/
theorem ed_ixLT {i : Nat} {a b : Int} {rs : List (List V)} (h : EvLT te σ H rs) (hi : rs[i]? = some (frac a b)) : EvD K (tOp (rIxL K) te (tC (.int (i : Int)))) σ H (shareD a b) := fun H1 e Q q =>
  h H1 e _ fun p ws H2 hp e2 h2 t => by
    have hw : ∃ v, ws[i]? = some v := by
      have := t.len
      have il := (List.getElem?_eq_some_iff.mp hi).1
      exact ⟨_, List.getElem?_eq_getElem (by omega)⟩
    obtain ⟨v, hv⟩ := hw
    obtain ⟨u, r, rfl, hu, hr⟩ := t.get hv
    have : r = frac a b := Option.some.inj (hr.symm.trans hi)
    subst this
    exact rv_ixL (K := K) (sq_of h2) (atI_nat hv) H2 (Ex.refl H2) Q fun H3 e3 => q _ H3 (e2.trans e3) (.tup (st_of (e3 u _ hu)) (dpa_frac a b))
theorem ev_lenLT {rs : List (List V)} (h : EvLT te σ H rs) : Ev (tCB (rLenS K) (tCons te tNil)) σ H (.int (rs.length : Int)) := fun H1 e Q q =>
  h H1 e _ fun p ws H2 hp e2 h2 t => by
    have := ev_len (K := K) (ta := tC (.ref p)) (σ := σ) (H := H2) (ev_c (v := .ref p)) (sq_of h2)
    rw [t.len] at this
    exact this H2 (Ex.refl H2) Q fun H3 e3 => q H3 (e2.trans e3)
theorem dpa_rep {v : V} {d : PyData} (h : Dp K H v d) : ∀ n : Nat, DpAll K H (List.replicate n v) (List.replicate n d)
  | 0 => .nil
  | n + 1 => .cons h (dpa_rep h n)
/-- [a tuple] * n -/
theorem ed_repU {n : Nat} {x y : Int} (h : EvU te σ H [.int x, .int y]) (hn : n ≤ 1000) : EvD K (tOp rRep (tLst (tCons te tNil)) (tC (.int (n : Int)))) σ H (.list (List.replicate n (.tuple [.int x, .int y]))) := fun H1 e Q q =>
  h H1 e _ fun u H2 nu e2 hu => ⟨sz_of (by show 1 ≤ 100000; decide), fun l hl => ⟨l, n, [.ref u], rfl, rfl, upd_same, by omega, by omega, by
    show 1 * (n : Int).toNat ≤ sizeLine
    exact sz_of (by omega), fun l2 hl2 => by
    have ex : Ex H2 (upd (upd H2 l (.lst [.ref u])) l2 (.lst (List.replicate (n : Int).toNat [V.ref u]).flatten)) := (Ex.new hl).trans (Ex.new hl2)
    refine q _ _ (e2.trans ex) (.lst (xs := List.replicate n (.ref u)) (sq_of ?_) (dpa_rep (.tup (st_of (ex u _ hu)) (.cons (.int _) (.cons (.int _) .nil))) n))
    rw [upd_same, Int.toNat_natCast]
    congr 1
    congr 1
    clear q ex hl2
    induction n with
    | zero => rfl
    | succ n ih => rw [List.replicate_succ, List.flatten_cons, ih (by omega), List.replicate_succ]; rfl⟩⟩
theorem el_repN {i : Nat} (n : Nat) (hn : n ≤ 1000) : EvL (tOp rRep (tLst (tCons (tC (.int (i : Int))) tNil)) (tC (.int (n : Int)))) σ H (nv (List.replicate n i)) := by
  have g := el_rep (σ := σ) (H := H) (xs := [.int (i : Int)]) (k := (n : Int)) (el_lst (ea_cons ev_c ea_nil) (Nat.le_of_ble_eq_true rfl)) (ev_c (v := .int (n : Int))) (by omega) (by omega) (by show 1 ≤ 50; decide)
  have e : (List.replicate (n : Int).toNat [V.int (i : Int)]).flatten = nv (List.replicate n i) := by
    rw [Int.toNat_natCast, nv_eq]
    clear g
    induction n with
    | zero => rfl
    | succ n ih => rw [List.replicate_succ, List.flatten_cons, ih (by omega), List.replicate_succ]; rfl
  rw [e] at g
  exact g
end
theorem ex_of_hm {p : Addr} {H H3 H4 : Hp} (hp : H p = none) (e : Ex H H3) (e4 : Ex (Hm p H3) H4) : Ex H H4 := hm_next hp e e4
theorem max_min4 {m : Int} (h0 : 0 ≤ m) : 0 ≤ (if (if m < 4 then m else 4) > 1 then (if m < 4 then m else 4) else 1) ∧ (if (if m < 4 then m else 4) > 1 then (if m < 4 then m else 4) else 1) ≤ (4 : Int) := by
  split <;> split <;> omega
theorem sz_ones : Sz (List.replicate 20 1) := ⟨by decide, by decide, by decide⟩
theorem sz_20 : Sz [20] := ⟨by decide, by decide, by decide⟩
theorem up_ones : Up (List.replicate 20 1) (List.replicate 20 1 ++ [40]) := by
  have : ∀ n : Nat, Up (List.replicate n 1) (List.replicate n 1 ++ [40]) := fun n => by
    induction n with
    | zero => trivial
    | succ n ih => exact ⟨Nat.le_refl _, ih⟩
  exact this 20
theorem gcho_ones : ∀ (n : Nat) (M : Int), gcho M (List.replicate n 1) (List.replicate n 1 ++ [40]) = M
  | 0, M => rfl
  | n + 1, M => by
    show gcho (M * (cho 0 0 : Int)) (List.replicate n 1) (List.replicate n 1 ++ [40]) = M
    rw [gcho_ones n, cho_zero]
    simp
theorem prm_none (n : Nat) : prm n 0 = 1 := by
  have h := prm_fac (Nat.zero_le n)
  have p := fac_pos n
  rw [Nat.sub_zero] at h
  exact Int.eq_of_mul_eq_mul_right (a := (fac n : Int)) (by omega) (by rw [h, Int.one_mul])
theorem g_ones : gnum 1 40 (List.replicate 20 1) (List.replicate 20 1 ++ [40]) 40 = rise 1 40 := by
  unfold gnum
  rw [gcho_ones, Nat.sub_self, prm_none, Int.one_mul]
theorem g_last : freshN 1 20 40 40 = rise 1 40 := by
  unfold freshN
  rw [cho_self, Nat.sub_self]
  show ((1 : Nat) : Int) * 1 * rise 1 40 = rise 1 40
  omega
theorem g_third : frac (gnum 1 40 [20] [60, 0] 0) (rise (1 + 20) 40) = [.int 1, .int 3] := by
  have e : gnum 1 40 [20] [60, 0] 0 = PySem.W.mcPerm 40 40 * PySem.W.mcComb 59 19 := by
    show prm 40 40 * 1 * ((cho 59 19 : Nat) : Int) = _
    rw [← comb_cho, Int.mul_one]
    rfl
  have a : gnum 1 40 [20] [60, 0] 0 / cd (gnum 1 40 [20] [60, 0] 0) (rise (1 + 20) 40) = 1 := by
    rw [e]
    decide +kernel
  have b : rise (1 + 20) 40 / cd (gnum 1 40 [20] [60, 0] 0) (rise (1 + 20) 40) = 3 := by
    rw [e]
    decide +kernel
  unfold frac
  rw [a, b]
theorem g_big (x : Int) : gnum x 40 [20] [20, 40] 40 = rise x 40 := by
  unfold gnum
  rw [Nat.sub_self, prm_none, Int.one_mul]
  show rise x 40 * ((cho 19 19 : Nat) : Int) = _
  rw [cho_self]
  omega
def sp_law (K : PySem.W.Frag) : Sp := fun vs H Q _ => ∃ (a : Addr) (ns : List Int), vs = [.ref a] ∧ SqL K H a (ns.map V.int) ∧ ns.length ≤ 63 ∧ ∀ H', Q (.bl true) H'
section
variable {P : Program} {w : World} {K : PySem.W.Frag} {mg : Str → Option Value} {base : Heap}
theorem ok_law (T : Tx K mg) : FnOkG P w K mg base 8 T.f_law T.d_law ["script"] (sp_law K) := by
  refine funG T.F_law sc_law (fun vs H Q E h => ?_) (fun cdv A outer s H vs Q E hg hr h => ?_)
  · obtain ⟨a, ns, rfl, _⟩ := h
    rfl
  · obtain ⟨a, ns, rfl, hs, hl, k⟩ := h
    refine ⟨_, (pss_cons (ps_for PassesOwn.never rfl (pi_range1 (by rfl) T.m_range (pa_cons (pe_callB (call_maxR rfl) (by rfl) T.m_max (by decide +kernel) (pa_cons pe_int (pa_cons (pe_callB (call_minR rfl) (by rfl) T.m_min (by decide +kernel) (pa_cons pe_int (pa_cons (pe_callB call_lenR (by rfl) T.m_len (by decide +kernel) (pa_cons (pv 0) pa_nil)) pa_nil))) pa_nil))) pa_nil)) (pg_name (i := 1) sc_law.nd rfl (Or.inl rfl)) (pss_cons (ps_set (i := 2) sc_law.nd rfl (Or.inl rfl) (pe_call (ok_law_store T) (hr.mono (by decide)) (by rfl) T.g_law_store T.F_law_store.kp T.b_law_store .nil pass0 (pa_cons (pv 0) (pa_cons (pv 1) pa_nil))))
      (pss_one (ps_for PassesOwn.never rfl (pi_range1 (by rfl) T.m_range (pa_cons pe_int pa_nil)) (pg_name (i := 3) sc_law.nd rfl (Or.inl rfl)) (pss_cons (ps_set (i := 4) sc_law.nd rfl (Or.inl rfl) (pe_ifExp (pt_cmpR op_eq (pv 3) pe_int (nomark _)) (pe_call (ok_law_heavy T) (hr.mono (by decide)) (by rfl) T.g_law_heavy T.F_law_heavy.kp T.b_law_heavy .nil pass0 (pa_cons (pv 2) pa_nil)) (pe_op op_add pe_int (pe_call (ok_law_pick T) (hr.mono (by decide)) (by rfl) T.g_law_pick T.F_law_pick.kp T.b_law_pick .nil pass0 (pa_cons (pv 2) (pa_cons pe_int pa_nil))))))
      (pss_one (ps_if (pt_not (pt_val (pe_callG (ok_law_right T) hg (hr.mono (by decide)) (by rfl) T.g_law_right T.F_law_right.kp T.b_law_right (pa_cons (pv 2) (pa_cons (pv 4) (pa_cons (pe_call (ok_law_wide T) (hr.mono (by decide)) (by rfl) T.g_law_wide T.F_law_wide.kp T.b_law_wide .nil pass0 (pa_cons (pv 2) pa_nil)) pa_nil)))))) (pss_one (ps_ret pe_bl)) pss_nil)))))))
      (pss_cons (ps_set (i := 5) sc_law.nd rfl (Or.inl rfl) (pe_lst (pa_cons (pe_call (ok_grow_share T) (hr.mono (by decide)) (by rfl) T.g_grow_share T.F_grow_share.kp T.b_grow_share .nil pass0 (pa_cons (pe_op op_rep (pe_lst (pa_cons pe_int pa_nil)) pe_int) (pa_cons pe_int (pa_cons (pe_op op_cat (pe_op op_rep (pe_lst (pa_cons pe_int pa_nil)) pe_int) (pe_lst (pa_cons pe_int pa_nil))) pa_nil)))) (pa_cons (pe_ix ix_list (pe_call (ok_new_shares T) (hr.mono (by decide)) (by rfl) T.g_new_shares T.F_new_shares.kp T.b_new_shares .nil pass0 (pa_cons (pe_op op_rep (pe_lst (pa_cons pe_int pa_nil)) pe_int) (pa_cons pe_int (pa_cons pe_int pa_nil)))) pe_int (fun _ _ => rfl)) (pa_cons (pe_call (ok_grow_share T) (hr.mono (by decide)) (by rfl) T.g_grow_share T.F_grow_share.kp T.b_grow_share .nil pass0 (pa_cons (pe_lst (pa_cons pe_int pa_nil)) (pa_cons pe_int (pa_cons (pe_lst (pa_cons pe_int (pa_cons pe_int pa_nil))) pa_nil)))) pa_nil)))))
      (pss_cons (ps_if (PW.pt (pw_or (pt_cmpR (op_neD hr.units) (pe_ix ix_list (pv 5) pe_int (fun _ _ => rfl)) (pe_ix ix_list (pv 5) pe_int (fun _ _ => rfl)) (nomark _)) (pw_or (pt_cmpR (op_neD hr.units) (pe_ix ix_list (pv 5) pe_int (fun _ _ => rfl)) (pe_call (ok_law_lowest T) (hr.mono (by decide)) (by rfl) T.g_law_lowest T.F_law_lowest.kp T.b_law_lowest .nil pass0 (pa_cons (pe_call (ok_law_rising T) (hr.mono (by decide)) (by rfl) T.g_law_rising T.F_law_rising.kp T.b_law_rising .nil pass0 (pa_cons pe_int (pa_cons pe_int pa_nil))) (pa_cons (pe_call (ok_law_rising T) (hr.mono (by decide)) (by rfl) T.g_law_rising T.F_law_rising.kp T.b_law_rising .nil pass0 (pa_cons pe_int (pa_cons pe_int pa_nil))) pa_nil))) (nomark _)) (pw_or1 (pt_cmpR (op_neD hr.units) (pe_ix ix_list (pv 5) pe_int (fun _ _ => rfl)) (pe_tup (pa_cons pe_int (pa_cons pe_int pa_nil))) (nomark _)))))) (pss_one (ps_ret pe_bl)) pss_nil)
      (pss_cons (ps_if (pt_cmpR (op_neD hr.units) (pe_call (ok_grow_share T) (hr.mono (by decide)) (by rfl) T.g_grow_share T.F_grow_share.kp T.b_grow_share .nil pass0 (pa_cons (pe_lst (pa_cons pe_int pa_nil)) (pa_cons (pe_op op_powX pe_int pe_int) (pa_cons (pe_lst (pa_cons pe_int (pa_cons pe_int pa_nil))) pa_nil)))) (pe_call (ok_law_lowest T) (hr.mono (by decide)) (by rfl) T.g_law_lowest T.F_law_lowest.kp T.b_law_lowest .nil pass0 (pa_cons (pe_call (ok_law_rising T) (hr.mono (by decide)) (by rfl) T.g_law_rising T.F_law_rising.kp T.b_law_rising .nil pass0 (pa_cons (pe_op op_powX pe_int pe_int) (pa_cons pe_int pa_nil))) (pa_cons (pe_call (ok_law_rising T) (hr.mono (by decide)) (by rfl) T.g_law_rising T.F_law_rising.kp T.b_law_rising .nil pass0 (pa_cons (pe_op op_add (pe_op op_powX pe_int pe_int) pe_int) (pa_cons pe_int pa_nil))) pa_nil))) (nomark _)) (pss_one (ps_ret pe_bl)) pss_nil)
      (pss_one (ps_ret (pe_and (pe_cmpR (op_eqD hr.units) (pe_call (ok_mean_later T) (hr.mono (by decide)) (by rfl) T.g_mean_later T.F_mean_later.kp T.b_mean_later .nil pass0 (pa_cons (pe_op op_rep (pe_lst (pa_cons pe_int pa_nil)) pe_int) (pa_cons pe_int (pa_cons pe_int pa_nil)))) (pe_op op_rep (pe_lst (pa_cons (pe_tup (pa_cons pe_int (pa_cons pe_int pa_nil))) pa_nil)) pe_int) (nomark _)) (pe_one (pe_cmpR op_eq (pe_callB call_lenR (by rfl) T.m_len (by decide +kernel) (pa_cons (pe_call (ok_new_shares T) (hr.mono (by decide)) (by rfl) T.g_new_shares T.F_new_shares.kp T.b_new_shares .nil pass0 (pa_cons (pe_lst (pa_cons pe_int pa_nil)) (pa_cons pe_int (pa_cons pe_int pa_nil)))) pa_nil)) pe_int (nomark _)))))))))), ?_⟩
    have mm := max_min4 (m := ((ns.map V.int).length : Int)) (by omega)
    refine q_forR1 (by walk_at "ea") ⟨mm.1, Int.le_trans mm.2 (by decide)⟩ (fun i σ' H' => ∃ y1 y2 y3 y4, σ' = [some (.ref a), y1, y2, y3, y4, none] ∧ Ex H H') (fun H1 e1 => ⟨none, none, none, none, rfl, e1⟩) ?_ ?_
    · rintro i σ' H' hi ⟨y1, y2, y3, y4, rfl, e⟩
      have hi3 : (i : Int) < 4 := Int.lt_of_lt_of_le hi mm.2
      refine pq_pouch (by walk_at "ea") (ex_l e hs) (by omega) fun p H1 hp e1 hpo => ?_
      refine s_forR1 (n := (3 : Int)) (ea_cons ev_c ea_nil) (by decide) (fun j σ' H2 => ∃ z3 z4, σ' = [some (.ref a), some (.int (i : Int)), some (.ref p), z3, z4, none] ∧ Ex H' H2 ∧ Po p (2000 * j) H2) (fun H2 e2 => ⟨y3, y4, rfl, e1.trans e2, hpo.ex e2⟩) ?_ ?_
      · rintro j σ' H2 hj ⟨z3, z4, rfl, e2, p2⟩
        refine pq_asg (p := p) (k := 4) (H0 := Hm p H2) (R := fun v _ => ∃ x : Int, v = .int x ∧ 1 ≤ x ∧ x ≤ 1000000000000) (ep_if (et_test (ev_op (ev_var rfl) ev_c (rv_eq rfl))) (fun _ => ep_heavy (ev_var rfl)) (fun _ => ep_mono (ep_is (ep_add (C := fun r => 0 ≤ r ∧ r < 9) hm_p ev_c (ep_dipI (w := 9) hm_p (ev_var rfl) ev_c (by decide) (by decide))) fun v H4 ⟨r, e', r0, r1⟩ => ⟨1 + r, e', by omega, by omega⟩) (by decide))) hm_sub p2 (by omega) ?_
        rintro v H3 ⟨x, rfl, x1, x2⟩ p3 e3
        refine ps_no (p := p) (k := 1100) (H0 := H3) (tp_is (b := !true) (tp_not (tp_B (ep_right (ev_var rfl) (ev_var rfl) x1 x2))) rfl) (Ex.refl _) p3 (by omega) fun H4 p4 e4 => ?_
        exact ⟨_, _, rfl, hm_next hp e2 (hm_trans e3 e4), p4.mono (by omega)⟩
      · rintro σ' H2 ⟨z3, z4, rfl, e2, p2⟩
        exact ⟨_, _, _, _, rfl, e.trans e2⟩
    · rintro σ' H' ⟨y1, y2, y3, y4, rfl, e⟩
      have rA : 0 < rise 1 40 := rise_pos (by decide) 40
      have rR : 0 < rise 21 40 := rise_pos (by decide) 40
      have rz := rise60 (x := 21) (n := 40) (by decide) (by decide) (by decide)
      have ones : ∀ (σ : L2.St) (H1 : Hp), EvL (tOp rRep (tLst (tCons (tC (.int 1)) tNil)) (tC (.int 20))) σ H1 (nv (List.replicate 20 1)) := fun σ H1 => el_repN (i := 1) 20 (by decide)
      have g1 : ∀ (σ : L2.St) (H1 : Hp), EvU (tCall sp_grow [] E0 (tCons (tOp rRep (tLst (tCons (tC (.int 1)) tNil)) (tC (.int 20))) (tCons (tC (.int 1)) (tCons (tOp rCat (tOp rRep (tLst (tCons (tC (.int 1)) tNil)) (tC (.int 20))) (tLst (tCons (tC (.int 40)) tNil))) tNil)))) σ H1 (frac (rise 1 40) (rise 21 40)) := fun σ H1 => by
        have := eu_growN (E := E0) (x := 1) (left := 40) (ones σ H1) (ev_c (v := .int 1)) (u := List.replicate 20 1 ++ [40]) (tc := tOp rCat (tOp rRep (tLst (tCons (tC (.int 1)) tNil)) (tC (.int 20))) (tLst (tCons (tC (.int 40)) tNil))) (by
          rw [nv_app]
          exact el_cat (ones σ H1) (el_lst (ea_cons ev_c ea_nil) (Nat.le_of_ble_eq_true rfl)) (by rw [nv_len]; decide)) sz_ones up_ones (by decide) (by decide) (by decide) (by decide)
        have e40 : (List.replicate 20 1 ++ [40] : List Nat).getLast?.getD 0 = 40 := by decide
        rw [e40, g_ones] at this
        exact this
      have g3 : ∀ (σ : L2.St) (H1 : Hp), EvU (tCall sp_grow [] E0 (tCons (tLst (tCons (tC (.int 20)) tNil)) (tCons (tC (.int 1)) (tCons (tLst (tCons (tC (.int 60)) (tCons (tC (.int 0)) tNil))) tNil)))) σ H1 [.int 1, .int 3] := fun σ H1 => by
        have := eu_growN (E := E0) (σ := σ) (H := H1) (x := 1) (left := 40) (s := [20]) (u := [60, 0]) (el_lst (ea_cons ev_c ea_nil) (Nat.le_of_ble_eq_true rfl)) (ev_c (v := .int 1)) (el_lst (ea_cons ev_c (ea_cons ev_c ea_nil)) (Nat.le_of_ble_eq_true rfl)) sz_20 ⟨by decide, trivial⟩ (by decide) (by decide) (by decide) (by decide)
        exact g_third ▸ this
      refine q_asgD (K := K) (d := .list [shareD (rise 1 40) (rise 21 40), shareD (rise 1 40) (rise 21 40), .tuple [.int 1, .int 3]]) (ed_lst (eda_cons (ed_frac (g1 _ _)) (eda_cons ?_ (eda_cons (ed_ofU (g3 _ _) (.cons (.int _) (.cons (.int _) .nil))) eda_nil))) (Nat.le_of_ble_eq_true rfl)) fun v H1 e1 dp => ?_
      · refine ed_ixLT (K := K) (i := 40) (elt_newN (s := List.replicate 20 1) (x := 1) (m := 40) (ones _ _) ev_c ev_c sz_ones (by decide) (by decide) (by decide)) ?_
        rw [List.getElem?_map, List.getElem?_range (by decide)]
        show some (frac (freshN 1 20 40 40) (rise 21 40)) = _
        rw [g_last]
      obtain ⟨u, rfl, ws, hs1, da⟩ : ∃ u, v = .ref u ∧ ∃ ws, SqL K H1 u ws ∧ DpAll K H1 ws [shareD (rise 1 40) (rise 21 40), shareD (rise 1 40) (rise 21 40), .tuple [.int 1, .int 3]] := by
        cases dp with
        | lst hs1 da => exact ⟨_, rfl, _, hs1, da⟩
      obtain ⟨w0, w1, w2, rfl, d0, d1, d2⟩ : ∃ w0 w1 w2, ws = [w0, w1, w2] ∧ Dp K H1 w0 (shareD (rise 1 40) (rise 21 40)) ∧ Dp K H1 w1 (shareD (rise 1 40) (rise 21 40)) ∧ Dp K H1 w2 (.tuple [.int 1, .int 3]) := by
        cases da with
        | cons a0 r =>
          cases r with
          | cons a1 r =>
            cases r with
            | cons a2 r =>
              cases r
              exact ⟨_, _, _, rfl, a0, a1, a2⟩
      have it0 : EvD K (tOp (rIxL K) (tVar 5) (tC (.int 0))) [some (.ref a), y1, y2, y3, y4, some (.ref u)] H1 (shareD (rise 1 40) (rise 21 40)) := ed_of (ev_op (ev_var rfl) ev_c (rv_ixL (K := K) hs1 (atI_nat (j := 0) rfl))) d0
      have it1 : EvD K (tOp (rIxL K) (tVar 5) (tC (.int 1))) [some (.ref a), y1, y2, y3, y4, some (.ref u)] H1 (shareD (rise 1 40) (rise 21 40)) := ed_of (ev_op (ev_var rfl) ev_c (rv_ixL (K := K) hs1 (atI_nat (j := 1) rfl))) d1
      have it2 : EvD K (tOp (rIxL K) (tVar 5) (tC (.int 2))) [some (.ref a), y1, y2, y3, y4, some (.ref u)] H1 (.tuple [.int 1, .int 3]) := ed_of (ev_op (ev_var rfl) ev_c (rv_ixL (K := K) hs1 (atI_nat (j := 2) rfl))) d2
      have sd := shaped_shD (rise 1 40) (rise 21 40)
      have lw : EvD K (tCall sp_lowest [] E0 (tCons (tCall sp_rise [] E0 (tCons (tC (.int 1)) (tCons (tC (.int 40)) tNil))) (tCons (tCall sp_rise [] E0 (tCons (tC (.int 21)) (tCons (tC (.int 40)) tNil))) tNil))) [some (.ref a), y1, y2, y3, y4, some (.ref u)] H1 (shareD (rise 1 40) (rise 21 40)) :=
        ed_frac (eu_call (ea_cons (ev_call (ea_cons ev_c (ea_cons (ev_c (v := .int ((40 : Nat) : Int))) ea_nil)) (sv_rise (by decide) (by decide))) (ea_cons (ev_call (ea_cons ev_c (ea_cons (ev_c (v := .int ((40 : Nat) : Int))) ea_nil)) (sv_rise (by decide) (by decide))) ea_nil)) (su_lowest (by omega) rR (lt2_mono rz (by decide))))
      refine q_when (b := false) (et_is (et_or (et_test (ev_neD it0 it1 sd sd)) fun _ => et_or (et_test (ev_neD it0 lw sd sd)) fun _ => et_test (ev_neD it2 (ed_pair ev_c ev_c) (shaped_sh _ _) (shaped_sh _ _))) (by rw [eqv_same sd, eqv_same (shaped_sh _ _)]; rfl)) (fun hb => Bool.noConfusion hb) fun _ H2 e2 => ?_
      have sb := shaped_shD (rise 1000000000000 40) (rise (1000000000000 + 20) 40)
      have rB : 0 < rise (1000000000000 + 20) 40 := rise_pos (by decide) 40
      have rC : 0 < rise 1000000000000 40 := rise_pos (by decide) 40
      have rzb := rise60 (x := 1000000000000 + 20) (n := 40) (by decide) (by decide) (by decide)
      have gb : ∀ (σ : L2.St) (H1 : Hp), EvU (tCall sp_grow [] E0 (tCons (tLst (tCons (tC (.int 20)) tNil)) (tCons (tOp (rI CPowX fun i j => .int (i ^ j.toNat)) (tC (.int 10)) (tC (.int 12))) (tCons (tLst (tCons (tC (.int 20)) (tCons (tC (.int 40)) tNil))) tNil)))) σ H1 (frac (rise 1000000000000 40) (rise (1000000000000 + 20) 40)) := fun σ H1 => by
        have := eu_growN (E := E0) (σ := σ) (H := H1) (x := 1000000000000) (left := 40) (s := [20]) (u := [20, 40]) (el_lst (ea_cons ev_c ea_nil) (Nat.le_of_ble_eq_true rfl)) ev_ten (el_lst (ea_cons ev_c (ea_cons ev_c ea_nil)) (Nat.le_of_ble_eq_true rfl)) sz_20 ⟨by decide, trivial⟩ (by decide) (by decide) (by decide) (by decide)
        rw [show ([20, 40] : List Nat).getLast?.getD 0 = 40 from rfl, g_big] at this
        exact this
      refine q_when (b := false) (et_is (et_test (ev_neD (ed_frac (gb _ _)) (ed_frac (eu_call (ea_cons (ev_call (ea_cons ev_ten (ea_cons (ev_c (v := .int ((40 : Nat) : Int))) ea_nil)) (sv_rise (by decide) (by decide))) (ea_cons (ev_call (ea_cons (ev_op ev_ten ev_c rv_I0) (ea_cons (ev_c (v := .int ((40 : Nat) : Int))) ea_nil)) (sv_rise (b := 1000000000000 + 20) (by decide) (by decide))) ea_nil)) (su_lowest (by omega) rB (lt2_mono rzb (by decide))))) sb sb)) (by rw [eqv_same sb]; rfl)) (fun hb => Bool.noConfusion hb) fun _ H3 e3 => ?_
      have mv : (List.replicate 20 1).map (meanF 20 (List.replicate 20 1).sum 40) = (List.replicate 20 1).map fun z : Nat => frac ((z : Int) * ((20 : Int) + 20 + 40), (20 : Int) + 20).1 ((z : Int) * ((20 : Int) + 20 + 40), (20 : Int) + 20).2 := rfl
      have md : ((List.replicate 20 1).map fun z : Nat => shareD ((z : Int) * ((20 : Int) + 20 + 40), (20 : Int) + 20).1 ((z : Int) * ((20 : Int) + 20 + 40), (20 : Int) + 20).2) = List.replicate 20 (.tuple [.int 2, .int 1]) := by
        rw [List.map_replicate]
        congr 1
      have mean : EvD K (tCall sp_mean_later [] E0 (tCons (tOp rRep (tLst (tCons (tC (.int 1)) tNil)) (tC (.int 20))) (tCons (tC (.int 20)) (tCons (tC (.int 40)) tNil)))) [some (.ref a), y1, y2, y3, y4, some (.ref u)] H3 (.list (List.replicate 20 (.tuple [.int 2, .int 1]))) := by
        have g := elt_meanN (E := E0) (s := List.replicate 20 1) (x := 20) (m := 40) (ones [some (.ref a), y1, y2, y3, y4, some (.ref u)] H3) (ev_c (v := .int 20)) (ev_c (v := .int ((40 : Nat) : Int))) sz_ones (by decide) (by decide) (by decide)
        rw [mv] at g
        have := ed_fracs (K := K) (f := fun z : Nat => ((z : Int) * ((20 : Int) + 20 + 40), (20 : Int) + 20)) g
        rw [md] at this
        exact this
      have shr : SeqAt.shaped (.list (List.replicate 20 (.tuple [.int 2, .int 1]))) = true := by decide +kernel
      have ln := ev_lenLT (K := K) (elt_newN (E := E0) (ta := tLst (tCons (tC (.int 20)) tNil)) (tb := tC (.int 1)) (tc := tC (.int 40)) (σ := [some (.ref a), y1, y2, y3, y4, some (.ref u)]) (H := H3) (s := [20]) (x := 1) (m := 40) (el_lst (ea_cons ev_c ea_nil) (Nat.le_of_ble_eq_true rfl)) ev_c ev_c sz_20 (by decide) (by decide) (by decide))
      rw [List.length_map, List.length_range] at ln
      refine s_ret (v := .bl true) (ev_is (ev_andV (ev_eqD mean (ed_repU (n := 20) (eu_tup (ea_cons ev_c (ea_cons ev_c ea_nil)) (Nat.le_of_ble_eq_true rfl)) (by decide)) shr shr) fun _ => ev_op ln ev_c (rv_eq rfl)) (by rw [eqv_same shr]; rfl)) fun H4 e4 => k H4
end

theorem all_mk {l : PySem.W.OpenLaw} {w : World} {K : PySem.W.Frag} {h : Heap} {mg : Str → Option Value} {fa : Addr} (X : K.In h) (G : h.Ns mainGlobals mg) (hfa : mg "law" = some (.ref fa))
    {f1 : Addr} {od1 an1 : Option Addr} {sl1 : Array (Option Value)} {oc1 kV1 dc1 pm1 cd1 ct1 : Value}
    {f2 : Addr} {od2 an2 : Option Addr} {sl2 : Array (Option Value)} {oc2 kV2 dc2 pm2 cd2 ct2 : Value}
    {f3 : Addr} {od3 an3 : Option Addr} {sl3 : Array (Option Value)} {oc3 kV3 dc3 pm3 cd3 ct3 : Value}
    {f4 : Addr} {od4 an4 : Option Addr} {sl4 : Array (Option Value)} {oc4 kV4 dc4 pm4 cd4 ct4 : Value}
    {f5 : Addr} {od5 an5 : Option Addr} {sl5 : Array (Option Value)} {oc5 kV5 dc5 pm5 cd5 ct5 : Value}
    {f6 : Addr} {od6 an6 : Option Addr} {sl6 : Array (Option Value)} {oc6 kV6 dc6 pm6 cd6 ct6 : Value}
    {f7 : Addr} {od7 an7 : Option Addr} {sl7 : Array (Option Value)} {oc7 kV7 dc7 pm7 cd7 ct7 : Value}
    {f8 : Addr} {od8 an8 : Option Addr} {sl8 : Array (Option Value)} {oc8 kV8 dc8 pm8 cd8 ct8 : Value}
    {f9 : Addr} {od9 an9 : Option Addr} {sl9 : Array (Option Value)} {oc9 kV9 dc9 pm9 cd9 ct9 : Value}
    {f10 : Addr} {od10 an10 : Option Addr} {sl10 : Array (Option Value)} {oc10 kV10 dc10 pm10 cd10 ct10 : Value}
    {f11 : Addr} {od11 an11 : Option Addr} {sl11 : Array (Option Value)} {oc11 kV11 dc11 pm11 cd11 ct11 : Value}
    {f12 : Addr} {od12 an12 : Option Addr} {sl12 : Array (Option Value)} {oc12 kV12 dc12 pm12 cd12 ct12 : Value}
    {f13 : Addr} {od13 an13 : Option Addr} {sl13 : Array (Option Value)} {oc13 kV13 dc13 pm13 cd13 ct13 : Value}
    {f14 : Addr} {od14 an14 : Option Addr} {sl14 : Array (Option Value)} {oc14 kV14 dc14 pm14 cd14 ct14 : Value}
    {f15 : Addr} {od15 an15 : Option Addr} {sl15 : Array (Option Value)} {oc15 kV15 dc15 pm15 cd15 ct15 : Value}
    {f16 : Addr} {od16 an16 : Option Addr} {sl16 : Array (Option Value)} {oc16 kV16 dc16 pm16 cd16 ct16 : Value}
    {f17 : Addr} {od17 an17 : Option Addr} {sl17 : Array (Option Value)} {oc17 kV17 dc17 pm17 cd17 ct17 : Value}
    {f18 : Addr} {od18 an18 : Option Addr} {sl18 : Array (Option Value)} {oc18 kV18 dc18 pm18 cd18 ct18 : Value}
    {f19 : Addr} {od19 an19 : Option Addr} {sl19 : Array (Option Value)} {oc19 kV19 dc19 pm19 cd19 ct19 : Value}
    {f20 : Addr} {od20 an20 : Option Addr} {sl20 : Array (Option Value)} {oc20 kV20 dc20 pm20 cd20 ct20 : Value}
    {f21 : Addr} {od21 an21 : Option Addr} {sl21 : Array (Option Value)} {oc21 kV21 dc21 pm21 cd21 ct21 : Value}
    {f22 : Addr} {od22 an22 : Option Addr} {sl22 : Array (Option Value)} {oc22 kV22 dc22 pm22 cd22 ct22 : Value}
    {f23 : Addr} {od23 an23 : Option Addr} {sl23 : Array (Option Value)} {oc23 kV23 dc23 pm23 cd23 ct23 : Value}
    {f24 : Addr} {od24 an24 : Option Addr} {sl24 : Array (Option Value)} {oc24 kV24 dc24 pm24 cd24 ct24 : Value}
    {t_MOST_GUESTS : Tok}
    {t_MOST_WEIGHT : Tok}
    {t_MOST_LATER : Tok}
    {t_MOST_MORE : Tok}
    (a1 : PySem.W.nsIn K mainGlobals "is_whole" = some (some (.ref f1))) (l1 : K.lookup f1 = some ⟨oc1, od1, .func (PySem.W.fnOf "is_whole" "is_whole" (defArgs s_is_whole) (defBody s_is_whole) (defScope s_is_whole) .none kV1 dc1 pm1 an1 cd1 ct1), sl1⟩) (c1 : PySem.W.codeIn K cd1 "is_whole" = true) (k1 : PySem.W.keepIn K (.ref f1) = true)
    (a2 : PySem.W.nsIn K mainGlobals "is_within" = some (some (.ref f2))) (l2 : K.lookup f2 = some ⟨oc2, od2, .func (PySem.W.fnOf "is_within" "is_within" (defArgs s_is_within) (defBody s_is_within) (defScope s_is_within) .none kV2 dc2 pm2 an2 cd2 ct2), sl2⟩) (c2 : PySem.W.codeIn K cd2 "is_within" = true) (k2 : PySem.W.keepIn K (.ref f2) = true)
    (a3 : PySem.W.nsIn K mainGlobals "check_weight" = some (some (.ref f3))) (l3 : K.lookup f3 = some ⟨oc3, od3, .func (PySem.W.fnOf "check_weight" "check_weight" (defArgs s_check_weight) (defBody s_check_weight) (defScope s_check_weight) .none kV3 dc3 pm3 an3 cd3 ct3), sl3⟩) (c3 : PySem.W.codeIn K cd3 "check_weight" = true) (k3 : PySem.W.keepIn K (.ref f3) = true)
    (a4 : PySem.W.nsIn K mainGlobals "check_number" = some (some (.ref f4))) (l4 : K.lookup f4 = some ⟨oc4, od4, .func (PySem.W.fnOf "check_number" "check_number" (defArgs s_check_number) (defBody s_check_number) (defScope s_check_number) .none kV4 dc4 pm4 an4 cd4 ct4), sl4⟩) (c4 : PySem.W.codeIn K cd4 "check_number" = true) (k4 : PySem.W.keepIn K (.ref f4) = true)
    (a5 : PySem.W.nsIn K mainGlobals "rising" = some (some (.ref f5))) (l5 : K.lookup f5 = some ⟨oc5, od5, .func (PySem.W.fnOf "rising" "rising" (defArgs s_rising) (defBody s_rising) (defScope s_rising) .none kV5 dc5 pm5 an5 cd5 ct5), sl5⟩) (c5 : PySem.W.codeIn K cd5 "rising" = true) (k5 : PySem.W.keepIn K (.ref f5) = true)
    (a6 : PySem.W.nsIn K mainGlobals "fraction" = some (some (.ref f6))) (l6 : K.lookup f6 = some ⟨oc6, od6, .func (PySem.W.fnOf "fraction" "fraction" (defArgs s_fraction) (defBody s_fraction) (defScope s_fraction) .none kV6 dc6 pm6 an6 cd6 ct6), sl6⟩) (c6 : PySem.W.codeIn K cd6 "fraction" = true) (k6 : PySem.W.keepIn K (.ref f6) = true)
    (a7 : PySem.W.nsIn K mainGlobals "check_sizes" = some (some (.ref f7))) (l7 : K.lookup f7 = some ⟨oc7, od7, .func (PySem.W.fnOf "check_sizes" "check_sizes" (defArgs s_check_sizes) (defBody s_check_sizes) (defScope s_check_sizes) .none kV7 dc7 pm7 an7 cd7 ct7), sl7⟩) (c7 : PySem.W.codeIn K cd7 "check_sizes" = true) (k7 : PySem.W.keepIn K (.ref f7) = true)
    (a8 : PySem.W.nsIn K mainGlobals "are_sizes" = some (some (.ref f8))) (l8 : K.lookup f8 = some ⟨oc8, od8, .func (PySem.W.fnOf "are_sizes" "are_sizes" (defArgs s_are_sizes) (defBody s_are_sizes) (defScope s_are_sizes) .none kV8 dc8 pm8 an8 cd8 ct8), sl8⟩) (c8 : PySem.W.codeIn K cd8 "are_sizes" = true) (k8 : PySem.W.keepIn K (.ref f8) = true)
    (a9 : PySem.W.nsIn K mainGlobals "grow_share" = some (some (.ref f9))) (l9 : K.lookup f9 = some ⟨oc9, od9, .func (PySem.W.fnOf "grow_share" "grow_share" (defArgs s_grow_share) (defBody s_grow_share) (defScope s_grow_share) .none kV9 dc9 pm9 an9 cd9 ct9), sl9⟩) (c9 : PySem.W.codeIn K cd9 "grow_share" = true) (k9 : PySem.W.keepIn K (.ref f9) = true)
    (a10 : PySem.W.nsIn K mainGlobals "mean_later" = some (some (.ref f10))) (l10 : K.lookup f10 = some ⟨oc10, od10, .func (PySem.W.fnOf "mean_later" "mean_later" (defArgs s_mean_later) (defBody s_mean_later) (defScope s_mean_later) .none kV10 dc10 pm10 an10 cd10 ct10), sl10⟩) (c10 : PySem.W.codeIn K cd10 "mean_later" = true) (k10 : PySem.W.keepIn K (.ref f10) = true)
    (a11 : PySem.W.nsIn K mainGlobals "new_shares" = some (some (.ref f11))) (l11 : K.lookup f11 = some ⟨oc11, od11, .func (PySem.W.fnOf "new_shares" "new_shares" (defArgs s_new_shares) (defBody s_new_shares) (defScope s_new_shares) .none kV11 dc11 pm11 an11 cd11 ct11), sl11⟩) (c11 : PySem.W.codeIn K cd11 "new_shares" = true) (k11 : PySem.W.keepIn K (.ref f11) = true)
    (a12 : PySem.W.nsIn K mainGlobals "check_later" = some (some (.ref f12))) (l12 : K.lookup f12 = some ⟨oc12, od12, .func (PySem.W.fnOf "check_later" "check_later" (defArgs s_check_later) (defBody s_check_later) (defScope s_check_later) .none kV12 dc12 pm12 an12 cd12 ct12), sl12⟩) (c12 : PySem.W.codeIn K cd12 "check_later" = true) (k12 : PySem.W.keepIn K (.ref f12) = true)
    (a13 : PySem.W.nsIn K mainGlobals "are_later" = some (some (.ref f13))) (l13 : K.lookup f13 = some ⟨oc13, od13, .func (PySem.W.fnOf "are_later" "are_later" (defArgs s_are_later) (defBody s_are_later) (defScope s_are_later) .none kV13 dc13 pm13 an13 cd13 ct13), sl13⟩) (c13 : PySem.W.codeIn K cd13 "are_later" = true) (k13 : PySem.W.keepIn K (.ref f13) = true)
    (a14 : PySem.W.nsIn K mainGlobals "_law_store" = some (some (.ref f14))) (l14 : K.lookup f14 = some ⟨oc14, od14, .func (PySem.W.fnOf "_law_store" "_law_store" (defArgs s_law_store) (defBody s_law_store) (defScope s_law_store) .none kV14 dc14 pm14 an14 cd14 ct14), sl14⟩) (c14 : PySem.W.codeIn K cd14 "_law_store" = true) (k14 : PySem.W.keepIn K (.ref f14) = true)
    (a15 : PySem.W.nsIn K mainGlobals "_law_pick" = some (some (.ref f15))) (l15 : K.lookup f15 = some ⟨oc15, od15, .func (PySem.W.fnOf "_law_pick" "_law_pick" (defArgs s_law_pick) (defBody s_law_pick) (defScope s_law_pick) .none kV15 dc15 pm15 an15 cd15 ct15), sl15⟩) (c15 : PySem.W.codeIn K cd15 "_law_pick" = true) (k15 : PySem.W.keepIn K (.ref f15) = true)
    (a16 : PySem.W.nsIn K mainGlobals "_law_lowest" = some (some (.ref f16))) (l16 : K.lookup f16 = some ⟨oc16, od16, .func (PySem.W.fnOf "_law_lowest" "_law_lowest" (defArgs s_law_lowest) (defBody s_law_lowest) (defScope s_law_lowest) .none kV16 dc16 pm16 an16 cd16 ct16), sl16⟩) (c16 : PySem.W.codeIn K cd16 "_law_lowest" = true) (k16 : PySem.W.keepIn K (.ref f16) = true)
    (a17 : PySem.W.nsIn K mainGlobals "_law_rising" = some (some (.ref f17))) (l17 : K.lookup f17 = some ⟨oc17, od17, .func (PySem.W.fnOf "_law_rising" "_law_rising" (defArgs s_law_rising) (defBody s_law_rising) (defScope s_law_rising) .none kV17 dc17 pm17 an17 cd17 ct17), sl17⟩) (c17 : PySem.W.codeIn K cd17 "_law_rising" = true) (k17 : PySem.W.keepIn K (.ref f17) = true)
    (a18 : PySem.W.nsIn K mainGlobals "_law_heavy" = some (some (.ref f18))) (l18 : K.lookup f18 = some ⟨oc18, od18, .func (PySem.W.fnOf "_law_heavy" "_law_heavy" (defArgs s_law_heavy) (defBody s_law_heavy) (defScope s_law_heavy) .none kV18 dc18 pm18 an18 cd18 ct18), sl18⟩) (c18 : PySem.W.codeIn K cd18 "_law_heavy" = true) (k18 : PySem.W.keepIn K (.ref f18) = true)
    (a19 : PySem.W.nsIn K mainGlobals "_law_wide" = some (some (.ref f19))) (l19 : K.lookup f19 = some ⟨oc19, od19, .func (PySem.W.fnOf "_law_wide" "_law_wide" (defArgs s_law_wide) (defBody s_law_wide) (defScope s_law_wide) .none kV19 dc19 pm19 an19 cd19 ct19), sl19⟩) (c19 : PySem.W.codeIn K cd19 "_law_wide" = true) (k19 : PySem.W.keepIn K (.ref f19) = true)
    (a20 : PySem.W.nsIn K mainGlobals "_law_choose" = some (some (.ref f20))) (l20 : K.lookup f20 = some ⟨oc20, od20, .func (PySem.W.fnOf "_law_choose" "_law_choose" (defArgs s_law_choose) (defBody s_law_choose) (defScope s_law_choose) .none kV20 dc20 pm20 an20 cd20 ct20), sl20⟩) (c20 : PySem.W.codeIn K cd20 "_law_choose" = true) (k20 : PySem.W.keepIn K (.ref f20) = true)
    (a21 : PySem.W.nsIn K mainGlobals "_law_share" = some (some (.ref f21))) (l21 : K.lookup f21 = some ⟨oc21, od21, .func (PySem.W.fnOf "_law_share" "_law_share" (defArgs s_law_share) (defBody s_law_share) (defScope s_law_share) .none kV21 dc21 pm21 an21 cd21 ct21), sl21⟩) (c21 : PySem.W.codeIn K cd21 "_law_share" = true) (k21 : PySem.W.keepIn K (.ref f21) = true)
    (a22 : PySem.W.nsIn K mainGlobals "_law_fresh" = some (some (.ref f22))) (l22 : K.lookup f22 = some ⟨oc22, od22, .func (PySem.W.fnOf "_law_fresh" "_law_fresh" (defArgs s_law_fresh) (defBody s_law_fresh) (defScope s_law_fresh) .none kV22 dc22 pm22 an22 cd22 ct22), sl22⟩) (c22 : PySem.W.codeIn K cd22 "_law_fresh" = true) (k22 : PySem.W.keepIn K (.ref f22) = true)
    (a23 : PySem.W.nsIn K mainGlobals "_law_right" = some (some (.ref f23))) (l23 : K.lookup f23 = some ⟨oc23, od23, .func (PySem.W.fnOf "_law_right" "_law_right" (defArgs s_law_right) (defBody s_law_right) (defScope s_law_right) .none kV23 dc23 pm23 an23 cd23 ct23), sl23⟩) (c23 : PySem.W.codeIn K cd23 "_law_right" = true) (k23 : PySem.W.keepIn K (.ref f23) = true)
    (a24 : PySem.W.nsIn K mainGlobals "law" = some (some (.ref f24))) (l24 : K.lookup f24 = some ⟨oc24, od24, .func (PySem.W.fnOf "law" "law" (defArgs s_law) (defBody s_law) (defScope s_law) .none kV24 dc24 pm24 an24 cd24 ct24), sl24⟩) (c24 : PySem.W.codeIn K cd24 "law" = true) (k24 : PySem.W.keepIn K (.ref f24) = true)
    (z_abs : PySem.W.nsIn K mainGlobals "abs" = some none)
    (z_all : PySem.W.nsIn K mainGlobals "all" = some none)
    (z_enumerate : PySem.W.nsIn K mainGlobals "enumerate" = some none)
    (z_int : PySem.W.nsIn K mainGlobals "int" = some none)
    (z_len : PySem.W.nsIn K mainGlobals "len" = some none)
    (z_list : PySem.W.nsIn K mainGlobals "list" = some none)
    (z_max : PySem.W.nsIn K mainGlobals "max" = some none)
    (z_min : PySem.W.nsIn K mainGlobals "min" = some none)
    (z_range : PySem.W.nsIn K mainGlobals "range" = some none)
    (z_repr : PySem.W.nsIn K mainGlobals "repr" = some none)
    (z_sum : PySem.W.nsIn K mainGlobals "sum" = some none)
    (z_type : PySem.W.nsIn K mainGlobals "type" = some none)
    (z_zip : PySem.W.nsIn K mainGlobals "zip" = some none)
    (y_MOST_GUESTS : PySem.W.nsIn K mainGlobals "MOST_GUESTS" = some (some (.int 20 t_MOST_GUESTS)))
    (y_MOST_WEIGHT : PySem.W.nsIn K mainGlobals "MOST_WEIGHT" = some (some (.int 1000000000000 t_MOST_WEIGHT)))
    (y_MOST_LATER : PySem.W.nsIn K mainGlobals "MOST_LATER" = some (some (.int 60 t_MOST_LATER)))
    (y_MOST_MORE : PySem.W.nsIn K mainGlobals "MOST_MORE" = some (some (.int 40 t_MOST_MORE)))
    (x_comb : PySem.W.nsIn K mainGlobals "comb" = some (some (.builtin "math.comb")))
    (x_gcd : PySem.W.nsIn K mainGlobals "gcd" = some (some (.builtin "math.gcd")))
    (x_perm : PySem.W.nsIn K mainGlobals "perm" = some (some (.builtin "math.perm")))
    : ∃ fd : FuncData, (∀ (s : Shared) (v : Value), BindsTo s fd ⟨[v], []⟩ [("script", v)]) ∧ ∀ base : Heap, K.In base → base.Ns mainGlobals mg → FnOkG l.prog w K mg base 8 fa fd ["script"] (sp_law K) := by
  have e := hfa.symm.trans (PySem.W.mg_of X G a24)
  cases e
  have F1 := fun_mk (st := s_is_whole) l1 c1 k1
  have F2 := fun_mk (st := s_is_within) l2 c2 k2
  have F3 := fun_mk (st := s_check_weight) l3 c3 k3
  have F4 := fun_mk (st := s_check_number) l4 c4 k4
  have F5 := fun_mk (st := s_rising) l5 c5 k5
  have F6 := fun_mk (st := s_fraction) l6 c6 k6
  have F7 := fun_mk (st := s_check_sizes) l7 c7 k7
  have F8 := fun_mk (st := s_are_sizes) l8 c8 k8
  have F9 := fun_mk (st := s_grow_share) l9 c9 k9
  have F10 := fun_mk (st := s_mean_later) l10 c10 k10
  have F11 := fun_mk (st := s_new_shares) l11 c11 k11
  have F12 := fun_mk (st := s_check_later) l12 c12 k12
  have F13 := fun_mk (st := s_are_later) l13 c13 k13
  have F14 := fun_mk (st := s_law_store) l14 c14 k14
  have F15 := fun_mk (st := s_law_pick) l15 c15 k15
  have F16 := fun_mk (st := s_law_lowest) l16 c16 k16
  have F17 := fun_mk (st := s_law_rising) l17 c17 k17
  have F18 := fun_mk (st := s_law_heavy) l18 c18 k18
  have F19 := fun_mk (st := s_law_wide) l19 c19 k19
  have F20 := fun_mk (st := s_law_choose) l20 c20 k20
  have F21 := fun_mk (st := s_law_share) l21 c21 k21
  have F22 := fun_mk (st := s_law_fresh) l22 c22 k22
  have F23 := fun_mk (st := s_law_right) l23 c23 k23
  have F24 := fun_mk (st := s_law) l24 c24 k24
  let T : Tx K mg :=
    { f_is_whole := f1, d_is_whole := _, F_is_whole := F1, g_is_whole := PySem.W.mg_of X G a1, b_is_whole := F1.binds (ps := ["thing"]) fun _ _ _ _ _ _ us hl => match us, hl with | [_], _ => rfl,
      f_is_within := f2, d_is_within := _, F_is_within := F2, g_is_within := PySem.W.mg_of X G a2, b_is_within := F2.binds (ps := ["thing", "least", "most"]) fun _ _ _ _ _ _ us hl => match us, hl with | [_, _, _], _ => rfl,
      f_check_weight := f3, d_check_weight := _, F_check_weight := F3, g_check_weight := PySem.W.mg_of X G a3, b_check_weight := F3.binds (ps := ["weight"]) fun _ _ _ _ _ _ us hl => match us, hl with | [_], _ => rfl,
      f_check_number := f4, d_check_number := _, F_check_number := F4, g_check_number := PySem.W.mg_of X G a4, b_check_number := F4.binds (ps := ["number", "least", "most"]) fun _ _ _ _ _ _ us hl => match us, hl with | [_, _, _], _ => rfl,
      f_rising := f5, d_rising := _, F_rising := F5, g_rising := PySem.W.mg_of X G a5, b_rising := F5.binds (ps := ["weight", "guests"]) fun _ _ _ _ _ _ us hl => match us, hl with | [_, _], _ => rfl,
      f_fraction := f6, d_fraction := _, F_fraction := F6, g_fraction := PySem.W.mg_of X G a6, b_fraction := F6.binds (ps := ["top", "bottom"]) fun _ _ _ _ _ _ us hl => match us, hl with | [_, _], _ => rfl,
      f_check_sizes := f7, d_check_sizes := _, F_check_sizes := F7, g_check_sizes := PySem.W.mg_of X G a7, b_check_sizes := F7.binds (ps := ["sizes"]) fun _ _ _ _ _ _ us hl => match us, hl with | [_], _ => rfl,
      f_are_sizes := f8, d_are_sizes := _, F_are_sizes := F8, g_are_sizes := PySem.W.mg_of X G a8, b_are_sizes := F8.binds (ps := ["thing"]) fun _ _ _ _ _ _ us hl => match us, hl with | [_], _ => rfl,
      f_grow_share := f9, d_grow_share := _, F_grow_share := F9, g_grow_share := PySem.W.mg_of X G a9, b_grow_share := F9.binds (ps := ["sizes", "weight", "later"]) fun _ _ _ _ _ _ us hl => match us, hl with | [_, _, _], _ => rfl,
      f_mean_later := f10, d_mean_later := _, F_mean_later := F10, g_mean_later := PySem.W.mg_of X G a10, b_mean_later := F10.binds (ps := ["sizes", "weight", "number"]) fun _ _ _ _ _ _ us hl => match us, hl with | [_, _, _], _ => rfl,
      f_new_shares := f11, d_new_shares := _, F_new_shares := F11, g_new_shares := PySem.W.mg_of X G a11, b_new_shares := F11.binds (ps := ["sizes", "weight", "number"]) fun _ _ _ _ _ _ us hl => match us, hl with | [_, _, _], _ => rfl,
      f_check_later := f12, d_check_later := _, F_check_later := F12, g_check_later := PySem.W.mg_of X G a12, b_check_later := F12.binds (ps := ["later", "sizes"]) fun _ _ _ _ _ _ us hl => match us, hl with | [_, _], _ => rfl,
      f_are_later := f13, d_are_later := _, F_are_later := F13, g_are_later := PySem.W.mg_of X G a13, b_are_later := F13.binds (ps := ["thing", "sizes"]) fun _ _ _ _ _ _ us hl => match us, hl with | [_, _], _ => rfl,
      f_law_store := f14, d_law_store := _, F_law_store := F14, g_law_store := PySem.W.mg_of X G a14, b_law_store := F14.binds (ps := ["script", "k"]) fun _ _ _ _ _ _ us hl => match us, hl with | [_, _], _ => rfl,
      f_law_pick := f15, d_law_pick := _, F_law_pick := F15, g_law_pick := PySem.W.mg_of X G a15, b_law_pick := F15.binds (ps := ["store", "bound"]) fun _ _ _ _ _ _ us hl => match us, hl with | [_, _], _ => rfl,
      f_law_lowest := f16, d_law_lowest := _, F_law_lowest := F16, g_law_lowest := PySem.W.mg_of X G a16, b_law_lowest := F16.binds (ps := ["top", "bottom"]) fun _ _ _ _ _ _ us hl => match us, hl with | [_, _], _ => rfl,
      f_law_rising := f17, d_law_rising := _, F_law_rising := F17, g_law_rising := PySem.W.mg_of X G a17, b_law_rising := F17.binds (ps := ["base", "many_here"]) fun _ _ _ _ _ _ us hl => match us, hl with | [_, _], _ => rfl,
      f_law_heavy := f18, d_law_heavy := _, F_law_heavy := F18, g_law_heavy := PySem.W.mg_of X G a18, b_law_heavy := F18.binds (ps := ["store"]) fun _ _ _ _ _ _ us hl => match us, hl with | [_], _ => rfl,
      f_law_wide := f19, d_law_wide := _, F_law_wide := F19, g_law_wide := PySem.W.mg_of X G a19, b_law_wide := F19.binds (ps := ["store"]) fun _ _ _ _ _ _ us hl => match us, hl with | [_], _ => rfl,
      f_law_choose := f20, d_law_choose := _, F_law_choose := F20, g_law_choose := PySem.W.mg_of X G a20, b_law_choose := F20.binds (ps := ["many_here", "few"]) fun _ _ _ _ _ _ us hl => match us, hl with | [_, _], _ => rfl,
      f_law_share := f21, d_law_share := _, F_law_share := F21, g_law_share := PySem.W.mg_of X G a21, b_law_share := F21.binds (ps := ["heavy", "wide", "late"]) fun _ _ _ _ _ _ us hl => match us, hl with | [_, _, _], _ => rfl,
      f_law_fresh := f22, d_law_fresh := _, F_law_fresh := F22, g_law_fresh := PySem.W.mg_of X G a22, b_law_fresh := F22.binds (ps := ["heavy", "here", "many_more"]) fun _ _ _ _ _ _ us hl => match us, hl with | [_, _, _], _ => rfl,
      f_law_right := f23, d_law_right := _, F_law_right := F23, g_law_right := PySem.W.mg_of X G a23, b_law_right := F23.binds (ps := ["store", "heavy", "wide"]) fun _ _ _ _ _ _ us hl => match us, hl with | [_, _, _], _ => rfl,
      f_law := fa, d_law := _, F_law := F24, g_law := PySem.W.mg_of X G a24, b_law := F24.binds (ps := ["script"]) fun _ _ _ _ _ _ us hl => match us, hl with | [_], _ => rfl,
      m_abs := PySem.W.mg_none_of X G z_abs,
      m_all := PySem.W.mg_none_of X G z_all,
      m_enumerate := PySem.W.mg_none_of X G z_enumerate,
      m_int := PySem.W.mg_none_of X G z_int,
      m_len := PySem.W.mg_none_of X G z_len,
      m_list := PySem.W.mg_none_of X G z_list,
      m_max := PySem.W.mg_none_of X G z_max,
      m_min := PySem.W.mg_none_of X G z_min,
      m_range := PySem.W.mg_none_of X G z_range,
      m_repr := PySem.W.mg_none_of X G z_repr,
      m_sum := PySem.W.mg_none_of X G z_sum,
      m_type := PySem.W.mg_none_of X G z_type,
      m_zip := PySem.W.mg_none_of X G z_zip,
      c_MOST_GUESTS := ⟨_, PySem.W.mg_of X G y_MOST_GUESTS, ⟨_, rfl⟩⟩,
      c_MOST_WEIGHT := ⟨_, PySem.W.mg_of X G y_MOST_WEIGHT, ⟨_, rfl⟩⟩,
      c_MOST_LATER := ⟨_, PySem.W.mg_of X G y_MOST_LATER, ⟨_, rfl⟩⟩,
      c_MOST_MORE := ⟨_, PySem.W.mg_of X G y_MOST_MORE, ⟨_, rfl⟩⟩,
      i_comb := PySem.W.mg_of X G x_comb,
      i_gcd := PySem.W.mg_of X G x_gcd,
      i_perm := PySem.W.mg_of X G x_perm }
  exact ⟨PySem.W.fnOf "law" "law" (defArgs s_law) (defBody s_law) (defScope s_law) .none kV24 dc24 pm24 an24 cd24 ct24, fun s v => .of_eq rfl, fun base _ _ => ok_law T⟩
end K34
open PySem PySem.W PyProof.Rows
set_option maxRecDepth 100000 in
set_option maxHeartbeats 0 in
theorem PySem.Challenge.cw_newtables_k34_growth_of_great_halls_holds : PySem.Challenge.rw_newtables_k34_growth_of_great_halls.Holds := by
  w_on; o_law; k_head; (case hw => w_witness2)
  k_fill
  refine Kit.walk_G (l := PySem.Challenge.rw_newtables_k34_growth_of_great_halls) (m := 63) (n := 8) (x := "script") (want := fun w => K34.sp_law _) rfl (by decide) rfl ⟨rfl, by decide, by decide⟩ (fun w h Y => PySem.W.kIn_of Y) ?F (fun _ _ a ns hl _ hS => ⟨a, ns, rfl, hS, hl, fun _ => rfl⟩)
  case F =>
    intro w mg fa h KX G hmg
    refine' K34.all_mk KX G hmg ?a1 ?l1 ?c1 ?k1 ?a2 ?l2 ?c2 ?k2 ?a3 ?l3 ?c3 ?k3 ?a4 ?l4 ?c4 ?k4 ?a5 ?l5 ?c5 ?k5 ?a6 ?l6 ?c6 ?k6 ?a7 ?l7 ?c7 ?k7 ?a8 ?l8 ?c8 ?k8 ?a9 ?l9 ?c9 ?k9 ?a10 ?l10 ?c10 ?k10 ?a11 ?l11 ?c11 ?k11 ?a12 ?l12 ?c12 ?k12 ?a13 ?l13 ?c13 ?k13 ?a14 ?l14 ?c14 ?k14 ?a15 ?l15 ?c15 ?k15 ?a16 ?l16 ?c16 ?k16 ?a17 ?l17 ?c17 ?k17 ?a18 ?l18 ?c18 ?k18 ?a19 ?l19 ?c19 ?k19 ?a20 ?l20 ?c20 ?k20 ?a21 ?l21 ?c21 ?k21 ?a22 ?l22 ?c22 ?k22 ?a23 ?l23 ?c23 ?k23 ?a24 ?l24 ?c24 ?k24 ?z_abs ?z_all ?z_enumerate ?z_int ?z_len ?z_list ?z_max ?z_min ?z_range ?z_repr ?z_sum ?z_type ?z_zip ?y_MOST_GUESTS ?y_MOST_WEIGHT ?y_MOST_LATER ?y_MOST_MORE ?x_comb ?x_gcd ?x_perm
    (case a1 => k_is); (case l1 => k_is); (case c1 => k_is); (case k1 => k_is); (case a2 => k_is); (case l2 => k_is)
    (case c2 => k_is); (case k2 => k_is); (case a3 => k_is); (case l3 => k_is); (case c3 => k_is); (case k3 => k_is)
    (case a4 => k_is); (case l4 => k_is); (case c4 => k_is); (case k4 => k_is); (case a5 => k_is); (case l5 => k_is)
    (case c5 => k_is); (case k5 => k_is); (case a6 => k_is); (case l6 => k_is); (case c6 => k_is); (case k6 => k_is)
    (case a7 => k_is); (case l7 => k_is); (case c7 => k_is); (case k7 => k_is); (case a8 => k_is); (case l8 => k_is)
    (case c8 => k_is); (case k8 => k_is); (case a9 => k_is); (case l9 => k_is); (case c9 => k_is); (case k9 => k_is)
    (case a10 => k_is); (case l10 => k_is); (case c10 => k_is); (case k10 => k_is); (case a11 => k_is); (case l11 => k_is)
    (case c11 => k_is); (case k11 => k_is); (case a12 => k_is); (case l12 => k_is); (case c12 => k_is); (case k12 => k_is)
    (case a13 => k_is); (case l13 => k_is); (case c13 => k_is); (case k13 => k_is); (case a14 => k_is); (case l14 => k_is)
    (case c14 => k_is); (case k14 => k_is); (case a15 => k_is); (case l15 => k_is); (case c15 => k_is); (case k15 => k_is)
    (case a16 => k_is); (case l16 => k_is); (case c16 => k_is); (case k16 => k_is); (case a17 => k_is); (case l17 => k_is)
    (case c17 => k_is); (case k17 => k_is); (case a18 => k_is); (case l18 => k_is); (case c18 => k_is); (case k18 => k_is)
    (case a19 => k_is); (case l19 => k_is); (case c19 => k_is); (case k19 => k_is); (case a20 => k_is); (case l20 => k_is)
    (case c20 => k_is); (case k20 => k_is); (case a21 => k_is); (case l21 => k_is); (case c21 => k_is); (case k21 => k_is)
    (case a22 => k_is); (case l22 => k_is); (case c22 => k_is); (case k22 => k_is); (case a23 => k_is); (case l23 => k_is)
    (case c23 => k_is); (case k23 => k_is); (case a24 => k_is); (case l24 => k_is); (case c24 => k_is); (case k24 => k_is)
    (case z_abs => k_is); (case z_all => k_is); (case z_enumerate => k_is); (case z_int => k_is); (case z_len => k_is); (case z_list => k_is)
    (case z_max => k_is); (case z_min => k_is); (case z_range => k_is); (case z_repr => k_is); (case z_sum => k_is); (case z_type => k_is)
    (case z_zip => k_is); (case y_MOST_GUESTS => k_is); (case y_MOST_WEIGHT => k_is); (case y_MOST_LATER => k_is); (case y_MOST_MORE => k_is); (case x_comb => k_is)
    (case x_gcd => k_is); (case x_perm => k_is)
