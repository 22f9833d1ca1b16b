import PyProof.Rows.All
import Wide.All
import OpenK.AllK
import Wide.FinOn
import PyProof.TypeEq
import HandS.ForMost
import HandS.Evl
import HandS.Wide
import HandS.WideBits
import HandS.Gcd
import HandS.Codes
import HandS.Conv
import HandS.IsInst
import HandS.More
import HandS.Walk
import HandS.Style
import PyProof.InstEq
import HandS.Sort
import KE.DataMinMax
import PyProof.ReprLen
import PyProof.Rows.RegStrFacts
import PySem.Challenge.RW_newtables_k08_weights_of_few_guests
set_option Elab.async false
set_option linter.all false
set_option maxRecDepth 100000
set_option maxHeartbeats 4000000
namespace Kit
open PySem PySem.Spec PyProof.Rows L2 Evl
/-! rules that the layer lacks -/
section
variable {X : Cx} {a b c d : Expr} {ta tb tc td : TE} {pos : Pos}
def CPowX (i j : Int) : Prop := 0 ≤ j ∧ (Builtin.Int.intBits i : Int) * j ≤ 2 ^ 27
theorem op_powX : OpR X (binaryOp .Pow) (rI CPowX fun i j => .int (i ^ j.toNat)) := opI fun _ _ _ _ _ _ _ hc q => pow_int hc.1 hc.2 q
/-- the types that are compared by == -/
def Meta (n : String) : Prop := ∀ s : Shared, s.TypeIs (.type n) "type"
def rEqTy : R2 := fun x y H Q => ∃ m n, x = .ty m ∧ y = .ty n ∧ Meta m ∧ Meta n ∧ Q (.bl (decide (m = n))) H
theorem op_eqTy : OpR X (compareOp .Eq) rEqTy := by
  intro pins s σ H x y v u Q I rx ry h
  obtain ⟨m, n, rfl, rfl, hm, hn, q⟩ := h
  cases (show v = Value.type m from rx)
  cases (show u = Value.type n from ry)
  by_cases e : m = n
  · subst e
    exact PySem.TypeEq.eq_type_same hm ⟨.bl true, H, I, rfl, by simpa using q⟩
  · exact PySem.TypeEq.eq_type_other hm hn (by rw [beq_eq_false_iff_ne]; exact fun z => e (Value.type.inj z)) ⟨.bl false, H, I, rfl, by simpa [e] using q⟩
/-- a op b op c op d -/
def tChain3 (r r' r'' : R2) (ta tb tc td : TE) : TE := fun σ H Q => ta σ H fun x H1 => tb σ H1 fun y H2 => r x y H2 fun z H3 => ∃ k, z = .bl k ∧
  (if k = true then tc σ H3 fun w' H4 => r' y w' H4 fun z' H5 => ∃ k', z' = .bl k' ∧ (if k' = true then td σ H5 fun w'' H6 => r'' w' w'' H6 Q else Q (.bl false) H5) else Q (.bl false) H3)
theorem pe_chain3 {op op' op'' : CmpOp} {r r' r'' : R2} (ho : OpR X (compareOp op) r) (ho' : OpR X (compareOp op') r') (ho'' : OpR X (compareOp op'') r'') (ha : PE X a ta) (hb : PE X b tb) (hc : PE X c tc) (hd : PE X d td)
    (hm : lastMarks [op, op', op''] [b, c, d] = false := by with_unfolding_all rfl) : PE X (.Compare a [op, op', op''] [b, c, d] pos) (tChain3 r r' r'' ta tb tc td) := by
  refine ⟨fun pins s σ H Q I h => ?_⟩
  refine Compare_chain (thn (ha.run pins s σ H _ I h) fun v s1 ⟨x, H1, I1, r1, q1⟩ => chain_link (thn (hb.run pins s1 σ H1 _ I1 q1) fun u s2 ⟨y, H2, I2, r2, q2⟩ =>
    thn (ho pins s2 σ H2 x y v u _ I2 r1 r2 q2) fun d s3 ⟨z, H3, I3, r3, k, e, q3⟩ => ?_)) hm
  subst e
  cases r3
  refine wpAny_truthy_bool ?_
  cases k with
  | false => exact ite_ff ⟨.bl false, H3, I3, rfl, q3⟩
  | true =>
    refine ite_tt (chain_link (thn (hc.run pins s3 σ H3 _ I3 q3) fun w' s4 ⟨z', H4, I4, r4, q4⟩ => thn (ho' pins s4 σ H4 y z' u w' _ I4 r2 r4 q4) fun d' s5 ⟨z5, H5, I5, r5, k5, e5, q5⟩ => ?_))
    subst e5
    cases r5
    refine wpAny_truthy_bool ?_
    cases k5 with
    | false => exact ite_ff ⟨.bl false, H5, I5, rfl, q5⟩
    | true => exact ite_tt (chain_last (thn (hd.run pins s5 σ H5 _ I5 q5) fun w6 s6 ⟨z6, H6, I6, r6, q6⟩ => ho'' pins s6 σ H6 z' z6 w' w6 Q I6 r4 r6 q6))
theorem pt_chain3 {op op' op'' : CmpOp} {r r' r'' : R2} (ho : OpR X (compareOp op) r) (ho' : OpR X (compareOp op') r') (ho'' : OpR X (compareOp op'') r'') (ha : PE X a ta) (hb : PE X b tb) (hc : PE X c tc) (hd : PE X d td)
    (hm : lastMarks [op, op', op''] [b, c, d] = false := by with_unfolding_all rfl) : PT X (.Compare a [op, op', op''] [b, c, d] pos) (tTest (tChain3 r r' r'' ta tb tc td)) := by
  refine ⟨fun pins s σ H Q I h => ?_⟩
  refine isTrue_chain (thn (ha.run pins s σ H _ I h) fun v s1 ⟨x, H1, I1, r1, q1⟩ => test_link (thn (hb.run pins s1 σ H1 _ I1 q1) fun u s2 ⟨y, H2, I2, r2, q2⟩ =>
    thn (ho pins s2 σ H2 x y v u _ I2 r1 r2 q2) fun d s3 ⟨z, H3, I3, r3, k, e, q3⟩ => ?_)) hm
  subst e
  cases r3
  refine wpAny_truthy_bool ?_
  cases k with
  | false =>
    obtain ⟨k', e', q'⟩ := q3
    cases e'
    exact ite_ff ⟨H3, I3, q'⟩
  | true =>
    refine ite_tt (test_link (thn (hc.run pins s3 σ H3 _ I3 q3) fun w' s4 ⟨z', H4, I4, r4, q4⟩ => thn (ho' pins s4 σ H4 y z' u w' _ I4 r2 r4 q4) fun d' s5 ⟨z5, H5, I5, r5, k5, e5, q5⟩ => ?_))
    subst e5
    cases r5
    refine wpAny_truthy_bool ?_
    cases k5 with
    | false =>
      obtain ⟨k', e', q'⟩ := q5
      cases e'
      exact ite_ff ⟨H5, I5, q'⟩
    | true =>
      refine ite_tt (test_last (thn (hd.run pins s5 σ H5 _ I5 q5) fun w6 s6 ⟨z6, H6, I6, r6, q6⟩ => thn (ho'' pins s6 σ H6 z' z6 w' w6 _ I6 r4 r6 q6) fun d7 s7 ⟨z7, H7, I7, r7, k7, e7, q7⟩ => ?_))
      subst e7
      cases r7
      exact wpAny_truthy_bool ⟨H7, I7, q7⟩
end
/-! f(k = v, ..): keywords alone -/
section
variable {X : Cx} {CX : CXT} {k : Nat} {f C : Addr} {fd : FuncData} {ps ks : List Str} {sp : Sp} {E : XK} {x m : Str} {p pos apos kpos : Pos} {kws : List Keyword} {tk : TA}
variable {g : List Value → List Value → List Value} {gV : List V → List V → List V}
theorem pe_callK0 (F : FnOk X.prog X.w X.K X.mg X.base CX k f fd ps sp) (hr : Room k X.A) (hg : Gl X x) (hm : X.mg x = some (.ref f)) (hk : PySem.W.keepIn X.K (.ref f) = true) (hb : KBinds X.K fd ps ks g gV) (hx : Passes CX X E)
    (hkw : PK X kws tk) (hall : (backToKw pos (keywordEach kws X.env)).all (·.1.isSome) = true := by rfl) (hks : (backToKw pos (keywordEach kws X.env)).filterMap (·.1) = ks := by rfl)
    (hdb : (x == ("__debug__" : Str)) = false := by decide)
    (hpl : ((backTo pos (starEach [] X.env)).any (·.1) || (backToKw pos (keywordEach kws X.env)).any (·.1.isNone)) = false := by rfl) :
    PE X (.Call (.Name x p) [] kws pos) (tCallK sp gV E tNil tk) := by
  refine ⟨fun pins s σ H Q I h => ?_⟩
  refine wpAny_Call_Name_kw (ld_glob I hg hm ?_ hdb)
  refine PySem.W.callWith_KW0 (h₀ := X.base) I.ok.mod.kin hk hall ?_ hpl
  refine thn (hkw.run pos pins s σ H _ I h) fun ws s2 ⟨zs, H2, I2, rz, q2⟩ => ⟨I2.kIn, ?_⟩
  rw [hks]
  exact run_fnk F hr hb hx I2 (us := []) (vs := []) .nil rz q2
end
theorem pe_gc {X : Cx} {x : Str} {pos : Pos} {v : V} (hg : Gl X x) (h : ∃ u, X.mg x = some u ∧ RelV v u) (hd : (x == ("__debug__" : Str)) = false := by decide) : PE X (.Name x pos) (tC v) := by
  obtain ⟨u, hm, r⟩ := h
  exact pe_glob hg hm r hd
/-! built-ins by name, with readings that have names -/
section
variable {X : Cx}
def rAbs : List V → Hp → VK → Prop := fun xs H Q => ∃ i, xs = [.int i] ∧ Q (.int (if i < 0 then -i else i)) H
def rMin2 : List V → Hp → VK → Prop := fun xs H Q => ∃ i j, xs = [.int i, .int j] ∧ Q (.int (if j < i then j else i)) H
def rIntI : List V → Hp → VK → Prop := fun xs H Q => ∃ i, xs = [.int i] ∧ Q (.int i) H
def rIntB : List V → Hp → VK → Prop := fun xs H Q => ∃ b, xs = [.bl b] ∧ Q (.int (if b then 1 else 0)) H
theorem call_absR : CallR X (.builtin "abs") rAbs := call_abs
theorem call_maxR (hc : X.calm = true) : CallR X (.builtin "max") rMax2 := call_max2 hc
theorem call_minR (hc : X.calm = true) : CallR X (.builtin "min") rMin2 := call_min2 hc
theorem call_intI : CallR X (.type "int") rIntI := by
  intro pins s σ H xs us Q I r h
  obtain ⟨i, e, q⟩ := h
  exact call_int1 pins s σ H xs us Q I r (.inl ⟨i, e, q⟩)
theorem call_intB : CallR X (.type "int") rIntB := by
  intro pins s σ H xs us Q I r h
  obtain ⟨i, e, q⟩ := h
  exact call_int1 pins s σ H xs us Q I r (.inr ⟨i, e, q⟩)
theorem call_lenR : CallR X (.builtin "len") (rLenS X.K) := call_len_seq
theorem call_listR : CallR X (.type "list") (rListS X.K) := call_list_of
def rTupS (K : PySem.W.Frag) : List V → Hp → VK → Prop := fun xs H Q => ∃ p ys, xs = [.ref p] ∧ SqL K H p ys ∧ ∀ l, H l = none → Q (.ref l) (upd H l (.tup ys))
theorem call_tupR : CallR X (.type "tuple") (rTupS X.K) := by
  intro pins s σ H xs us Q I r h
  obtain ⟨p, ys, e, hs, q⟩ := h
  exact call_tuple_of pins s σ H xs us Q I r ⟨p, ys, e, .inl ⟨hs, q⟩⟩
def rIsN1 : R2 := fun x y H Q => y = .non ∧ Q (.bl (decide (x = .non))) H
def rNotN1 : R2 := fun x y H Q => y = .non ∧ Q (.bl (!decide (x = .non))) H
theorem op_isNR : OpR X (compareOp .Is) rIsN1 := op_isN
theorem op_notNR : OpR X (compareOp .IsNot) rNotN1 := op_notN
end
/-! evaluations of these -/
section
variable {K : PySem.W.Frag} {σ : L2.St} {H H' : Hp} {ta tb tc td te : TE} {x y z v : V} {r : R2} {i j : Int}
theorem ev_abs (h : Ev ta σ H (.int i)) : Ev (tCB rAbs (tCons ta tNil)) σ H (.int (if i < 0 then -i else i)) := fun H1 e Q q => h H1 e _ fun H2 e2 => ⟨i, rfl, q H2 e2⟩
theorem ev_min2 (ha : Ev ta σ H (.int i)) (hb : Ev tb σ H (.int j)) : Ev (tCB rMin2 (tCons ta (tCons tb tNil))) σ H (.int (if j < i then j else i)) := fun H1 e Q q =>
  ha H1 e _ fun H2 e2 => hb H2 (e.trans e2) _ fun H3 e3 => ⟨i, j, rfl, q H3 (e2.trans e3)⟩
theorem ev_intI (h : Ev ta σ H (.int i)) : Ev (tCB rIntI (tCons ta tNil)) σ H (.int i) := fun H1 e Q q => h H1 e _ fun H2 e2 => ⟨i, rfl, q H2 e2⟩
theorem ev_intB {b : Bool} (h : Ev ta σ H (.bl b)) : Ev (tCB rIntB (tCons ta tNil)) σ H (.int (if b then 1 else 0)) := fun H1 e Q q => h H1 e _ fun H2 e2 => ⟨b, rfl, q H2 e2⟩
theorem rv_isN : RV rIsN1 x .non H (.bl (decide (x = .non))) := fun H1 _ _ q => ⟨rfl, q H1 (Ex.refl H1)⟩
theorem rv_notN : RV rNotN1 x .non H (.bl (!decide (x = .non))) := fun H1 _ _ q => ⟨rfl, q H1 (Ex.refl H1)⟩
theorem ev_chain {r r' : R2} {k : Bool} {k' : Bool} (ha : Ev ta σ H x) (hb : Ev tb σ H y) (hr : RV r x y H (.bl k)) (hc : k = true → ∃ z, Ev tc σ H z ∧ RV r' y z H (.bl k')) : Ev (tChain r r' ta tb tc) σ H (.bl (k && k')) := fun H1 e Q q =>
  ha H1 e _ fun H2 e2 => hb H2 (e.trans e2) _ fun H3 e3 => hr H3 ((e.trans e2).trans e3) _ fun H4 e4 => ⟨k, rfl, by
    cases k with
    | true =>
      obtain ⟨z, h1, h2⟩ := hc rfl
      exact h1 H4 (((e.trans e2).trans e3).trans e4) _ fun H5 e5 => h2 H5 ((((e.trans e2).trans e3).trans e4).trans e5) _ fun H6 e6 => q H6 ((((e2.trans e3).trans e4).trans e5).trans e6)
    | false => exact q H4 ((e2.trans e3).trans e4)⟩
theorem ev_chainI {C C' : Int → Int → Bool} {i j l : Int} (ha : Ev ta σ H (.int i)) (hb : Ev tb σ H (.int j)) (hc : Ev tc σ H (.int l)) :
    Ev (tChain (rI0 fun i j => .bl (C i j)) (rI0 fun i j => .bl (C' i j)) ta tb tc) σ H (.bl (C i j && C' j l)) := ev_chain ha hb rv_I0 fun _ => ⟨_, hc, rv_I0⟩
theorem ev_chain3I {C C' C'' : Int → Int → Bool} {i j l m : Int} (ha : Ev ta σ H (.int i)) (hb : Ev tb σ H (.int j)) (hc : Ev tc σ H (.int l)) (hd : Ev td σ H (.int m)) :
    Ev (tChain3 (rI0 fun i j => .bl (C i j)) (rI0 fun i j => .bl (C' i j)) (rI0 fun i j => .bl (C'' i j)) ta tb tc td) σ H (.bl (C i j && (C' j l && C'' l m))) := fun H1 e Q q =>
  ha H1 e _ fun H2 e2 => hb H2 (e.trans e2) _ fun H3 e3 => ⟨i, j, rfl, rfl, C i j, rfl, by
    have e23 := e2.trans e3
    generalize C i j = k1 at q ⊢
    cases k1 with
    | false => exact q H3 e23
    | true =>
      refine hc H3 (e.trans e23) _ fun H4 e4 => ⟨j, l, rfl, rfl, C' j l, rfl, ?_⟩
      generalize C' j l = k2 at q ⊢
      cases k2 with
      | false => exact q H4 (e23.trans e4)
      | true => exact hd H4 ((e.trans e23).trans e4) _ fun H5 e5 => ⟨l, m, rfl, rfl, q H5 ((e23.trans e4).trans e5)⟩⟩
theorem rv_eqTy {m n : String} (hm : Meta m) (hn : Meta n) : RV rEqTy (.ty m) (.ty n) H (.bl (decide (m = n))) := fun H1 _ _ q => ⟨m, n, rfl, rfl, hm, hn, q H1 (Ex.refl H1)⟩
theorem ev_typeI (h : Ev ta σ H (.int i)) : Ev (tThenZ ta kTyp) σ H (.ty "int") := fun H1 e Q q => h H1 e _ fun H2 e2 => ⟨"int", rfl, q H2 e2⟩
/-- a tuple that was made is read as two names -/
theorem s_tup2 {D : Ends} {i j : Nat} {p : Addr} (ha : Ev ta σ H (.ref p)) (hp : SqT K H p [x, y]) (k : ∀ H1, Ex H H1 → D.nx ((σ.set i (some x)).set j (some y)) H1) : tAsg ta (gTup K 2 (gCons (gName i) (gCons (gName j) gNil))) D σ H :=
  ha H (Ex.refl H) _ fun H1 e => ⟨p, [x, y], rfl, ex_t e hp, rfl, x, [y], rfl, y, [], rfl, rfl, k H1 e⟩
end
/-- a new tuple that is handed back -/
def RetU (xs : List V) (H : Hp) (Q : VK) : Prop := ∀ p H2, H p = none → Ex H H2 → H2 p = some (.tup xs) → Q (.ref p) H2
def SpU (sp : Sp) (vs : List V) (H : Hp) (xs : List V) : Prop := ∀ H1, Ex H H1 → ∀ Q : VK, (∀ p H2, H1 p = none → Ex H1 H2 → H2 p = some (.tup xs) → Q (.ref p) H2) → ∀ E : XK, sp vs H1 Q E
section
variable {K : PySem.W.Frag} {σ : L2.St} {H : Hp}
theorem eu_call {sp : Sp} {dvs vs xs : List V} {E : XK} {ta : TA} (h : EvA ta σ H vs) (hs : SpU sp (vs ++ dvs) H xs) : EvU (tCall sp dvs E ta) σ H xs := fun H1 e Q q =>
  h H1 e _ fun H2 e2 => hs H2 (e.trans e2) Q (fun p H3 hp e3 h3 => q p H3 (fresh_back e2 hp) (e2.trans e3) h3) E
/-- a, b = f(..), f's answer a new tuple -/
theorem s_tup2U {te : TE} {D : Ends} {i j : Nat} {x y : V} (ha : EvU te σ H [x, y]) (k : ∀ H1, Ex H H1 → D.nx ((σ.set i (some x)).set j (some y)) H1) : tAsg te (gTup K 2 (gCons (gName i) (gCons (gName j) gNil))) D σ H :=
  ha H (Ex.refl H) _ fun p H1 _ e h1 => ⟨p, [x, y], rfl, st_of h1, rfl, x, [y], rfl, y, [], rfl, rfl, k H1 e⟩
theorem q_tup2U {te : TE} {tz : TS} {D : Ends} {i j : Nat} {x y : V} (ha : EvU te σ H [x, y]) (k : ∀ H1, Ex H H1 → tz D ((σ.set i (some x)).set j (some y)) H1) : tSeq (tAsg te (gTup K 2 (gCons (gName i) (gCons (gName j) gNil)))) tz D σ H := s_tup2U (D := { D with nx := tz D }) ha k
theorem q_tup2 {ta : TE} {tz : TS} {D : Ends} {i j : Nat} {p : Addr} {x y : V} (ha : Ev ta σ H (.ref p)) (hp : SqT K H p [x, y]) (k : ∀ H1, Ex H H1 → tz D ((σ.set i (some x)).set j (some y)) H1) : tSeq (tAsg ta (gTup K 2 (gCons (gName i) (gCons (gName j) gNil)))) tz D σ H := s_tup2 (D := { D with nx := tz D }) ha hp k
/-- a, b = x, y -/
theorem s_par {ta : TA} {D : Ends} {i j : Nat} {x y : V} (ha : EvA ta σ H [x, y]) (k : ∀ H1, Ex H H1 → D.nx ((σ.set i (some x)).set j (some y)) H1) : tPar i j ta D σ H := ha H (Ex.refl H) _ fun H1 e => ⟨x, y, rfl, k H1 e⟩
theorem q_par {ta : TA} {tz : TS} {D : Ends} {i j : Nat} {x y : V} (ha : EvA ta σ H [x, y]) (k : ∀ H1, Ex H H1 → tz D ((σ.set i (some x)).set j (some y)) H1) : tSeq (tPar i j ta) tz D σ H := s_par (D := { D with nx := tz D }) ha k
end
theorem natAbs_pow_le {b : Int} {k : Nat} (h : b.natAbs < 2 ^ k) (n : Nat) : (b ^ n).natAbs ≤ 2 ^ (k * n) := by
  rw [Int.natAbs_pow, Nat.pow_mul]
  exact Nat.pow_le_pow_left (Nat.le_of_lt h) n
theorem lt_of_le2 {x k : Nat} (h : x ≤ 2 ^ k) : x < 2 ^ (k + 1) := Nat.lt_of_le_of_lt h (Nat.pow_lt_pow_right (by decide) (Nat.lt_succ_self k))
theorem lt2_mono {x k m : Nat} (h : x < 2 ^ k) (e : k ≤ m) : x < 2 ^ m := Nat.lt_of_lt_of_le h (Nat.pow_le_pow_right (by decide) e)
theorem natAbs_mul_lt {a b : Int} {k m : Nat} (ha : a.natAbs < 2 ^ k) (hb : b.natAbs < 2 ^ m) : (a * b).natAbs < 2 ^ (k + m) := wide_lt ha hb
/-! comprehensions -/
section
variable {K : PySem.W.Frag} {σ : L2.St} {H : Hp} {te tl : TE} {t : TT}
theorem et_yes : EvT tYes σ H true := fun H1 _ _ q => q H1 (Ex.refl H1)
theorem given_map {xs : List V} {F : V → V} : given xs.length (fun _ => true) (fun i => F (xs.getD i .non)) = xs.map F := by
  unfold given
  rw [List.filter_eq_self.mpr (fun _ _ => rfl)]
  refine List.ext_getElem (by simp) fun i h1 h2 => ?_
  simp at h1
  simp [h1]
/-- [e for x in xs] -/
theorem el_map {a : Addr} {xs : List V} {j : Nat} {vs : List Nat} (F : V → V) (h : Ev tl σ H (.ref a)) (hx : SqL K H a xs) (hz : xs.length ≤ 40000) (hw : ∀ x, wipe ((wipe σ vs).set j (some x)) vs = wipe σ vs)
    (he : ∀ (i : Nat) (x : V) H1, Ex H H1 → xs[i]? = some x → Ev te ((wipe σ vs).set j (some x)) H1 (F x)) : EvL (tLc (iList K tl) (gName j) tYes te vs) σ H (xs.map F) := by
  rw [← given_map]
  refine el_lcL _ _ h hx hz hw (fun _ _ _ _ _ => et_yes) fun i x H1 e hi _ => ?_
  have q := he i x H1 e hi
  have g : xs.getD i .non = x := by rw [List.getD_eq_getElem?_getD, hi] <;> rfl
  show Ev _ _ _ (F (xs.getD i .non))
  rw [g]
  exact q
theorem el_mapN {xs : List V} {j : Nat} {vs : List Nat} (F : V → V) (h : EvL tl σ H xs) (hz : xs.length ≤ 40000) (hw : ∀ x, wipe ((wipe σ vs).set j (some x)) vs = wipe σ vs)
    (he : ∀ (i : Nat) (x : V) H1, Ex H H1 → xs[i]? = some x → Ev te ((wipe σ vs).set j (some x)) H1 (F x)) : EvL (tLc (iList K tl) (gName j) tYes te vs) σ H (xs.map F) := by
  rw [← given_map]
  refine el_lcNL _ _ h hz hw (fun _ _ _ _ _ => et_yes) fun i x H1 e hi _ => ?_
  have q := he i x H1 e hi
  have g : xs.getD i .non = x := by rw [List.getD_eq_getElem?_getD, hi] <;> rfl
  show Ev _ _ _ (F (xs.getD i .non))
  rw [g]
  exact q
/-- [e for x in range(lo, hi) if t] -/
theorem el_lcR2 {ta : TA} {j : Nat} {vs : List Nat} {lo n : Int} (f : Nat → Bool) (v : Nat → V) (h : EvA ta σ H [.int lo, .int n]) (hn : 0 ≤ lo ∧ lo ≤ 40000 ∧ -40000 ≤ n ∧ n ≤ 40000) (hw : ∀ x, wipe ((wipe σ vs).set j (some x)) vs = wipe σ vs)
    (ht : ∀ (i : Nat) H1, Ex H H1 → lo + (i : Int) < n → EvT t ((wipe σ vs).set j (some (.int (lo + (i : Int))))) H1 (f i)) (he : ∀ (i : Nat) H1, Ex H H1 → lo + (i : Int) < n → f i = true → Ev te ((wipe σ vs).set j (some (.int (lo + (i : Int))))) H1 (v i)) :
    EvL (tLc (iRng2 ta) (gName j) t te vs) σ H (given (n - lo).toNat f v) := fun H0 e Q q => h H0 e _ fun H1 e1 => ⟨lo, n, rfl, ⟨by omega, by omega, by omega, by omega⟩, fun Dl hD =>
  lc_range (lo := lo) (n := (n - lo).toNat) (Cw H1 f v Dl) ⟨hD, Ex.new hD, upd_same⟩ (fun i H' hi p =>
    ⟨hw _, cw_turn p (by omega) (ht i H1 (e.trans e1) (by omega)) (fun hf => he i H1 (e.trans e1) (by omega) hf)⟩) (fun H' p => q Dl H' (fresh_back e1 p.1) (e1.trans p.2.1) p.2.2)⟩
theorem given_none {n : Nat} {f : Nat → Bool} {v : Nat → V} (h : ∀ i, i < n → f i = false) : given n f v = [] := by
  unfold given
  rw [List.filter_eq_nil_iff.mpr (fun i hi => by simp [h i (List.mem_range.mp hi)])]
  rfl
/-- xs + ys, both new -/
theorem el_cat {ta tb : TE} {xs ys : List V} (ha : EvL ta σ H xs) (hb : EvL tb σ H ys) (hl : xs.length + ys.length ≤ 100000) : EvL (tOp rCat ta tb) σ H (xs ++ ys) := fun H1 e Q q =>
  ha H1 e _ fun p H2 hp e2 h2 => hb H2 (e.trans e2) _ fun p' H3 hp' e3 h3 =>
    ⟨p, p', xs, ys, rfl, rfl, e3 p _ h2, h3, sz_of hl, fun l hl' => q l _ (fresh_back (e2.trans e3) hl') ((e2.trans e3).trans (Ex.new hl')) upd_same⟩
/-- [e for x, y in zip(xs, ys)] -/
theorem el_zip {ta : TA} {i j : Nat} {vs : List Nat} {a b : Addr} {xs ys : List V} (F : V → V → V) (h : EvA ta σ H [.ref a, .ref b]) (hx : SqL K H a xs) (hy : SqL K H b ys) (hl : xs.length = ys.length) (hz : xs.length ≤ 40000)
    (hw : ∀ x y, wipe (((wipe σ vs).set i (some x)).set j (some y)) vs = wipe σ vs)
    (he : ∀ (n : Nat) x y H1, Ex H H1 → xs[n]? = some x → ys[n]? = some y → Ev te (((wipe σ vs).set i (some x)).set j (some y)) H1 (F x y)) :
    EvL (tLc (iZip K ta) (gTup K 2 (gCons (gName i) (gCons (gName j) gNil))) tYes te vs) σ H (List.zipWith F xs ys) := fun H0 e Q q => h H0 e _ fun H1 e1 => ⟨a, b, xs, ys, rfl, ex_l (e.trans e1) hx, ex_l (e.trans e1) hy, fun Dl hD => by
  refine lc_it (walk_zip (n := xs.length) (by omega)) (fun n H' => Ex H1 H' ∧ H' Dl = some (.lst ((List.zipWith F xs ys).take n))) ⟨Ex.new hD, upd_same⟩ (fun n H' _ p => ⟨ex_l ((e.trans e1).trans p.1) hx, ex_l ((e.trans e1).trans p.1) hy⟩) ?_ fun H' p => ?_
  · rintro n v Hh H' hn ⟨p1, p2⟩ ⟨T, x, y, rfl, nT, rfl, g1, g2⟩
    have eT : Ex Hh (upd Hh T (.tup [x, y])) := Ex.new nT
    refine ⟨T, [x, y], rfl, st_of upd_same, rfl, x, [y], rfl, y, [], rfl, rfl, hw x y, ?_⟩
    show te _ _ _
    refine he n x y H1 (e.trans e1) g1 g2 _ (p1.trans eT) _ fun H4 e4 => ?_
    have k2 := e4 Dl _ (eT Dl _ p2)
    refine ⟨_, k2, sz_lt (by rw [List.length_take]; omega), Ex.mut (p1.trans (eT.trans e4)) hD, ?_⟩
    rw [upd_same]
    have gz : (List.zipWith F xs ys)[n]? = some (F x y) := by
      rw [List.getElem?_zipWith, show xs[n]? = some x from g1, show ys[n]? = some y from g2]
    rw [List.take_add_one, gz]
    rfl
  · obtain ⟨p1, p2⟩ := p
    rw [List.take_of_length_le (by rw [List.length_zipWith]; omega)] at p2
    exact q Dl H' (fresh_back e1 hD) (e1.trans p1) p2⟩
theorem ev_gcd {ta tb : TE} {a b : Int} (ha : Ev ta σ H (.int a)) (hb : Ev tb σ H (.int b)) : Ev (tCB rGcd (tCons ta (tCons tb tNil))) σ H (.int ((Nat.gcd a.natAbs b.natAbs : Nat) : Int)) := fun H1 e Q q =>
  ha H1 e _ fun H2 e2 => hb H2 (e.trans e2) _ fun H3 e3 => ⟨a, b, rfl, q H3 (e2.trans e3)⟩
end
/-! data, compared by == -/
section
variable {K : PySem.W.Frag} {σ : L2.St} {H H' : Hp}
mutual
theorem Dp.ex (e : Ex H H') : ∀ (d : PyData) (v : V), Dp K H v d → Dp K H' v d
  | .none, _, h => by cases h; exact .non
  | .bool _, _, h => by cases h; exact .bl _
  | .int _, _, h => by cases h; exact .int _
  | .str _, _, h => by cases h; exact .str _
  | .list ds, _, h => by
    cases h with
    | lst hs ha => exact .lst (ex_l e hs) (DpAll.ex e ds _ ha)
  | .tuple ds, _, h => by
    cases h with
    | tup hs ha => exact .tup (ex_t e hs) (DpAll.ex e ds _ ha)
  | .dict _, _, h => by cases h
theorem DpAll.ex (e : Ex H H') : ∀ (ds : List PyData) (vs : List V), DpAll K H vs ds → DpAll K H' vs ds
  | [], _, h => by cases h; exact .nil
  | d :: ds, _, h => by
    cases h with
    | cons h1 h2 => exact .cons (Dp.ex e d _ h1) (DpAll.ex e ds _ h2)
end
theorem DpAll.len : ∀ {ds : List PyData} {vs : List V}, DpAll K H vs ds → vs.length = ds.length
  | [], _, h => by cases h; rfl
  | d :: ds, _, h => by
    cases h with
    | cons h1 h2 => simp [DpAll.len h2]
def EvD (K : PySem.W.Frag) (te : TE) (σ : L2.St) (H : Hp) (d : PyData) : Prop := ∀ H1, Ex H H1 → ∀ Q : VK, (∀ v H2, Ex H1 H2 → Dp K H2 v d → Q v H2) → te σ H1 Q
def EvDA (K : PySem.W.Frag) (ta : TA) (σ : L2.St) (H : Hp) (ds : List PyData) : Prop := ∀ H1, Ex H H1 → ∀ Q : List V → Hp → Prop, (∀ vs H2, Ex H1 H2 → DpAll K H2 vs ds → Q vs H2) → ta σ H1 Q
variable {te ta tb : TE} {d e : PyData} {ds : List PyData}
theorem ed_of {v : V} (h : Ev te σ H v) (k : Dp K H v d) : EvD K te σ H d := fun H1 e1 Q q => h H1 e1 Q fun H2 e2 => q v H2 e2 (Dp.ex (e1.trans e2) d v k)
theorem ed_int {i : Int} (h : Ev te σ H (.int i)) : EvD K te σ H (.int i) := ed_of h (.int i)
theorem ed_bl {i : Bool} (h : Ev te σ H (.bl i)) : EvD K te σ H (.bool i) := ed_of h (.bl i)
theorem ed_non (h : Ev te σ H .non) : EvD K te σ H .none := ed_of h .non
theorem ed_str {i : Str} (h : Ev te σ H (.str i)) : EvD K te σ H (.str i) := ed_of h (.str i)
theorem eda_nil : EvDA K tNil σ H [] := fun H1 _ _ q => q [] H1 (Ex.refl H1) .nil
theorem eda_cons {tr : TA} (h : EvD K te σ H d) (hr : EvDA K tr σ H ds) : EvDA K (tCons te tr) σ H (d :: ds) := fun H1 e _ q =>
  h H1 e _ fun v H2 e2 dv => hr H2 (e.trans e2) _ fun vs H3 e3 dvs => q (v :: vs) H3 (e2.trans e3) (.cons (Dp.ex e3 d v dv) dvs)
theorem ed_lst {t : TA} (h : EvDA K t σ H ds) (hl : ds.length ≤ 100000) : EvD K (tLst t) σ H (.list ds) := fun H1 e _ q =>
  h H1 e _ fun vs H2 e2 dv => ⟨sz_of (by rw [DpAll.len dv]; exact hl), fun p hp => q _ _ (e2.trans (Ex.new hp)) (.lst (sq_of upd_same) (DpAll.ex (Ex.new hp) ds vs dv))⟩
theorem ed_tup {t : TA} (h : EvDA K t σ H ds) (hl : ds.length ≤ 100000) : EvD K (tTup t) σ H (.tuple ds) := fun H1 e _ q =>
  h H1 e _ fun vs H2 e2 dv => ⟨sz_of (by rw [DpAll.len dv]; exact hl), fun p hp => q _ _ (e2.trans (Ex.new hp)) (.tup (st_of upd_same) (DpAll.ex (Ex.new hp) ds vs dv))⟩
theorem ed_ofL {xs : List V} (h : EvL te σ H xs) (k : DpAll K H xs ds) : EvD K te σ H (.list ds) := fun H1 e1 Q q => h H1 e1 Q fun p H2 _ e2 h2 => q _ H2 e2 (.lst (sq_of h2) (DpAll.ex (e1.trans e2) ds xs k))
theorem ed_ofU {xs : List V} (h : EvU te σ H xs) (k : DpAll K H xs ds) : EvD K te σ H (.tuple ds) := fun H1 e1 Q q => h H1 e1 Q fun p H2 _ e2 h2 => q _ H2 e2 (.tup (st_of h2) (DpAll.ex (e1.trans e2) ds xs k))
theorem dpa_ints : ∀ ns : List Int, DpAll K H (ns.map V.int) (ns.map PyData.int)
  | [] => .nil
  | n :: r => .cons (.int n) (dpa_ints r)
theorem ev_eqD (ha : EvD K ta σ H d) (hb : EvD K tb σ H e) (sd : SeqAt.shaped d = true) (se : SeqAt.shaped e = true) : Ev (tOp (rEqD K) ta tb) σ H (.bl (PyData.eqv d e)) := fun H1 e1 Q q =>
  ha H1 e1 _ fun v H2 e2 dv => hb H2 (e1.trans e2) _ fun u H3 e3 du => ⟨d, e, Dp.ex e3 d v dv, du, sd, se, q H3 (e2.trans e3)⟩
theorem ev_neD (ha : EvD K ta σ H d) (hb : EvD K tb σ H e) (sd : SeqAt.shaped d = true) (se : SeqAt.shaped e = true) : Ev (tOp (rNeD K) ta tb) σ H (.bl (!PyData.eqv d e)) := fun H1 e1 Q q =>
  ha H1 e1 _ fun v H2 e2 dv => hb H2 (e1.trans e2) _ fun u H3 e3 du => ⟨d, e, Dp.ex e3 d v dv, du, sd, se, q H3 (e2.trans e3)⟩
theorem shaped_ints : ∀ ns : List Int, SeqAt.shaped (.list (ns.map PyData.int)) = true := fun ns => by
  have h1 : ∀ ms : List Int, PyData.canLayAll0 (ms.map PyData.int) = true := fun ms => by
    induction ms with
    | nil => rfl
    | cons m r ih => simp [PyData.canLayAll0, PyData.canLay0, ih]
  have h2 : ∀ ms : List Int, PyData.depthAll (ms.map PyData.int) = 0 := fun ms => by
    induction ms with
    | nil => rfl
    | cons m r ih => simp [PyData.depthAll, PyData.depth, ih]
  simp [SeqAt.shaped, PyData.canLay0, h1, PyData.depth, h2]
theorem eqv_same {d : PyData} (h : SeqAt.shaped d = true) : PyData.eqv d d = true := by
  have h1 : PyData.canLay0 d = true := (Bool.and_eq_true_iff.mp h).1
  first
    | exact PySem.P3.eqv_refl d h1
    | exact PyData.eqv_refl d h1
    | exact PySem.SeqAt.eqv_refl d h1
/-- f(k = v): a new tuple back -/
theorem eu_callK {sp : Sp} {gV : List V → List V → List V} {E : XK} {t tk : TA} {vs zs xs : List V} (h : EvA t σ H vs) (hk : EvA tk σ H zs) (hs : SpU sp (gV vs zs) H xs) : EvU (tCallK sp gV E t tk) σ H xs := fun H1 e Q q =>
  h H1 e _ fun H2 e2 => hk H2 (e.trans e2) _ fun H3 e3 => hs H3 ((e.trans e2).trans e3) Q (fun p H4 hp e4 h4 => q p H4 (fresh_back (e2.trans e3) hp) ((e2.trans e3).trans e4) h4) E
theorem ev_callK {sp : Sp} {gV : List V → List V → List V} {E : XK} {t tk : TA} {vs zs : List V} {z : V} (h : EvA t σ H vs) (hk : EvA tk σ H zs) (hs : SpV sp (gV vs zs) H z) : Ev (tCallK sp gV E t tk) σ H z := fun H1 e Q q =>
  h H1 e _ fun H2 e2 => hk H2 (e.trans e2) _ fun H3 e3 => hs H3 ((e.trans e2).trans e3) Q (fun H4 e4 => q H4 ((e2.trans e3).trans e4)) E
/-- isinstance(x, tuple) of a tuple; len of a tuple -/
theorem ev_isT {p : Addr} {xs : List V} {n : String} {b : Bool} (h : Ev ta σ H (.ref p)) (hp : H p = some (.tup xs)) (hk : PySem.W.kitOne K (.type "tuple") (.type n) = some b) : Ev (tCB (rIsi K) (tCons ta (tCons (tC (.ty n)) tNil))) σ H (.bl b) := fun H1 e Q q =>
  h H1 e _ fun H2 e2 => ⟨.ref p, .ty n, .type "tuple", .type n, b, rfl, .ty n, .base (.tup (e2 p _ (e p _ hp))), hk, q H2 e2⟩
theorem ev_lenT {p : Addr} {xs : List V} (ha : Ev ta σ H (.ref p)) (h : SqT K H p xs) : Ev (tCB (rLenS K) (tCons ta tNil)) σ H (.int (xs.length : Int)) := fun H1 e Q q =>
  ha H1 e _ fun H2 e2 => ⟨p, xs, rfl, Or.inr (ex_t (e.trans e2) h), q H2 e2⟩
/-- list(range(a, b)) -/
theorem el_rg2 {a b : Int} (ha : Ev ta σ H (.int a)) (hb : Ev tb σ H (.int b)) (h : RgOk a b) : EvL (tLstRg (tRg2 ta tb)) σ H (rgV a b) := fun H1 e Q q =>
  ha H1 e _ fun H2 e2 => hb H2 (e.trans e2) _ fun H3 e3 => ⟨a, b, rfl, rfl, h, fun p hp => q p _ (fresh_back (e2.trans e3) hp) ((e2.trans e3).trans (Ex.new hp)) upd_same⟩
theorem el_rg1 {b : Int} (hb : Ev tb σ H (.int b)) (h : RgOk 0 b) : EvL (tLstRg (tRg1 tb)) σ H (rgV 0 b) := fun H1 e Q q =>
  hb H1 e _ fun H3 e3 => ⟨b, rfl, h, fun p hp => q p _ (fresh_back e3 hp) (e3.trans (Ex.new hp)) upd_same⟩
end
/-! more statements -/
section
variable {K : PySem.W.Frag} {σ : L2.St} {H H' : Hp} {te tl : TE} {t : TT} {D : Ends} {tu tz : TS} {g : TG}
/-- a comprehension over range(lo, n) that keeps nothing -/
theorem el_noneR2 {ta : TA} {j : Nat} {vs : List Nat} {lo n : Int} (h : EvA ta σ H [.int lo, .int n]) (hn : 0 ≤ lo ∧ lo ≤ 40000 ∧ -40000 ≤ n ∧ n ≤ 40000) (hw : ∀ x, wipe ((wipe σ vs).set j (some x)) vs = wipe σ vs)
    (ht : ∀ (i : Nat) H1, Ex H H1 → lo + (i : Int) < n → EvT t ((wipe σ vs).set j (some (.int (lo + (i : Int))))) H1 false) : EvL (tLc (iRng2 ta) (gName j) t te vs) σ H [] := by
  have q := el_lcR2 (te := te) (fun _ => false) (fun _ => .non) h hn hw ht (fun _ _ _ _ hf => Bool.noConfusion hf)
  rw [given_none (fun _ _ => rfl)] at q
  exact q
/-- a for over a new tuple -/
theorem s_forNU {xs : List V} (h : EvU tl σ H xs) (Pv : Addr → Nat → L2.St → Hp → Prop) (h0 : ∀ p H1, H p = none → Ex H H1 → H1 p = some (.tup xs) → Pv p 0 σ H1) (hl : ∀ p i σ' H', i ≤ xs.length → Pv p i σ' H' → SqT K H' p xs)
    (hs : ∀ p i x σ' H', xs[i]? = some x → Pv p i σ' H' → g x σ' H' fun σ2 H2 => tu { D with nx := Pv p (i + 1), ct := Pv p (i + 1), bk := D.nx } σ2 H2) (hd : ∀ p σ' H', Pv p xs.length σ' H' → D.nx σ' H') : tFor (iTup K tl) g tu D σ H :=
  h H (Ex.refl H) _ fun p H1 hp e h1 => ⟨p, rfl, ⟨xs, st_of h1⟩, for_tup (Pv p) (h0 p H1 hp e h1) (hl p) (hs p) (hd p)⟩
theorem q_forNU {xs : List V} (h : EvU tl σ H xs) (Pv : Addr → Nat → L2.St → Hp → Prop) (h0 : ∀ p H1, H p = none → Ex H H1 → H1 p = some (.tup xs) → Pv p 0 σ H1) (hl : ∀ p i σ' H', i ≤ xs.length → Pv p i σ' H' → SqT K H' p xs)
    (hs : ∀ p i x σ' H', xs[i]? = some x → Pv p i σ' H' → g x σ' H' fun σ2 H2 => tu { D with nx := Pv p (i + 1), ct := Pv p (i + 1), bk := tz D } σ2 H2) (hd : ∀ p σ' H', Pv p xs.length σ' H' → tz D σ' H') : tSeq (tFor (iTup K tl) g tu) tz D σ H :=
  s_forNU (D := { D with nx := tz D }) h Pv h0 hl hs hd
theorem s_asgD {i : Nat} {d : PyData} (h : EvD K te σ H d) (k : ∀ v H1, Ex H H1 → Dp K H1 v d → D.nx (σ.set i (some v)) H1) : tAsg te (gName i) D σ H := h H (Ex.refl H) _ fun v H1 e dv => k v H1 e dv
theorem q_asgD {i : Nat} {d : PyData} (h : EvD K te σ H d) (k : ∀ v H1, Ex H H1 → Dp K H1 v d → tz D (σ.set i (some v)) H1) : tSeq (tAsg te (gName i)) tz D σ H := s_asgD (D := { D with nx := tz D }) h k
end
end Kit
set_option Elab.async false
set_option linter.all false
set_option maxRecDepth 100000
set_option maxHeartbeats 4000000
namespace Kit
open PySem PySem.Spec PyProof.Rows L2 Evl
theorem slot_type_ne : Slot "type" (cmpInfo .NotEq).2.1 "object.__ne__" :=
  .of (owner := "object") (n := "__ne__") (by rw [typeLookup_type, builtinLookup_eq_fast]; kernel_rfl) (by decide +kernel) (by decide +kernel) (by decide +kernel)
    (by first | exact .inl (by decide +kernel) | exact .inr (by decide +kernel)) (by rw [isSubtype_type]; kernel_rfl)
theorem slot_type_eqN : Slot "type" "__eq__" "object.__eq__" :=
  .of (owner := "object") (n := "__eq__") (by rw [typeLookup_type, builtinLookup_eq_fast]; kernel_rfl) (by decide +kernel) (by decide +kernel) (by decide +kernel)
    (by first | exact .inl (by decide +kernel) | exact .inr (by decide +kernel)) (by rw [isSubtype_type]; kernel_rfl)
section
variable {prog : Program} {w : World} {A : Around} {E : Value → Shared → Prop} {s : Shared} {Q : Value → Shared → Prop}
theorem ne_type_same {X : String} (hX : ∀ s' : Shared, s'.TypeIs (.type X) "type") (hu : A.units + 1 < cLine) (h : Q (.bool false) s) : wpAny (model prog w) A (compareOp .NotEq (.type X) (.type X)) Q E s := by
  show wpAny _ A (richCompare .NotEq _ _) Q E s
  refine wpAny_richCompare_same (T := "type") (hX s) (hX s) slot_type_ne ?_
  refine wpAny_call_entry slot_type_ne (hX s) PySem.F.cmpEntry_ne ?_ (PySem.F.cmpArgs_ne _ _)
  unfold Builtin.«object.__ne__»
  have key : wpAny (model prog w) A.in1 (call (.builtin "object.__eq__") [.type X, .type X]) (fun v s' => v = .bool true ∧ s' = s) E s :=
    call_gives slot_type_eqN (hX s) F.entry_object_eq (F.args_object_eq_2 _ _) (PySem.TypeEq.object_eq_same rfl (by simp)) ⟨rfl, rfl⟩
  repeat (first
    | with_reducible refine wpAny_cRoomFor (by show A.units + 1 < cLine; exact hu) ?_
    | (refine wpAny_bind (m := callSpecialIfBound? (.type X) (Str.ofString "__eq__") [.type X])
        (wpAny_callSpecialIfBound?_slot (hX _) slot_type_eqN (wpAny_mono key (fun r s' hr => by
          obtain ⟨rfl, rfl⟩ := hr
          have hq : Q (.bool false) s' := h
          repeat (first | exact ⟨_, rfl, (by intro e; cases e), hq⟩ | exact wpAny_pure ⟨_, rfl, (by intro e; cases e), hq⟩ | (refine wpAny_bind (m := truthy (.bool _)) (wpAny_truthy_bool ?_)) | wp_step)) fun _ _ e => e)))
    | wp_step)
end
end Kit
set_option Elab.async false
set_option linter.all false
set_option maxRecDepth 100000
set_option maxHeartbeats 4000000
namespace Kit
open PySem PySem.Spec PyProof.Rows L2 Evl
section
variable {X : Cx}
def rNeTyS : R2 := fun x y H Q => ∃ m, x = .ty m ∧ y = .ty m ∧ Meta m ∧ Q (.bl false) H
theorem op_neTyS (hu : X.A.units + 1 < cLine) : OpR X (compareOp .NotEq) rNeTyS := by
  intro pins s σ H x y v u Q I rx ry h
  obtain ⟨m, rfl, rfl, hm, q⟩ := h
  cases (show v = Value.type m from rx)
  cases (show u = Value.type m from ry)
  exact ne_type_same hm hu ⟨.bl false, H, I, rfl, q⟩
/-- min of a tuple of ints -/
def rMinT (K : PySem.W.Frag) : List V → Hp → VK → Prop := fun vs H Q => ∃ (a : Addr) (n : Int) (ns : List Int), vs = [V.ref a] ∧ SqT K H a ((n :: ns).map V.int) ∧ Q (.int (ns.foldl min n)) H
theorem alike_ints (ns : List Int) : PySem.W.AlikeAll (ns.map PyData.int) := by
  refine ⟨fun x hx y hy => ?_, fun x hx => ?_⟩
  · obtain ⟨a, _, rfl⟩ := List.mem_map.mp hx
    obtain ⟨b, _, rfl⟩ := List.mem_map.mp hy
    rfl
  · obtain ⟨a, _, rfl⟩ := List.mem_map.mp hx
    exact fun z => by cases z
theorem depth_ints : ∀ ms : List Int, PyData.depthAll (ms.map PyData.int) = 0
  | [] => rfl
  | m :: r => by simp [PyData.depthAll, PyData.depth, depth_ints r]
theorem cr_minT (hc : X.calm = true) (hu : X.A.units + 1 < cLine) : CallR X (.builtin "min") (rMinT X.K) := by
  intro pins s σ H vs us Q I r h
  obtain ⟨a, n, ns, rfl, hs, q⟩ := h
  obtain ⟨its, rv, hl, _⟩ := I.tuple hs
  rw [Vals.ref1 r]
  obtain ⟨as, rd⟩ := Dp.readsAll I (PyData.int n :: ns.map PyData.int) _ its (dpa_ints (n :: ns)) rv
  refine PySem.W.min_tuple_data (I.ok.hd hc) (show s.heap.IsTuple a its.toArray from hl) (by simpa using rd) (alike_ints (n :: ns)) ?_ fun i v h' tk bs hv hr hk => ?_
  · have := depth_ints (n :: ns)
    rw [List.map_cons] at this
    rw [this]
    exact hu
  · rw [PySem.W.minD_ints] at hr
    cases hr with
    | int _ t => exact ⟨.int (ns.foldl min n), H, I.kept (t' := tk) hk, ⟨_, rfl⟩, q⟩
theorem foldl_min_spec : ∀ (ns : List Int) (n : Int), ns.foldl min n ∈ n :: ns ∧ ∀ y ∈ n :: ns, ns.foldl min n ≤ y
  | [], n => ⟨by simp, by simp⟩
  | k :: r, n => by
    obtain ⟨h1, h2⟩ := foldl_min_spec r (min n k)
    refine ⟨?_, fun y hy => ?_⟩
    · rcases List.mem_cons.mp h1 with e | e
      · rw [List.foldl_cons, e]
        rcases Int.le_total n k with h | h
        · rw [Int.min_eq_left h]; simp
        · rw [Int.min_eq_right h]; simp
      · simp [List.foldl_cons, e]
    · have h3 := h2 (min n k) (by simp)
      rw [List.foldl_cons]
      rcases List.mem_cons.mp hy with e | hy
      · omega
      · rcases List.mem_cons.mp hy with e | hy
        · omega
        · exact h2 y (by simp [hy])
end
/-! readings of these -/
section
variable {K : PySem.W.Frag} {σ : L2.St} {H H' : Hp} {ta tb te tl : TE} {D : Ends} {tu tz : TS} {t : TT}
theorem ev_typeL {p : Addr} {xs : List V} (h : Ev ta σ H (.ref p)) (hp : H p = some (.lst xs)) : Ev (tThenZ ta kTyp) σ H (.ty "list") := fun H1 e Q q => h H1 e _ fun H2 e2 => ⟨"list", by
  have := e2 p _ (e p _ hp)
  simp [zTyV, this], q H2 e2⟩
theorem ev_typeT {p : Addr} {xs : List V} (h : Ev ta σ H (.ref p)) (hp : H p = some (.tup xs)) : Ev (tThenZ ta kTyp) σ H (.ty "tuple") := fun H1 e Q q => h H1 e _ fun H2 e2 => ⟨"tuple", by
  have := e2 p _ (e p _ hp)
  simp [zTyV, this], q H2 e2⟩
theorem rv_neTyS {m : String} (hm : Meta m) : RV rNeTyS (.ty m) (.ty m) H (.bl false) := fun H1 _ _ q => ⟨m, rfl, rfl, hm, q H1 (Ex.refl H1)⟩
theorem ev_sumN {ns : List Int} (h : EvL ta σ H (ns.map V.int)) : Ev (tCB (rSum K) (tCons ta tNil)) σ H (.int ns.sum) := fun H1 e Q q => h H1 e _ fun p H2 _ e2 h2 => ⟨p, ns, rfl, sq_of h2, q H2 e2⟩
theorem ev_allN {bs : List Bool} (h : EvL ta σ H (bs.map V.bl)) : Ev (tCB (rAll K) (tCons ta tNil)) σ H (.bl (bs.all id)) := fun H1 e Q q => h H1 e _ fun p H2 _ e2 h2 => ⟨p, bs, rfl, sq_of h2, q H2 e2⟩
theorem ev_minT {p : Addr} {n : Int} {ns : List Int} (h : Ev ta σ H (.ref p)) (hp : SqT K H p ((n :: ns).map V.int)) : Ev (tCB (rMinT K) (tCons ta tNil)) σ H (.int (ns.foldl min n)) := fun H1 e Q q => h H1 e _ fun H2 e2 => ⟨p, n, ns, rfl, ex_t (e.trans e2) hp, q H2 e2⟩
/-- sorted(xs), told by what it is -/
theorem ed_sorted {p : Addr} {ns ms : List Int} (h : Ev ta σ H (.ref p)) (hp : SqL K H p (ns.map V.int)) (hl : ns.length < 64) (hm : ms.Perm ns) (hs : ms.Pairwise (· ≤ ·)) : EvD K (tCB (rSorted K) (tCons ta tNil)) σ H (.list (ms.map PyData.int)) := fun H1 e Q q => h H1 e _ fun H2 e2 =>
  ⟨p, ns, rfl, ex_l (e.trans e2) hp, hl, fun ns' l pm so new => by
    have eq : ns' = ms := by
      exact List.Perm.eq_of_pairwise (le := fun a b : Int => a ≤ b) (fun a b _ _ h1 h2 => Int.le_antisymm h1 h2) so hs (pm.trans hm.symm)
    subst eq
    exact q _ _ (e2.trans (Ex.new new)) (.lst (sq_of upd_same) (dpa_ints _))⟩
/-- a new tuple of a list's items -/
theorem eu_tupOf {p : Addr} {xs : List V} (h : Ev ta σ H (.ref p)) (hp : SqL K H p xs) : EvU (tCB (rTupS K) (tCons ta tNil)) σ H xs := fun H1 e Q q => h H1 e _ fun H2 e2 =>
  ⟨p, xs, rfl, ex_l (e.trans e2) hp, fun l hl => q l _ (fresh_back e2 hl) (e2.trans (Ex.new hl)) upd_same⟩
/-- [0] * n -/
theorem el_rep {xs : List V} {k : Int} (ha : EvL ta σ H xs) (hb : Ev tb σ H (.int k)) (h0 : 0 ≤ k) (h1 : k ≤ 1000) (hx : xs.length ≤ 50) : EvL (tOp rRep ta tb) σ H (List.replicate k.toNat xs).flatten := fun H1 e Q q =>
  ha H1 e _ fun p H2 hp e2 h2 => hb H2 (e.trans e2) _ fun H3 e3 => ⟨p, k, xs, rfl, rfl, e3 p _ h2, by omega, by omega, sz_of (by
    have : xs.length * k.toNat ≤ 50 * 1000 := Nat.mul_le_mul hx (by omega)
    omega), fun l hl => q l _ (fresh_back (e2.trans e3) hl) ((e2.trans e3).trans (Ex.new hl)) upd_same⟩
/-- xs[::-1] -/
theorem el_rev {p : Addr} {xs : List V} (h : Ev ta σ H (.ref p)) (hp : SqL K H p xs) : EvL (tRevL K ta) σ H xs.reverse := fun H1 e Q q => h H1 e _ fun H2 e2 =>
  ⟨p, xs, rfl, ex_l (e.trans e2) hp, fun l hl => q l _ (fresh_back e2 hl) (e2.trans (Ex.new hl)) upd_same⟩
theorem el_revN {xs : List V} (h : EvL ta σ H xs) : EvL (tRevL K ta) σ H xs.reverse := fun H1 e Q q => h H1 e _ fun p H2 _ e2 h2 =>
  ⟨p, xs, rfl, sq_of h2, fun l hl => q l _ (fresh_back e2 hl) (e2.trans (Ex.new hl)) upd_same⟩
/-- for i, x in enumerate(xs): the pair is a new tuple -/
theorem s_forEn {ta : TA} {i j : Nat} {a : Addr} {xs : List V} (h : EvA ta σ H [.ref a]) (hx : SqL K H a xs) (Pv : Nat → L2.St → Hp → Prop) (h0 : ∀ H1, Ex H H1 → Pv 0 σ H1) (hl : ∀ n σ' H', n ≤ xs.length → Pv n σ' H' → SqL K H' a xs)
    (hs : ∀ n x σ' H' H2, xs[n]? = some x → Pv n σ' H' → Ex H' H2 → tu { D with nx := Pv (n + 1), ct := Pv (n + 1), bk := D.nx } ((σ'.set i (some (.int (n : Int)))).set j (some x)) H2) (hd : ∀ σ' H', Pv xs.length σ' H' → D.nx σ' H') :
    tFor (iEnum K ta) (gTup K 2 (gCons (gName i) (gCons (gName j) gNil))) tu D σ H := h H (Ex.refl H) _ fun H1 e => ⟨a, xs, rfl, ex_l e hx, by
  refine for_it walk_enum Pv (h0 H1 e) (fun n σ' H' hn p => hl n σ' H' hn p) ?_ hd
  rintro n v σ' Hh H2 hn p ⟨T, x, y, rfl, nT, rfl, g1, g2⟩
  have ex : V.int (n : Nat) = x := Option.some.inj g1
  subst ex
  exact ⟨T, [.int (n : Nat), y], rfl, st_of upd_same, rfl, _, [y], rfl, y, [], rfl, rfl, hs n y σ' Hh _ g2 p (Ex.new nT)⟩⟩
theorem q_forEn {ta : TA} {i j : Nat} {a : Addr} {xs : List V} (h : EvA ta σ H [.ref a]) (hx : SqL K H a xs) (Pv : Nat → L2.St → Hp → Prop) (h0 : ∀ H1, Ex H H1 → Pv 0 σ H1) (hl : ∀ n σ' H', n ≤ xs.length → Pv n σ' H' → SqL K H' a xs)
    (hs : ∀ n x σ' H' H2, xs[n]? = some x → Pv n σ' H' → Ex H' H2 → tu { D with nx := Pv (n + 1), ct := Pv (n + 1), bk := tz D } ((σ'.set i (some (.int (n : Int)))).set j (some x)) H2) (hd : ∀ σ' H', Pv xs.length σ' H' → tz D σ' H') :
    tSeq (tFor (iEnum K ta) (gTup K 2 (gCons (gName i) (gCons (gName j) gNil))) tu) tz D σ H := s_forEn (D := { D with nx := tz D }) h hx Pv h0 hl hs hd
end
end Kit
set_option Elab.async false
set_option linter.all false
set_option maxRecDepth 100000
set_option maxHeartbeats 4000000
namespace Kit
open PySem PySem.Spec PyProof.Rows L2 Evl
/-! ### new lists of new tuples -/
def TL (H : Hp) (vs : List V) (rs : List (List V)) : Prop := Paired (fun v r => ∃ a, v = .ref a ∧ H a = some (.tup r)) vs rs
theorem TL.imp {H H' : Hp} (f : ∀ a r, H a = some (.tup r) → H' a = some (.tup r)) : ∀ {vs : List V} {rs : List (List V)}, TL H vs rs → TL H' vs rs
  | _, _, .nil => .nil
  | _, _, .cons ⟨a, e, h⟩ t => .cons ⟨a, e, f a _ h⟩ (TL.imp f t)
theorem TL.ex {H H' : Hp} {vs : List V} {rs : List (List V)} (e : Ex H H') (h : TL H vs rs) : TL H' vs rs := h.imp fun a r x => e a _ x
theorem TL.upd {H : Hp} {l : Addr} {xs : List V} {o : HO} {vs : List V} {rs : List (List V)} (hl : H l = some (.lst xs)) (h : TL H vs rs) : TL (upd H l o) vs rs := h.imp fun a r x => by
  rw [upd_ne (ne_of x hl (by intro z; cases z))]
  exact x
theorem TL.len {H : Hp} : ∀ {vs : List V} {rs : List (List V)}, TL H vs rs → vs.length = rs.length
  | _, _, .nil => rfl
  | _, _, .cons _ t => by rw [List.length_cons, List.length_cons, TL.len t]
theorem TL.app {H : Hp} {v : V} {r : List V} (hv : ∃ a, v = .ref a ∧ H a = some (.tup r)) : ∀ {vs : List V} {rs : List (List V)}, TL H vs rs → TL H (vs ++ [v]) (rs ++ [r])
  | _, _, .nil => .cons hv .nil
  | _, _, .cons q t => .cons q (TL.app hv t)
theorem TL.get {H : Hp} : ∀ {vs : List V} {rs : List (List V)} {i : Nat} {v : V}, TL H vs rs → vs[i]? = some v → ∃ a r, v = .ref a ∧ H a = some (.tup r) ∧ rs[i]? = some r
  | _, _, 0, v, .cons ⟨a, e, h⟩ t, hv => ⟨a, _, (Option.some.inj (by simpa using hv)).symm.trans e, h, rfl⟩
  | _, _, i + 1, v, .cons _ t, hv => by
    obtain ⟨a, r, h1, h2, h3⟩ := TL.get (i := i) t (by simpa using hv)
    exact ⟨a, r, h1, h2, by simpa using h3⟩
  | _, _, 0, v, .nil, hv => by simp at hv
  | _, _, i + 1, v, .nil, hv => by simp at hv
theorem TL.rev {H : Hp} : ∀ {vs : List V} {rs : List (List V)}, TL H vs rs → TL H vs.reverse rs.reverse
  | _, _, .nil => .nil
  | _, _, .cons q t => by
    rw [List.reverse_cons, List.reverse_cons]
    exact TL.app q (TL.rev t)
def EvLT (te : TE) (σ : L2.St) (H : Hp) (rs : List (List V)) : Prop := ∀ H1, Ex H H1 → ∀ Q : VK, (∀ p vs H2, H1 p = none → Ex H1 H2 → H2 p = some (.lst vs) → TL H2 vs rs → Q (.ref p) H2) → te σ H1 Q
section
variable {K : PySem.W.Frag} {σ : L2.St} {H H' : Hp} {te tl : TE} {D : Ends} {tz : TS} {t : TT}
/-- [a new tuple for i in range(n)] -/
theorem elt_R1 {ta : TA} {j : Nat} {vs : List Nat} {n : Int} (f : Nat → List V) (h : EvA ta σ H [.int n]) (hn : 0 ≤ n ∧ n ≤ 40000) (hw : ∀ x, wipe ((wipe σ vs).set j (some x)) vs = wipe σ vs)
    (he : ∀ (i : Nat) H1, Ex H H1 → (i : Int) < n → EvU te ((wipe σ vs).set j (some (.int (i : Int)))) H1 (f i)) : EvLT (tLc (iRng1 ta) (gName j) tYes te vs) σ H ((List.range n.toNat).map f) := fun H0 e Q q => h H0 e _ fun H1 e1 => ⟨n, rfl, by omega, by omega, fun Dl hD =>
  lc_range (lo := 0) (n := n.toNat) (fun i H' => Ex H1 H' ∧ ∃ ws, H' Dl = some (.lst ws) ∧ TL H' ws ((List.range i).map f)) ⟨Ex.new hD, [], upd_same, .nil⟩ (fun i H' hi p => by
    obtain ⟨p1, ws, p2, p3⟩ := p
    have e0 : (0 : Int) + (i : Int) = (i : Int) := Int.zero_add _
    show wipe ((wipe σ vs).set j (some (.int ((0 : Int) + (i : Int))))) vs = wipe σ vs ∧ te ((wipe σ vs).set j (some (.int ((0 : Int) + (i : Int))))) H' fun y H4 => ∃ acc, H4 Dl = some (.lst acc) ∧ acc.length < sizeLine ∧ _
    rw [e0]
    refine ⟨hw _, he i H1 (e.trans e1) (by omega) H' p1 _ fun p H4 hp e4 h4 => ⟨ws, e4 Dl _ p2, sz_lt (by
      have := p3.len
      simp at this
      omega), Ex.mut (p1.trans e4) hD, ws ++ [.ref p], upd_same, ?_⟩⟩
    rw [List.range_succ, List.map_append]
    exact ((p3.ex e4).app ⟨p, rfl, h4⟩).upd (e4 Dl _ p2)) (fun H' p => by
      obtain ⟨p1, ws, p2, p3⟩ := p
      exact q Dl ws H' (fresh_back e1 hD) (e1.trans p1) p2 p3)⟩
/-- [a new tuple for x in xs] -/
theorem elt_map {a : Addr} {xs : List V} {j : Nat} {vs : List Nat} (f : Nat → List V) (h : Ev tl σ H (.ref a)) (hx : SqL K H a xs) (hz : xs.length ≤ 40000) (hw : ∀ x, wipe ((wipe σ vs).set j (some x)) vs = wipe σ vs)
    (he : ∀ (i : Nat) (x : V) H1, Ex H H1 → xs[i]? = some x → EvU te ((wipe σ vs).set j (some x)) H1 (f i)) : EvLT (tLc (iList K tl) (gName j) tYes te vs) σ H ((List.range xs.length).map f) := fun H0 e Q q => h H0 e _ fun H1 e1 => ⟨a, rfl, ⟨xs, ex_l (e.trans e1) hx⟩, fun Dl hD =>
  lc_list (xs := xs) (fun i H' => Ex H1 H' ∧ ∃ ws, H' Dl = some (.lst ws) ∧ TL H' ws ((List.range i).map f)) ⟨Ex.new hD, [], upd_same, .nil⟩ (fun i H' _ p => ex_l ((e.trans e1).trans p.1) hx) (fun i x H' hi p => by
    obtain ⟨p1, ws, p2, p3⟩ := p
    show wipe ((wipe σ vs).set j (some x)) vs = wipe σ vs ∧ te ((wipe σ vs).set j (some x)) H' fun y H4 => ∃ acc, H4 Dl = some (.lst acc) ∧ acc.length < sizeLine ∧ _
    refine ⟨hw _, he i x H1 (e.trans e1) hi H' p1 _ fun p H4 hp e4 h4 => ⟨ws, e4 Dl _ p2, sz_lt (by
      have := p3.len
      have := (List.getElem?_eq_some_iff.mp hi).1
      simp at *
      omega), Ex.mut (p1.trans e4) hD, ws ++ [.ref p], upd_same, ?_⟩⟩
    rw [List.range_succ, List.map_append]
    exact ((p3.ex e4).app ⟨p, rfl, h4⟩).upd (e4 Dl _ p2)) (fun H' p => by
      obtain ⟨p1, ws, p2, p3⟩ := p
      exact q Dl ws H' (fresh_back e1 hD) (e1.trans p1) p2 p3)⟩
theorem range_get {α : Type} (rs : List α) (d : α) : rs = (List.range rs.length).map fun i => rs.getD i d := by
  refine List.ext_getElem (by simp) fun i h1 h2 => ?_
  simp [h1]
theorem paired_map {α β γ : Type} {F : β → γ → Prop} (f : α → β) (g : α → γ) : ∀ l : List α, (∀ x ∈ l, F (f x) (g x)) → Paired F (l.map f) (l.map g)
  | [], _ => .nil
  | x :: r, h => .cons (h x (by simp)) (paired_map f g r fun y hy => h y (by simp [hy]))
/-- [x for x in xs if test(x)], xs a list of tuples, the test P of the tuple's items -/
theorem elt_filter {a : Addr} {xs : List V} {rs : List (List V)} {j : Nat} {vs : List Nat} (P : List V → Bool) (h : Ev tl σ H (.ref a)) (hx : SqL K H a xs) (ht : TL H xs rs) (hz : xs.length ≤ 40000) (hw : ∀ x, wipe ((wipe σ vs).set j (some x)) vs = wipe σ vs) (hj : ∀ x, ((wipe σ vs).set j (some x))[j]? = some (some x))
    (he : ∀ (b : Addr) (r : List V) H1, Ex H H1 → r ∈ rs → H1 b = some (.tup r) → EvT t ((wipe σ vs).set j (some (.ref b))) H1 (P r)) : EvLT (tLc (iList K tl) (gName j) t (tVar j) vs) σ H (rs.filter P) := fun H0 e Q q => by
  refine el_lcL (K := K) (f := fun i => P (rs.getD i [])) (v := fun i => xs.getD i .non) h hx hz hw (fun i x H1 e1 hi => ?_) (fun i x H1 e1 hi hf => ?_) H0 e Q fun p H2 hp e2 h2 => ?_
  · obtain ⟨b, r, rfl, hb, hr⟩ := ht.get hi
    have g : rs.getD i [] = r := by rw [List.getD_eq_getElem?_getD, hr] <;> rfl
    show EvT _ _ _ (P (rs.getD i []))
    rw [g]
    exact he b r H1 e1 (List.mem_of_getElem? hr) (e1 b _ hb)
  · have g : xs.getD i .non = x := by rw [List.getD_eq_getElem?_getD, hi] <;> rfl
    show Ev _ _ _ (xs.getD i .non)
    rw [g]
    exact ev_var (hj x)
  · refine q p _ H2 hp e2 h2 ?_
    have e3 : rs.filter P = ((List.range rs.length).filter fun i => P (rs.getD i [])).map fun i => rs.getD i [] := by
      conv => lhs; rw [range_get rs [], List.filter_map]
      rfl
    unfold given
    rw [e3, ht.len]
    refine paired_map _ _ _ fun i hi => ?_
    have hi := List.mem_range.mp (List.mem_filter.mp hi).1
    have hlx : i < xs.length := by rw [ht.len]; exact hi
    obtain ⟨b, r, h1, h2', h3⟩ := ht.get (List.getElem?_eq_getElem hlx)
    refine ⟨b, ?_, ?_⟩
    · rw [List.getD_eq_getElem?_getD, List.getElem?_eq_getElem hlx, h1]
      rfl
    · rw [List.getD_eq_getElem?_getD, h3]
      exact (e.trans e2) b _ h2'
theorem q_asgLT {i : Nat} {rs : List (List V)} (h : EvLT te σ H rs) (k : ∀ p vs H1, H p = none → Ex H H1 → H1 p = some (.lst vs) → TL H1 vs rs → tz D (σ.set i (some (.ref p))) H1) : tSeq (tAsg te (gName i)) tz D σ H := h H (Ex.refl H) _ fun p vs H1 hp e h1 h2 => k p vs H1 hp e h1 h2
theorem s_retLT {rs : List (List V)} (h : EvLT te σ H rs) (k : ∀ p vs H1, H p = none → Ex H H1 → H1 p = some (.lst vs) → TL H1 vs rs → D.rt (.ref p) H1) : tRet te D σ H := h H (Ex.refl H) _ k
end
end Kit
set_option Elab.async false
set_option linter.all false
set_option maxRecDepth 100000
set_option maxHeartbeats 4000000
namespace Kit
open PySem PySem.Spec PyProof.Rows L2 Evl
/-! ### a promise of a def that shows data (repr): no repr may be under way around it -/
structure FnOkG (P : Program) (w : World) (K : PySem.W.Frag) (mg : Str → Option Value) (base : Heap) (n : Nat) (f : Addr) (fd : FuncData) (names : List Str) (want : Sp) : Prop where
  many : ∀ xs H Q E, want xs H Q E → xs.length = names.length
  go : ∀ (A : Around) (frames : List Env) (st : Shared) (H : Hp) (given : Args) (us : List Value) (xs : List V) (Q : VK) (E : XK), A.guards = some [] → Room n A → Env0 P w K mg base A frames st H →
    BindsTo st fd given (names.zip us) → Vals xs us → want xs H Q E → codeAny (model P w) A (.call (.ref f) given) (CR CX0 frames P w H st Q E) st
section
variable {P : Program} {w : World} {K : PySem.W.Frag} {mg : Str → Option Value} {base : Heap}
theorem FnOkG.mono {j n : Nat} {f : Addr} {fd : FuncData} {names : List Str} {want : Sp} (F : FnOkG P w K mg base j f fd names want) (h : j ≤ n) : FnOkG P w K mg base n f fd names want :=
  ⟨F.many, fun A fr st H g us xs Q E hg r => F.go A fr st H g us xs Q E hg (r.mono h)⟩
/-- the rule for such a def -/
theorem funG {x qual : Str} {d : Stmt} {f : Addr} {fd : FuncData} {N names : List Str} {n : Nat} {want : Sp} (F : Fun K x qual d f fd) (S : FnScope N names (defScope d)) (many : ∀ xs H Q E, want xs H Q E → xs.length = names.length)
    (body : ∀ (cv : Value) (A : Around) (frames : List Env) (st : Shared) (H : Hp) (xs : List V) (Q : VK) (E : XK), A.guards = some [] → Room n (A.deeper (envOfC qual (defScope d) st.heap.objs.size f cv)) → want xs H Q E →
      ∃ t, PSs (cxOf CX0 P w K mg base N qual (defScope d) f cv A frames st H E).nox (defBody d) t ∧ t { nx := fun _ H' => Q .non H', rt := Q } (start N xs) H) : FnOkG P w K mg base (n + 1) f fd names want := by
  obtain ⟨o1, o2, v1, v2, v3, an, cv, ct, sl, rfl, look, code⟩ := F.ex
  refine ⟨many, fun A frames st H given us xs Q E hg room en bind vals hw => ?_⟩
  have size := many _ _ _ _ hw
  have inK : K.In st.heap := en.mod.kin.keeps fun b o q => (en.bs b o q).1
  have noLim : st.heap.NoLimit := en.mod.nolimit.keeps fun b o q => (en.bs b o q).1
  have kinds : ∀ y ∈ names.zip us, (defScope d).names.lookup y.1 = some .local ∨ ((defScope d).names.lookup y.1 = some .cell ∧ ((cellsFrom (st.heap.objs.size + 1) (defScope d).names []).lookup y.1).isSome = true) := by
    rintro ⟨a, b⟩ hy
    exact (S.par a (List.of_mem_zip hy).1).elim .inl fun q => .inr ⟨q, PySem.W.cellsFrom_some _ _ _ (.inl q)⟩
  refine codeAny_call_function room.depth (inK _ _ look) rfl S.co S.gen rfl (PySem.W.codeRec_of inK code) (bind _ _ _ _ (wpAny_newFunctionEnv_cells S.kind kinds fun env eq st1 made => ?_))
  cases eq
  refine ⟨noLim.keeps made.toInCall.keep, codeAny_func ?_⟩
  obtain ⟨t, rule, done⟩ := body cv A frames st H xs Q E hg (room.deeper _) hw
  have J : Inv (cxOf CX0 P w K mg base N qual (defScope d) f cv A frames st H E) [] (start N xs) H st1 := inv_start S room.hd en size vals made
  have back : ∀ {σ' : L2.St} {H' : Hp} {v : V} {u : Value} {st2 : Shared}, Inv (cxOf CX0 P w K mg base N qual (defScope d) f cv A frames st H E) [] σ' H' st2 → RelV v u → Q v H' → CE frames P w H st Q u st2 := fun J2 rv q => ⟨_, _, J2.os, J2.bare, J2.base, J2.hok, rv, q⟩
  refine wpAny_mono (rule.nox.run [] st1 (start N xs) H _ J done) (fun r st2 hs => ?_) fun _ _ hs => hs
  match r, hs with
  | .ret u, ⟨v, σ2, H2, J2, rv, q⟩ => exact back J2 rv q
  | .next, ⟨σ2, H2, J2, q⟩ => exact back (v := V.non) (u := Value.none) J2 rfl q
  | .brk, ⟨_, _, _, q⟩ => exact False.elim q
  | .cont, ⟨_, _, _, q⟩ => exact False.elim q
end
/-- such a def is called -/
theorem pe_callG {X : Cx} {n : Nat} {f : Addr} {fd : FuncData} {names : List Str} {want : Sp} {x : Str} {p pos : Pos} {e : Expr} {es : List Expr} {t : TA} (F : FnOkG X.prog X.w X.K X.mg X.base n f fd names want) (hg : X.A.guards = some []) (room : Room n X.A) (gl : Gl X x)
    (at_ : X.mg x = some (.ref f)) (keep : PySem.W.keepIn X.K (.ref f) = true) (bind : Binds X.K fd names []) (ha : PA X (e :: es) t) (nd : (x == ("__debug__" : Str)) = false := by decide)
    (one : starEach (e :: es) X.env = (false, eval e X.env) :: starEach es X.env := by rfl) (plain : (backTo pos (starEach es X.env)).any (·.1) = false := by rfl) : PE X (.Call (.Name x p) (e :: es) [] pos) (tCall want [] E0 t) := by
  refine ⟨fun pins st σ H Q J h => wpAny_Call_Name_kw (ld_glob J gl at_ ?_ nd)⟩
  refine PySem.W.callWith_K (h₀ := X.base) J.ok.mod.kin keep (thn (ha.run pos pins st σ H _ J h) fun us st1 ⟨vs, H1, J1, r, q⟩ => ⟨J1.kIn, ?_⟩) one plain
  have q : want vs H1 Q E0 := by
    have q' : want (vs ++ []) H1 Q E0 := q
    rwa [List.append_nil] at q'
  have size : us.length = names.length := r.length.symm.trans (F.many _ _ _ _ q)
  have bd := bind st1 us J1.kIn (by rw [List.append_nil]; exact size)
  rw [List.append_nil] at bd
  refine wpAny_call (codeAny_mono (F.go X.A X.stack st1 H1 ⟨us, []⟩ us vs Q E0 hg room J1.env0 bd r q) fun res st2 hq => ?_)
  match res, hq with
  | .error _, hq => exact False.elim hq
  | .ok (.ret _), hq => exact J1.after hq
  | .ok .next, hq => exact False.elim hq
  | .ok .brk, hq => exact False.elim hq
  | .ok .cont, hq => exact False.elim hq
/-- the law's promise, at the heap behind the top -/
theorem headG {P : Program} {w : World} {K : PySem.W.Frag} {mg mb : Str → Option Value} {n : Nat} {fa a : Addr} {fd : FuncData} {x : Str} {want : Sp} {st : Shared} {us : List Value} {ns : List Int}
    (inK : K.In st.heap) (glob : st.heap.Ns mainGlobals mg) (blt : st.heap.Ns builtinsNs mb) (boot : ∀ x : Str, x ≠ "__name__" → mb x = bootBuiltins x) (noLim : st.heap.NoLimit) (gens : st.gens = #[])
    (obj : st.heap.get? a = some { cls := .type "list", data := .seq us.toArray }) (allInt : IntsAre us ns) (short : ns.length ≤ sizeLine) (room : Room n callerA)
    (F : ∀ base : Heap, K.In base → base.Ns mainGlobals mg → FnOkG P w K mg base n fa fd [x] want) (bind : ∀ (s : Shared) (u : Value), BindsTo s fd ⟨[u], []⟩ [(x, u)])
    (ask : ∀ H : Hp, Only H → SqL K H a (ns.map V.int) → want [.ref a] H (fun v _ => v = .bl true) fun _ _ _ => False) :
    codeAny (model P w) callerA (.call (.ref fa) ⟨[.ref a], []⟩) (fun r s' => r = .ok (.ret (.bool true)) ∧ OldK st.heap s'.heap ∧ s'.os = st.os ∧ AllBare s'.gens) st := by
  have vals := vals_ints allInt
  have size := allInt.length
  have main : ∀ H : Hp, Only H → SqL K H a (ns.map V.int) → HOk P w H st.heap → (∀ b, H b ≠ none → b = a) → (H a ≠ none → K.lookup a = none) →
      codeAny (model P w) callerA (.call (.ref fa) ⟨[.ref a], []⟩) (fun r s' => r = .ok (.ret (.bool true)) ∧ OldK st.heap s'.heap ∧ s'.os = st.os ∧ AllBare s'.gens) st := by
    intro H only sq ok one not
    have stay : ∀ {b : Addr} {o : Obj}, st.heap.get? b = some o → H b = none → (hidT st.heap H).get? b = some o := fun q z => hidT_get q z
    have free : ∀ {b : Addr}, (b = a → False) → H b = none := fun {b} ne => by
      cases q : H b with
      | none => rfl
      | some u => exact (ne (one b (by rw [q]; exact Option.some_ne_none u))).elim
    have space : ∀ {b : Addr} {m : Str → Option Value}, st.heap.Ns b m → (hidT st.heap H).Ns b m := fun {b m} ⟨o, es, ep, q, d, r⟩ => ⟨o, es, ep, stay q (free fun z => by
      subst z
      rw [obj] at q
      cases q
      exact Data.noConfusion (show Data.seq us.toArray _ = Data.dict es ep from d)), d, r⟩
    have kin : K.In (hidT st.heap H) := fun b o q => stay (inK b o q) (by
      cases z : H b with
      | none => rfl
      | some u =>
        have ne : H b ≠ none := by rw [z]; exact Option.some_ne_none u
        have ba := one b ne
        subst ba
        rw [not ne] at q
        cases q)
    obtain ⟨mc, l1, l2⟩ := noLim
    have md : Mod K mg (hidT st.heap H) := ⟨kin, space glob, ⟨mb, space blt, boot⟩, ⟨mc, space l1, l2⟩⟩
    have en : Env0 P w K mg (hidT st.heap H) callerA [] st H := ⟨rfl, md, fun b o q => of_hidT q, Nat.le_of_eq (hidT_size _ _), trivial, fun b hb => absurd (show b ∈ ([] : List Addr) from hb) (by simp), ok, .of_eq gens⟩
    refine codeAny_mono ((F _ kin (space glob)).go callerA [] st H ⟨[.ref a], []⟩ [.ref a] [.ref a] _ _ rfl room en (bind st (.ref a)) (.cons rfl .nil) (ask H only sq)) fun r s' h => ?_
    match r, h with
    | .error _, h => exact False.elim h
    | .ok .next, h => exact False.elim h
    | .ok .brk, h => exact False.elim h
    | .ok .cont, h => exact False.elim h
    | .ok (.ret u), ⟨v, H', os, bare, un, ok', rel, q⟩ =>
      have q2 : v = .bl true := q
      cases q2
      have r2 : u = Value.bool true := rel
      cases r2
      refine ⟨rfl, OldK.of_keep fun b o e => ?_, os, bare⟩
      rcases only b with z | ⟨ob, xs, z⟩
      · exact un.keep b o e z (fun t => absurd (show b ∈ ([] : List Addr) from t) (by simp)) (by simp)
      · have z2 := un.frzs b ob _ z
        obtain ⟨g1, _⟩ := ok b _ z
        obtain ⟨g2, _⟩ := ok' b _ z2
        rw [e] at g1
        cases g1
        exact g2
  cases own : K.lookup a with
  | some o =>
    have e := inK a o own
    rw [obj] at e
    cases e
    exact main (fun _ => none) (fun _ => .inl rfl) (.inr ⟨_, us.toArray, _, own, rfl, rfl, rfl, by rw [List.size_toArray, size]; exact short, by simpa using vals⟩) (fun b u z => by have y : (none : Option HO) = some u := z; cases y) (fun b z => absurd rfl z) fun z => absurd rfl z
  | none =>
    have yes : (fun b => if b = a then some (HO.frz { cls := .type "list", data := .seq us.toArray } (.lst (ns.map V.int))) else none) a = some (HO.frz { cls := .type "list", data := .seq us.toArray } (.lst (ns.map V.int))) := if_pos rfl
    have no : ∀ b, b ≠ a → (fun b => if b = a then some (HO.frz { cls := .type "list", data := .seq us.toArray } (.lst (ns.map V.int))) else none) b = none := fun b ne => if_neg ne
    generalize (fun b => if b = a then some (HO.frz { cls := .type "list", data := .seq us.toArray } (.lst (ns.map V.int))) else none) = G at yes no
    refine main G (fun b => ?_) (.inl (.inr ⟨_, yes⟩)) (fun b u z => ?_) (fun b z => ?_) fun _ => own
    · by_cases hb : b = a
      · subst hb
        exact .inr ⟨_, _, yes⟩
      · exact .inl (no b hb)
    · by_cases hb : b = a
      · subst hb
        rw [yes] at z
        cases z
        exact ⟨obj, by rw [List.length_map]; exact short, us, _, vals, obj⟩
      · rw [no b hb] at z
        cases z
    · by_cases hb : b = a
      · exact hb
      · exact absurd (no b hb) z
theorem walk_G {l : PySem.W.OpenLaw} {m n : Nat} {q : Program} {loose : List Str} {XP : (Str → Option Value) → Heap → Prop} {YP : World → Heap → Prop} {d : DefRec} {K : Params → PySem.W.Frag} {want : World → Sp} {x : Str}
    (most : l.most = some m) (most2 : m ≤ sizeLine) (noDef : d.params.defaults = []) (room : Room n callerA) (inK : ∀ (w : World) (h : Heap), YP w h → (K w.params).In h)
    (F : ∀ (w : World) (mg : Str → Option Value) (fa : Addr) (h : Heap), (K w.params).In h → h.Ns mainGlobals mg → mg d.name = some (.ref fa) →
      ∃ fd : FuncData, (∀ (s : Shared) (u : Value), BindsTo s fd ⟨[u], []⟩ [(x, u)]) ∧ ∀ base : Heap, (K w.params).In base → base.Ns mainGlobals mg → FnOkG l.prog w (K w.params) mg base n fa fd [x] (want w))
    (ask : ∀ (w : World) (H : Hp) (a : Addr) (ns : List Int), ns.length ≤ m → Only H → SqL (K w.params) H a (ns.map V.int) → want w [.ref a] H (fun v _ => v = .bl true) fun _ _ _ => False) :
    PySem.W.WalkO q loose XP YP l.row.toRowW d [] (fun f vs => PySem.call f vs) :=
  Att.attach_call most noDef fun w s₀ st mg mb fa o pm cd doc a us ns G Y ho hd hcd named obj allInt short gens => by
    have kin := inK w _ Y
    obtain ⟨fd, bind, FF⟩ := F w mg fa _ kin G.T.g named
    exact headG kin G.T.g G.T.b G.T.builtins G.T.nolimit gens obj allInt (Nat.le_trans short most2) room FF bind fun H only sq => ask w H a ns short only sq
/-! ### repr of data -/
def rRepr (K : PySem.W.Frag) : List V → Hp → VK → Prop := fun xs H Q => ∃ p d, xs = [.ref p] ∧ Dp K H (.ref p) d ∧ d.showable = true ∧ d.hasDict = false ∧ d.depth ≤ 50 ∧ d.shown.length ≤ sizeLine ∧ Q (.str d.shown) H
theorem call_reprD {X : Cx} (hg : X.A.guards = some []) (hu : X.A.units + 64 < cLine) : CallR X (.builtin "repr") (rRepr X.K) := by
  intro pins st σ H xs us Q J r h
  obtain ⟨p, d, rfl, dp, hs, hd, hdp, hz, q⟩ := h
  obtain ⟨u, rfl, hu2⟩ : ∃ u, us = [u] ∧ RelV (.ref p) u := by
    cases r with
    | cons a b =>
      cases b
      exact ⟨_, rfl, a⟩
  have e : u = Value.ref p := hu2
  subst e
  obtain ⟨as, rd⟩ := Dp.reads J d _ _ dp hu2
  refine repr_of_reads' rd hs (fun z => by rw [hd] at z; cases z) hg (by omega) (fun _ _ e => e) (fun h' u tk keep => ?_) hz
  exact ⟨.str d.shown, H, J.turnedL (ch := []) (fun b o _ e => keep b o e) (fun b hb => absurd hb (by simp)), ⟨_, rfl⟩, q⟩
section
variable {K : PySem.W.Frag} {σ : L2.St} {H : Hp} {te : TE}
theorem ev_repr {d : PyData} (h : EvD K te σ H d) (hl : isDisplay d = true) (hs : d.showable = true) (hd : d.hasDict = false) (hdp : d.depth ≤ 50) (hz : d.shown.length ≤ sizeLine) : Ev (tCB (rRepr K) (tCons te tNil)) σ H (.str d.shown) := fun H1 e Q q =>
  h H1 e _ fun v H2 e2 dv => by
    have hp : ∃ p, v = .ref p := by
      cases dv with
      | lst _ _ => exact ⟨_, rfl⟩
      | tup _ _ => exact ⟨_, rfl⟩
      | non => cases hl
      | bl _ => cases hl
      | int _ => cases hl
      | str _ => cases hl
    obtain ⟨p, rfl⟩ := hp
    exact ⟨p, d, rfl, dv, hs, hd, hdp, hz, q H2 e2⟩
end
end Kit
set_option Elab.async false
set_option linter.all false
set_option maxRecDepth 100000
set_option maxHeartbeats 4000000
namespace Kit
open PySem PySem.Spec PyProof.Rows L2 Evl
/-! ### data that repr shows, with long ints: at most n signs -/
structure ShN (d : PyData) (n : Nat) : Prop where
  shw : d.showable = true
  nod : d.hasDict = false
  len : d.shown.length ≤ n
  dep : d.depth ≤ 20
theorem shn_int {i : Int} (h : i.natAbs.log2 < 1920) : ShN (.int i) 1921 := ⟨decide_eq_true h, rfl, int_text_len_1921 h, Nat.zero_le _⟩
theorem shn_int2 {i : Int} (h : i.natAbs < 2 ^ 1900) : ShN (.int i) 1921 := shn_int (by
  by_cases z : i.natAbs = 0
  · rw [z]
    decide
  · exact Nat.lt_of_lt_of_le ((Nat.log2_lt z).mpr h) (by decide))
theorem shn_all {n : Nat} : ∀ {ds : List PyData}, (∀ d ∈ ds, ShN d n ∧ d.depth ≤ 19) → PyData.showableAll ds = true ∧ PyData.hasDictAll ds = false ∧ ((PyData.shownAll ds).map (·.length)).sum ≤ n * ds.length ∧ (PyData.shownAll ds).length = ds.length ∧ PyData.depthAll ds ≤ 19
  | [], _ => ⟨rfl, rfl, Nat.zero_le _, rfl, Nat.zero_le _⟩
  | d :: r, h => by
    obtain ⟨a, b, c, e, f⟩ := shn_all fun x hx => h x (List.mem_cons_of_mem _ hx)
    obtain ⟨⟨p, q, s, _⟩, t⟩ := h d List.mem_cons_self
    refine ⟨by simp [PyData.showableAll, a, p], by simp [PyData.hasDictAll, b, q], ?_, by simp [PyData.shownAll, e], by simp only [PyData.depthAll]; omega⟩
    simp only [PyData.shownAll, List.map_cons, List.sum_cons, List.length_cons, Nat.mul_succ]
    omega
theorem shn_list {ds : List PyData} {n : Nat} (h : ∀ d ∈ ds, ShN d n ∧ d.depth ≤ 19) : ShN (.list ds) ((n + 2) * ds.length + 3) := by
  obtain ⟨a, b, c, e, f⟩ := shn_all h
  refine ⟨by simpa [PyData.showable] using a, by simpa [PyData.hasDict] using b, ?_, by simp only [PyData.depth]; omega⟩
  have := listText_len_le (PyData.shownAll ds)
  show (listText (PyData.shownAll ds)).length ≤ _
  rw [e] at this
  rw [Nat.add_mul]
  omega
theorem shn_tup {ds : List PyData} {n : Nat} (h : ∀ d ∈ ds, ShN d n ∧ d.depth ≤ 19) : ShN (.tuple ds) ((n + 2) * ds.length + 3) := by
  obtain ⟨a, b, c, e, f⟩ := shn_all h
  refine ⟨by simpa [PyData.showable] using a, by simpa [PyData.hasDict] using b, ?_, by simp only [PyData.depth]; omega⟩
  have := tupleText_len_le (PyData.shownAll ds)
  show (tupleText (PyData.shownAll ds)).length ≤ _
  rw [e] at this
  rw [Nat.add_mul]
  omega
section
variable {K : PySem.W.Frag} {σ : L2.St} {H : Hp} {te : TE}
theorem ev_reprN {d : PyData} {n : Nat} (h : EvD K te σ H d) (hl : isDisplay d = true) (s : ShN d n) (hn : n ≤ 1000000) : Ev (tCB (rRepr K) (tCons te tNil)) σ H (.str d.shown) :=
  ev_repr h hl s.shw s.nod (by have := s.dep; omega) (Nat.le_trans s.len (Nat.le_trans hn (by rw [sizeLine_eq]; decide)))
end
end Kit
set_option Elab.async false
set_option linter.all false
set_option maxRecDepth 100000
set_option maxHeartbeats 4000000
namespace Kit
open PySem PySem.Spec PyProof.Rows L2 Evl
section
variable {K : PySem.W.Frag} {σ : L2.St} {H : Hp} {ta tb te : TE} {t : TT}
/-- max(xs), told by what it is -/
theorem ev_maxV {a : Addr} {ns : List Int} {m : Int} (h : Ev ta σ H (.ref a)) (ha : SqL K H a (ns.map V.int)) (hm : m ∈ ns) (hl : ∀ y ∈ ns, y ≤ m) : Ev (tCB (rMax K) (tCons ta tNil)) σ H (.int m) := fun H1 e Q q =>
  h H1 e _ fun H2 e2 => ⟨a, ns, rfl, ex_l (e.trans e2) ha, List.length_pos_of_mem hm, fun m' hm' hl' => by
    have h1 := hl m' hm'
    have h2 := hl' m hm
    have : m' = m := by omega
    rw [this]
    exact q H2 e2⟩
/-- [e for i, x in enumerate(xs) if t] -/
theorem el_en {ta : TA} {i j : Nat} {vs : List Nat} {a : Addr} {xs : List V} (f : Nat → Bool) (v : Nat → V) (h : EvA ta σ H [.ref a]) (hx : SqL K H a xs) (hz : xs.length ≤ 40000) (hw : ∀ x y, wipe (((wipe σ vs).set i (some x)).set j (some y)) vs = wipe σ vs)
    (ht : ∀ (n : Nat) x H1, Ex H H1 → xs[n]? = some x → EvT t (((wipe σ vs).set i (some (.int (n : Int)))).set j (some x)) H1 (f n))
    (he : ∀ (n : Nat) x H1, Ex H H1 → xs[n]? = some x → f n = true → Ev te (((wipe σ vs).set i (some (.int (n : Int)))).set j (some x)) H1 (v n)) :
    EvL (tLc (iEnum K ta) (gTup K 2 (gCons (gName i) (gCons (gName j) gNil))) t te vs) σ H (given xs.length f v) := fun H0 e Q q => h H0 e _ fun H1 e1 => ⟨a, xs, rfl, ex_l (e.trans e1) hx, fun Dl hD => by
  refine lc_it walk_enum (Cw H1 f v Dl) ⟨hD, Ex.new hD, upd_same⟩ (fun n H' _ p => ex_l ((e.trans e1).trans p.2.1) hx) ?_ fun H' p => q Dl H' (fresh_back e1 p.1) (e1.trans p.2.1) p.2.2
  rintro n w Hh H' hn p ⟨T, x, y, rfl, nT, rfl, g1, g2⟩
  have ex : V.int (n : Nat) = x := Option.some.inj g1
  subst ex
  have eT : Ex Hh (upd Hh T (.tup [.int (n : Nat), y])) := Ex.new nT
  refine ⟨T, [.int (n : Nat), y], rfl, st_of upd_same, rfl, _, [y], rfl, y, [], rfl, rfl, hw _ y, ?_⟩
  exact cw_turn (H := H1) ⟨p.1, p.2.1.trans eT, eT Dl _ p.2.2⟩ (by omega) (ht n y H1 (e.trans e1) g2) fun hf => he n y H1 (e.trans e1) g2 hf⟩
/-- [e for x, y in zip(xs, ys)], both new lists -/
theorem el_zipN {i j : Nat} {vs : List Nat} {xs ys : List V} (F : V → V → V) (h : EvL ta σ H xs) (h2 : EvL tb σ H ys) (hl : xs.length = ys.length) (hz : xs.length ≤ 40000) (hw : ∀ x y, wipe (((wipe σ vs).set i (some x)).set j (some y)) vs = wipe σ vs)
    (he : ∀ (n : Nat) x y H1, Ex H H1 → xs[n]? = some x → ys[n]? = some y → Ev te (((wipe σ vs).set i (some x)).set j (some y)) H1 (F x y)) :
    EvL (tLc (iZip K (tCons ta (tCons tb tNil))) (gTup K 2 (gCons (gName i) (gCons (gName j) gNil))) tYes te vs) σ H (List.zipWith F xs ys) := fun H0 e Q q =>
  h H0 e _ fun a H1 na e1 ha => h2 H1 (e.trans e1) _ fun b H2 nb e2 hb => by
    have := el_zip (K := K) (H := H2) (ta := fun _ H' R => R [.ref a, .ref b] H') (te := te) (vs := vs) F (fun H3 _ Q q => q H3 (Ex.refl _)) (sq_of (e2 a _ ha)) (sq_of hb) hl hz hw fun n x y H3 e3 g1 g2 => he n x y H3 (e.trans (e1.trans (e2.trans e3))) g1 g2
    exact this H2 (Ex.refl _) Q fun p H3 hp e3 h3 => q p H3 (fresh_back (e1.trans e2) hp) (e1.trans (e2.trans e3)) h3
/-- xs + y, y an old list; x + ys, x an old list -/
theorem el_catR {a : Addr} {xs ys : List V} (h : EvL ta σ H xs) (h2 : Ev tb σ H (.ref a)) (ha : H a = some (.lst ys)) (hz : xs.length + ys.length ≤ 1000) : EvL (tOp rCat ta tb) σ H (xs ++ ys) := fun H1 e Q q =>
  h H1 e _ fun p H2 _ e2 h3 => h2 H2 (e.trans e2) _ fun H3 e3 => ⟨p, a, xs, ys, rfl, rfl, e3 p _ h3, e3 a _ (e2 a _ (e a _ ha)), sz_of (by omega), fun l hl => q l _ (fresh_back (e2.trans e3) hl) ((e2.trans e3).trans (Ex.new hl)) upd_same⟩
theorem el_catL {a : Addr} {xs ys : List V} (h : Ev ta σ H (.ref a)) (ha : H a = some (.lst xs)) (h2 : EvL tb σ H ys) (hz : xs.length + ys.length ≤ 1000) : EvL (tOp rCat ta tb) σ H (xs ++ ys) := fun H1 e Q q =>
  h H1 e _ fun H2 e2 => h2 H2 (e.trans e2) _ fun p H3 _ e3 h3 => ⟨a, p, xs, ys, rfl, rfl, e3 a _ (e2 a _ (e a _ ha)), h3, sz_of (by omega), fun l hl => q l _ (fresh_back (e2.trans e3) hl) ((e2.trans e3).trans (Ex.new hl)) upd_same⟩
end
end Kit
namespace K08
open PySem PySem.Spec PyProof.Rows L2 Evl Kit
def topS (i : Nat) : Stmt := PySem.Challenge.pw_newtables_k08_weights_of_few_guests.main.body.getD i (.Pass ⟨0, 0, 0, 0⟩)
abbrev s_is_whole : Stmt := topS 10
abbrev n_is_whole : List Str := ["thing"]
theorem sc_is_whole : FnScope n_is_whole ["thing"] (defScope s_is_whole) := ⟨rfl, rfl, rfl, by decide +kernel, rfl, by decide +kernel, by decide +kernel⟩
abbrev s_is_within : Stmt := topS 11
abbrev n_is_within : List Str := ["thing", "least", "most"]
theorem sc_is_within : FnScope n_is_within ["thing", "least", "most"] (defScope s_is_within) := ⟨rfl, rfl, rfl, by decide +kernel, rfl, by decide +kernel, by decide +kernel⟩
abbrev s_is_order : Stmt := topS 12
abbrev n_is_order : List Str := ["thing", "item"]
theorem sc_is_order : FnScope n_is_order ["thing"] (defScope s_is_order) := ⟨rfl, rfl, rfl, by decide +kernel, rfl, by decide +kernel, by decide +kernel⟩
abbrev s_check_guests : Stmt := topS 13
abbrev n_check_guests : List Str := ["guests"]
theorem sc_check_guests : FnScope n_check_guests ["guests"] (defScope s_check_guests) := ⟨rfl, rfl, rfl, by decide +kernel, rfl, by decide +kernel, by decide +kernel⟩
abbrev s_check_weight : Stmt := topS 14
abbrev n_check_weight : List Str := ["weight"]
theorem sc_check_weight : FnScope n_check_weight ["weight"] (defScope s_check_weight) := ⟨rfl, rfl, rfl, by decide +kernel, rfl, by decide +kernel, by decide +kernel⟩
abbrev s_check_number : Stmt := topS 15
abbrev n_check_number : List Str := ["number", "least", "most"]
theorem sc_check_number : FnScope n_check_number ["number", "least", "most"] (defScope s_check_number) := ⟨rfl, rfl, rfl, by decide +kernel, rfl, by decide +kernel, by decide +kernel⟩
abbrev s_raised : Stmt := topS 16
abbrev n_raised : List Str := ["base", "times", "total", "_"]
theorem sc_raised : FnScope n_raised ["base", "times"] (defScope s_raised) := ⟨rfl, rfl, rfl, by decide +kernel, rfl, by decide +kernel, by decide +kernel⟩
abbrev s_rising : Stmt := topS 17
abbrev n_rising : List Str := ["weight", "guests", "total", "guest"]
theorem sc_rising : FnScope n_rising ["weight", "guests"] (defScope s_rising) := ⟨rfl, rfl, rfl, by decide +kernel, rfl, by decide +kernel, by decide +kernel⟩
abbrev s_sums_by_tables : Stmt := topS 18
abbrev n_sums_by_tables : List Str := ["factors", "sums", "steep", "even", "part", "less", "more", "one", "other"]
theorem sc_sums_by_tables : FnScope n_sums_by_tables ["factors"] (defScope s_sums_by_tables) := ⟨rfl, rfl, rfl, by decide +kernel, rfl, by decide +kernel, by decide +kernel⟩
abbrev s_fraction : Stmt := topS 19
abbrev n_fraction : List Str := ["top", "bottom", "common"]
theorem sc_fraction : FnScope n_fraction ["top", "bottom"] (defScope s_fraction) := ⟨rfl, rfl, rfl, by decide +kernel, rfl, by decide +kernel, by decide +kernel⟩
abbrev s_is_seating : Stmt := topS 21
abbrev n_is_seating : List Str := ["thing"]
theorem sc_is_seating : FnScope n_is_seating ["thing"] (defScope s_is_seating) := ⟨rfl, rfl, rfl, by decide +kernel, rfl, by decide +kernel, by decide +kernel⟩
abbrev s_tables_of : Stmt := topS 22
abbrev n_tables_of : List Str := ["seating"]
theorem sc_tables_of : FnScope n_tables_of ["seating"] (defScope s_tables_of) := ⟨rfl, rfl, rfl, by decide +kernel, rfl, by decide +kernel, by decide +kernel⟩
abbrev s_check_seating : Stmt := topS 23
abbrev n_check_seating : List Str := ["seating"]
theorem sc_check_seating : FnScope n_check_seating ["seating"] (defScope s_check_seating) := ⟨rfl, rfl, rfl, by decide +kernel, rfl, by decide +kernel, by decide +kernel⟩
abbrev s_walk_left : Stmt := topS 24
abbrev n_walk_left : List Str := ["lefts", "guest", "walk"]
theorem sc_walk_left : FnScope n_walk_left ["lefts", "guest"] (defScope s_walk_left) := ⟨rfl, rfl, rfl, by decide +kernel, rfl, by decide +kernel, by decide +kernel⟩
abbrev s_tables_among : Stmt := topS 25
abbrev n_tables_among : List Str := ["lefts", "guests", "guest", "walks", "walk"]
theorem sc_tables_among : FnScope n_tables_among ["lefts", "guests"] (defScope s_tables_among) := ⟨rfl, rfl, rfl, by decide +kernel, rfl, by decide +kernel, by decide +kernel⟩
abbrev s_total_weight : Stmt := topS 27
abbrev n_total_weight : List Str := ["guests", "weight"]
theorem sc_total_weight : FnScope n_total_weight ["guests", "weight"] (defScope s_total_weight) := ⟨rfl, rfl, rfl, by decide +kernel, rfl, by decide +kernel, by decide +kernel⟩
abbrev s_seating_share : Stmt := topS 28
abbrev n_seating_share : List Str := ["seating", "weight", "tables"]
theorem sc_seating_share : FnScope n_seating_share ["seating", "weight"] (defScope s_seating_share) := ⟨rfl, rfl, rfl, by decide +kernel, rfl, by decide +kernel, by decide +kernel⟩
abbrev s_tables_share : Stmt := topS 29
abbrev n_tables_share : List Str := ["guests", "weight", "number"]
theorem sc_tables_share : FnScope n_tables_share ["guests", "weight", "number"] (defScope s_tables_share) := ⟨rfl, rfl, rfl, by decide +kernel, rfl, by decide +kernel, by decide +kernel⟩
abbrev s_mean_tables : Stmt := topS 30
abbrev n_mean_tables : List Str := ["guests", "weight", "top", "bottom", "guest"]
theorem sc_mean_tables : FnScope n_mean_tables ["guests", "weight"] (defScope s_mean_tables) := ⟨rfl, rfl, rfl, by decide +kernel, rfl, by decide +kernel, by decide +kernel⟩
abbrev s_likeliest_tables : Stmt := topS 31
abbrev n_likeliest_tables : List Str := ["guests", "weight", "sums", "greatest", "number", "part"]
theorem sc_likeliest_tables : FnScope n_likeliest_tables ["guests", "weight"] (defScope s_likeliest_tables) := ⟨rfl, rfl, rfl, by decide +kernel, rfl, by decide +kernel, by decide +kernel⟩
abbrev s_weights_by_tables : Stmt := topS 32
abbrev n_weights_by_tables : List Str := ["guests", "weight", "guest"]
theorem sc_weights_by_tables : FnScope n_weights_by_tables ["guests", "weight"] (defScope s_weights_by_tables) := ⟨rfl, rfl, rfl, by decide +kernel, rfl, by decide +kernel, by decide +kernel⟩
abbrev s_law_pouch : Stmt := topS 34
abbrev n_law_pouch : List Str := ["script", "at", "cell"]
theorem sc_law_pouch : FnScope n_law_pouch ["script", "at"] (defScope s_law_pouch) := ⟨rfl, rfl, rfl, by decide +kernel, rfl, by decide +kernel, by decide +kernel⟩
abbrev s_law_dip : Stmt := topS 35
abbrev n_law_dip : List Str := ["pouch", "wide", "taken", "mixed"]
theorem sc_law_dip : FnScope n_law_dip ["pouch", "wide"] (defScope s_law_dip) := ⟨rfl, rfl, rfl, by decide +kernel, rfl, by decide +kernel, by decide +kernel⟩
abbrev s_law_every : Stmt := topS 36
abbrev n_law_every : List Str := ["many", "found", "turn", "longer", "row", "one"]
theorem sc_law_every : FnScope n_law_every ["many"] (defScope s_law_every) := ⟨rfl, rfl, rfl, by decide +kernel, rfl, by decide +kernel, by decide +kernel⟩
abbrev s_law_tables : Stmt := topS 37
abbrev n_law_tables : List Str := ["hall", "found", "done", "one", "ring", "here"]
theorem sc_law_tables : FnScope n_law_tables ["hall"] (defScope s_law_tables) := ⟨rfl, rfl, rfl, by decide +kernel, rfl, by decide +kernel, by decide +kernel⟩
abbrev s_law_lowest : Stmt := topS 38
abbrev n_law_lowest : List Str := ["top", "bottom", "one", "other"]
theorem sc_law_lowest : FnScope n_law_lowest ["top", "bottom"] (defScope s_law_lowest) := ⟨rfl, rfl, rfl, by decide +kernel, rfl, by decide +kernel, by decide +kernel⟩
abbrev s_law_weigh : Stmt := topS 39
abbrev n_law_weigh : List Str := ["heavy", "many", "found", "turn"]
theorem sc_law_weigh : FnScope n_law_weigh ["heavy", "many"] (defScope s_law_weigh) := ⟨rfl, rfl, rfl, by decide +kernel, rfl, by decide +kernel, by decide +kernel⟩
abbrev s_law_heavy : Stmt := topS 40
abbrev n_law_heavy : List Str := ["pouch"]
theorem sc_law_heavy : FnScope n_law_heavy ["pouch"] (defScope s_law_heavy) := ⟨rfl, rfl, rfl, by decide +kernel, rfl, by decide +kernel, by decide +kernel⟩
abbrev s_law_right : Stmt := topS 41
abbrev n_law_right : List Str := ["pouch", "many", "heavy", "rows", "row", "widths", "sums", "width", "whole", "one", "due", "mean", "best", "told", "spot", "hall", "share"]
theorem sc_law_right : FnScope n_law_right ["pouch", "many", "heavy"] (defScope s_law_right) := ⟨rfl, rfl, rfl, by decide +kernel, rfl, by decide +kernel, by decide +kernel⟩
abbrev s_law : Stmt := topS 42
abbrev n_law : List Str := ["script", "at", "pouch", "many", "told"]
theorem sc_law : FnScope n_law ["script"] (defScope s_law) := ⟨rfl, rfl, rfl, by decide +kernel, rfl, by decide +kernel, by decide +kernel⟩
def g_K08_kb_tables_share_0_number_weight_guests : List Value → List Value → List Value := fun us ws => match us, ws with
  | [], [b0, b1, b2] => [b2, b1, b0]
  | _, _ => []
def v_K08_kb_tables_share_0_number_weight_guests : List V → List V → List V := fun us ws => match us, ws with
  | [], [b0, b1, b2] => [b2, b1, b0]
  | _, _ => []
def g_K08_kb_seating_share_0_weight_seating : List Value → List Value → List Value := fun us ws => match us, ws with
  | [], [b0, b1] => [b1, b0]
  | _, _ => []
def v_K08_kb_seating_share_0_weight_seating : List V → List V → List V := fun us ws => match us, ws with
  | [], [b0, b1] => [b1, b0]
  | _, _ => []
def g_K08_kb_likeliest_tables_0_weight_guests : List Value → List Value → List Value := fun us ws => match us, ws with
  | [], [b0, b1] => [b1, b0]
  | _, _ => []
def v_K08_kb_likeliest_tables_0_weight_guests : List V → List V → List V := fun us ws => match us, ws with
  | [], [b0, b1] => [b1, b0]
  | _, _ => []
def g_K08_kb_mean_tables_0_weight_guests : List Value → List Value → List Value := fun us ws => match us, ws with
  | [], [b0, b1] => [b1, b0]
  | _, _ => []
def v_K08_kb_mean_tables_0_weight_guests : List V → List V → List V := fun us ws => match us, ws with
  | [], [b0, b1] => [b1, b0]
  | _, _ => []
def g_K08_kb_total_weight_0_weight_guests : List Value → List Value → List Value := fun us ws => match us, ws with
  | [], [b0, b1] => [b1, b0]
  | _, _ => []
def v_K08_kb_total_weight_0_weight_guests : List V → List V → List V := fun us ws => match us, ws with
  | [], [b0, b1] => [b1, b0]
  | _, _ => []
/-! what the top has written -/
structure Tx (K : PySem.W.Frag) (mg : Str → Option Value) where
  f_is_whole : Addr
  d_is_whole : FuncData
  F_is_whole : Fun K "is_whole" "is_whole" s_is_whole f_is_whole d_is_whole
  g_is_whole : mg "is_whole" = some (.ref f_is_whole)
  b_is_whole : Binds K d_is_whole ["thing"] []
  f_is_within : Addr
  d_is_within : FuncData
  F_is_within : Fun K "is_within" "is_within" s_is_within f_is_within d_is_within
  g_is_within : mg "is_within" = some (.ref f_is_within)
  b_is_within : Binds K d_is_within ["thing", "least", "most"] []
  f_is_order : Addr
  d_is_order : FuncData
  F_is_order : Fun K "is_order" "is_order" s_is_order f_is_order d_is_order
  g_is_order : mg "is_order" = some (.ref f_is_order)
  b_is_order : Binds K d_is_order ["thing"] []
  f_check_guests : Addr
  d_check_guests : FuncData
  F_check_guests : Fun K "check_guests" "check_guests" s_check_guests f_check_guests d_check_guests
  g_check_guests : mg "check_guests" = some (.ref f_check_guests)
  b_check_guests : Binds K d_check_guests ["guests"] []
  f_check_weight : Addr
  d_check_weight : FuncData
  F_check_weight : Fun K "check_weight" "check_weight" s_check_weight f_check_weight d_check_weight
  g_check_weight : mg "check_weight" = some (.ref f_check_weight)
  b_check_weight : Binds K d_check_weight ["weight"] []
  f_check_number : Addr
  d_check_number : FuncData
  F_check_number : Fun K "check_number" "check_number" s_check_number f_check_number d_check_number
  g_check_number : mg "check_number" = some (.ref f_check_number)
  b_check_number : Binds K d_check_number ["number", "least", "most"] []
  f_raised : Addr
  d_raised : FuncData
  F_raised : Fun K "raised" "raised" s_raised f_raised d_raised
  g_raised : mg "raised" = some (.ref f_raised)
  b_raised : Binds K d_raised ["base", "times"] []
  f_rising : Addr
  d_rising : FuncData
  F_rising : Fun K "rising" "rising" s_rising f_rising d_rising
  g_rising : mg "rising" = some (.ref f_rising)
  b_rising : Binds K d_rising ["weight", "guests"] []
  f_sums_by_tables : Addr
  d_sums_by_tables : FuncData
  F_sums_by_tables : Fun K "sums_by_tables" "sums_by_tables" s_sums_by_tables f_sums_by_tables d_sums_by_tables
  g_sums_by_tables : mg "sums_by_tables" = some (.ref f_sums_by_tables)
  b_sums_by_tables : Binds K d_sums_by_tables ["factors"] []
  f_fraction : Addr
  d_fraction : FuncData
  F_fraction : Fun K "fraction" "fraction" s_fraction f_fraction d_fraction
  g_fraction : mg "fraction" = some (.ref f_fraction)
  b_fraction : Binds K d_fraction ["top", "bottom"] []
  f_is_seating : Addr
  d_is_seating : FuncData
  F_is_seating : Fun K "is_seating" "is_seating" s_is_seating f_is_seating d_is_seating
  g_is_seating : mg "is_seating" = some (.ref f_is_seating)
  b_is_seating : Binds K d_is_seating ["thing"] []
  f_tables_of : Addr
  d_tables_of : FuncData
  F_tables_of : Fun K "tables_of" "tables_of" s_tables_of f_tables_of d_tables_of
  g_tables_of : mg "tables_of" = some (.ref f_tables_of)
  b_tables_of : Binds K d_tables_of ["seating"] []
  f_check_seating : Addr
  d_check_seating : FuncData
  F_check_seating : Fun K "check_seating" "check_seating" s_check_seating f_check_seating d_check_seating
  g_check_seating : mg "check_seating" = some (.ref f_check_seating)
  b_check_seating : Binds K d_check_seating ["seating"] []
  f_walk_left : Addr
  d_walk_left : FuncData
  F_walk_left : Fun K "walk_left" "walk_left" s_walk_left f_walk_left d_walk_left
  g_walk_left : mg "walk_left" = some (.ref f_walk_left)
  b_walk_left : Binds K d_walk_left ["lefts", "guest"] []
  f_tables_among : Addr
  d_tables_among : FuncData
  F_tables_among : Fun K "tables_among" "tables_among" s_tables_among f_tables_among d_tables_among
  g_tables_among : mg "tables_among" = some (.ref f_tables_among)
  b_tables_among : Binds K d_tables_among ["lefts", "guests"] []
  f_total_weight : Addr
  d_total_weight : FuncData
  F_total_weight : Fun K "total_weight" "total_weight" s_total_weight f_total_weight d_total_weight
  g_total_weight : mg "total_weight" = some (.ref f_total_weight)
  b_total_weight : Binds K d_total_weight ["guests", "weight"] []
  f_seating_share : Addr
  d_seating_share : FuncData
  F_seating_share : Fun K "seating_share" "seating_share" s_seating_share f_seating_share d_seating_share
  g_seating_share : mg "seating_share" = some (.ref f_seating_share)
  b_seating_share : Binds K d_seating_share ["seating", "weight"] []
  f_tables_share : Addr
  d_tables_share : FuncData
  F_tables_share : Fun K "tables_share" "tables_share" s_tables_share f_tables_share d_tables_share
  g_tables_share : mg "tables_share" = some (.ref f_tables_share)
  b_tables_share : Binds K d_tables_share ["guests", "weight", "number"] []
  f_mean_tables : Addr
  d_mean_tables : FuncData
  F_mean_tables : Fun K "mean_tables" "mean_tables" s_mean_tables f_mean_tables d_mean_tables
  g_mean_tables : mg "mean_tables" = some (.ref f_mean_tables)
  b_mean_tables : Binds K d_mean_tables ["guests", "weight"] []
  f_likeliest_tables : Addr
  d_likeliest_tables : FuncData
  F_likeliest_tables : Fun K "likeliest_tables" "likeliest_tables" s_likeliest_tables f_likeliest_tables d_likeliest_tables
  g_likeliest_tables : mg "likeliest_tables" = some (.ref f_likeliest_tables)
  b_likeliest_tables : Binds K d_likeliest_tables ["guests", "weight"] []
  f_weights_by_tables : Addr
  d_weights_by_tables : FuncData
  F_weights_by_tables : Fun K "weights_by_tables" "weights_by_tables" s_weights_by_tables f_weights_by_tables d_weights_by_tables
  g_weights_by_tables : mg "weights_by_tables" = some (.ref f_weights_by_tables)
  b_weights_by_tables : Binds K d_weights_by_tables ["guests", "weight"] []
  f_law_pouch : Addr
  d_law_pouch : FuncData
  F_law_pouch : Fun K "_law_pouch" "_law_pouch" s_law_pouch f_law_pouch d_law_pouch
  g_law_pouch : mg "_law_pouch" = some (.ref f_law_pouch)
  b_law_pouch : Binds K d_law_pouch ["script", "at"] []
  f_law_dip : Addr
  d_law_dip : FuncData
  F_law_dip : Fun K "_law_dip" "_law_dip" s_law_dip f_law_dip d_law_dip
  g_law_dip : mg "_law_dip" = some (.ref f_law_dip)
  b_law_dip : Binds K d_law_dip ["pouch", "wide"] []
  f_law_every : Addr
  d_law_every : FuncData
  F_law_every : Fun K "_law_every" "_law_every" s_law_every f_law_every d_law_every
  g_law_every : mg "_law_every" = some (.ref f_law_every)
  b_law_every : Binds K d_law_every ["many"] []
  f_law_tables : Addr
  d_law_tables : FuncData
  F_law_tables : Fun K "_law_tables" "_law_tables" s_law_tables f_law_tables d_law_tables
  g_law_tables : mg "_law_tables" = some (.ref f_law_tables)
  b_law_tables : Binds K d_law_tables ["hall"] []
  f_law_lowest : Addr
  d_law_lowest : FuncData
  F_law_lowest : Fun K "_law_lowest" "_law_lowest" s_law_lowest f_law_lowest d_law_lowest
  g_law_lowest : mg "_law_lowest" = some (.ref f_law_lowest)
  b_law_lowest : Binds K d_law_lowest ["top", "bottom"] []
  f_law_weigh : Addr
  d_law_weigh : FuncData
  F_law_weigh : Fun K "_law_weigh" "_law_weigh" s_law_weigh f_law_weigh d_law_weigh
  g_law_weigh : mg "_law_weigh" = some (.ref f_law_weigh)
  b_law_weigh : Binds K d_law_weigh ["heavy", "many"] []
  f_law_heavy : Addr
  d_law_heavy : FuncData
  F_law_heavy : Fun K "_law_heavy" "_law_heavy" s_law_heavy f_law_heavy d_law_heavy
  g_law_heavy : mg "_law_heavy" = some (.ref f_law_heavy)
  b_law_heavy : Binds K d_law_heavy ["pouch"] []
  f_law_right : Addr
  d_law_right : FuncData
  F_law_right : Fun K "_law_right" "_law_right" s_law_right f_law_right d_law_right
  g_law_right : mg "_law_right" = some (.ref f_law_right)
  b_law_right : Binds K d_law_right ["pouch", "many", "heavy"] []
  f_law : Addr
  d_law : FuncData
  F_law : Fun K "law" "law" s_law f_law d_law
  g_law : mg "law" = some (.ref f_law)
  b_law : Binds K d_law ["script"] []
  m_abs : mg "abs" = none
  m_all : mg "all" = none
  m_enumerate : mg "enumerate" = none
  m_int : mg "int" = none
  m_len : mg "len" = none
  m_list : mg "list" = none
  m_max : mg "max" = none
  m_min : mg "min" = none
  m_range : mg "range" = none
  m_repr : mg "repr" = none
  m_sorted : mg "sorted" = none
  m_sum : mg "sum" = none
  m_tuple : mg "tuple" = none
  m_type : mg "type" = none
  m_zip : mg "zip" = none
  c_MOST_GUESTS : ∃ u, mg "MOST_GUESTS" = some u ∧ RelV (.int 20) u
  c_MOST_WEIGHT : ∃ u, mg "MOST_WEIGHT" = some u ∧ RelV (.int 1000000000000) u
  i_gcd : mg "gcd" = some (.builtin "math.gcd")
  kb_tables_share_0_number_weight_guests : KBinds K d_tables_share ["guests", "weight", "number"] ["number", "weight", "guests"] g_K08_kb_tables_share_0_number_weight_guests v_K08_kb_tables_share_0_number_weight_guests
  kb_seating_share_0_weight_seating : KBinds K d_seating_share ["seating", "weight"] ["weight", "seating"] g_K08_kb_seating_share_0_weight_seating v_K08_kb_seating_share_0_weight_seating
  kb_likeliest_tables_0_weight_guests : KBinds K d_likeliest_tables ["guests", "weight"] ["weight", "guests"] g_K08_kb_likeliest_tables_0_weight_guests v_K08_kb_likeliest_tables_0_weight_guests
  kb_mean_tables_0_weight_guests : KBinds K d_mean_tables ["guests", "weight"] ["weight", "guests"] g_K08_kb_mean_tables_0_weight_guests v_K08_kb_mean_tables_0_weight_guests
  kb_total_weight_0_weight_guests : KBinds K d_total_weight ["guests", "weight"] ["weight", "guests"] g_K08_kb_total_weight_0_weight_guests v_K08_kb_total_weight_0_weight_guests
/-! readings that go by themselves -/
local macro_rules | `(tactic| walk_at "side") => `(tactic| first | with_reducible assumption | with_reducible rfl | omega | decide | (constructor <;> first | assumption | omega | decide))
local macro_rules | `(tactic| walk_at "ev") => `(tactic| first
  | ((with_reducible refine' ev_var ?e1); (case e1 => rfl))
  | (with_reducible exact ev_c)
  | ((with_reducible refine' ev_op ?e1 ?e2 rv_I0); (case e1 => walk_at "ev"); (case e2 => walk_at "ev"))
  | ((with_reducible refine' ev_op ?e1 ?e2 (rv_I ?e3)); (case e1 => walk_at "ev"); (case e2 => walk_at "ev"); (case e3 => walk_at "side"))
  | ((with_reducible refine' ev_op ?e1 ?e2 (rv_eq ?e3)); (case e1 => walk_at "ev"); (case e2 => walk_at "ev"); (case e3 => rfl))
  | ((with_reducible refine' ev_op ?e1 ?e2 (rv_ne ?e3)); (case e1 => walk_at "ev"); (case e2 => walk_at "ev"); (case e3 => rfl))
  | ((with_reducible refine' ev_op ?e1 ?e2 (rv_ixL ?e3 ?e4)); (case e1 => walk_at "ev"); (case e2 => walk_at "ev"); (case e3 => walk_at "sq"); (case e4 => walk_at "at"))
  | ((with_reducible refine' ev_op ?e1 ?e2 (rv_ixT ?e3 ?e4)); (case e1 => walk_at "ev"); (case e2 => walk_at "ev"); (case e3 => walk_at "sq"); (case e4 => walk_at "at"))
  | ((with_reducible refine' ev_op ?e1 ?e2 rv_isN); (case e1 => walk_at "ev"); (case e2 => walk_at "ev"))
  | ((with_reducible refine' ev_op ?e1 ?e2 rv_notN); (case e1 => walk_at "ev"); (case e2 => walk_at "ev"))
  | ((with_reducible refine' ev_op ?e1 ?e2 (rv_eqTy ?e3 ?e4)); (case e1 => walk_at "ev"); (case e2 => walk_at "ev"); (case e3 => exact PySem.TypeEq.meta_int); (case e4 => exact PySem.TypeEq.meta_int))
  | ((with_reducible refine' ev_un ?e1 ru_neg); (case e1 => walk_at "ev"))
  | ((with_reducible refine' ev_intI ?e1); (case e1 => walk_at "ev"))
  | ((with_reducible refine' ev_intB ?e1); (case e1 => walk_at "ev"))
  | ((with_reducible refine' ev_typeI ?e1); (case e1 => walk_at "ev"))
  | ((with_reducible refine' ev_abs ?e1); (case e1 => walk_at "ev"))
  | ((with_reducible refine' ev_max2 ?e1 ?e2); (case e1 => walk_at "ev"); (case e2 => walk_at "ev"))
  | ((with_reducible refine' ev_min2 ?e1 ?e2); (case e1 => walk_at "ev"); (case e2 => walk_at "ev"))
  | ((with_reducible refine' ev_gcd ?e1 ?e2); (case e1 => walk_at "ev"); (case e2 => walk_at "ev"))
  | ((with_reducible refine' ev_len ?e1 ?e2); (case e1 => walk_at "ev"); (case e2 => walk_at "sq"))
  | ((with_reducible refine' ev_chainI ?e1 ?e2 ?e3); (case e1 => walk_at "ev"); (case e2 => walk_at "ev"); (case e3 => walk_at "ev"))
  | ((with_reducible refine' ev_chain3I ?e1 ?e2 ?e3 ?e4); (case e1 => walk_at "ev"); (case e2 => walk_at "ev"); (case e3 => walk_at "ev"); (case e4 => walk_at "ev"))
  | ((with_reducible refine' ev_notV ?e1); (case e1 => walk_at "ev"))
  | ((with_reducible refine' ev_andV ?e1 ?e2); (case e1 => walk_at "ev"); (case e2 => (intro _; walk_at "ev")))
  | ((with_reducible refine' ev_orV ?e1 ?e2); (case e1 => walk_at "ev"); (case e2 => (intro _; walk_at "ev")))
  | ((with_reducible refine' ev_if ?e1 ?e2 ?e3); (case e1 => walk_at "et"); (case e2 => (intro _; walk_at "ev")); (case e3 => (intro _; walk_at "ev")))
  | ((with_reducible refine' ev_call ?e1 ?e2); (case e1 => walk_at "ea"); (case e2 => walk_at "call")))
local macro_rules | `(tactic| walk_at "ea") => `(tactic| first
  | (with_reducible exact ea_nil)
  | ((with_reducible refine' ea_cons ?e1 ?e2); (case e1 => walk_at "ev"); (case e2 => walk_at "ea")))
local macro_rules | `(tactic| walk_at "et") => `(tactic| first
  | ((with_reducible refine' et_test ?e1); (case e1 => walk_at "ev"))
  | ((with_reducible refine' et_B ?e1); (case e1 => walk_at "ev"))
  | ((with_reducible refine' et_not ?e1); (case e1 => walk_at "et"))
  | ((with_reducible refine' et_and ?e1 ?e2); (case e1 => walk_at "et"); (case e2 => (intro _; walk_at "et")))
  | ((with_reducible refine' et_or ?e1 ?e2); (case e1 => walk_at "et"); (case e2 => (intro _; walk_at "et"))))
local macro_rules | `(tactic| walk_at "eu") => `(tactic| first
  | ((with_reducible refine' eu_tup ?e1 ?e2); (case e1 => walk_at "ea"); (case e2 => exact Nat.le_of_ble_eq_true rfl))
  | ((with_reducible refine' eu_call ?e1 ?e2); (case e1 => walk_at "ea"); (case e2 => walk_at "callU")))
local macro_rules | `(tactic| walk_at "el") => `(tactic| first
  | ((with_reducible refine' el_call ?e1 ?e2); (case e1 => walk_at "ea"); (case e2 => walk_at "callL"))
  | ((with_reducible refine' el_lst ?e1 ?e2); (case e1 => walk_at "ea"); (case e2 => exact Nat.le_of_ble_eq_true rfl)))
local macro_rules | `(tactic| walk_at "sq") => `(tactic| first | assumption | exact sq_of (by assumption) | exact st_of (by assumption))
local macro_rules | `(tactic| walk_at "at") => `(tactic| first | assumption | rfl | (apply atI_nat; rfl))
local macro_rules | `(tactic| walk_at "call") => `(tactic| assumption)

/-! ### the pouch -/
/-- H without p -/
def Hm (p : Addr) (H : Hp) : Hp := fun b => if b = p then none else H b
theorem hm_p {p : Addr} {H : Hp} : Hm p H p = none := if_pos rfl
theorem hm_sub {p : Addr} {H : Hp} : Ex (Hm p H) H := fun a o h => by
  unfold Hm at h
  split at h
  · cases h
  · exact h
theorem hm_mono {p : Addr} {H H' : Hp} (e : Ex H H') : Ex (Hm p H) (Hm p H') := fun a o h => by
  unfold Hm at h ⊢
  split at h
  · cases h
  · rename_i ne
    rw [if_neg ne]
    exact e a o h
theorem ex_hm {p : Addr} {H0 H : Hp} (e : Ex H0 H) (h : H0 p = none) : Ex H0 (Hm p H) := fun a o ha => by
  unfold Hm
  rw [if_neg (ne_of_none ha h)]
  exact e a o ha
/-- a pouch after at most n mixed draws -/
def Po (p : Addr) (n : Nat) (H : Hp) : Prop := ∃ a b c : Int, H p = some (.lst [.int a, .int b, .int c]) ∧ (29 ≤ b ∧ b < 2 ^ 200) ∧ 0 ≤ c ∧ c ≤ n
theorem Po.ex {p : Addr} {n : Nat} {H H' : Hp} (h : Po p n H) (e : Ex H H') : Po p n H' := by
  obtain ⟨a, b, c, h1, h2⟩ := h
  exact ⟨a, b, c, e p _ h1, h2⟩
theorem Po.mono {p : Addr} {n m : Nat} {H : Hp} (h : Po p n H) (e : n ≤ m) : Po p m H := by
  obtain ⟨a, b, c, h1, h2, h3, h4⟩ := h
  exact ⟨a, b, c, h1, h2, h3, by omega⟩
theorem pow3_ok {i : Int} (h : i.natAbs < 2 ^ 250) : CPowX i 3 := by
  have := PyProof.Rows.intBits_le h
  unfold CPowX
  omega
theorem divw_ok {i j : Int} (h : 0 < j) (hb : j < 2 ^ 200) : CDivW i j := wide_div (b := 200) h (by omega) (by decide) (by decide)
theorem mulk_ok {i j : Int} (h : i.natAbs < 2 ^ 100000) (hb : j.natAbs < 2 ^ 100000) : CMulX i j := mulx_ok h hb (by decide)
def sp_law_pouch (K : PySem.W.Frag) : Sp := fun vs H Q _ => ∃ (s : Addr) (ns : List Int) (i : Nat), vs = [.ref s, .int (i : Int)] ∧ SqL K H s (ns.map V.int) ∧ i ≤ 100 ∧ ∀ p H', H p = none → Ex H H' → Po p 0 H' → Q (.ref p) H'
def sp_law_dip : Sp := fun vs H Q _ => ∃ (p : Addr) (n : Nat) (w : Int), vs = [.ref p, .int w] ∧ Po p n H ∧ n < 1000000000 ∧ 0 < w ∧ w < 2 ^ 200 ∧
  ∀ r H', 0 ≤ r → r < w → Po p (n + 1) H' → Ex (Hm p H) H' → Q (.int r) H'
section
variable {P : Program} {w : World} {K : PySem.W.Frag} {mg : Str → Option Value} {base : Heap}
theorem ok_law_dip (T : Tx K mg) : FnOk P w K mg base CX0 1 T.f_law_dip T.d_law_dip ["pouch", "wide"] sp_law_dip := by
  refine T.F_law_dip.ok sc_law_dip (fun vs H Q E h => ?_) (fun cdv A outer s H vs Q E hr h => ?_)
  · obtain ⟨p, n, w, rfl, _⟩ := h
    rfl
  · obtain ⟨p, n, w, rfl, ⟨a, b, c, hp, ⟨hb0, hb1⟩, hc0, hc1⟩, hn, hw0, hw1, k⟩ := h
    refine ⟨_, (pss_cons (ps_if (pt_cmpR op_gt (pe_ix ix_list (pv 0) pe_int (fun _ _ => rfl)) pe_int (nomark _)) (pss_cons (ps_set (i := 2) sc_law_dip.nd rfl (Or.inl rfl) (pe_op op_mod (pe_callTy call_intI (by rfl) T.m_int (by decide +kernel) (pa_cons (pe_ix ix_list (pv 0) pe_int (fun _ _ => rfl)) pa_nil)) (pv 1)))
      (pss_cons (ps_asg (pe_op op_fdivW (pe_ix ix_list (pv 0) pe_int (fun _ _ => rfl)) (pv 1)) (pg_sub (pv 0) pe_int set_list))
      (pss_one (ps_ret (pv 2))))) pss_nil)
      (pss_cons (ps_asg (pe_op op_add (pe_ix ix_list (pv 0) pe_int (fun _ _ => rfl)) pe_int) (pg_sub (pv 0) pe_int set_list))
      (pss_cons (ps_set (i := 3) sc_law_dip.nd rfl (Or.inl rfl) (pe_op op_mod (pe_op op_powX (pe_callTy call_intI (by rfl) T.m_int (by decide +kernel) (pa_cons (pe_op op_add (pe_ix ix_list (pv 0) pe_int (fun _ _ => rfl)) (pe_op op_mulX pe_int (pe_ix ix_list (pv 0) pe_int (fun _ _ => rfl)))) pa_nil)) pe_int) (pe_op op_add (pe_op op_powX pe_int pe_int) pe_int)))
      (pss_cons (ps_set (i := 3) sc_law_dip.nd rfl (Or.inl rfl) (pe_op op_mod (pe_op op_powX (pe_callTy call_intI (by rfl) T.m_int (by decide +kernel) (pa_cons (pe_op op_add (pv 3) (pe_op op_mulX pe_int (pe_ix ix_list (pv 0) pe_int (fun _ _ => rfl)))) pa_nil)) pe_int) (pe_op op_add (pe_op op_powX pe_int pe_int) pe_int)))
      (pss_one (ps_ret (pe_op op_mod (pe_callTy call_intI (by rfl) T.m_int (by decide +kernel) (pa_cons (pe_op op_fdivW (pv 3) pe_int) pa_nil)) (pv 1)))))))), ?_⟩
    have hp0 : Hm p H p = none := hm_p
    refine q_when (by walk_at "et") (fun hb H1 e1 => ?_) (fun hb H1 e1 => ?_)
    · have hp1 := e1 p _ hp
      refine q_asg (by walk_at "ev") fun H2 e2 => ?_
      have hp2 := e2 p _ hp1
      have hd : CDivW a w := divw_ok hw0 hw1
      refine q_setL (j := 0) hp2 (by walk_at "ev") (by walk_at "ev") ev_c (by show 0 < 3; decide) fun H3 e3 => ?_
      refine s_ret (by walk_at "ev") fun H4 e4 => ?_
      refine k _ _ (Int.emod_nonneg _ (by omega)) (Int.emod_lt_of_pos _ hw0) ⟨a / w, b, c, e4 p _ upd_same, ⟨hb0, hb1⟩, hc0, by omega⟩ ?_
      exact Ex.trans (Ex.mut (hm_sub.trans (e1.trans (e2.trans e3))) hp0) e4
    · have hp1 := e1 p _ hp
      refine q_setL (j := 2) hp1 (by walk_at "ev") (by walk_at "ev") ev_c (by show 2 < 3; decide) fun H2 e2 => ?_
      have hp2 : ∀ H3, Ex (upd H2 p (.lst ([V.int a, .int b, .int c].set 2 (.int (c + 1))))) H3 → H3 p = some (.lst [.int a, .int b, .int (c + 1)]) := fun H3 e => e p _ upd_same
      have hq := hp2 _ (Ex.refl _)
      have hm1 : CMulX 870022201 (c + 1) := mulx_ok (a := 64) (b := 64) (by decide) (by omega) (by decide)
      have hw1' : CPowX (b + 870022201 * (c + 1)) 3 := pow3_ok (by omega)
      have hw2 : CPowX 10 41 := ⟨by decide, by decide +kernel⟩
      refine q_asg (by walk_at "ev") fun H3 e3 => ?_
      have hq3 := hp2 _ e3
      have hm2 : CMulX 334214467 (c + 1) := mulx_ok (a := 64) (b := 64) (by decide) (by omega) (by decide)
      generalize hz : (b + 870022201 * (c + 1)) ^ (3 : Int).toNat % ((10 : Int) ^ (41 : Int).toNat + 37) = z
      have hz0 : 0 ≤ z := by
        rw [← hz]
        exact Int.emod_nonneg _ (by decide)
      have hz1 : z < (10 : Int) ^ (41 : Int).toNat + 37 := by
        rw [← hz]
        exact Int.emod_lt_of_pos _ (by decide)
      have hz2 : z < 2 ^ 200 := Int.lt_trans hz1 (by decide)
      have hw3 : CPowX (z + 334214467 * (c + 1)) 3 := pow3_ok (by omega)
      have hw4 : CPowX 10 39 := ⟨by decide, by decide +kernel⟩
      refine q_asg (by walk_at "ev") fun H4 e4 => ?_
      generalize (z + 334214467 * (c + 1)) ^ (3 : Int).toNat % ((10 : Int) ^ (39 : Int).toNat + 3) = y
      have hd : CDivW y 1048583 := divw_ok (by decide) (by decide)
      refine s_ret (by walk_at "ev") fun H5 e5 => ?_
      refine k _ _ (Int.emod_nonneg _ (by omega)) (Int.emod_lt_of_pos _ hw0) ⟨a, b, c + 1, hp2 _ (e3.trans (e4.trans e5)), ⟨hb0, hb1⟩, by omega, by omega⟩ ?_
      exact Ex.trans (Ex.mut (hm_sub.trans (e1.trans e2)) hp0) (e3.trans (e4.trans e5))
theorem ok_law_pouch (T : Tx K mg) : FnOk P w K mg base CX0 1 T.f_law_pouch T.d_law_pouch ["script", "at"] (sp_law_pouch K) := by
  refine T.F_law_pouch.ok sc_law_pouch (fun vs H Q E h => ?_) (fun cdv A outer s H vs Q E hr h => ?_)
  · obtain ⟨a, ns, i, rfl, _⟩ := h
    rfl
  · obtain ⟨a, ns, i, rfl, hs, hi, k⟩ := h
    refine ⟨_, (pss_cons (ps_set (i := 2) sc_law_pouch.nd rfl (Or.inl rfl) (pe_ifExp (pt_cmpR op_lt (pv 1) (pe_callB call_lenR (by rfl) T.m_len (by decide +kernel) (pa_cons (pv 0) pa_nil)) (nomark _)) (pe_ix ix_list (pv 0) (pv 1) (fun _ _ => rfl)) pe_int))
      (pss_one (ps_ret (pe_lst (pa_cons (pe_callB (call_maxR rfl) (by rfl) T.m_max (by decide +kernel) (pa_cons pe_int (pa_cons (pe_op op_sub (pe_callB call_absR (by rfl) T.m_abs (by decide +kernel) (pa_cons (pv 2) pa_nil)) (pe_op op_powX pe_int pe_int)) pa_nil))) (pa_cons (pe_op op_add (pe_op op_add (pe_op op_mulX (pe_op op_mod (pe_callTy call_intI (by rfl) T.m_int (by decide +kernel) (pa_cons (pv 2) pa_nil)) (pe_op op_add (pe_op op_powX pe_int pe_int) pe_int)) pe_int) (pe_op op_mulX pe_int (pv 1))) pe_int) (pa_cons pe_int pa_nil))))))), ?_⟩
    have hlen : (ns.map V.int).length = ns.length := List.length_map ..
    refine q_asg (v := .int (ns.getD i 0)) ?_ fun H1 e1 => ?_
    · refine ev_if (b := decide ((i : Int) < ((ns.map V.int).length : Int))) (by walk_at "et") (fun hb => ?_) (fun hb => ?_)
      · have hb := of_decide_eq_true hb
        rw [hlen] at hb
        have hlt : i < ns.length := by omega
        refine ev_op (ev_var rfl) (ev_var rfl) (rv_ixL hs (atI_nat (j := i) ?_))
        rw [List.getElem?_map, List.getElem?_eq_getElem hlt]
        simp [List.getD_eq_getElem?_getD, hlt]
      · have hb := of_decide_eq_false hb
        rw [hlen] at hb
        have e0 : ns.getD i 0 = 0 := by
          rw [List.getD_eq_getElem?_getD, List.getElem?_eq_none (by omega)]
          rfl
        rw [e0]
        exact ev_c
    · generalize ns.getD i 0 = z
      have hw1 : CPowX 10 18 := ⟨by decide, by decide +kernel⟩
      have hw2 : CPowX 10 38 := ⟨by decide, by decide +kernel⟩
      have hy0 : 0 ≤ z % ((10 : Int) ^ (38 : Int).toNat + 133) := Int.emod_nonneg _ (by decide)
      have hy1 : z % ((10 : Int) ^ (38 : Int).toNat + 133) < (10 : Int) ^ (38 : Int).toNat + 133 := Int.emod_lt_of_pos _ (by decide)
      have hy2 : z % ((10 : Int) ^ (38 : Int).toNat + 133) < 2 ^ 150 := Int.lt_trans hy1 (by decide)
      have hpos : 0 < (10 : Int) ^ (38 : Int).toNat + 133 := by decide
      have hm1 : CMulX (z % ((10 : Int) ^ (38 : Int).toNat + 133)) 107 := mulx_ok (a := 150) (b := 64) (by omega) (by decide) (by decide)
      have hm2 : CMulX 71 (i : Int) := mulx_ok (a := 64) (b := 64) (by decide) (by omega) (by decide)
      refine s_retL (el_lst (ea_cons (by walk_at "ev") (ea_cons (by walk_at "ev") (ea_cons ev_c ea_nil))) (Nat.le_of_ble_eq_true rfl)) fun p H2 hp e2 hl => ?_
      refine k p H2 (fresh_back e1 hp) (e1.trans e2) ⟨_, _, _, hl, ⟨?_, ?_⟩, by omega, by omega⟩
      · generalize z % ((10 : Int) ^ (38 : Int).toNat + 133) = y at hy0 hy2 ⊢
        omega
      · generalize z % ((10 : Int) ^ (38 : Int).toNat + 133) = y at hy0 hy2 ⊢
        omega
end

/-! ### expressions that draw -/
theorem hm_trans {p : Addr} {H H1 H2 : Hp} (a : Ex (Hm p H) H1) (b : Ex (Hm p H1) H2) : Ex (Hm p H) H2 := fun x o h => by
  have ne : x ≠ p := fun z => by
    subst z
    rw [hm_p] at h
    cases h
  have h1 := a x o h
  refine b x o ?_
  unfold Hm
  rw [if_neg ne]
  exact h1
theorem hm_next {p : Addr} {H0 H H1 : Hp} (h0 : H0 p = none) (e : Ex H0 H) (s : Ex (Hm p H) H1) : Ex H0 H1 := (ex_hm e h0).trans s
theorem hm_of {p : Addr} {H H1 : Hp} (e : Ex H H1) : Ex (Hm p H) H1 := hm_sub.trans e
theorem hm_at {p a : Addr} {H H1 : Hp} {o : HO} (s : Ex (Hm p H) H1) (ne : a ≠ p) (h : H a = some o) : H1 a = some o := s a o (by
  unfold Hm
  rw [if_neg ne]
  exact h)
theorem Po.ne {p l : Addr} {n : Nat} {H : Hp} (h : Po p n H) (hl : H l = none) : l ≠ p := fun z => by
  subst z
  obtain ⟨_, _, _, h1, _⟩ := h
  rw [hl] at h1
  cases h1
def EvP (p : Addr) (k : Nat) (te : TE) (σ : L2.St) (H0 : Hp) (R : V → Hp → Prop) : Prop := ∀ n H1, Ex H0 H1 → Po p n H1 → n + k ≤ 1000000000 →
  ∀ Q : VK, (∀ v H2, R v H2 → Po p (n + k) H2 → Ex (Hm p H1) H2 → Q v H2) → te σ H1 Q
def Stb (p : Addr) (R : V → Hp → Prop) : Prop := ∀ v H H', R v H → Ex (Hm p H) H' → R v H'
section
variable {K : PySem.W.Frag} {σ : L2.St} {H0 H : Hp} {p : Addr} {k k1 k2 : Nat} {te ta tb : TE} {R Ra Rb : V → Hp → Prop}
theorem ep_ev {v : V} (h : Ev te σ H0 v) : EvP p 0 te σ H0 (fun x _ => x = v) := fun n H1 e hp _ Q q => h H1 e Q fun H2 e2 => q v H2 rfl (hp.ex e2) (hm_of e2)
theorem ep_L {xs : List V} (h : EvL te σ H0 xs) : EvP p 0 te σ H0 (fun x H => ∃ l, l ≠ p ∧ x = .ref l ∧ H l = some (.lst xs)) := fun n H1 e hp _ Q q => h H1 e Q fun l H2 hl e2 h2 => q _ H2 ⟨l, hp.ne hl, rfl, h2⟩ (hp.ex e2) (hm_of e2)
theorem stb_L {xs : List V} : Stb p (fun x H => ∃ l, l ≠ p ∧ x = .ref l ∧ H l = some (.lst xs)) := fun v H H' ⟨l, ne, e, h⟩ s => ⟨l, ne, e, hm_at s ne h⟩
theorem stb_c {C : V → Prop} : Stb p (fun x _ => C x) := fun _ _ _ h _ => h
theorem ep_op {r : R2} (h0 : H0 p = none) (ha : EvP p k1 ta σ H0 Ra) (hb : EvP p k2 tb σ H0 Rb) (s1 : Stb p Ra) (s : Stb p R) (hr : ∀ x y H, Ra x H → Rb y H → ∃ z, R z H ∧ RV r x y H z) : EvP p (k1 + k2) (tOp r ta tb) σ H0 R :=
  fun n H1 e hp hn Q q => ha n H1 e hp (by omega) _ fun x H2 hx p2 e2 => hb (n + k1) H2 (hm_next h0 e e2) p2 (by omega) _ fun y H3 hy p3 e3 => by
    obtain ⟨z, hz, hv⟩ := hr x y H3 (s1 x H2 H3 hx e3) hy
    refine hv H3 (Ex.refl H3) Q fun H4 e4 => q z H4 (s z H3 H4 hz (hm_of e4)) ?_ (hm_trans (hm_trans e2 e3) (hm_of e4))
    rw [← Nat.add_assoc]
    exact p3.ex e4
theorem ep_dip {tw : TE} {E : XK} {C : Int → Prop} (h0 : H0 p = none) (hp : Ev ta σ H0 (.ref p)) (hw : EvP p k tw σ H0 (fun v _ => ∃ w, v = .int w ∧ 0 < w ∧ w < 2 ^ 200 ∧ C w)) :
    EvP p (k + 1) (tCall sp_law_dip [] E (tCons ta (tCons tw tNil))) σ H0 (fun v _ => ∃ r w, v = .int r ∧ 0 ≤ r ∧ r < w ∧ C w) :=
  fun n H1 e hpo hn Q q => hp H1 e _ fun H2 e2 => hw n H2 (e.trans e2) (hpo.ex e2) (by omega) _ fun y H3 hy p3 e3 => by
    obtain ⟨w, rfl, w0, w1, c⟩ := hy
    exact ⟨p, n + k, w, rfl, p3, by omega, w0, w1, fun r H' r0 r1 p4 e4 => q _ H' ⟨r, w, rfl, r0, r1, c⟩ p4 (hm_trans (hm_trans (hm_of e2) e3) e4)⟩
theorem ep_is {R' : V → Hp → Prop} (h : EvP p k te σ H0 R) (e : ∀ v H, R v H → R' v H) : EvP p k te σ H0 R' := fun n H1 a b c Q q => h n H1 a b c Q fun v H2 hv => q v H2 (e v H2 hv)
/-- the width is a pure int -/
theorem ep_dipI {tw : TE} {E : XK} {w : Int} (h0 : H0 p = none) (hp : Ev ta σ H0 (.ref p)) (hw : Ev tw σ H0 (.int w)) (w0 : 0 < w) (w1 : w < 2 ^ 200) :
    EvP p 1 (tCall sp_law_dip [] E (tCons ta (tCons tw tNil))) σ H0 (fun v _ => ∃ r, v = .int r ∧ 0 ≤ r ∧ r < w) :=
  ep_is (ep_dip (k := 0) (C := fun z => z = w) h0 hp (ep_is (ep_ev hw) fun v H e => ⟨w, e, w0, w1, rfl⟩)) fun v H ⟨r, z, e, r0, r1, e2⟩ => ⟨r, e, r0, e2 ▸ r1⟩
/-- a + b, b drawn -/
theorem ep_add {a : Int} {C : Int → Prop} (h0 : H0 p = none) (ha : Ev ta σ H0 (.int a)) (hb : EvP p k tb σ H0 (fun v _ => ∃ r, v = .int r ∧ C r)) : EvP p (0 + k) (tOp (rI0 fun i j => .int (i + j)) ta tb) σ H0 (fun v _ => ∃ r, v = .int (a + r) ∧ C r) :=
  ep_op h0 (ep_ev ha) hb stb_c stb_c fun x y H e ⟨r, e2, c⟩ => ⟨.int (a + r), ⟨r, rfl, c⟩, by
    subst e
    subst e2
    exact rv_I0⟩
theorem p_asg {i n : Nat} {D : Ends} (h : EvP p k te σ H0 R) (e : Ex H0 H) (hp : Po p n H) (hn : n + k ≤ 1000000000) (q : ∀ v H2, R v H2 → Po p (n + k) H2 → Ex (Hm p H) H2 → D.nx (σ.set i (some v)) H2) : tAsg te (gName i) D σ H := h n H e hp hn _ q
theorem pq_asg {i n : Nat} {D : Ends} {tz : TS} (h : EvP p k te σ H0 R) (e : Ex H0 H) (hp : Po p n H) (hn : n + k ≤ 1000000000) (q : ∀ v H2, R v H2 → Po p (n + k) H2 → Ex (Hm p H) H2 → tz D (σ.set i (some v)) H2) : tSeq (tAsg te (gName i)) tz D σ H := h n H e hp hn _ q
/-- tests that draw -/
def EtP (p : Addr) (k : Nat) (t : TT) (σ : L2.St) (H0 : Hp) (b : Bool) : Prop := ∀ n H1, Ex H0 H1 → Po p n H1 → n + k ≤ 1000000000 →
  ∀ Q : Bool → Hp → Prop, (∀ H2, Po p (n + k) H2 → Ex (Hm p H1) H2 → Q b H2) → t σ H1 Q
variable {t u : TT} {b c : Bool}
theorem tp_B (h : EvP p k te σ H0 (fun v _ => v = .bl b)) : EtP p k (tB te) σ H0 b := fun n H1 e hp hn Q q => h n H1 e hp hn _ fun v H2 hv p2 e2 => ⟨b, hv, q H2 p2 e2⟩
theorem tp_not (h : EtP p k t σ H0 b) : EtP p k (tNot t) σ H0 (!b) := fun n H1 e hp hn Q q => h n H1 e hp hn _ fun H2 p2 e2 => q H2 p2 e2
theorem tp_is (h : EtP p k t σ H0 b) (e : b = c) : EtP p k t σ H0 c := e ▸ h
theorem tp_or (h0 : H0 p = none) (h : EtP p k1 t σ H0 false) (h' : EtP p k2 u σ H0 b) : EtP p (k1 + k2) (tOr t u) σ H0 b := fun n H1 e hp hn Q q => h n H1 e hp (by omega) _ fun H2 p2 e2 => by
  show u σ H2 Q
  refine h' (n + k1) H2 (hm_next h0 e e2) p2 (by omega) Q fun H3 p3 e3 => q H3 ?_ (hm_trans e2 e3)
  rw [← Nat.add_assoc]
  exact p3
theorem tp_et (h : EvT t σ H0 b) : EtP p 0 t σ H0 b := fun n H1 e hp _ Q q => h H1 e Q fun H2 e2 => q H2 (hp.ex e2) (hm_of e2)
/-- a test that is false: what follows -/
theorem pq_no {n : Nat} {D : Ends} {tu tz : TS} (h : EtP p k t σ H0 false) (e : Ex H0 H) (hp : Po p n H) (hn : n + k ≤ 1000000000) (q : ∀ H2, Po p (n + k) H2 → Ex (Hm p H) H2 → tz D σ H2) : tSeq (tIfS t tu tNext) tz D σ H := h n H e hp hn _ q
theorem ps_no {n : Nat} {D : Ends} {tu : TS} (h : EtP p k t σ H0 false) (e : Ex H0 H) (hp : Po p n H) (hn : n + k ≤ 1000000000) (q : ∀ H2, Po p (n + k) H2 → Ex (Hm p H) H2 → D.nx σ H2) : tIfS t tu tNext D σ H := h n H e hp hn _ q
/-- pouch = _law_pouch(script, at) -/
theorem pq_pouch {ta : TA} {E : XK} {D : Ends} {tz : TS} {j i : Nat} {s : Addr} {ns : List Int} (h : EvA ta σ H [.ref s, .int (i : Int)]) (hs : SqL K H s (ns.map V.int)) (hi : i ≤ 100) (q : ∀ p H2, H p = none → Ex H H2 → Po p 0 H2 → tz D (σ.set j (some (.ref p))) H2) :
    tSeq (tAsg (tCall (sp_law_pouch K) [] E ta) (gName j)) tz D σ H := h H (Ex.refl H) _ fun H1 e1 => ⟨s, ns, i, rfl, ex_l e1 hs, hi, fun p H2 hp e2 hpo => q p H2 (fresh_back e1 hp) (e1.trans e2) hpo⟩
end

/-! ### lists of guests -/
def iz (xs : List Nat) : List Int := xs.map fun x : Nat => (x : Int)
def nv (xs : List Nat) : List V := (iz xs).map V.int
theorem nv_len (xs : List Nat) : (nv xs).length = xs.length := by simp [nv, iz]
theorem nv_get {xs : List Nat} {i x : Nat} (h : xs[i]? = some x) : (nv xs)[i]? = some (.int x) := by simp [nv, iz, h]
theorem nv_app (xs ys : List Nat) : nv (xs ++ ys) = nv xs ++ nv ys := by simp [nv, iz]
theorem nv_eq (xs : List Nat) : nv xs = xs.map fun x : Nat => V.int (x : Int) := by simp [nv, iz]
def Ord (h : List Nat) : Prop := h.Perm (List.range h.length) ∧ 1 ≤ h.length ∧ h.length ≤ 20
def sp_is_whole : Sp := fun vs H Q _ => ∃ x : Int, vs = [.int x] ∧ RetV (.bl true) H Q
theorem sv_whole {H : Hp} {x : Int} : SpV sp_is_whole ([.int x] ++ []) H (.bl true) := fun H1 _ Q q E => ⟨x, rfl, q⟩
local macro_rules | `(tactic| walk_at "call") => `(tactic| (with_reducible exact sv_whole))
def sp_ord (v : V) : Sp := fun vs H Q _ => ∃ (a : Addr) (h : List Nat), vs = [.ref a] ∧ H a = some (.lst (nv h)) ∧ Ord h ∧ RetV v H Q
theorem sv_ord {H : Hp} {v : V} {a : Addr} {h : List Nat} (ha : H a = some (.lst (nv h))) (o : Ord h) : SpV (sp_ord v) ([.ref a] ++ []) H v := fun H1 e Q q E => ⟨a, h, rfl, e a _ ha, o, q⟩
section
variable {P : Program} {w : World} {K : PySem.W.Frag} {mg : Str → Option Value} {base : Heap}
theorem ok_is_whole (T : Tx K mg) : FnOk P w K mg base CX0 1 T.f_is_whole T.d_is_whole ["thing"] sp_is_whole := by
  refine T.F_is_whole.ok sc_is_whole (fun vs H Q E h => ?_) (fun cdv A outer s H vs Q E hr h => ?_)
  · obtain ⟨x, rfl, _⟩ := h
    rfl
  · obtain ⟨x, rfl, k⟩ := h
    refine ⟨_, (pss_one (ps_ret (pe_cmpR op_eqTy (pe_typeOf (by rfl) T.m_type (pv 0)) (pe_bltn (v := .ty "int") (by rfl) T.m_int (by decide +kernel) rfl) (nomark _)))), ?_⟩
    refine s_ret (by walk_at "ev") fun H1 e1 => ?_
    rw [show decide (("int" : String) = "int") = true from decide_eq_true rfl]
    exact k _ e1
theorem range_iz (n : Nat) : rgV 0 (n : Int) = nv (List.range n) := by
  rw [nv_eq]
  unfold rgV
  simp
theorem ok_is_order (T : Tx K mg) : FnOk P w K mg base CX0 2 T.f_is_order T.d_is_order ["thing"] (sp_ord (.bl true)) := by
  refine T.F_is_order.ok sc_is_order (fun vs H Q E h => ?_) (fun cdv A outer s H vs Q E hr h => ?_)
  · obtain ⟨a, h, rfl, _⟩ := h
    rfl
  · obtain ⟨a, h, rfl, ha, ⟨op, o1, o2⟩, k⟩ := h
    refine ⟨_, (pss_cons (ps_if (PW.pt (pw_or (pt_cmpR (op_neTyS (hu_of hr)) (pe_typeOf (by rfl) T.m_type (pv 0)) (pe_bltn (v := .ty "list") (by rfl) T.m_list (by decide +kernel) rfl) (nomark _)) (pw_or1 (pt_not (pt_chain op_le op_le pe_int (pe_callB call_lenR (by rfl) T.m_len (by decide +kernel) (pa_cons (pv 0) pa_nil)) (pe_gc (by rfl) T.c_MOST_GUESTS)))))) (pss_one (ps_ret pe_bl)) pss_nil)
      (pss_cons (ps_if (pt_not (pt_val (pe_callB (cr_all rfl) (by rfl) T.m_all (by decide +kernel) (pa_cons (pe_lc (own := [("item", 1)]) (g := (gName 1)) (tt := tYes) rfl sc_is_order.nd (pi_list (pv 0)) (blkOk_by (own := [("item", 1)]) (N := n_is_order) (sc := defScope s_is_order) (by decide +kernel)) (fun _ _ _ _ _ => (pg_name (i := 1) sc_is_order.nd rfl (Or.inl rfl))) (fun _ _ _ _ _ => pts_nil) (fun _ _ _ _ _ => (pe_call (ok_is_whole T) (hr.mono (by decide)) (by rfl) T.g_is_whole T.F_is_whole.kp T.b_is_whole .nil pass0 (pa_cons (pv 1) pa_nil)))) pa_nil)))) (pss_one (ps_ret pe_bl)) pss_nil)
      (pss_one (ps_ret (pe_cmpR (op_eqD hr.units) (pe_callB cr_sorted (by rfl) T.m_sorted (by decide +kernel) (pa_cons (pv 0) pa_nil)) (pe_listRg rfl (by rfl) T.m_list (prg_1 (by rfl) T.m_range (pe_callB call_lenR (by rfl) T.m_len (by decide +kernel) (pa_cons (pv 0) pa_nil)))) (nomark _)))))), ?_⟩
    have hl := nv_len h
    refine q_when (b := false) (et_is (et_or (et_test (ev_op (ev_typeL (ev_var rfl) ha) ev_c (rv_neTyS PySem.TypeEq.meta_list))) fun _ => et_not (et_test (ev_chainI ev_c (ev_len (ev_var rfl) (sq_of ha)) ev_c))) ?_) (fun hb => Bool.noConfusion hb) fun _ H1 e1 => ?_
    · rw [hl]
      simp
      omega
    have h1 := e1 a _ ha
    have hm : (nv h).map (fun _ => V.bl true) = (List.replicate h.length true).map V.bl := by
      rw [nv_eq, List.map_map, List.map_replicate]
      exact List.map_const' ..
    refine q_when (b := false) (et_is (et_not (et_B (ev_allN (bs := List.replicate h.length true) ?_))) (by simp)) (fun hb => Bool.noConfusion hb) fun _ H2 e2 => ?_
    · rw [← hm]
      refine el_map (fun _ => V.bl true) (ev_var rfl) (sq_of h1) (by omega) (fun _ => rfl) fun i x H2 e2 hx => ?_
      rw [nv_eq, List.getElem?_map] at hx
      obtain ⟨z, _, rfl⟩ := Option.map_eq_some_iff.mp hx
      exact by walk_at "ev"
    · have h2 := e2 a _ h1
      have sr : EvD K (tCB (rSorted K) (tCons (tVar 0) tNil)) (start n_is_order [.ref a]) H2 (.list ((iz (List.range h.length)).map PyData.int)) :=
        ed_sorted (ns := iz h) (ev_var rfl) (sq_of h2) (by simp [iz]; omega) (op.symm.map (fun x : Nat => (x : Int))) (by
          unfold iz
          rw [List.pairwise_map]
          exact List.Pairwise.imp (fun {a b} h => by omega) List.pairwise_lt_range)
      have rg : EvD K (tLstRg (tRg1 (tCB (rLenS K) (tCons (tVar 0) tNil)))) (start n_is_order [.ref a]) H2 (.list ((iz (List.range h.length)).map PyData.int)) :=
        ed_ofL (xs := nv (List.range h.length)) (by
          have g := el_rg1 (σ := start n_is_order [.ref a]) (ev_len (K := K) (ta := tVar 0) (ev_var (i := 0) (v := .ref a) rfl) (sq_of h2)) (RgOk.of_le (by decide) (by omega) (by decide) (by omega))
          rw [hl, range_iz] at g
          exact g) (dpa_ints _)
      refine s_ret (v := .bl true) (ev_is (ev_eqD sr rg (shaped_ints _) (shaped_ints _)) (by rw [eqv_same (shaped_ints _)])) fun H3 e3 => k _ (e1.trans (e2.trans e3))
local macro_rules | `(tactic| walk_at "call") => `(tactic| ((with_reducible refine' sv_ord ?c1 ?c2); (case c1 => assumption); (case c2 => assumption)))
theorem ok_is_seating (T : Tx K mg) : FnOk P w K mg base CX0 3 T.f_is_seating T.d_is_seating ["thing"] (sp_ord (.bl true)) := by
  refine T.F_is_seating.ok sc_is_seating (fun vs H Q E h => ?_) (fun cdv A outer s H vs Q E hr h => ?_)
  · obtain ⟨a, h, rfl, _⟩ := h
    rfl
  · obtain ⟨a, h, rfl, ha, o, k⟩ := h
    refine ⟨_, (pss_one (ps_ret (pe_call (ok_is_order T) (hr.mono (by decide)) (by rfl) T.g_is_order T.F_is_order.kp T.b_is_order .nil pass0 (pa_cons (pv 0) pa_nil)))), ?_⟩
    exact s_ret (by walk_at "ev") fun H1 e1 => k _ e1
theorem ok_check_seating (T : Tx K mg) : FnOk P w K mg base CX0 4 T.f_check_seating T.d_check_seating ["seating"] (sp_ord .non) := by
  refine T.F_check_seating.ok sc_check_seating (fun vs H Q E h => ?_) (fun cdv A outer s H vs Q E hr h => ?_)
  · obtain ⟨a, h, rfl, _⟩ := h
    rfl
  · obtain ⟨a, h, rfl, ha, o, k⟩ := h
    refine ⟨_, (pss_one (ps_if (pt_not (pt_val (pe_call (ok_is_seating T) (hr.mono (by decide)) (by rfl) T.g_is_seating T.F_is_seating.kp T.b_is_seating .nil pass0 (pa_cons (pv 0) pa_nil)))) (pss_one ps_never) pss_nil)), ?_⟩
    exact s_when (b := false) (et_is (by walk_at "et") (by rfl)) (fun hb => Bool.noConfusion hb) fun _ H1 e1 => k _ e1
end
local macro_rules | `(tactic| walk_at "call") => `(tactic| (with_reducible exact sv_whole))
local macro_rules | `(tactic| walk_at "call") => `(tactic| ((with_reducible refine' sv_ord ?c1 ?c2); (case c1 => assumption); (case c2 => assumption)))

local macro_rules | `(tactic| walk_at "call") => `(tactic| (with_reducible exact sv_whole))
local macro_rules | `(tactic| walk_at "call") => `(tactic| ((with_reducible refine' sv_ord ?c1 ?c2); (case c1 => assumption); (case c2 => assumption)))

/-! ### rings: the mathematics -/
/-- r is a whole table of the seating h, from its first guest on to the left -/
structure Rg (h r : List Nat) : Prop where
  ne : 0 < r.length
  nd : r.Nodup
  st : ∀ i, i < r.length → ∃ x y, r[i]? = some x ∧ r[(i + 1) % r.length]? = some y ∧ h[x]? = some y
def rot (r : List Nat) (k : Nat) : List Nat := r.drop k ++ r.take k
theorem rot_len {r : List Nat} {k : Nat} (hk : k ≤ r.length) : (rot r k).length = r.length := by
  unfold rot
  rw [List.length_append, List.length_drop, List.length_take]
  omega
theorem rot_get {r : List Nat} {k i : Nat} (hk : k < r.length) (hi : i < r.length) : (rot r k)[i]? = r[(i + k) % r.length]? := by
  unfold rot
  by_cases h : i < r.length - k
  · rw [List.getElem?_append_left (by rw [List.length_drop]; exact h), List.getElem?_drop, Nat.mod_eq_of_lt (by omega), Nat.add_comm]
  · rw [List.getElem?_append_right (by rw [List.length_drop]; omega), List.length_drop, List.getElem?_take_of_lt (by omega)]
    have e : (i + k) % r.length = i - (r.length - k) := by
      rw [Nat.mod_eq_sub_mod (by omega), Nat.mod_eq_of_lt (by omega)]
      omega
    rw [e]
theorem rot_perm (r : List Nat) (k : Nat) : (rot r k).Perm r := by
  unfold rot
  exact List.perm_append_comm.trans (List.Perm.of_eq (List.take_append_drop k r))
theorem Rg.rot {h r : List Nat} (R : Rg h r) {k : Nat} (hk : k < r.length) : Rg h (rot r k) := by
  have hl := rot_len (r := r) (k := k) (by omega)
  refine ⟨by have := R.ne; omega, (rot_perm r k).nodup_iff.mpr R.nd, fun i hi => ?_⟩
  rw [hl] at hi ⊢
  obtain ⟨x, y, h1, h2, h3⟩ := R.st ((i + k) % r.length) (Nat.mod_lt _ R.ne)
  refine ⟨x, y, by rw [rot_get hk hi]; exact h1, ?_, h3⟩
  rw [rot_get hk (Nat.mod_lt _ R.ne), ← h2, Nat.mod_add_mod, Nat.mod_add_mod]
  congr 2
  omega
structure Rings (h : List Nat) (rs : List (List Nat)) : Prop where
  rg : ∀ r ∈ rs, Rg h r
  low : ∀ r ∈ rs, ∀ x ∈ r, r.headD 0 ≤ x
  asc : (rs.map (·.headD 0)).Pairwise (· < ·)
  all : rs.flatten.Perm (List.range h.length)
def leads (r : List Nat) : Bool := decide (∀ x ∈ r, r.headD 0 ≤ x)
theorem Rings.turn {h : List Nat} {rs : List (List Nat)} (R : Rings h rs) {g : Nat} (hg : g < h.length) : ∃ w : List Nat, (∃ r ∈ rs, ∃ k, r[k]? = some g ∧ w = rot r k) := by
  have hm : g ∈ rs.flatten := R.all.mem_iff.mpr (List.mem_range.mpr hg)
  obtain ⟨r, hr, hgr⟩ := List.mem_flatten.mp hm
  obtain ⟨k, hk⟩ := List.mem_iff_getElem?.mp hgr
  exact ⟨rot r k, r, hr, k, hk, rfl⟩
theorem Rings.walks {h : List Nat} {rs : List (List Nat)} (R : Rings h rs) : ∃ f : Nat → List Nat, ∀ g, g < h.length → ∃ r ∈ rs, ∃ k, r[k]? = some g ∧ f g = rot r k :=
  ⟨fun g => if hg : g < h.length then Classical.choose (R.turn hg) else [], fun g hg => by
    have := Classical.choose_spec (R.turn hg)
    simp only [dif_pos hg]
    exact this⟩
theorem head_rot {r : List Nat} {k g : Nat} (hk : r[k]? = some g) : (rot r k).headD 0 = g := by
  obtain ⟨hl, e⟩ := List.getElem?_eq_some_iff.mp hk
  unfold rot
  rw [List.drop_eq_getElem_cons hl]
  exact e
theorem leads_rot {r : List Nat} {k g : Nat} (hk : r[k]? = some g) (lo : ∀ x ∈ r, r.headD 0 ≤ x) (ne : 0 < r.length) : leads (rot r k) = decide (g = r.headD 0) := by
  unfold leads
  rw [head_rot hk]
  have hmem : ∀ x, x ∈ rot r k ↔ x ∈ r := fun x => (rot_perm r k).mem_iff
  have h0 : r.headD 0 ∈ r := by
    cases r with
    | nil => simp at ne
    | cons a l => simp
  have hg : g ∈ r := List.mem_of_getElem? hk
  apply decide_eq_decide.mpr
  constructor
  · intro a
    have := a _ ((hmem _).mpr h0)
    have := lo g hg
    omega
  · intro a x hx
    rw [a]
    exact lo x ((hmem x).mp hx)
theorem rot_zero (r : List Nat) : rot r 0 = r := by
  unfold rot
  simp
theorem nodup_flat {rs : List (List Nat)} (h : rs.flatten.Nodup) {r r' : List Nat} {x : Nat} (hr : r ∈ rs) (hr' : r' ∈ rs) (hx : x ∈ r) (hx' : x ∈ r') : r = r' := by
  induction rs with
  | nil => cases hr
  | cons a l ih =>
    rw [List.flatten_cons, List.nodup_append] at h
    obtain ⟨h1, h2, h3⟩ := h
    rcases List.mem_cons.mp hr with e | q
    · rcases List.mem_cons.mp hr' with e' | q'
      · rw [e, e']
      · exact absurd rfl (h3 x (e ▸ hx) x (List.mem_flatten.mpr ⟨r', q', hx'⟩))
    · rcases List.mem_cons.mp hr' with e' | q'
      · exact absurd rfl (h3 x (e' ▸ hx') x (List.mem_flatten.mpr ⟨r, q, hx⟩))
      · exact ih h2 q q'
theorem Rings.nodup {h : List Nat} {rs : List (List Nat)} (R : Rings h rs) : rs.flatten.Nodup := R.all.nodup_iff.mpr List.nodup_range
/-- the walks that begin with their least guest are the rings -/
theorem Rings.lead {h : List Nat} {rs : List (List Nat)} (R : Rings h rs) {f : Nat → List Nat} (hf : ∀ g, g < h.length → ∃ r ∈ rs, ∃ k, r[k]? = some g ∧ f g = rot r k) : ((List.range h.length).map f).filter leads = rs := by
  rw [List.filter_map]
  have hd : ∀ g, g < h.length → leads (f g) = decide (g ∈ rs.map (·.headD 0)) := fun g hg => by
    obtain ⟨r, hr, k, hk, e⟩ := hf g hg
    rw [e, leads_rot hk (R.low r hr) (R.rg r hr).ne]
    apply decide_eq_decide.mpr
    constructor
    · intro a
      exact List.mem_map.mpr ⟨r, hr, a.symm⟩
    · intro a
      obtain ⟨r', hr', e'⟩ := List.mem_map.mp a
      have h0 : g ∈ r' := by
        have := (R.rg r' hr').ne
        cases r' with
        | nil => simp at this
        | cons b l => simp at e'; simp [e']
      have := nodup_flat R.nodup hr hr' (List.mem_of_getElem? hk) h0
      rw [this]
      exact e'.symm
  have hs : (List.range h.length).filter (leads ∘ f) = rs.map (·.headD 0) := by
    have e : (List.range h.length).filter (leads ∘ f) = (List.range h.length).filter (fun g => decide (g ∈ rs.map (·.headD 0))) := List.filter_congr fun g hg => hd g (List.mem_range.mp hg)
    rw [e]
    refine List.Perm.eq_of_pairwise (le := fun a b : Nat => a < b) (fun a b _ _ h1 h2 => by omega) (List.Pairwise.filter _ List.pairwise_lt_range) R.asc ?_
    refine (List.perm_ext_iff_of_nodup (List.Pairwise.filter _ List.nodup_range) (R.asc.imp fun h => Nat.ne_of_lt h)).mpr fun g => ?_
    rw [List.mem_filter]
    constructor
    · intro a
      exact of_decide_eq_true a.2
    · intro a
      refine ⟨?_, decide_eq_true a⟩
      obtain ⟨r', hr', e'⟩ := List.mem_map.mp a
      refine R.all.mem_iff.mp (List.mem_flatten.mpr ⟨r', hr', ?_⟩)
      have := (R.rg r' hr').ne
      cases r' with
      | nil => simp at this
      | cons b l => simp at e'; simp [e']
  rw [hs, List.map_map]
  refine (List.map_congr_left fun r hr => ?_).trans (List.map_id _)
  have ne := (R.rg r hr).ne
  have hm : r.headD 0 < h.length := List.mem_range.mp (R.all.mem_iff.mp (List.mem_flatten.mpr ⟨r, hr, by
    cases r with
    | nil => simp at ne
    | cons b l => simp⟩))
  obtain ⟨r', hr', k, hk, e⟩ := hf (r.headD 0) hm
  have e2 := nodup_flat R.nodup hr' hr (List.mem_of_getElem? hk) (by
    cases r with
    | nil => simp at ne
    | cons b l => simp)
  subst e2
  have k0 : k = 0 := by
    have h0 : r'[0]? = some (r'.headD 0) := by
      cases r' with
      | nil => simp at ne
      | cons b l => simp
    exact nd_ix (R.rg r' hr').nd hk h0
  show f (r'.headD 0) = r'
  rw [e, k0, rot_zero]

/-! ### walk_left, tables_of -/
def sp_walk_left : Sp := fun vs H Q _ => ∃ (a : Addr) (h r : List Nat) (g : Nat), vs = [.ref a, .int g] ∧ H a = some (.lst (nv h)) ∧ Rg h r ∧ r[0]? = some g ∧ r.length ≤ 20 ∧ RetU (nv r) H Q
theorem su_walk {H : Hp} {a : Addr} {h r : List Nat} {g : Nat} (ha : H a = some (.lst (nv h))) (R : Rg h r) (h0 : r[0]? = some g) (hl : r.length ≤ 20) : SpU sp_walk_left ([.ref a, .int (g : Int)] ++ []) H (nv r) := fun H1 e Q q E => ⟨a, h, r, g, rfl, e a _ ha, R, h0, hl, q⟩
theorem take_next {α : Type} {l : List α} {i : Nat} {x : α} (h : l[i]? = some x) : l.take (i + 1) = l.take i ++ [x] := by
  rw [List.take_add_one, h]
  rfl
section
variable {P : Program} {w : World} {K : PySem.W.Frag} {mg : Str → Option Value} {base : Heap}
theorem ok_walk_left (T : Tx K mg) : FnOk P w K mg base CX0 1 T.f_walk_left T.d_walk_left ["lefts", "guest"] sp_walk_left := by
  refine T.F_walk_left.ok sc_walk_left (fun vs H Q E h => ?_) (fun cdv A outer s H vs Q E hr h => ?_)
  · obtain ⟨a, h, r, g, rfl, _⟩ := h
    rfl
  · obtain ⟨a, h, r, g, rfl, ha, R, h0, hl, k⟩ := h
    refine ⟨_, (pss_cons (ps_set (i := 2) sc_walk_left.nd rfl (Or.inl rfl) (pe_lst (pa_cons (pv 1) pa_nil)))
      (pss_cons (ps_while PassesOwn.never (pt_cmpR op_ne (pe_ix ix_list (pv 0) (pe_ix ix_list (pv 2) (pe_un un_neg pe_int) (fun _ _ => rfl)) (fun _ _ => rfl)) (pv 1) (nomark _)) (pss_one (ps_expr (pe_bm PySem.F.plainAttrs_list PySem.F.slot_list_append PySem.F.type_list_append mt_append (pv 2) (pa_cons (pe_ix ix_list (pv 0) (pe_ix ix_list (pv 2) (pe_un un_neg pe_int) (fun _ _ => rfl)) (fun _ _ => rfl)) pa_nil)))))
      (pss_one (ps_ret (pe_callTy call_tupR (by rfl) T.m_tuple (by decide +kernel) (pa_cons (pv 2) pa_nil)))))), ?_⟩
    refine q_asgL (by walk_at "el") fun p H1 hp e1 h1 => ?_
    refine q_while (fun m σ' H' => ∃ i, σ' = [some (.ref a), some (.int g), some (.ref p)] ∧ i < r.length ∧ Ex H H' ∧ H' p = some (.lst (nv (r.take (i + 1)))) ∧ m = r.length - i) r.length ⟨0, rfl, R.ne, e1, ?_, by omega⟩ ?_
    · rw [h1, take_next h0]
      rfl
    · rintro m σ' H' ⟨i, rfl, hi, e, hl', rfl⟩
      obtain ⟨x, y, hx, hy, hxy⟩ := R.st i hi
      have hlast : atI (nv (r.take (i + 1))) (-1) = some (.int (x : Int)) := by
        rw [take_next hx, nv_app]
        exact atI_last _ _
      have hax := e a _ ha
      have evx : ∀ H2, Ex H' H2 → Ev (tOp (rIxL K) (tVar 0) (tOp (rIxL K) (tVar 2) (tUn (rU fun i => .int (-i)) (tC (.int 1))))) [some (.ref a), some (.int g), some (.ref p)] H2 (.int (y : Int)) := fun H2 e2 =>
        ev_op (ev_var rfl) (ev_op (ev_var rfl) (ev_un ev_c ru_neg) (rv_ixL (sq_of (e2 p _ hl')) hlast)) (rv_ixL (sq_of (e2 a _ hax)) (atI_nat (nv_get hxy)))
      refine ⟨decide (i + 1 < r.length), et_is (et_test (ev_op (evx H' (Ex.refl _)) (ev_var rfl) (rv_ne rfl))) ?_, fun hb H2 e2 => ?_, fun hb H2 e2 => ?_⟩
      · rw [dec_int]
        by_cases hn : i + 1 < r.length
        · rw [Nat.mod_eq_of_lt hn] at hy
          have ne : y ≠ g := fun z => by
            subst z
            have := nd_ix R.nd hy h0
            omega
          have : ((y : Int) == (g : Int)) = false := by
            rw [beq_eq_false_iff_ne]
            omega
          rw [this]
          simp [hn]
        · have e0 : i + 1 = r.length := by omega
          rw [e0, Nat.mod_self, h0] at hy
          have : y = g := (Option.some.inj hy).symm
          subst this
          simp [hn]
      · have hn := of_decide_eq_true hb
        rw [Nat.mod_eq_of_lt hn] at hy
        have hl2 := e2 p _ hl'
        refine ⟨fun σ2 H3 => σ2 = [some (.ref a), some (.int g), some (.ref p)] ∧ Ex H H3 ∧ H3 p = some (.lst (nv (r.take (i + 1 + 1)))), fun σ2 H3 ⟨h1, h2, h3⟩ => ⟨r.length - (i + 1), by omega, i + 1, h1, hn, h2, h3, rfl⟩, ?_⟩
        refine s_app hl2 (ev_var rfl) (evx H2 e2) (by rw [nv_len, List.length_take]; omega) fun H3 e3 => ⟨rfl, Ex.mut (e.trans (e2.trans e3)) hp, ?_⟩
        rw [upd_same, take_next hy, nv_app]
        rfl
      · have hn := of_decide_eq_false hb
        have ht : r.take (i + 1) = r := List.take_of_length_le (by omega)
        rw [ht] at hl'
        exact s_retU (eu_tupOf (ev_var rfl) (sq_of (e2 p _ hl'))) fun q H3 hq e3 h3 => k q H3 (fresh_back (e.trans e2) hq) (e.trans (e2.trans e3)) h3
def sp_tables_of : Sp := fun vs H Q _ => ∃ (a : Addr) (h : List Nat) (rs : List (List Nat)), vs = [.ref a] ∧ H a = some (.lst (nv h)) ∧ Ord h ∧ Rings h rs ∧ (∀ p ws H2, H p = none → Ex H H2 → H2 p = some (.lst ws) → TL H2 ws (rs.map nv) → Q (.ref p) H2)
theorem Rings.short {h : List Nat} {rs : List (List Nat)} (R : Rings h rs) {r : List Nat} (hr : r ∈ rs) : r.length ≤ h.length := by
  have := List.Sublist.length_le (List.sublist_flatten_of_mem hr)
  rw [R.all.length_eq, List.length_range] at this
  exact this
theorem lead_val {r : List Nat} (ne : 0 < r.length) : ∃ (x : Nat) (l : List Int), iz r = (x : Int) :: l ∧ r[0]? = some x ∧ decide (V.int (x : Int) = V.int (l.foldl min (x : Int))) = leads r := by
  cases r with
  | nil => simp at ne
  | cons x l =>
    refine ⟨x, iz l, rfl, rfl, ?_⟩
    obtain ⟨h1, h2⟩ := foldl_min_spec (iz l) (x : Int)
    rw [dec_int]
    unfold leads
    rw [Bool.eq_iff_iff]
    simp only [beq_iff_eq, decide_eq_true_eq]
    constructor
    · intro e y hy
      show x ≤ y
      have := h2 (y : Int) (by
        rcases List.mem_cons.mp hy with q | q
        · rw [q]; simp
        · exact List.mem_cons_of_mem _ (List.mem_map.mpr ⟨y, q, rfl⟩))
      omega
    · intro hle
      have a := h2 (x : Int) (by simp)
      have b : ∀ z ∈ (x : Int) :: iz l, (x : Int) ≤ z := fun z hz => by
        rcases List.mem_cons.mp hz with q | q
        · omega
        · obtain ⟨y, hy, rfl⟩ := List.mem_map.mp q
          have : x ≤ y := hle y (by simp [hy])
          omega
      have := b _ h1
      omega
/-- tables_among: of all guests of a seating -/
def sp_tables_among : Sp := fun vs H Q _ => ∃ (a b : Addr) (h : List Nat) (rs : List (List Nat)), vs = [.ref a, .ref b] ∧ H a = some (.lst (nv h)) ∧ H b = some (.lst (nv (List.range h.length))) ∧ Ord h ∧ Rings h rs ∧ (∀ p ws H2, H p = none → Ex H H2 → H2 p = some (.lst ws) → TL H2 ws (rs.map nv) → Q (.ref p) H2)
theorem ok_tables_among (T : Tx K mg) : FnOk P w K mg base CX0 2 T.f_tables_among T.d_tables_among ["lefts", "guests"] sp_tables_among := by
  refine T.F_tables_among.ok sc_tables_among (fun vs H Q E h => ?_) (fun cdv A outer s H vs Q E hr h => ?_)
  · obtain ⟨a, b, h, rs, rfl, _⟩ := h
    rfl
  · obtain ⟨a, b, h, rs, rfl, ha, hb0, o, R, k⟩ := h
    refine ⟨_, (pss_cons (ps_setLc (i := 3) (own := [("guest", 2)]) (g := (gName 2)) (tt := tYes) rfl sc_tables_among.nd rfl rfl (sw_true rfl rfl rfl (by decide +kernel)) (pi_list (pv 1)) (blkOk_by (own := [("guest", 2)]) (N := n_tables_among) (sc := defScope s_tables_among) (by decide +kernel)) (fun _ _ _ _ _ => (pg_name (i := 2) sc_tables_among.nd rfl (Or.inl rfl))) (fun _ _ _ _ _ => pts_nil) (fun _ _ _ _ _ => (pe_call (ok_walk_left T) (hr.mono (by decide)) (by rfl) T.g_walk_left T.F_walk_left.kp T.b_walk_left .nil pass0 (pa_cons (pv 0) (pa_cons (pv 2) pa_nil)))))
      (pss_one (ps_ret (pe_lc (own := [("walk", 4)]) (g := (gName 4)) rfl sc_tables_among.nd (pi_list (pv 3)) (blkOk_by (own := [("walk", 4)]) (N := n_tables_among) (sc := defScope s_tables_among) (by decide +kernel)) (fun _ _ _ _ _ => (pg_name (i := 4) sc_tables_among.nd rfl (Or.inl rfl))) (fun _ _ _ _ _ => (pts_one (pt_cmpR op_eq (pe_ix (r := rIxT K) ix_tup (pv 4) pe_int (fun _ _ => rfl)) (pe_callB (id := "min") (r := rMinT K) (cr_minT rfl (hu_of hr)) (by rfl) T.m_min (by decide +kernel) (pa_cons (pv 4) pa_nil)) (nomark _)))) (fun _ _ _ _ _ => (pv 4)))))), ?_⟩
    obtain ⟨f, hf⟩ := R.walks
    have ho := o.2
    have e1 := Ex.refl H
    have h1 := ha
    refine q_asgLT (rs := (List.range h.length).map fun g => nv (f g)) ?_ fun p ws H2 hp e2 h2 ht => ?_
    · have g := elt_map (K := K) (te := tCall sp_walk_left [] E0 (tCons (tVar 0) (tCons (tVar 2) tNil))) (tl := tVar 1) (σ := [some (.ref a), some (.ref b), none, none, none]) (H := H) (j := 2) (vs := [2]) (xs := nv (List.range h.length)) (fun g => nv (f g)) (ev_var rfl) (sq_of hb0) (by rw [nv_len, List.length_range]; omega) (fun _ => rfl) fun i x H2 e2 hi0 => ?_
      · rw [nv_len, List.length_range] at g
        exact g
      · have hi : i < h.length := by
          have := (List.getElem?_eq_some_iff.mp hi0).1
          rw [nv_len, List.length_range] at this
          exact this
        have hx : x = .int (i : Int) := by
          have := nv_get (xs := List.range h.length) (i := i) (x := i) (by rw [List.getElem?_range hi])
          rw [this] at hi0
          exact (Option.some.inj hi0).symm
        subst hx
        obtain ⟨r, hr, kk, hk, e⟩ := hf i (by omega)
        have hkl := (List.getElem?_eq_some_iff.mp hk).1
        have hrs := R.short hr
        refine eu_call (by walk_at "ea") ?_
        have := su_walk (a := a) (g := i) (e2 a _ h1) ((R.rg r hr).rot hkl) (by rw [rot_get hkl (R.rg r hr).ne, Nat.zero_add, Nat.mod_eq_of_lt hkl]; exact hk) (by rw [rot_len (by omega)]; omega)
        rw [← e] at this
        exact this
    · have hlen := ht.len
      simp at hlen
      refine s_retLT (rs := rs.map nv) ?_ fun q vs H3 hq e3 h3 ht3 => k q vs H3 (fresh_back (e1.trans e2) hq) (e1.trans (e2.trans e3)) h3 ht3
      have g := elt_filter (K := K) (σ := [some (.ref a), some (.ref b), none, some (.ref p), none]) (H := H2) (tl := tVar 3) (j := 4) (vs := [4]) (t := tTest (tOp rEq (tOp (rIxT K) (tVar 4) (tC (.int 0))) (tCB (rMinT K) (tCons (tVar 4) tNil)))) (xs := ws) (rs := (List.range h.length).map fun g => nv (f g))
        (fun r => leads (r.map fun v => match v with | .int z => z.toNat | _ => 0)) (ev_var rfl) (sq_of h2) ht (by omega) (fun _ => rfl) (fun _ => rfl) fun b r H3 e3 hr hb => ?_
      · have e : ((List.range h.length).map fun g => nv (f g)).filter (fun r => leads (r.map fun v => match v with | .int z => z.toNat | _ => 0)) = rs.map nv := by
          rw [show ((List.range h.length).map fun g => nv (f g)) = ((List.range h.length).map f).map nv by rw [List.map_map]; rfl, List.filter_map]
          congr 1
          have : ((fun r : List V => leads (r.map fun v => match v with | .int z => z.toNat | _ => 0)) ∘ nv) = leads := by
            funext r
            show leads ((nv r).map _) = leads r
            rw [nv_eq, List.map_map]
            congr 1
            refine (List.map_congr_left fun x _ => ?_).trans (List.map_id _)
            simp
          rw [this]
          exact R.lead hf
        rw [e] at g
        exact g
      · obtain ⟨g, hg, rfl⟩ := List.mem_map.mp hr
        obtain ⟨r, hr, kk, hk, e⟩ := hf g (List.mem_range.mp hg)
        have hkl := (List.getElem?_eq_some_iff.mp hk).1
        have ne : 0 < (f g).length := by rw [e, rot_len (by omega)]; exact (R.rg r hr).ne
        obtain ⟨x, l, i1, i2, i3⟩ := lead_val ne
        have e5 : leads ((nv (f g)).map fun v => match v with | .int z => z.toNat | _ => 0) = leads (f g) := by
          rw [nv_eq, List.map_map]
          congr 1
          refine (List.map_congr_left fun x _ => ?_).trans (List.map_id _)
          simp
        rw [e5, ← i3]
        have hb2 : SqT K H3 b (((x : Int) :: l).map V.int) := st_of (by rw [hb]; unfold nv; rw [i1])
        exact et_test (ev_op (ev_op (ev_var rfl) ev_c (rv_ixT (st_of hb) (atI_nat (j := 0) (nv_get i2)))) (ev_minT (ev_var rfl) hb2) (rv_eq rfl))
theorem elt_among {H : Hp} {a : Addr} {h : List Nat} {rs : List (List Nat)} {σ : L2.St} {ta tb : TE} {E : XK} (h1 : Ev ta σ H (.ref a)) (h2 : EvL tb σ H (nv (List.range h.length))) (ha : H a = some (.lst (nv h))) (o : Ord h) (R : Rings h rs) : EvLT (tCall sp_tables_among [] E (tCons ta (tCons tb tNil))) σ H (rs.map nv) := fun H1 e Q q => h1 H1 e _ fun H2 e2 => h2 H2 (e.trans e2) _ fun b H3 nb e3 hb => ⟨a, b, h, rs, rfl, (e.trans (e2.trans e3)) a _ ha, hb, o, R, fun p ws H4 hp e4 h4 t => q p ws H4 (fresh_back (e2.trans e3) hp) ((e2.trans e3).trans e4) h4 t⟩
theorem ok_tables_of (T : Tx K mg) : FnOk P w K mg base CX0 5 T.f_tables_of T.d_tables_of ["seating"] sp_tables_of := by
  refine T.F_tables_of.ok sc_tables_of (fun vs H Q E h => ?_) (fun cdv A outer s H vs Q E hr h => ?_)
  · obtain ⟨a, h, rs, rfl, _⟩ := h
    rfl
  · obtain ⟨a, h, rs, rfl, ha, o, R, k⟩ := h
    refine ⟨_, (pss_cons (ps_expr (pe_call (ok_check_seating T) (hr.mono (by decide)) (by rfl) T.g_check_seating T.F_check_seating.kp T.b_check_seating .nil pass0 (pa_cons (pv 0) pa_nil)))
      (pss_one (ps_ret (pe_call (ok_tables_among T) (hr.mono (by decide)) (by rfl) T.g_tables_among T.F_tables_among.kp T.b_tables_among .nil pass0 (pa_cons (pv 0) (pa_cons (pe_listRg rfl (by rfl) T.m_list (prg_1 (by rfl) T.m_range (pe_callB call_lenR (by rfl) T.m_len (by decide +kernel) (pa_cons (pv 0) pa_nil)))) pa_nil)))))), ?_⟩
    have ho := o.2
    refine q_drop (by walk_at "ev") fun H1 e1 => ?_
    have h1 := e1 a _ ha
    refine s_retLT (rs := rs.map nv) (elt_among (ev_var rfl) ?_ h1 o R) fun q vs H3 hq e3 h3 ht3 => k q vs H3 (fresh_back e1 hq) (e1.trans e3) h3 ht3
    have g := el_rg1 (σ := start n_tables_of [.ref a]) (ev_len (K := K) (ta := tVar 0) (ev_var (i := 0) (v := .ref a) rfl) (sq_of h1)) (RgOk.of_le (by decide) (by rw [nv_len]; omega) (by decide) (by rw [nv_len]; omega))
    rw [nv_len, range_iz] at g
    exact g
end

local macro_rules | `(tactic| walk_at "call") => `(tactic| (with_reducible exact sv_whole))
local macro_rules | `(tactic| walk_at "call") => `(tactic| ((with_reducible refine' sv_ord ?c1 ?c2); (case c1 => assumption); (case c2 => assumption)))

/-- a table at b: a list or a tuple -/
def Tb (H : Hp) (v : V) (r : List Nat) : Prop := ∃ b, v = .ref b ∧ (H b = some (.lst (nv r)) ∨ H b = some (.tup (nv r)))
theorem Tb.ex {H H' : Hp} {v : V} {r : List Nat} (e : Ex H H') (h : Tb H v r) : Tb H' v r := by
  obtain ⟨b, rfl, h | h⟩ := h
  · exact ⟨b, rfl, .inl (e b _ h)⟩
  · exact ⟨b, rfl, .inr (e b _ h)⟩
theorem nv_set {c : List Nat} {x y : Nat} : (nv c).set x (.int y) = nv (c.set x y) := by
  rw [nv_eq, nv_eq, List.map_set]
theorem nv_rep (n : Nat) : (List.replicate n [V.int 0]).flatten = nv (List.replicate n 0) := by
  rw [nv_eq, List.map_replicate]
  induction n with
  | zero => rfl
  | succ k ih =>
    rw [List.replicate_succ, List.flatten_cons, ih, List.replicate_succ]
    rfl
theorem nv_inj {a b : List Nat} (h : a = b) : nv a = nv b := by rw [h]
def sp_seating_with : Sp := fun vs H Q _ => ∃ (a : Addr) (ws : List V) (rs : List (List Nat)) (h : List Nat), vs = [.ref a] ∧ H a = some (.lst ws) ∧ Paired (Tb H) ws rs ∧ rs.flatten.Perm (List.range h.length) ∧ (∀ r ∈ rs, Rg h r) ∧ h.length ≤ 20 ∧ RetL (nv h) H Q
theorem paired_get {α β : Type} {F : α → β → Prop} : ∀ {l : List α} {m : List β} {i : Nat} {x : α}, Paired F l m → l[i]? = some x → ∃ y, m[i]? = some y ∧ F x y
  | _, _, 0, x, .cons h t, hx => ⟨_, rfl, (Option.some.inj (by simpa using hx)) ▸ h⟩
  | _, _, i + 1, x, .cons h t, hx => by
    obtain ⟨y, h1, h2⟩ := paired_get (i := i) t (by simpa using hx)
    exact ⟨y, by simpa using h1, h2⟩
  | _, _, 0, x, .nil, hx => by simp at hx
  | _, _, i + 1, x, .nil, hx => by simp at hx
theorem sum_len : ∀ rs : List (List Nat), ((rs.map fun r => (r.length : Int))).sum = (rs.flatten.length : Int)
  | [] => rfl
  | r :: l => by
    rw [List.map_cons, List.sum_cons, sum_len l, List.flatten_cons, List.length_append]
    omega
theorem flat_next {rs : List (List Nat)} {i : Nat} {r : List Nat} (h : rs[i]? = some r) : (rs.take (i + 1)).flatten = (rs.take i).flatten ++ r := by
  rw [take_next h, List.flatten_append]
  simp

/-! ### a list of new lists -/
structure LL (H0 : Hp) (p : Addr) (H : Hp) (bs : List Addr) (rs : List (List Nat)) : Prop where
  self : H p = some (.lst (bs.map V.ref))
  nd : bs.Nodup
  np : p ∉ bs
  fp : H0 p = none
  fr : ∀ b ∈ bs, H0 b = none
  len : bs.length = rs.length
  at_ : ∀ (i : Nat) (b : Addr) (r : List Nat), bs[i]? = some b → rs[i]? = some r → H b = some (.lst (nv r))
theorem LL.ex {H0 H H' : Hp} {p : Addr} {bs : List Addr} {rs : List (List Nat)} (L : LL H0 p H bs rs) (e : Ex H H') : LL H0 p H' bs rs :=
  ⟨e p _ L.self, L.nd, L.np, L.fp, L.fr, L.len, fun i b r h1 h2 => e b _ (L.at_ i b r h1 h2)⟩
theorem LL.get {H0 H : Hp} {p : Addr} {bs : List Addr} {rs : List (List Nat)} (L : LL H0 p H bs rs) {i : Nat} {r : List Nat} (h : rs[i]? = some r) : ∃ b, bs[i]? = some b ∧ H b = some (.lst (nv r)) ∧ b ≠ p ∧ H0 b = none := by
  have hi := (List.getElem?_eq_some_iff.mp h).1
  have hb : bs[i]? = some (bs[i]'(by rw [L.len]; exact hi)) := List.getElem?_eq_getElem _
  refine ⟨_, hb, L.at_ i _ r hb h, fun z => L.np ?_, L.fr _ (List.mem_of_getElem? hb)⟩
  rw [← z]
  exact List.mem_of_getElem? hb
theorem LL.nil {H0 H : Hp} {p : Addr} (h : H p = some (.lst [])) (fp : H0 p = none) : LL H0 p H [] [] :=
  ⟨h, List.nodup_nil, by simp, fp, by simp, rfl, fun i b r h1 => by simp at h1⟩
theorem LL.push {H0 H H' : Hp} {p q : Addr} {bs : List Addr} {rs : List (List Nat)} {r : List Nat} (L : LL H0 p H bs rs) (e0 : Ex H0 H) (e : Ex H H') (hq : H q = none) (h' : H' q = some (.lst (nv r))) : LL H0 p (upd H' p (.lst (bs.map V.ref ++ [.ref q]))) (bs ++ [q]) (rs ++ [r]) := by
  have nq : q ∉ bs := fun hm => by
    obtain ⟨i, hi⟩ := List.mem_iff_getElem?.mp hm
    have hl := (List.getElem?_eq_some_iff.mp hi).1
    have := L.at_ i q _ hi (List.getElem?_eq_getElem (by rw [← L.len]; exact hl))
    rw [hq] at this
    cases this
  have qp : q ≠ p := fun z => by
    have := L.self
    rw [← z, hq] at this
    cases this
  refine ⟨by rw [upd_same]; simp, ?_, ?_, L.fp, ?_, by simp [L.len], ?_⟩
  · exact List.nodup_append.mpr ⟨L.nd, by simp, fun a ha b hb z => nq (by
      rw [List.mem_singleton] at hb
      rw [← hb, ← z]
      exact ha)⟩
  · simp [L.np, Ne.symm qp]
  · intro b hb
    rcases List.mem_append.mp hb with h | h
    · exact L.fr b h
    · rw [List.mem_singleton] at h
      rw [h]
      exact fresh_back e0 hq
  · intro i b s h1 h2
    by_cases hi : i < bs.length
    · rw [List.getElem?_append_left hi] at h1
      rw [List.getElem?_append_left (by rw [← L.len]; exact hi)] at h2
      have hb := L.at_ i b s h1 h2
      rw [upd_ne (fun z => L.np (by rw [← z]; exact List.mem_of_getElem? h1))]
      exact e b _ hb
    · rw [List.getElem?_append_right (by omega)] at h1
      rw [List.getElem?_append_right (by rw [← L.len]; omega)] at h2
      have i0 : i - bs.length = 0 := by
        have := (List.getElem?_eq_some_iff.mp h1).1
        simp at this
        omega
      rw [i0] at h1
      rw [← L.len, i0] at h2
      have b1 : q = b := Option.some.inj h1
      have r1 : r = s := Option.some.inj h2
      rw [← b1, ← r1, upd_ne qp]
      exact h'
theorem LL.put {H0 H : Hp} {p b : Addr} {bs : List Addr} {rs : List (List Nat)} {r : List Nat} {i : Nat} (L : LL H0 p H bs rs) (hb : bs[i]? = some b) : LL H0 p (upd H b (.lst (nv r))) bs (rs.set i r) := by
  have bp : p ≠ b := fun z => L.np (by rw [z]; exact List.mem_of_getElem? hb)
  refine ⟨by rw [upd_ne bp]; exact L.self, L.nd, L.np, L.fp, L.fr, by simp [L.len], fun j c s h1 h2 => ?_⟩
  by_cases hj : i = j
  · subst hj
    have hl : i < rs.length := by rw [← L.len]; exact (List.getElem?_eq_some_iff.mp hb).1
    rw [List.getElem?_set_self hl] at h2
    rw [hb] at h1
    rw [← Option.some.inj h1, ← Option.some.inj h2, upd_same]
  · rw [List.getElem?_set_ne hj] at h2
    have : c ≠ b := fun z => by
      subst z
      exact hj (nd_ix L.nd hb h1)
    rw [upd_ne this]
    exact L.at_ j c s h1 h2
theorem LL.tb {H0 H : Hp} {p : Addr} {bs : List Addr} {rs : List (List Nat)} (L : LL H0 p H bs rs) : Paired (Tb H) (bs.map V.ref) rs := by
  have : ∀ (bs : List Addr) (rs : List (List Nat)), bs.length = rs.length → (∀ (i : Nat) (b : Addr) (r : List Nat), bs[i]? = some b → rs[i]? = some r → H b = some (.lst (nv r))) → Paired (Tb H) (bs.map V.ref) rs := fun bs => by
    induction bs with
    | nil => 
      intro rs hl _
      cases rs with
      | nil => exact .nil
      | cons r l => simp at hl
    | cons b bs ih =>
      intro rs hl ha
      cases rs with
      | nil => simp at hl
      | cons r l =>
        refine .cons ⟨b, rfl, .inl (ha 0 b r rfl rfl)⟩ (ih l (by simpa using hl) fun i c s h1 h2 => ha (i + 1) c s (by simpa using h1) (by simpa using h2))
  exact this bs rs L.len L.at_
/-- xs.append of a list among others -/
theorem set_end {α : Type} (l : List α) (x y : α) : (l ++ [x]).set l.length y = l ++ [y] := by
  rw [List.set_append_right _ _ (Nat.le_refl _)]
  simp
theorem paired_imp {α β : Type} {F G : α → β → Prop} (f : ∀ a b, F a b → G a b) : ∀ {l : List α} {m : List β}, Paired F l m → Paired G l m
  | _, _, .nil => .nil
  | _, _, .cons h t => .cons (f _ _ h) (paired_imp f t)
theorem list_end {α : Type} (l : List α) : l = [] ∨ ∃ i x, l = i ++ [x] := by
  rcases List.eq_nil_or_concat l with h | ⟨i, x, h⟩
  · exact .inl h
  · exact .inr ⟨i, x, by simpa using h⟩
/-- not xs, of a list -/
theorem et_tru {K : PySem.W.Frag} {σ : L2.St} {H : Hp} {ta : TE} {a : Addr} {xs : List V} (h : Ev ta σ H (.ref a)) (hx : SqL K H a xs) : EvT (fun σ H Q => ta σ H fun x H' => ∃ k, TruV K x H' k ∧ Q k H') σ H (!xs.isEmpty) := fun H1 e Q q => h H1 e _ fun H2 e2 => ⟨_, .inl ⟨xs, ex_l (e.trans e2) hx, rfl⟩, q H2 e2⟩

/-! ### is_table, are_tables, seating_of -/
section
variable {K : PySem.W.Frag} {σ : L2.St} {H H' : Hp} {ta tb te tl : TE} {t : TT}
theorem el_lcT {a : Addr} {xs : List V} {tl : TE} {j : Nat} {vs : List Nat} (f : Nat → Bool) (v : Nat → V) (h : Ev tl σ H (.ref a)) (hx : SqT K H a xs) (hz : xs.length ≤ 40000) (hw : ∀ x, wipe ((wipe σ vs).set j (some x)) vs = wipe σ vs)
    (ht : ∀ (i : Nat) (x : V) H1, Ex H H1 → xs[i]? = some x → EvT t ((wipe σ vs).set j (some x)) H1 (f i)) (he : ∀ (i : Nat) (x : V) H1, Ex H H1 → xs[i]? = some x → f i = true → Ev te ((wipe σ vs).set j (some x)) H1 (v i)) : EvL (tLc (iTup K tl) (gName j) t te vs) σ H (given xs.length f v) := fun H0 e Q q => h H0 e _ fun H1 e1 =>
  ⟨a, rfl, ⟨xs, ex_t (e.trans e1) hx⟩, fun Dl hD => lc_tup (xs := xs) (Cw H1 f v Dl) ⟨hD, Ex.new hD, upd_same⟩ (fun i H' _ p => ex_t ((e.trans e1).trans p.2.1) hx)
    (fun i x H' hi p => ⟨hw x, cw_turn p (by have := (List.getElem?_eq_some_iff.mp hi).1; omega) (ht i x H1 (e.trans e1) hi) (fun hf => he i x H1 (e.trans e1) hi hf)⟩) (fun H' p => q Dl H' (fresh_back e1 p.1) (e1.trans p.2.1) p.2.2)⟩
theorem given_at {n : Nat} (v : Nat → V) : given n (fun _ => true) v = (List.range n).map v := by
  unfold given
  rw [List.filter_eq_self.mpr fun _ _ => rfl]
/-- a call whose argument is a new list -/
theorem ev_call1L {sp : Sp} {dvs xs : List V} {v : V} {E : XK} (h : EvL te σ H xs) (hs : ∀ p H1, Ex H H1 → H1 p = some (.lst xs) → SpV sp ([.ref p] ++ dvs) H1 v) : Ev (tCall sp dvs E (tCons te tNil)) σ H v := fun H1 e Q q =>
  h H1 e _ fun p H2 _ e2 h2 => hs p H2 (e.trans e2) h2 H2 (Ex.refl _) Q (fun H3 e3 => q H3 (e2.trans e3)) E
theorem el_call1L {sp : Sp} {dvs xs ys : List V} {E : XK} (h : EvL te σ H xs) (hs : ∀ p H1, Ex H H1 → H1 p = some (.lst xs) → SpL sp ([.ref p] ++ dvs) H1 ys) : EvL (tCall sp dvs E (tCons te tNil)) σ H ys := fun H1 e Q q =>
  h H1 e _ fun p H2 _ e2 h2 => hs p H2 (e.trans e2) h2 H2 (Ex.refl _) Q (fun l H3 hl e3 h3 => q l H3 (fresh_back e2 hl) (e2.trans e3) h3) E
end

/-! ### _law_mixed, _law_entries -/
theorem q_parLL {σ : L2.St} {H : Hp} {ta tb : TE} {tz : TS} {D : Ends} {i j : Nat} {xs ys : List V} (ha : EvL ta σ H xs) (hb : EvL tb σ H ys) (k : ∀ p q H1, H p = none → H q = none → p ≠ q → Ex H H1 → H1 p = some (.lst xs) → H1 q = some (.lst ys) → tz D ((σ.set i (some (.ref p))).set j (some (.ref q))) H1) :
    tSeq (tPar i j (tCons ta (tCons tb tNil))) tz D σ H := ha H (Ex.refl H) _ fun p H1 hp e1 h1 => hb H1 e1 _ fun q H2 hq e2 h2 => ⟨_, _, rfl, k p q H2 hp (fresh_back e1 hq) (ne_of_none h1 hq) (e1.trans e2) (e2 p _ h1) h2⟩
theorem eqv_nil (xs : List V) (ns : List Int) : PyData.eqv (.list (ns.map PyData.int)) (.list []) = ns.isEmpty := by
  cases ns with
  | nil => decide
  | cons n l => rfl
theorem nv_erase (L : List Nat) (k : Nat) : (nv L).eraseIdx k = nv (L.eraseIdx k) := by
  rw [nv_eq, nv_eq, List.eraseIdx_eq_take_drop_succ, List.eraseIdx_eq_take_drop_succ, List.map_append, List.map_take, List.map_drop]
theorem shaped_nil : SeqAt.shaped (.list []) = true := by decide
theorem s_appE {K : PySem.W.Frag} {σ : L2.St} {H : Hp} {ta te : TE} {D : Ends} {l : Addr} {xs : List V} (hl : H l = some (.lst xs)) (ha : Ev ta σ H (.ref l)) (k : ∀ H1, Ex H H1 → te σ H1 fun v H2 => rAppend (.ref l) [v] H2 fun _ H3 => D.nx σ H3) : tDrop (tBM K "list" rAppend ta (tCons te tNil)) D σ H :=
  ha H (Ex.refl H) _ fun H1 e1 => ⟨Or.inl ⟨rfl, xs, sq_of (e1 l _ hl)⟩, k H1 e1⟩
theorem t_popAt {K : PySem.W.Frag} {σ : L2.St} {H : Hp} {ta te : TE} {Q : VK} {l : Addr} {xs : List V} (hl : H l = some (.lst xs)) (ha : Ev ta σ H (.ref l)) (k : ∀ H1, Ex H H1 → te σ H1 fun v H2 => rPopAt (.ref l) [v] H2 Q) : tBM K "list" rPopAt ta (tCons te tNil) σ H Q :=
  ha H (Ex.refl H) _ fun H1 e1 => ⟨Or.inl ⟨rfl, xs, sq_of (e1 l _ hl)⟩, k H1 e1⟩
theorem seq_at {j n : Nat} (h : j < n) : seqIndex? (j : Int) n = some j := by
  unfold seqIndex?
  have h1 : ¬ ((j : Int) < 0) := by omega
  have h2 : (0 : Int) ≤ j := by omega
  have h3 : (j : Int) < n := by omega
  simp [h1, h2, h3]
theorem erase_perm {L : List Nat} {j : Nat} (hj : j < L.length) : (L[j] :: L.eraseIdx j).Perm L := by
  have e2 : L.take j ++ L[j] :: L.drop (j + 1) = L := by rw [← List.drop_eq_getElem_cons hj, List.take_append_drop]
  rw [List.eraseIdx_eq_take_drop_succ]
  exact List.perm_middle.symm.trans (List.Perm.of_eq e2)

/-! ### _law_entries -/
def EvPA (p : Addr) (k : Nat) (ta : TA) (σ : L2.St) (H0 : Hp) (C : List V → Prop) : Prop := ∀ n H1, Ex H0 H1 → Po p n H1 → n + k ≤ 1000000000 →
  ∀ Q : List V → Hp → Prop, (∀ vs H2, C vs → Po p (n + k) H2 → Ex (Hm p H1) H2 → Q vs H2) → ta σ H1 Q
section
variable {K : PySem.W.Frag} {σ : L2.St} {H0 H : Hp} {p : Addr} {k k1 k2 : Nat} {te ta tb : TE} {R Ra Rb : V → Hp → Prop} {tr : TA} {A : V → Prop} {B C : List V → Prop}
theorem epa_nil : EvPA p 0 tNil σ H0 (fun vs => vs = []) := fun n H1 e hp _ Q q => q [] H1 rfl hp (hm_of (Ex.refl _))
theorem epa_cons (h0 : H0 p = none) (h : EvP p k1 te σ H0 (fun v _ => A v)) (hr : EvPA p k2 tr σ H0 B) : EvPA p (k1 + k2) (tCons te tr) σ H0 (fun vs => ∃ v r, vs = v :: r ∧ A v ∧ B r) := fun n H1 e hp hn Q q =>
  h n H1 e hp (by omega) _ fun v H2 hv p2 e2 => hr (n + k1) H2 (hm_next h0 e e2) p2 (by omega) _ fun vs H3 hvs p3 e3 => q (v :: vs) H3 ⟨v, vs, rfl, hv, hvs⟩ (by rw [← Nat.add_assoc]; exact p3) (hm_trans e2 e3)
theorem epa_pure {v : V} (h0 : H0 p = none) (h : Ev te σ H0 v) (hr : EvPA p k2 tr σ H0 B) : EvPA p (0 + k2) (tCons te tr) σ H0 (fun vs => ∃ x r, vs = x :: r ∧ x = v ∧ B r) := epa_cons (A := fun x => x = v) h0 (ep_ev h) hr
theorem ep_lst (h : EvPA p k tr σ H0 C) (hs : ∀ vs, C vs → vs.length ≤ 100000) : EvP p k (tLst tr) σ H0 (fun x H => ∃ l vs, l ≠ p ∧ x = .ref l ∧ H l = some (.lst vs) ∧ C vs) := fun n H1 e hp hn Q q =>
  h n H1 e hp hn _ fun vs H2 c p2 e2 => ⟨sz_of (hs vs c), fun l hl => q _ _ ⟨l, vs, p2.ne hl, rfl, upd_same, c⟩ (p2.ex (Ex.new hl)) (hm_trans e2 (hm_of (Ex.new hl)))⟩
theorem stb_lst : Stb p (fun x H => ∃ l vs, l ≠ p ∧ x = .ref l ∧ H l = some (.lst vs) ∧ C vs) := fun v H H' ⟨l, vs, ne, e, h, c⟩ s => ⟨l, vs, ne, e, hm_at s ne h, c⟩
theorem ep_ix (h0 : H0 p = none) {ix : V → Prop} (ha : EvP p k1 (tLst tr) σ H0 (fun x H => ∃ l vs, l ≠ p ∧ x = .ref l ∧ H l = some (.lst vs) ∧ C vs)) (hb : EvP p k2 tb σ H0 (fun v _ => ix v)) (hat : ∀ vs v, C vs → ix v → ∃ i z, v = .int i ∧ atI vs i = some z ∧ A z) :
    EvP p (k1 + k2) (tOp (rIxL K) (tLst tr) tb) σ H0 (fun v _ => A v) := ep_op h0 ha hb stb_lst stb_c fun x y H hx hy => by
  obtain ⟨l, vs, ne, rfl, hl, c⟩ := hx
  obtain ⟨i, z, rfl, hz, az⟩ := hat vs y c hy
  exact ⟨z, az, rv_ixL (sq_of hl) hz⟩
theorem ep_isZ (h0 : H0 p = none) (h : EvP p k te σ H0 (fun v _ => ∃ r, v = .int r ∧ 0 ≤ r)) : EvP p (k + 0) (tCB rIntB (tCons (tOp rEq te (tC (.int 0))) tNil)) σ H0 (fun v _ => v = .int 0 ∨ v = .int 1) := fun n H1 e hp hn Q q =>
  (ep_op (k1 := k) (k2 := 0) (R := fun v _ => ∃ b, v = .bl b) h0 h (ep_ev (v := .int 0) ev_c) stb_c stb_c fun x y H ⟨r, e1, _⟩ e2 => ⟨.bl (decide (x = y)), ⟨_, rfl⟩, by
    subst e1
    subst e2
    exact rv_eq rfl⟩) n H1 e hp hn _ fun v H2 ⟨b, hb⟩ p2 e2 => ⟨b, by rw [hb], q _ H2 (by cases b <;> simp) p2 e2⟩
theorem pq_parL {n i j : Nat} {D : Ends} {tz : TS} {ys : List V} (h : EvP p k ta σ H0 R) (e : Ex H0 H) (hp : Po p n H) (hn : n + k ≤ 1000000000) (hb : ∀ H1, EvL tb σ H1 ys) (q : ∀ v l H2 H3, R v H2 → H2 l = none → Ex H2 H3 → H3 l = some (.lst ys) → Po p (n + k) H3 → Ex (Hm p H) H2 → tz D ((σ.set i (some v)).set j (some (.ref l))) H3) :
    tSeq (tPar i j (tCons ta (tCons tb tNil))) tz D σ H := h n H e hp hn _ fun v H2 hv p2 e2 => hb H2 H2 (Ex.refl _) _ fun l H3 hl e3 h3 => ⟨_, _, rfl, q v l H2 H3 hv hl e3 h3 (p2.ex e3) e2⟩
end

/-! ### _law_rings -/
section
variable {K : PySem.W.Frag} {σ : L2.St} {H : Hp} {ta te : TE} {tr : TA} {D : Ends}
theorem nv_flat (r : List Nat) : (nv r).all flatV = true := by
  rw [nv_eq, List.all_map, List.all_eq_true]
  intro x _
  rfl
theorem nv_in (r : List Nat) (x : Nat) : inV (.int x) (nv r) = decide (x ∈ r) := by
  unfold inV
  rw [nv_eq, List.any_map, Bool.eq_iff_iff, List.any_eq_true, decide_eq_true_iff]
  constructor
  · rintro ⟨y, hy, e⟩
    have : ((y : Int) == (x : Int)) = true := e
    have := eq_of_beq this
    have : y = x := by omega
    exact this ▸ hy
  · intro h
    exact ⟨x, h, beq_self_eq_true _⟩
theorem s_dropBM {r : V → List V → Hp → VK → Prop} {l : Addr} {xs : List V} (hl : H l = some (.lst xs)) (ha : Ev ta σ H (.ref l)) (k : ∀ H1, Ex H H1 → tr σ H1 fun vs H2 => r (.ref l) vs H2 fun _ H3 => D.nx σ H3) : tDrop (tBM K "list" r ta tr) D σ H :=
  ha H (Ex.refl H) _ fun H1 e1 => ⟨Or.inl ⟨rfl, xs, sq_of (e1 l _ hl)⟩, k H1 e1⟩
theorem ev_index {l : Addr} {r : List Nat} {x : Nat} (hl : H l = some (.lst (nv r))) (ha : Ev ta σ H (.ref l)) (he : Ev te σ H (.int (x : Int))) (hx : x ∈ r) : Ev (tBM K "list" (rIndex K) ta (tCons te tNil)) σ H (.int (r.idxOf x : Nat)) := fun H1 e Q q =>
  ha H1 e _ fun H2 e2 => ⟨Or.inl ⟨rfl, _, sq_of (e2 l _ (e l _ hl))⟩, he H2 (e.trans e2) _ fun H3 e3 => by
    have hlt := List.idxOf_lt_length_of_mem hx
    refine ⟨l, nv r, .int x, r.idxOf x, .int x, rfl, rfl, sq_of (e3 l _ (e2 l _ (e l _ hl))), rfl, nv_flat r, nv_get (by rw [List.getElem?_eq_getElem hlt, List.getElem_idxOf hlt]), beq_self_eq_true _, fun m z hm hz => ?_, q H3 (e2.trans e3)⟩
    have hml : m < r.length := by omega
    have := nv_get (List.getElem?_eq_getElem hml)
    rw [hz] at this
    have ez := Option.some.inj this
    subst ez
    show ((r[m] : Int) == (x : Int)) = false
    rw [beq_eq_false_iff_ne]
    intro ee
    have ee' : r[m] = x := by omega
    have h1 : r.idxOf x ≤ m := by
      have hh : r.findIdx (· == x) ≤ m := by
        refine Nat.le_of_not_lt fun hlt2 => ?_
        have := List.not_of_lt_findIdx hlt2
        rw [ee'] at this
        simp at this
      exact hh
    omega⟩
end

def Lb (H : Hp) (v : V) (r : List Nat) : Prop := ∃ b, v = .ref b ∧ H b = some (.lst (nv r))
theorem Lb.ex {H H' : Hp} {v : V} {r : List Nat} (e : Ex H H') (h : Lb H v r) : Lb H' v r := by
  obtain ⟨b, rfl, h⟩ := h
  exact ⟨b, rfl, e b _ h⟩

/-! ### _law_cut -/
def EvLB (te : TE) (σ : L2.St) (H : Hp) (rs : List (List Nat)) : Prop := ∀ H1, Ex H H1 → ∀ Q : VK, (∀ p vs H2, H1 p = none → Ex H1 H2 → H2 p = some (.lst vs) → Paired (Lb H2) vs rs → Q (.ref p) H2) → te σ H1 Q
theorem s_retLB {te : TE} {σ : L2.St} {H : Hp} {D : Ends} {rs : List (List Nat)} (h : EvLB te σ H rs) (k : ∀ p vs H1, H p = none → Ex H H1 → H1 p = some (.lst vs) → Paired (Lb H1) vs rs → D.rt (.ref p) H1) : tRet te D σ H := h H (Ex.refl H) _ k
def Lc (Dl : Addr) (H : Hp) (v : V) (r : List Nat) : Prop := ∃ b, v = .ref b ∧ b ≠ Dl ∧ H b = some (.lst (nv r))
theorem Lc.ex {Dl : Addr} {H H' : Hp} {v : V} {r : List Nat} (e : Ex H H') (h : Lc Dl H v r) : Lc Dl H' v r := by
  obtain ⟨b, rfl, n, h⟩ := h
  exact ⟨b, rfl, n, e b _ h⟩
theorem Lc.upd {Dl : Addr} {H : Hp} {o : HO} {v : V} {r : List Nat} (h : Lc Dl H v r) : Lc Dl (upd H Dl o) v r := by
  obtain ⟨b, rfl, n, h⟩ := h
  exact ⟨b, rfl, n, by rw [upd_ne n]; exact h⟩
theorem Lc.lb {Dl : Addr} {H : Hp} {v : V} {r : List Nat} (h : Lc Dl H v r) : Lb H v r := by
  obtain ⟨b, rfl, n, h⟩ := h
  exact ⟨b, rfl, h⟩

/-! ### _law_right: rules -/
theorem LL.lb {H0 H : Hp} {p : Addr} {bs : List Addr} {rs : List (List Nat)} (L : LL H0 p H bs rs) : Paired (Lb H) (bs.map V.ref) rs := by
  have : ∀ (bs : List Addr) (rs : List (List Nat)), bs.length = rs.length → (∀ (i : Nat) (b : Addr) (r : List Nat), bs[i]? = some b → rs[i]? = some r → H b = some (.lst (nv r))) → Paired (Lb H) (bs.map V.ref) rs := fun bs => by
    induction bs with
    | nil =>
      intro rs hl _
      cases rs with
      | nil => exact .nil
      | cons r l => simp at hl
    | cons b bs ih =>
      intro rs hl ha
      cases rs with
      | nil => simp at hl
      | cons r l => exact .cons ⟨b, rfl, ha 0 b r rfl rfl⟩ (ih l (by simpa using hl) fun i c s h1 h2 => ha (i + 1) c s (by simpa using h1) (by simpa using h2))
  exact this bs rs L.len L.at_
theorem LL.weak {H0 H1 H : Hp} {p : Addr} {bs : List Addr} {rs : List (List Nat)} (L : LL H1 p H bs rs) (e : Ex H0 H1) : LL H0 p H bs rs := ⟨L.self, L.nd, L.np, fresh_back e L.fp, fun b hb => fresh_back e (L.fr b hb), L.len, L.at_⟩
def di (r : List Nat) : PyData := .list ((iz r).map PyData.int)
def dt (r : List Nat) : PyData := .tuple ((iz r).map PyData.int)
theorem canLay_ints : ∀ ms : List Int, PyData.canLayAll0 (ms.map PyData.int) = true
  | [] => rfl
  | m :: r => by simp [PyData.canLayAll0, PyData.canLay0, canLay_ints r]
theorem depth_ints : ∀ ms : List Int, PyData.depthAll (ms.map PyData.int) = 0
  | [] => rfl
  | m :: r => by simp [PyData.depthAll, PyData.depth, depth_ints r]
theorem canLay_dts : ∀ rs : List (List Nat), PyData.canLayAll0 (rs.map dt) = true
  | [] => rfl
  | m :: r => by simp [PyData.canLayAll0, PyData.canLay0, dt, canLay_ints, canLay_dts r]
theorem depth_dts : ∀ rs : List (List Nat), PyData.depthAll (rs.map dt) ≤ 1
  | [] => by simp [PyData.depthAll]
  | m :: r => by
    have := depth_dts r
    simp [PyData.depthAll, PyData.depth, dt, depth_ints]
    omega
theorem shaped_two (r s : List Nat) : SeqAt.shaped (.list [di r, di s]) = true := by
  simp [SeqAt.shaped, PyData.canLay0, PyData.canLayAll0, di, canLay_ints, PyData.depth, PyData.depthAll, depth_ints]
theorem shaped_kept (r : List Nat) (rs : List (List Nat)) : SeqAt.shaped (.list [di r, .list (rs.map dt)]) = true := by
  have := depth_dts rs
  simp [SeqAt.shaped, PyData.canLay0, PyData.canLayAll0, di, canLay_ints, canLay_dts, PyData.depth, PyData.depthAll, depth_ints]
  omega
theorem shaped_di (r : List Nat) : SeqAt.shaped (di r) = true := shaped_ints _
section
variable {K : PySem.W.Frag} {σ : L2.St} {H H' : Hp} {ta tb te : TE} {D : Ends} {tz : TS}
theorem dpa_nv (r : List Nat) : DpAll K H (nv r) ((iz r).map PyData.int) := dpa_ints _
theorem dpa_TL : ∀ {ws : List V} {rs : List (List Nat)}, TL H ws (rs.map nv) → DpAll K H ws (rs.map dt)
  | [], [], _ => .nil
  | _ :: _, r :: _, .cons ⟨b, e, h⟩ t => by
    subst e
    exact .cons (.tup (st_of h) (dpa_nv r)) (dpa_TL t)
theorem dp_L {a : Addr} {r : List Nat} (h : H a = some (.lst (nv r))) : Dp K H (.ref a) (di r) := .lst (sq_of h) (dpa_nv r)
theorem ed_L {r : List Nat} (h : EvL te σ H (nv r)) : EvD K te σ H (di r) := ed_ofL h (dpa_nv r)
theorem ed_two {r s : List Nat} (h : EvD K ta σ H (di r)) (h2 : EvD K tb σ H (di s)) : EvD K (tLst (tCons ta (tCons tb tNil))) σ H (.list [di r, di s]) := ed_lst (eda_cons h (eda_cons h2 eda_nil)) (Nat.le_of_ble_eq_true rfl)
theorem el_callK {sp : Sp} {gV : List V → List V → List V} {E : XK} {t tk : TA} {vs zs xs : List V} (h : EvA t σ H vs) (hk : EvA tk σ H zs) (hs : SpL sp (gV vs zs) H xs) : EvL (tCallK sp gV E t tk) σ H xs := fun H1 e Q q =>
  h H1 e _ fun H2 e2 => hk H2 (e.trans e2) _ fun H3 e3 => hs H3 ((e.trans e2).trans e3) Q (fun l H4 hl e4 h4 => q l H4 (fresh_back (e2.trans e3) hl) ((e2.trans e3).trans e4) h4) E
theorem el_catV {a b : Addr} {xs ys : List V} (h : Ev ta σ H (.ref a)) (h2 : Ev tb σ H (.ref b)) (ha : H a = some (.lst xs)) (hb : H b = some (.lst ys)) (hl : xs.length + ys.length ≤ 100000) : EvL (tOp rCat ta tb) σ H (xs ++ ys) := fun H1 e Q q =>
  h H1 e _ fun H2 e2 => h2 H2 (e.trans e2) _ fun H3 e3 => ⟨a, b, xs, ys, rfl, rfl, e3 a _ (e2 a _ (e a _ ha)), e3 b _ (e2 b _ (e b _ hb)), sz_of hl, fun l hl => q l _ (fresh_back (e2.trans e3) hl) ((e2.trans e3).trans (Ex.new hl)) upd_same⟩
theorem q_parLLT {i j : Nat} {xs : List V} {rs : List (List V)} (h : EvL ta σ H xs) (h2 : EvLT tb σ H rs) (k : ∀ p q ws H1, H p = none → H q = none → Ex H H1 → H1 p = some (.lst xs) → H1 q = some (.lst ws) → TL H1 ws rs → tz D ((σ.set i (some (.ref p))).set j (some (.ref q))) H1) :
    tSeq (tPar i j (tCons ta (tCons tb tNil))) tz D σ H := h H (Ex.refl H) _ fun p H1 hp e1 h1 => h2 H1 e1 _ fun q ws H2 hq e2 h3 ht => ⟨_, _, rfl, k p q ws H2 hp (fresh_back e1 hq) (e1.trans e2) (e2 p _ h1) h3 ht⟩
theorem q_parDL {i j : Nat} {d : PyData} {ys : List V} (h : EvD K ta σ H d) (h2 : EvL tb σ H ys) (k : ∀ v q H1, H q = none → Ex H H1 → Dp K H1 v d → H1 q = some (.lst ys) → tz D ((σ.set i (some v)).set j (some (.ref q))) H1) :
    tSeq (tPar i j (tCons ta (tCons tb tNil))) tz D σ H := h H (Ex.refl H) _ fun v H1 e1 h1 => h2 H1 e1 _ fun q H2 hq e2 h3 => ⟨_, _, rfl, k v q H2 (fresh_back e1 hq) (e1.trans e2) (Dp.ex e2 d v h1) h3⟩
/-- a call whose argument is a new list of new lists -/
theorem el_call1LB {sp : Sp} {dvs ys : List V} {rs : List (List Nat)} {E : XK} (h : EvLB te σ H rs) (hs : ∀ p ws H1, Ex H H1 → H1 p = some (.lst ws) → Paired (Lb H1) ws rs → SpL sp ([.ref p] ++ dvs) H1 ys) : EvL (tCall sp dvs E (tCons te tNil)) σ H ys := fun H1 e Q q =>
  h H1 e _ fun p ws H2 _ e2 h2 hw => hs p ws H2 (e.trans e2) h2 hw H2 (Ex.refl _) Q (fun l H3 hl e3 h3 => q l H3 (fresh_back e2 hl) (e2.trans e3) h3) E
/-- [[..] for r in rs], rs an old list of lists -/
theorem elb_map {a : Addr} {ws : List V} {rs : List (List Nat)} {j : Nat} {vs : List Nat} (F : List Nat → List Nat) (h : Ev ta σ H (.ref a)) (ha : H a = some (.lst ws)) (hr : Paired (Lb H) ws rs) (hz : ws.length ≤ 40000) (hw : ∀ x, wipe ((wipe σ vs).set j (some x)) vs = wipe σ vs)
    (he : ∀ (b : Addr) (r : List Nat) H1, Ex H H1 → r ∈ rs → H1 b = some (.lst (nv r)) → EvL te ((wipe σ vs).set j (some (.ref b))) H1 (nv (F r))) : EvLB (tLc (iList K ta) (gName j) tYes te vs) σ H (rs.map F) := fun H0 e Q q => h H0 e _ fun H1 e1 => ⟨a, rfl, ⟨ws, sq_of (e1 a _ (e a _ ha))⟩, fun Dl hD =>
  lc_list (xs := ws) (fun i H' => Ex H1 H' ∧ ∃ us, H' Dl = some (.lst us) ∧ Paired (Lc Dl H') us ((rs.map F).take i)) ⟨Ex.new hD, [], upd_same, .nil⟩ (fun i H' _ p => sq_of (p.1 a _ (e1 a _ (e a _ ha)))) (fun i x H' hi p => by
    obtain ⟨p1, us, p2, p3⟩ := p
    obtain ⟨r, hr1, b, rfl, hb⟩ := paired_get hr hi
    have hl := Paired.length hr
    have hil := (List.getElem?_eq_some_iff.mp hi).1
    have ul : us.length = i := by
      have := Paired.length p3
      rw [List.length_take, List.length_map] at this
      omega
    show wipe ((wipe σ vs).set j (some (.ref b))) vs = wipe σ vs ∧ te ((wipe σ vs).set j (some (.ref b))) H' fun y H4 => ∃ acc, H4 Dl = some (.lst acc) ∧ acc.length < sizeLine ∧ _
    refine ⟨hw _, he b r H1 (e.trans e1) (List.mem_of_getElem? hr1) (e1 b _ (e b _ hb)) H' p1 _ fun l H4 hl4 e4 h4 => ?_⟩
    have lD : l ≠ Dl := fun z => by
      subst z
      rw [hl4] at p2
      cases p2
    refine ⟨us, e4 Dl _ p2, sz_lt (by omega), Ex.mut (p1.trans e4) hD, _, upd_same, ?_⟩
    have gz : (rs.map F)[i]? = some (F r) := by rw [List.getElem?_map, hr1]; rfl
    rw [List.take_add_one, gz]
    exact Paired.snoc (paired_imp (fun _ _ z => (z.ex e4).upd) p3) ⟨l, rfl, lD, by rw [upd_ne lD]; exact h4⟩) (fun H' p => by
      obtain ⟨p1, us, p2, p3⟩ := p
      rw [List.take_of_length_le (by rw [List.length_map]; have := Paired.length hr; omega)] at p3
      exact q Dl us H' (fresh_back e1 hD) (e1.trans p1) p2 (paired_imp (fun _ _ z => z.lb) p3))⟩
end

local macro_rules | `(tactic| walk_at "call") => `(tactic| (with_reducible exact sv_whole))
local macro_rules | `(tactic| walk_at "call") => `(tactic| ((with_reducible refine' sv_ord ?c1 ?c2); (case c1 => assumption); (case c2 => assumption)))

/-! ### rising products -/
def rise (w : Int) : Nat → Int
  | 0 => 1
  | n + 1 => rise w n * (w + n)
theorem rise_pos {w : Int} (h : 1 ≤ w) : ∀ n, 0 < rise w n
  | 0 => by
    show (0 : Int) < 1
    decide
  | n + 1 => Int.mul_pos (rise_pos h n) (by omega)

/-! ### numbers -/
theorem rise_le {w : Int} (h : w.natAbs < 2 ^ 130) : ∀ n : Nat, n ≤ 100 → (rise w n).natAbs ≤ 2 ^ (131 * n)
  | 0, _ => by
    show (1 : Int).natAbs ≤ 2 ^ 0
    decide
  | n + 1, hn => by
    have ih := rise_le h n (by omega)
    show (rise w n * (w + n)).natAbs ≤ _
    rw [Int.natAbs_mul, Nat.mul_succ, Nat.pow_add]
    exact Nat.mul_le_mul ih (by omega)
def sp_pow : Sp := fun vs H Q _ => ∃ b t : Int, vs = [.int b, .int t] ∧ b.natAbs < 2 ^ 130 ∧ 0 ≤ t ∧ t ≤ 40 ∧ RetV (.int (b ^ t.toNat)) H Q
theorem sv_pow {H : Hp} {b t : Int} (hb : b.natAbs < 2 ^ 130) (h0 : 0 ≤ t) (h1 : t ≤ 40) : SpV sp_pow ([.int b, .int t] ++ []) H (.int (b ^ t.toNat)) := fun H1 _ Q q E => ⟨b, t, rfl, hb, h0, h1, q⟩
def sp_rise : Sp := fun vs H Q _ => ∃ (b : Int) (n : Nat), vs = [.int b, .int n] ∧ b.natAbs < 2 ^ 130 ∧ n ≤ 40 ∧ RetV (.int (rise b n)) H Q
theorem sv_rise {H : Hp} {b : Int} {n : Nat} (hb : b.natAbs < 2 ^ 130) (h1 : n ≤ 40) : SpV sp_rise ([.int b, .int (n : Int)] ++ []) H (.int (rise b n)) := fun H1 _ Q q E => ⟨b, n, rfl, hb, h1, q⟩
local macro_rules | `(tactic| walk_at "call") => `(tactic| ((with_reducible refine' sv_pow ?c1 ?c2 ?c3); (case c1 => walk_at "side"); (case c2 => walk_at "side"); (case c3 => walk_at "side")))
local macro_rules | `(tactic| walk_at "call") => `(tactic| ((with_reducible refine' sv_rise ?c1 ?c2); (case c1 => walk_at "side"); (case c2 => walk_at "side")))

section
variable {P : Program} {w : World} {K : PySem.W.Frag} {mg : Str → Option Value} {base : Heap}
theorem ok_raised (T : Tx K mg) : FnOk P w K mg base CX0 1 T.f_raised T.d_raised ["base","times"] sp_pow := by
  refine T.F_raised.ok sc_raised (fun vs H Q E h => ?_) (fun cdv A outer s H vs Q E hr h => ?_)
  · obtain ⟨b, t, rfl, _⟩ := h
    rfl
  · obtain ⟨b, t, rfl, hb, ht0, ht1, k⟩ := h
    refine ⟨_, (pss_cons (ps_set (i := 2) sc_raised.nd rfl (Or.inl rfl) pe_int)
      (pss_cons (ps_for PassesOwn.never rfl (pi_range1 (by rfl) T.m_range (pa_cons (pv 1) pa_nil)) (pg_name (i := 3) sc_raised.nd rfl (Or.inl rfl)) (pss_one (ps_set (i := 2) sc_raised.nd rfl (Or.inl rfl) (pe_op op_mulX (pv 2) (pv 0)))))
      (pss_one (ps_ret (pv 2))))), ?_⟩
    refine q_asg ev_c fun H1 e1 => ?_
    refine q_forR1 (n := t) (by walk_at "ea") ⟨ht0, by omega⟩ (fun i σ' H' => ∃ y, σ' = [some (.int b), some (.int t), some (.int (b ^ i)), y] ∧ Ex H H') (fun H2 e2 => ⟨none, by rw [Int.pow_zero]; rfl, e1.trans e2⟩) ?_ ?_
    · rintro i σ' H' hi ⟨y, rfl, e⟩
      have hm : CMulX (b ^ i) b := mulx_ok (lt_of_le2 (natAbs_pow_le hb i)) hb (by omega)
      exact s_asg (by walk_at "ev") fun H2 e2 => ⟨_, by rw [Int.pow_succ]; rfl, e.trans e2⟩
    · rintro σ' H' ⟨y, rfl, e⟩
      exact s_ret (by walk_at "ev") fun H2 e2 => k _ (e.trans e2)

theorem ok_law_weigh (T : Tx K mg) : FnOk P w K mg base CX0 1 T.f_law_weigh T.d_law_weigh ["heavy","many"] sp_pow := by
  refine T.F_law_weigh.ok sc_law_weigh (fun vs H Q E h => ?_) (fun cdv A outer s H vs Q E hr h => ?_)
  · obtain ⟨b, t, rfl, _⟩ := h
    rfl
  · obtain ⟨b, t, rfl, hb, ht0, ht1, k⟩ := h
    refine ⟨_, (pss_cons (ps_set (i := 2) sc_law_weigh.nd rfl (Or.inl rfl) pe_int)
      (pss_cons (ps_for PassesOwn.never rfl (pi_range1 (by rfl) T.m_range (pa_cons (pv 1) pa_nil)) (pg_name (i := 3) sc_law_weigh.nd rfl (Or.inl rfl)) (pss_one (ps_set (i := 2) sc_law_weigh.nd rfl (Or.inl rfl) (pe_op op_mulX (pv 2) (pv 0)))))
      (pss_one (ps_ret (pv 2))))), ?_⟩
    refine q_asg ev_c fun H1 e1 => ?_
    refine q_forR1 (n := t) (by walk_at "ea") ⟨ht0, by omega⟩ (fun i σ' H' => ∃ y, σ' = [some (.int b), some (.int t), some (.int (b ^ i)), y] ∧ Ex H H') (fun H2 e2 => ⟨none, by rw [Int.pow_zero]; rfl, e1.trans e2⟩) ?_ ?_
    · rintro i σ' H' hi ⟨y, rfl, e⟩
      have hm : CMulX (b ^ i) b := mulx_ok (lt_of_le2 (natAbs_pow_le hb i)) hb (by omega)
      exact s_asg (by walk_at "ev") fun H2 e2 => ⟨_, by rw [Int.pow_succ]; rfl, e.trans e2⟩
    · rintro σ' H' ⟨y, rfl, e⟩
      exact s_ret (by walk_at "ev") fun H2 e2 => k _ (e.trans e2)

theorem ok_rising (T : Tx K mg) : FnOk P w K mg base CX0 1 T.f_rising T.d_rising ["weight","guests"] sp_rise := by
  refine T.F_rising.ok sc_rising (fun vs H Q E h => ?_) (fun cdv A outer s H vs Q E hr h => ?_)
  · obtain ⟨b, n, rfl, _⟩ := h
    rfl
  · obtain ⟨b, n, rfl, hb, hn, k⟩ := h
    refine ⟨_, (pss_cons (ps_set (i := 2) sc_rising.nd rfl (Or.inl rfl) pe_int)
      (pss_cons (ps_for PassesOwn.never rfl (pi_range1 (by rfl) T.m_range (pa_cons (pv 1) pa_nil)) (pg_name (i := 3) sc_rising.nd rfl (Or.inl rfl)) (pss_one (ps_set (i := 2) sc_rising.nd rfl (Or.inl rfl) (pe_op op_mulX (pv 2) (pe_op op_add (pv 0) (pv 3))))))
      (pss_one (ps_ret (pv 2))))), ?_⟩
    refine q_asg ev_c fun H1 e1 => ?_
    refine q_forR1 (n := (n : Int)) (by walk_at "ea") ⟨by omega, by omega⟩ (fun i σ' H' => ∃ y, σ' = [some (.int b), some (.int n), some (.int (rise b i)), y] ∧ Ex H H') (fun H2 e2 => ⟨none, rfl, e1.trans e2⟩) ?_ ?_
    · rintro i σ' H' hi ⟨y, rfl, e⟩
      have hs : (b + (i : Int)).natAbs < 2 ^ 131 := by omega
      have hm : CMulX (rise b i) (b + (i : Int)) := mulx_ok (lt_of_le2 (rise_le hb i (by omega))) hs (by omega)
      exact s_asg (by walk_at "ev") fun H2 e2 => ⟨_, rfl, e.trans e2⟩
    · rintro σ' H' ⟨y, rfl, e⟩
      exact s_ret (by walk_at "ev") fun H2 e2 => k _ (e.trans e2)

end

section
variable {P : Program} {w : World} {K : PySem.W.Frag} {mg : Str → Option Value} {base : Heap}
local macro_rules | `(tactic| walk_at "call") => `(tactic| (with_reducible exact sv_whole))
def sp_is_within : Sp := fun vs H Q _ => ∃ x l m : Int, vs = [.int x, .int l, .int m] ∧ RetV (.bl (decide (l ≤ x) && decide (x ≤ m))) H Q
theorem sv_between {H : Hp} {x l m : Int} : SpV sp_is_within ([.int x, .int l, .int m] ++ []) H (.bl (decide (l ≤ x) && decide (x ≤ m))) := fun H1 _ Q q E => ⟨x, l, m, rfl, q⟩
theorem ok_is_within (T : Tx K mg) : FnOk P w K mg base CX0 2 T.f_is_within T.d_is_within ["thing", "least", "most"] sp_is_within := by
  refine T.F_is_within.ok sc_is_within (fun vs H Q E h => ?_) (fun cdv A outer s H vs Q E hr h => ?_)
  · obtain ⟨x, l, m, rfl, _⟩ := h
    rfl
  · obtain ⟨x, l, m, rfl, k⟩ := h
    refine ⟨_, (pss_one (ps_ret (pe_and (pe_call (ok_is_whole T) (hr.mono (by decide)) (by rfl) T.g_is_whole T.F_is_whole.kp T.b_is_whole .nil pass0 (pa_cons (pv 0) pa_nil)) (pe_one (pe_chain op_le op_le (pv 1) (pv 0) (pv 2)))))), ?_⟩
    refine s_ret (by walk_at "ev") fun H1 e1 => ?_
    exact k _ e1
local macro_rules | `(tactic| walk_at "call") => `(tactic| (with_reducible exact sv_between))
def sp_check1 (lo hi : Int) : Sp := fun vs H Q _ => ∃ x : Int, vs = [.int x] ∧ lo ≤ x ∧ x ≤ hi ∧ RetV .non H Q
theorem sv_check1 {H : Hp} {lo hi x : Int} (h0 : lo ≤ x) (h1 : x ≤ hi) : SpV (sp_check1 lo hi) ([.int x] ++ []) H .non := fun H1 _ Q q E => ⟨x, rfl, h0, h1, q⟩
theorem ok_check_guests (T : Tx K mg) : FnOk P w K mg base CX0 3 T.f_check_guests T.d_check_guests ["guests"] (sp_check1 1 20) := by
  refine T.F_check_guests.ok sc_check_guests (fun vs H Q E h => ?_) (fun cdv A outer s H vs Q E hr h => ?_)
  · obtain ⟨x, rfl, _⟩ := h
    rfl
  · obtain ⟨x, rfl, h0, h1, k⟩ := h
    refine ⟨_, (pss_one (ps_if (pt_not (pt_val (pe_call (ok_is_within T) (hr.mono (by decide)) (by rfl) T.g_is_within T.F_is_within.kp T.b_is_within .nil pass0 (pa_cons (pv 0) (pa_cons pe_int (pa_cons (pe_gc (by rfl) T.c_MOST_GUESTS) pa_nil)))))) (pss_one ps_never) pss_nil)), ?_⟩
    refine s_when (by walk_at "et") (fun hb H1 e1 => ?_) fun hb H1 e1 => k _ e1
    rw [decide_eq_true h0, decide_eq_true h1] at hb
    cases hb
theorem ok_check_weight (T : Tx K mg) : FnOk P w K mg base CX0 3 T.f_check_weight T.d_check_weight ["weight"] (sp_check1 1 1000000000000) := by
  refine T.F_check_weight.ok sc_check_weight (fun vs H Q E h => ?_) (fun cdv A outer s H vs Q E hr h => ?_)
  · obtain ⟨x, rfl, _⟩ := h
    rfl
  · obtain ⟨x, rfl, h0, h1, k⟩ := h
    refine ⟨_, (pss_one (ps_if (pt_not (pt_val (pe_call (ok_is_within T) (hr.mono (by decide)) (by rfl) T.g_is_within T.F_is_within.kp T.b_is_within .nil pass0 (pa_cons (pv 0) (pa_cons pe_int (pa_cons (pe_gc (by rfl) T.c_MOST_WEIGHT) pa_nil)))))) (pss_one ps_never) pss_nil)), ?_⟩
    refine s_when (by walk_at "et") (fun hb H1 e1 => ?_) fun hb H1 e1 => k _ e1
    rw [decide_eq_true h0, decide_eq_true h1] at hb
    cases hb
def sp_check_number : Sp := fun vs H Q _ => ∃ x lo hi : Int, vs = [.int x, .int lo, .int hi] ∧ lo ≤ x ∧ x ≤ hi ∧ RetV .non H Q
theorem sv_check_number {H : Hp} {lo hi x : Int} (h0 : lo ≤ x) (h1 : x ≤ hi) : SpV sp_check_number ([.int x, .int lo, .int hi] ++ []) H .non := fun H1 _ Q q E => ⟨x, lo, hi, rfl, h0, h1, q⟩
theorem ok_check_number (T : Tx K mg) : FnOk P w K mg base CX0 3 T.f_check_number T.d_check_number ["number", "least", "most"] sp_check_number := by
  refine T.F_check_number.ok sc_check_number (fun vs H Q E h => ?_) (fun cdv A outer s H vs Q E hr h => ?_)
  · obtain ⟨x, lo, hi, rfl, _⟩ := h
    rfl
  · obtain ⟨x, lo, hi, rfl, h0, h1, k⟩ := h
    refine ⟨_, (pss_one (ps_if (pt_not (pt_val (pe_call (ok_is_within T) (hr.mono (by decide)) (by rfl) T.g_is_within T.F_is_within.kp T.b_is_within .nil pass0 (pa_cons (pv 0) (pa_cons (pv 1) (pa_cons (pv 2) pa_nil)))))) (pss_one ps_never) pss_nil)), ?_⟩
    refine s_when (by walk_at "et") (fun hb H1 e1 => ?_) fun hb H1 e1 => k _ e1
    rw [decide_eq_true h0, decide_eq_true h1] at hb
    cases hb
local macro_rules | `(tactic| walk_at "call") => `(tactic| ((with_reducible refine' sv_check1 ?c1 ?c2); (case c1 => walk_at "side"); (case c2 => walk_at "side")))
local macro_rules | `(tactic| walk_at "call") => `(tactic| ((with_reducible refine' sv_check_number ?c1 ?c2); (case c1 => walk_at "side"); (case c2 => walk_at "side")))
/-! ### fraction -/
def cd (a b : Int) : Int := ((Nat.gcd a.natAbs b.natAbs : Nat) : Int)
theorem cd_pos {a b : Int} (h : 0 < b) : 0 < cd a b := by
  unfold cd
  have := Nat.gcd_pos_of_pos_right a.natAbs (show 0 < b.natAbs by omega)
  omega
theorem cd_le {a b : Int} (h : 0 < b) : cd a b ≤ b := by
  unfold cd
  have := Nat.le_of_dvd (show 0 < b.natAbs by omega) (Nat.gcd_dvd_right a.natAbs b.natAbs)
  omega
theorem cd_dvd1 {a b : Int} : cd a b ∣ a := Int.ofNat_dvd_left.mpr (Nat.gcd_dvd_left a.natAbs b.natAbs)
theorem cd_dvd2 {a b : Int} : cd a b ∣ b := Int.ofNat_dvd_left.mpr (Nat.gcd_dvd_right a.natAbs b.natAbs)
def sp_fraction : Sp := fun vs H Q _ => ∃ a b : Int, vs = [.int a, .int b] ∧ 0 < b ∧ b.natAbs < 2 ^ 8000 ∧ RetU [.int (a / cd a b), .int (b / cd a b)] H Q
theorem su_fraction {H : Hp} {a b : Int} (h0 : 0 < b) (h1 : b.natAbs < 2 ^ 8000) : SpU sp_fraction ([.int a, .int b] ++ []) H [.int (a / cd a b), .int (b / cd a b)] := fun H1 _ Q q E => ⟨a, b, rfl, h0, h1, q⟩
theorem ok_fraction (T : Tx K mg) : FnOk P w K mg base CX0 1 T.f_fraction T.d_fraction ["top", "bottom"] sp_fraction := by
  refine T.F_fraction.ok sc_fraction (fun vs H Q E h => ?_) (fun cdv A outer s H vs Q E hr h => ?_)
  · obtain ⟨a, b, rfl, _⟩ := h
    rfl
  · obtain ⟨a, b, rfl, h0, h1, k⟩ := h
    refine ⟨_, (pss_cons (ps_set (i := 2) sc_fraction.nd rfl (Or.inl rfl) (pe_callBfun cr_gcd (by rfl) T.i_gcd (pa_cons (pv 0) (pa_cons (pv 1) pa_nil))))
      (pss_one (ps_ret (pe_tup (pa_cons (pe_op op_fdivW (pv 0) (pv 2)) (pa_cons (pe_op op_fdivW (pv 1) (pv 2)) pa_nil)))))), ?_⟩
    refine q_asg (by walk_at "ev") fun H1 e1 => ?_
    have hd : ∀ x : Int, CDivW x (cd a b) := fun x => wide_div (cd_pos h0) (Nat.lt_of_le_of_lt (by have := cd_le (a := a) h0; have := cd_pos (a := a) h0; omega) h1) (by decide) (by decide)
    have hd1 := hd a
    have hd2 := hd b
    refine s_retU (by walk_at "eu") fun p H2 hp e2 h2 => k p H2 (fresh_back e1 hp) (e1.trans e2) h2
local macro_rules | `(tactic| walk_at "callU") => `(tactic| ((with_reducible refine' su_fraction ?c1 ?c2); (case c1 => walk_at "side"); (case c2 => walk_at "side")))
end

local macro_rules | `(tactic| walk_at "call") => `(tactic| (with_reducible exact sv_whole))
local macro_rules | `(tactic| walk_at "call") => `(tactic| ((with_reducible refine' sv_ord ?c1 ?c2); (case c1 => assumption); (case c2 => assumption)))

local macro_rules | `(tactic| walk_at "call") => `(tactic| ((with_reducible refine' sv_pow ?c1 ?c2 ?c3); (case c1 => walk_at "side"); (case c2 => walk_at "side"); (case c3 => walk_at "side")))
local macro_rules | `(tactic| walk_at "call") => `(tactic| ((with_reducible refine' sv_rise ?c1 ?c2); (case c1 => walk_at "side"); (case c2 => walk_at "side")))
local macro_rules | `(tactic| walk_at "call") => `(tactic| (with_reducible exact sv_between))
local macro_rules | `(tactic| walk_at "call") => `(tactic| ((with_reducible refine' sv_check1 ?c1 ?c2); (case c1 => walk_at "side"); (case c2 => walk_at "side")))
local macro_rules | `(tactic| walk_at "call") => `(tactic| ((with_reducible refine' sv_check_number ?c1 ?c2); (case c1 => walk_at "side"); (case c2 => walk_at "side")))
local macro_rules | `(tactic| walk_at "callU") => `(tactic| ((with_reducible refine' su_fraction ?c1 ?c2); (case c1 => walk_at "side"); (case c2 => walk_at "side")))

def sums (w : Int) : Nat → List Int
  | 0 => [1]
  | n + 1 => List.zipWith (· + ·) ((sums w n).map (· * (n : Int)) ++ [0]) (0 :: (sums w n).map (· * w))
theorem sums_len (w : Int) : ∀ n, (sums w n).length = n + 1
  | 0 => rfl
  | n + 1 => by
    show (List.zipWith (· + ·) ((sums w n).map (· * (n : Int)) ++ [0]) (0 :: (sums w n).map (· * w))).length = _
    have ih := sums_len w n
    simp [ih]
/-- how many seatings of n guests have t tables -/
def stir : Nat → Nat → Nat
  | 0, 0 => 1
  | 0, _ + 1 => 0
  | n + 1, 0 => n * stir n 0
  | n + 1, t + 1 => n * stir n (t + 1) + stir n t
theorem stir_big : ∀ n t, n < t → stir n t = 0
  | 0, t + 1, _ => rfl
  | n + 1, t + 1, h => by
    show n * stir n (t + 1) + stir n t = 0
    rw [stir_big n (t + 1) (by omega), stir_big n t (by omega)]
    simp
theorem sums_get (w : Int) : ∀ n t, t ≤ n → (sums w n)[t]? = some ((stir n t : Int) * w ^ t)
  | 0, 0, _ => by
    show some (1 : Int) = some (((1 : Nat) : Int) * w ^ 0)
    rw [Int.pow_zero]
    rfl
  | n + 1, 0, _ => by
    have ih := sums_get w n 0 (by omega)
    have hl := sums_len w n
    show (List.zipWith (· + ·) ((sums w n).map (· * (n : Int)) ++ [0]) (0 :: (sums w n).map (· * w)))[0]? = some (((n * stir n 0 : Nat) : Int) * w ^ 0)
    rw [List.getElem?_zipWith, List.getElem?_append_left (by rw [List.length_map]; omega), List.getElem?_map, ih]
    simp
    grind
  | n + 1, t + 1, h => by
    have hl := sums_len w n
    have ih := sums_get w n t (by omega)
    show (List.zipWith (· + ·) ((sums w n).map (· * (n : Int)) ++ [0]) (0 :: (sums w n).map (· * w)))[t + 1]? = some (((n * stir n (t + 1) + stir n t : Nat) : Int) * w ^ (t + 1))
    rw [List.getElem?_zipWith, List.getElem?_cons_succ, List.getElem?_map, ih]
    by_cases ht : t + 1 ≤ n
    · have ih2 := sums_get w n (t + 1) ht
      rw [List.getElem?_append_left (by rw [List.length_map]; omega), List.getElem?_map, ih2]
      simp
      rw [Int.pow_succ]
      grind
    · have e : t = n := by omega
      subst e
      rw [List.getElem?_append_right (by rw [List.length_map]; omega), List.length_map, hl, stir_big t (t + 1) (by omega)]
      simp
      rw [Int.pow_succ]
      grind
theorem sums_small {w : Int} (h0 : 0 ≤ w) (h1 : w ≤ 2 ^ 42) : ∀ n, n ≤ 20 → ∀ x ∈ sums w n, 0 ≤ x ∧ x ≤ 2 ^ (43 * n)
  | 0, _, x, hx => by
    have e : x = 1 := by simpa [sums] using hx
    subst e
    decide
  | n + 1, hn, x, hx => by
    have ih := sums_small h0 h1 n (by omega)
    have hp : (0 : Int) ≤ 2 ^ (43 * n) := Int.pow_nonneg (by decide)
    have e43 : (2 : Int) ^ (43 * (n + 1)) = 2 ^ (43 * n) * 2 ^ 43 := by rw [Nat.mul_succ, Int.pow_add]
    rw [e43]
    have hx : x ∈ List.zipWith (· + ·) ((sums w n).map (· * (n : Int)) ++ [0]) (0 :: (sums w n).map (· * w)) := hx
    obtain ⟨i, hi⟩ := List.mem_iff_getElem?.mp hx
    rw [List.getElem?_zipWith] at hi
    have one : ∀ a, ((sums w n).map (· * (n : Int)) ++ [0])[i]? = some a → 0 ≤ a ∧ a ≤ 2 ^ (43 * n) * 20 := fun a ha => by
      rcases List.mem_append.mp (List.mem_iff_getElem?.mpr ⟨i, ha⟩) with h | h
      · obtain ⟨y, hy, rfl⟩ := List.mem_map.mp h
        obtain ⟨y0, y1⟩ := ih y hy
        exact ⟨Int.mul_nonneg y0 (by omega), Int.mul_le_mul y1 (by omega) (by omega) hp⟩
      · have : a = 0 := by simpa using h
        omega
    have two : ∀ b, (0 :: (sums w n).map (· * w))[i]? = some b → 0 ≤ b ∧ b ≤ 2 ^ (43 * n) * 2 ^ 42 := fun b hb => by
      rcases List.mem_cons.mp (List.mem_iff_getElem?.mpr ⟨i, hb⟩) with h | h
      · omega
      · obtain ⟨y, hy, rfl⟩ := List.mem_map.mp h
        obtain ⟨y0, y1⟩ := ih y hy
        exact ⟨Int.mul_nonneg y0 h0, Int.mul_le_mul y1 h1 h0 hp⟩
    cases ha : ((sums w n).map (· * (n : Int)) ++ [0])[i]? with
    | none =>
      rw [ha] at hi
      cases hi
    | some a =>
      cases hb : (0 :: (sums w n).map (· * w))[i]? with
      | none =>
        rw [ha, hb] at hi
        cases hi
      | some b =>
        rw [ha, hb] at hi
        have e : a + b = x := Option.some.inj hi
        have A := one a ha
        have B := two b hb
        omega

section
variable {P : Program} {w : World} {K : PySem.W.Frag} {mg : Str → Option Value} {base : Heap}
/-- the product of all (f.1 * x + f.2) -/
def sstep (ns : List Int) (f : Int × Int) : List Int := List.zipWith (· + ·) (ns.map (· * f.2) ++ [0]) (0 :: ns.map (· * f.1))
def sumsF (fs : List (Int × Int)) : List Int := fs.foldl sstep [1]
theorem sumsF_take {fs : List (Int × Int)} {i : Nat} {f : Int × Int} (h : fs[i]? = some f) : sumsF (fs.take (i + 1)) = sstep (sumsF (fs.take i)) f := by
  unfold sumsF
  rw [List.take_add_one, h, List.foldl_append]
  rfl
theorem sstep_len (ns : List Int) (f : Int × Int) : (sstep ns f).length = ns.length + 1 := by
  simp [sstep]
theorem foldS_len : ∀ (fs : List (Int × Int)) (ns : List Int), (fs.foldl sstep ns).length = ns.length + fs.length
  | [], _ => rfl
  | f :: r, ns => by
    rw [List.foldl_cons, foldS_len r, sstep_len, List.length_cons]
    omega
theorem sumsF_len (fs : List (Int × Int)) : (sumsF fs).length = fs.length + 1 := by
  unfold sumsF
  rw [foldS_len, List.length_singleton]
  omega
def FOk (fs : List (Int × Int)) : Prop := fs.length ≤ 40 ∧ ∀ f ∈ fs, 0 ≤ f.1 ∧ f.1 ≤ 2 ^ 42 ∧ 0 ≤ f.2 ∧ f.2 ≤ 2 ^ 42
theorem sstep_small {ns : List Int} {f : Int × Int} {B : Int} (hB : 0 ≤ B) (h : ∀ x ∈ ns, 0 ≤ x ∧ x ≤ B) (h0 : 0 ≤ f.1) (h1 : f.1 ≤ 2 ^ 42) (h2 : 0 ≤ f.2) (h3 : f.2 ≤ 2 ^ 42) : ∀ x ∈ sstep ns f, 0 ≤ x ∧ x ≤ B * 2 ^ 43 := fun x hx => by
  obtain ⟨i, hi⟩ := List.mem_iff_getElem?.mp hx
  unfold sstep at hi
  rw [List.getElem?_zipWith] at hi
  have two : ∀ (g : Int), 0 ≤ g → g ≤ 2 ^ 42 → ∀ y ∈ ns.map (· * g), 0 ≤ y ∧ y ≤ B * 2 ^ 42 := fun g g0 g1 y hy => by
    obtain ⟨z, hz, rfl⟩ := List.mem_map.mp hy
    obtain ⟨z0, z1⟩ := h z hz
    exact ⟨Int.mul_nonneg z0 g0, Int.mul_le_mul z1 g1 g0 hB⟩
  have A : ∀ a, (ns.map (· * f.2) ++ [0])[i]? = some a → 0 ≤ a ∧ a ≤ B * 2 ^ 42 := fun a ha => by
    rcases List.mem_append.mp (List.mem_iff_getElem?.mpr ⟨i, ha⟩) with h | h
    · exact two _ h2 h3 a h
    · have : a = 0 := by simpa using h
      subst this
      exact ⟨Int.le_refl _, Int.mul_nonneg hB (by decide)⟩
  have C : ∀ b, (0 :: ns.map (· * f.1))[i]? = some b → 0 ≤ b ∧ b ≤ B * 2 ^ 42 := fun b hb => by
    rcases List.mem_cons.mp (List.mem_iff_getElem?.mpr ⟨i, hb⟩) with h | h
    · subst h
      exact ⟨Int.le_refl _, Int.mul_nonneg hB (by decide)⟩
    · exact two _ h0 h1 b h
  cases ha : (ns.map (· * f.2) ++ [0])[i]? with
  | none =>
    rw [ha] at hi
    cases hi
  | some a =>
    cases hb : (0 :: ns.map (· * f.1))[i]? with
    | none =>
      rw [ha, hb] at hi
      cases hi
    | some b =>
      rw [ha, hb] at hi
      have e : a + b = x := Option.some.inj hi
      have p := A a ha
      have q := C b hb
      omega
theorem foldS_small : ∀ (fs : List (Int × Int)), (∀ f ∈ fs, 0 ≤ f.1 ∧ f.1 ≤ 2 ^ 42 ∧ 0 ≤ f.2 ∧ f.2 ≤ 2 ^ 42) → ∀ (ns : List Int) (k : Nat), (∀ x ∈ ns, 0 ≤ x ∧ x ≤ 2 ^ (43 * k)) → ∀ x ∈ fs.foldl sstep ns, 0 ≤ x ∧ x ≤ 2 ^ (43 * (k + fs.length))
  | [], _, ns, k, h => h
  | f :: r, hf, ns, k, h => by
    obtain ⟨a, b, c, d⟩ := hf f List.mem_cons_self
    have e43 : (2 : Int) ^ (43 * (k + 1)) = 2 ^ (43 * k) * 2 ^ 43 := by rw [Nat.mul_succ, Int.pow_add]
    have ih := foldS_small r (fun g hg => hf g (List.mem_cons_of_mem _ hg)) (sstep ns f) (k + 1) (fun x hx => by
      rw [e43]
      exact sstep_small (Int.pow_nonneg (by decide)) h a b c d x hx)
    rw [show k + (f :: r).length = k + 1 + r.length by rw [List.length_cons]; omega]
    exact ih
theorem sumsF_small {fs : List (Int × Int)} (h : FOk fs) : ∀ x ∈ sumsF fs, 0 ≤ x ∧ x ≤ 2 ^ (43 * fs.length) := by
  have q := foldS_small fs h.2 [1] 0 (fun x hx => by
    have e : x = 1 := by simpa using hx
    subst e
    decide)
  rw [Nat.zero_add] at q
  exact q
theorem FOk.take {fs : List (Int × Int)} (h : FOk fs) (i : Nat) : FOk (fs.take i) := ⟨by
  have := h.1
  rw [List.length_take]
  omega, fun f hf => h.2 f (List.mem_of_mem_take hf)⟩
def twoV (f : Int × Int) : List V := [.int f.1, .int f.2]
def sp_sums_by_tables : Sp := fun vs H Q _ => ∃ (a : Addr) (ws : List V) (fs : List (Int × Int)), vs = [.ref a] ∧ H a = some (.lst ws) ∧ TL H ws (fs.map twoV) ∧ FOk fs ∧ RetL ((sumsF fs).map V.int) H Q
def mulV (g : Int) : V → V
  | .int x => .int (x * g)
  | v => v
def addV : V → V → V
  | .int x, .int y => .int (x + y)
  | v, _ => v
theorem map_mulV (g : Int) (ns : List Int) : (ns.map V.int).map (mulV g) = (ns.map (· * g)).map V.int := by
  rw [List.map_map, List.map_map]
  rfl
theorem zip_addV : ∀ ns ms : List Int, List.zipWith addV (ns.map V.int) (ms.map V.int) = (List.zipWith (· + ·) ns ms).map V.int
  | [], _ => rfl
  | _ :: _, [] => rfl
  | x :: r, y :: s => congrArg (V.int (x + y) :: ·) (zip_addV r s)
theorem ok_sums_by_tables (T : Tx K mg) : FnOk P w K mg base CX0 1 T.f_sums_by_tables T.d_sums_by_tables ["factors"] sp_sums_by_tables := by
  refine T.F_sums_by_tables.ok sc_sums_by_tables (fun vs H Q E h => ?_) (fun cdv A outer s H vs Q E hr h => ?_)
  · obtain ⟨a, ws, fs, rfl, _⟩ := h
    rfl
  · obtain ⟨a, ws, fs, rfl, ha, ht, hf, k⟩ := h
    refine ⟨_, (pss_cons (ps_set (i := 1) sc_sums_by_tables.nd rfl (Or.inl rfl) (pe_lst (pa_cons pe_int pa_nil)))
      (pss_cons (ps_for PassesOwn.never rfl (pi_list (pv 0)) (pg_tup rfl (pgs_cons (pg_name (i := 2) sc_sums_by_tables.nd rfl (Or.inr rfl)) (pgs_cons (pg_name (i := 3) sc_sums_by_tables.nd rfl (Or.inr rfl)) pgs_nil))) (pss_cons (ps_set (i := 5) sc_sums_by_tables.nd rfl (Or.inl rfl) (pe_op op_cat (pe_lc (own := [("part", 4)]) (g := (gName 4)) (tt := tYes) rfl sc_sums_by_tables.nd (pi_list (pv 1)) (blkOk_by (own := [("part", 4)]) (N := n_sums_by_tables) (sc := defScope s_sums_by_tables) (by decide +kernel)) (fun _ _ _ _ _ => (pg_name (i := 4) sc_sums_by_tables.nd rfl (Or.inl rfl))) (fun _ _ _ _ _ => pts_nil) (fun _ _ _ _ _ => (pe_op op_mulX (pv 4) (pv 3)))) (pe_lst (pa_cons pe_int pa_nil))))
      (pss_cons (ps_set (i := 6) sc_sums_by_tables.nd rfl (Or.inl rfl) (pe_op op_cat (pe_lst (pa_cons pe_int pa_nil)) (pe_lc (own := [("part", 4)]) (g := (gName 4)) (tt := tYes) rfl sc_sums_by_tables.nd (pi_list (pv 1)) (blkOk_by (own := [("part", 4)]) (N := n_sums_by_tables) (sc := defScope s_sums_by_tables) (by decide +kernel)) (fun _ _ _ _ _ => (pg_name (i := 4) sc_sums_by_tables.nd rfl (Or.inl rfl))) (fun _ _ _ _ _ => pts_nil) (fun _ _ _ _ _ => (pe_op op_mulX (pv 4) (pv 2))))))
      (pss_one (ps_setLc (i := 1) (own := [("one", 7), ("other", 8)]) (g := (gTup _ 2 (gCons (gName 7) (gCons (gName 8) gNil)))) (tt := tYes) rfl sc_sums_by_tables.nd rfl rfl (sw_true rfl rfl rfl (by decide +kernel)) (pi_zip (by rfl) T.m_zip (pa_cons (pv 5) (pa_cons (pv 6) pa_nil))) (blkOk_by (own := [("one", 7), ("other", 8)]) (N := n_sums_by_tables) (sc := defScope s_sums_by_tables) (by decide +kernel)) (fun _ _ _ _ _ => (pg_tup rfl (pgs_cons (pg_name (i := 7) sc_sums_by_tables.nd rfl (Or.inl rfl)) (pgs_cons (pg_name (i := 8) sc_sums_by_tables.nd rfl (Or.inl rfl)) pgs_nil)))) (fun _ _ _ _ _ => pts_nil) (fun _ _ _ _ _ => (pe_op op_add (pv 7) (pv 8))))))))
      (pss_one (ps_ret (pv 1))))), ?_⟩
    have hwl : ws.length = fs.length := by rw [ht.len, List.length_map]
    have hfl := hf.1
    refine q_asgL (by walk_at "el") fun p H1 hp e1 h1 => ?_
    refine q_forL (ev_var rfl) (sq_of (e1 a _ ha))
      (fun i σ' H' => ∃ q y2 y3 y5 y6, σ' = [some (.ref a), some (.ref q), y2, y3, none, y5, y6, none, none] ∧ H q = none ∧ Ex H H' ∧ H' q = some (.lst ((sumsF (fs.take i)).map V.int)))
      (fun H2 e2 => ⟨p, none, none, none, none, rfl, hp, e1.trans e2, e2 p _ h1⟩) (fun i σ' H' _ ⟨q, y2, y3, y5, y6, _, _, e, _⟩ => sq_of (e a _ ha)) ?_ ?_
    · rintro i x σ' H' hx ⟨q, y2, y3, y5, y6, rfl, hq, e, hl⟩
      obtain ⟨b, r, rfl, hb, hr2⟩ := ht.get hx
      obtain ⟨f, hfi, rfl⟩ : ∃ f, fs[i]? = some f ∧ twoV f = r := by
        rw [List.getElem?_map] at hr2
        exact Option.map_eq_some_iff.mp hr2
      have him : i < fs.length := (List.getElem?_eq_some_iff.mp hfi).1
      obtain ⟨fa, fb, fc, fd⟩ := hf.2 f (List.mem_iff_getElem?.mpr ⟨i, hfi⟩)
      have hsm := sumsF_small (hf.take i)
      have hlen := sumsF_len (fs.take i)
      have hti : (fs.take i).length = i := by
        rw [List.length_take]
        omega
      rw [hti] at hsm hlen
      have cm : ∀ (g : Int), g.natAbs < 2 ^ 64 → ∀ (j : Nat) (y : V), ((sumsF (fs.take i)).map V.int)[j]? = some y → ∃ z, y = .int z ∧ CMulX z g := fun g hg j y hy => by
        rw [List.getElem?_map] at hy
        cases hz : (sumsF (fs.take i))[j]? with
        | none =>
          rw [hz] at hy
          cases hy
        | some z =>
          rw [hz] at hy
          obtain ⟨z0, z1⟩ := hsm z (List.mem_iff_getElem?.mpr ⟨j, hz⟩)
          have hp2 : (2 : Int) ^ (43 * i) = ((2 ^ (43 * i) : Nat) : Int) := by simp
          rw [hp2] at z1
          exact ⟨z, (Option.some.inj hy).symm, mulx_ok (lt_of_le2 (k := 43 * i) (by omega)) hg (by omega)⟩
      refine ⟨b, [.int f.1, .int f.2], rfl, st_of (e b _ hb), rfl, .int f.1, [.int f.2], rfl, .int f.2, [], rfl, rfl, ?_⟩
      refine q_asgL (el_cat (el_map (mulV f.2) (ev_var rfl) (sq_of hl) (by rw [List.length_map]; omega) (fun _ => rfl) fun j y H2 e2 hy => ?_) (by walk_at "el") (by simp; omega)) fun p5 H2 hp5 e2 h2 => ?_
      · obtain ⟨z, rfl, hc⟩ := cm f.2 (by omega) j y hy
        exact ev_op (ev_var rfl) (ev_var rfl) (rv_I hc)
      have hl2 := e2 q _ hl
      refine q_asgL (el_cat (by walk_at "el") (el_map (mulV f.1) (ev_var rfl) (sq_of hl2) (by rw [List.length_map]; omega) (fun _ => rfl) fun j y H3 e3 hy => ?_) (by simp; omega)) fun p6 H3 hp6 e3 h3 => ?_
      · obtain ⟨z, rfl, hc⟩ := cm f.1 (by omega) j y hy
        exact ev_op (ev_var rfl) (ev_var rfl) (rv_I hc)
      rw [map_mulV] at h2 h3
      have g2 : H3 p5 = some (.lst (((sumsF (fs.take i)).map (· * f.2) ++ [0]).map V.int)) := by
        rw [List.map_append]
        exact e3 p5 _ h2
      have g3 : H3 p6 = some (.lst ((0 :: (sumsF (fs.take i)).map (· * f.1)).map V.int)) := h3
      refine s_asgL (el_zip addV (by walk_at "ea") (sq_of g2) (sq_of g3) (by simp) (by simp; omega) (fun _ _ => rfl) fun j a b H4 e4 ha hb => ?_) fun p2 H4 hp2 e4 h4 => ?_
      · rw [List.getElem?_map] at ha hb
        obtain ⟨a', _, rfl⟩ := Option.map_eq_some_iff.mp ha
        obtain ⟨b', _, rfl⟩ := Option.map_eq_some_iff.mp hb
        exact ev_op (ev_var rfl) (ev_var rfl) rv_I0
      · rw [zip_addV] at h4
        exact ⟨p2, _, _, _, _, rfl, fresh_back (e.trans (e2.trans e3)) hp2, e.trans (e2.trans (e3.trans e4)), by rw [sumsF_take hfi]; exact h4⟩
    · rintro σ' H' ⟨q, y2, y3, y5, y6, rfl, hq, e, hl⟩
      rw [hwl, List.take_length] at hl
      refine s_ret (ev_var rfl) fun H2 e2 => k q H2 hq (e.trans e2) (e2 q _ hl)

theorem el_call1LT {σ : L2.St} {H : Hp} {te : TE} {sp : Sp} {dvs ys : List V} {xs : List (List V)} {E : XK} (h : EvLT te σ H xs) (hs : ∀ p ws H1, Ex H H1 → H1 p = some (.lst ws) → TL H1 ws xs → SpL sp ([.ref p] ++ dvs) H1 ys) : EvL (tCall sp dvs E (tCons te tNil)) σ H ys := fun H1 e Q q =>
  h H1 e _ fun p ws H2 _ e2 h2 hw => hs p ws H2 (e.trans e2) h2 hw H2 (Ex.refl _) Q (fun l H3 hl e3 h3 => q l H3 (fresh_back e2 hl) (e2.trans e3) h3) E
theorem sl_sums {H : Hp} {a : Addr} {ws : List V} {fs : List (Int × Int)} (ha : H a = some (.lst ws)) (ht : TL H ws (fs.map twoV)) (hf : FOk fs) : SpL sp_sums_by_tables ([.ref a] ++ []) H ((sumsF fs).map V.int) := fun H1 e Q q E => ⟨a, ws, fs, rfl, e a _ ha, ht.ex e, hf, q⟩
/-- the factors of weights_by_tables -/
def facs (w : Int) (n : Nat) : List (Int × Int) := (List.range n).map fun i : Nat => (w, (i : Int))
theorem fok_facs {w : Int} {n : Nat} (hn : n ≤ 20) (h0 : 0 ≤ w) (h1 : w ≤ 2 ^ 42) : FOk (facs w n) := ⟨by
  unfold facs
  rw [List.length_map, List.length_range]
  omega, fun f hf => by
  obtain ⟨i, hi, rfl⟩ := List.mem_map.mp hf
  have := List.mem_range.mp hi
  exact ⟨h0, h1, by show (0 : Int) ≤ (i : Int); omega, by show (i : Int) ≤ 2 ^ 42; omega⟩⟩

theorem sumsF_facs (w : Int) : ∀ n, sumsF (facs w n) = sums w n
  | 0 => rfl
  | n + 1 => by
    have ih := sumsF_facs w n
    unfold sumsF facs at ih ⊢
    rw [List.range_succ, List.map_append, List.foldl_append, ih]
    rfl
def sp_weights_by_tables : Sp := fun vs H Q _ => ∃ (n : Nat) (w : Int), vs = [.int n, .int w] ∧ n ≤ 20 ∧ 0 ≤ w ∧ w ≤ 2 ^ 42 ∧ RetL ((sums w n).map V.int) H Q
theorem sl_wbt {H : Hp} {n : Nat} {w : Int} (h0 : n ≤ 20) (h1 : 0 ≤ w) (h2 : w ≤ 2 ^ 42) : SpL sp_weights_by_tables ([.int (n : Int), .int w] ++ []) H ((sums w n).map V.int) := fun H1 _ Q q E => ⟨n, w, rfl, h0, h1, h2, q⟩
theorem ok_weights_by_tables (T : Tx K mg) : FnOk P w K mg base CX0 2 T.f_weights_by_tables T.d_weights_by_tables ["guests", "weight"] sp_weights_by_tables := by
  refine T.F_weights_by_tables.ok sc_weights_by_tables (fun vs H Q E h => ?_) (fun cdv A outer s H vs Q E hr h => ?_)
  · obtain ⟨n, x, rfl, _⟩ := h
    rfl
  · obtain ⟨n, x, rfl, hn, hx0, hx1, k⟩ := h
    refine ⟨_, (pss_one (ps_ret (pe_call (ok_sums_by_tables T) (hr.mono (by decide)) (by rfl) T.g_sums_by_tables T.F_sums_by_tables.kp T.b_sums_by_tables .nil pass0 (pa_cons (pe_lc (own := [("guest", 2)]) (g := (gName 2)) (tt := tYes) rfl sc_weights_by_tables.nd (pi_range1 (by rfl) T.m_range (pa_cons (pv 0) pa_nil)) (blkOk_by (own := [("guest", 2)]) (N := n_weights_by_tables) (sc := defScope s_weights_by_tables) (by decide +kernel)) (fun _ _ _ _ _ => (pg_name (i := 2) sc_weights_by_tables.nd rfl (Or.inl rfl))) (fun _ _ _ _ _ => pts_nil) (fun _ _ _ _ _ => (pe_tup (pa_cons (pv 1) (pa_cons (pv 2) pa_nil))))) pa_nil)))), ?_⟩
    have lt := elt_R1 (te := tTup (tCons (tVar 1) (tCons (tVar 2) tNil))) (ta := tCons (tVar 0) tNil) (j := 2) (vs := [2]) (H := H) (σ := start n_weights_by_tables [.int (n : Int), .int x]) (n := (n : Int)) (fun i : Nat => twoV (x, (i : Int))) (ea_cons (ev_var (i := 0) rfl) ea_nil) ⟨by omega, by omega⟩ (fun _ => rfl) (fun i H1 e hi => eu_tup (ea_cons (ev_var rfl) (ea_cons (ev_var rfl) ea_nil)) (Nat.le_of_ble_eq_true rfl))
    have e : (List.range (n : Int).toNat).map (fun i : Nat => twoV (x, (i : Int))) = (facs x n).map twoV := by
      unfold facs
      rw [List.map_map]
      rfl
    rw [e] at lt
    refine s_retL (el_call1LT lt fun p ws H1 e1 h1 hw => sl_sums h1 hw (fok_facs hn hx0 hx1)) fun p H1 hp e1 h1 => k p H1 hp e1 ?_
    rw [sumsF_facs] at h1
    exact h1

local macro_rules | `(tactic| walk_at "callL") => `(tactic| ((with_reducible refine' sl_wbt ?c1 ?c2 ?c3); (case c1 => walk_at "side"); (case c2 => walk_at "side"); (case c3 => walk_at "side")))
/-- what tables_share gives -/
def shareT (n t : Nat) (w : Int) : List V := [.int ((stir n t : Int) * w ^ t / cd ((stir n t : Int) * w ^ t) (rise w n)), .int (rise w n / cd ((stir n t : Int) * w ^ t) (rise w n))]
def sp_tables_share : Sp := fun vs H Q _ => ∃ (n t : Nat) (w : Int), vs = [.int n, .int w, .int t] ∧ 1 ≤ n ∧ n ≤ 20 ∧ t ≤ n ∧ 1 ≤ w ∧ w ≤ 1000000000000 ∧ RetU (shareT n t w) H Q
theorem su_share {H : Hp} {n t : Nat} {w : Int} (h0 : 1 ≤ n) (h1 : n ≤ 20) (h2 : t ≤ n) (h3 : 1 ≤ w) (h4 : w ≤ 1000000000000) : SpU sp_tables_share ([.int (n : Int), .int w, .int (t : Int)] ++ []) H (shareT n t w) := fun H1 _ Q q E => ⟨n, t, w, rfl, h0, h1, h2, h3, h4, q⟩
theorem ok_tables_share (T : Tx K mg) : FnOk P w K mg base CX0 4 T.f_tables_share T.d_tables_share ["guests", "weight", "number"] sp_tables_share := by
  refine T.F_tables_share.ok sc_tables_share (fun vs H Q E h => ?_) (fun cdv A outer s H vs Q E hr h => ?_)
  · obtain ⟨n, t, x, rfl, _⟩ := h
    rfl
  · obtain ⟨n, t, x, rfl, hn0, hn, ht, hx0, hx1, k⟩ := h
    refine ⟨_, (pss_cons (ps_expr (pe_call (ok_check_guests T) (hr.mono (by decide)) (by rfl) T.g_check_guests T.F_check_guests.kp T.b_check_guests .nil pass0 (pa_cons (pv 0) pa_nil)))
      (pss_cons (ps_expr (pe_call (ok_check_weight T) (hr.mono (by decide)) (by rfl) T.g_check_weight T.F_check_weight.kp T.b_check_weight .nil pass0 (pa_cons (pv 1) pa_nil)))
      (pss_cons (ps_expr (pe_call (ok_check_number T) (hr.mono (by decide)) (by rfl) T.g_check_number T.F_check_number.kp T.b_check_number .nil pass0 (pa_cons (pv 2) (pa_cons pe_int (pa_cons (pv 0) pa_nil)))))
      (pss_one (ps_ret (pe_call (ok_fraction T) (hr.mono (by decide)) (by rfl) T.g_fraction T.F_fraction.kp T.b_fraction .nil pass0 (pa_cons (pe_ix ix_list (pe_call (ok_weights_by_tables T) (hr.mono (by decide)) (by rfl) T.g_weights_by_tables T.F_weights_by_tables.kp T.b_weights_by_tables .nil pass0 (pa_cons (pv 0) (pa_cons (pv 1) pa_nil))) (pv 2) (fun _ _ => rfl)) (pa_cons (pe_call (ok_rising T) (hr.mono (by decide)) (by rfl) T.g_rising T.F_rising.kp T.b_rising .nil pass0 (pa_cons (pv 1) (pa_cons (pv 0) pa_nil))) pa_nil)))))))), ?_⟩
    refine q_drop (by walk_at "ev") fun H1 e1 => ?_
    refine q_drop (by walk_at "ev") fun H2 e2 => ?_
    refine q_drop (by walk_at "ev") fun H3 e3 => ?_
    have hr0 := rise_pos hx0 n
    have hr1 : (rise x n).natAbs < 2 ^ 8000 := lt2_mono (lt_of_le2 (rise_le (by omega) n (by omega))) (by omega)
    have hg : ((sums x n).map V.int)[t]? = some (.int ((stir n t : Int) * x ^ t)) := by
      rw [List.getElem?_map, sums_get x n t ht]
      rfl
    have ev1 : Ev (tOp (rIxL K) (tCall sp_weights_by_tables [] E0 (tCons (tVar 0) (tCons (tVar 1) tNil))) (tVar 2)) [some (V.int n), some (.int x), some (.int t)] H3 (.int ((stir n t : Int) * x ^ t)) :=
      ev_opL1 (el_call (by walk_at "ea") (sl_wbt hn (by omega) (by omega))) (fun H4 e4 => ev_var rfl) fun p H4 hp e4 => rv_ixL (sq_of hp) (atI_nat hg)
    refine s_retU (eu_call (ea_cons ev1 (ea_cons (by walk_at "ev") ea_nil)) (su_fraction hr0 hr1)) fun p H4 hp e4 h4 => k p H4 (fresh_back (e1.trans (e2.trans e3)) hp) (e1.trans (e2.trans (e3.trans e4))) h4

end

local macro_rules | `(tactic| walk_at "call") => `(tactic| (with_reducible exact sv_whole))
local macro_rules | `(tactic| walk_at "call") => `(tactic| ((with_reducible refine' sv_ord ?c1 ?c2); (case c1 => assumption); (case c2 => assumption)))

local macro_rules | `(tactic| walk_at "call") => `(tactic| ((with_reducible refine' sv_pow ?c1 ?c2 ?c3); (case c1 => walk_at "side"); (case c2 => walk_at "side"); (case c3 => walk_at "side")))
local macro_rules | `(tactic| walk_at "call") => `(tactic| ((with_reducible refine' sv_rise ?c1 ?c2); (case c1 => walk_at "side"); (case c2 => walk_at "side")))
local macro_rules | `(tactic| walk_at "call") => `(tactic| (with_reducible exact sv_between))
local macro_rules | `(tactic| walk_at "call") => `(tactic| ((with_reducible refine' sv_check1 ?c1 ?c2); (case c1 => walk_at "side"); (case c2 => walk_at "side")))
local macro_rules | `(tactic| walk_at "call") => `(tactic| ((with_reducible refine' sv_check_number ?c1 ?c2); (case c1 => walk_at "side"); (case c2 => walk_at "side")))
local macro_rules | `(tactic| walk_at "callU") => `(tactic| ((with_reducible refine' su_fraction ?c1 ?c2); (case c1 => walk_at "side"); (case c2 => walk_at "side")))

local macro_rules | `(tactic| walk_at "callL") => `(tactic| ((with_reducible refine' sl_wbt ?c1 ?c2 ?c3); (case c1 => walk_at "side"); (case c2 => walk_at "side"); (case c3 => walk_at "side")))
local macro_rules | `(tactic| walk_at "callU") => `(tactic| ((with_reducible refine' su_share ?c1 ?c2 ?c3 ?c4 ?c5); (case c1 => walk_at "side"); (case c2 => walk_at "side"); (case c3 => walk_at "side"); (case c4 => walk_at "side"); (case c5 => walk_at "side")))


/-! ### weights -/
def sp_total : Sp := fun vs H Q _ => ∃ (n : Nat) (w : Int), vs = [.int n, .int w] ∧ 1 ≤ n ∧ n ≤ 20 ∧ 1 ≤ w ∧ w ≤ 1000000000000 ∧ RetV (.int (rise w n)) H Q
theorem sv_total {H : Hp} {n : Nat} {w : Int} (h0 : 1 ≤ n) (h1 : n ≤ 20) (h2 : 1 ≤ w) (h3 : w ≤ 1000000000000) : SpV sp_total ([.int (n : Int), .int w] ++ []) H (.int (rise w n)) := fun H1 _ Q q E => ⟨n, w, rfl, h0, h1, h2, h3, q⟩
/-- the top of the mean -/
def mt (w : Int) : Nat → Int
  | 0 => 0
  | n + 1 => mt w n * (w + n) + rise w n * w
theorem mt_bd {w : Int} (h : 1 ≤ w) : ∀ n : Nat, 0 ≤ mt w n ∧ mt w n ≤ n * rise w n
  | 0 => by
    show (0 : Int) ≤ 0 ∧ (0 : Int) ≤ ((0 : Nat) : Int) * 1
    exact ⟨Int.le_refl _, by simp⟩
  | n + 1 => by
    obtain ⟨a, b⟩ := mt_bd h n
    have r := rise_pos h n
    have hw : 0 ≤ w + (n : Int) := by omega
    have c : rise w n * w ≤ rise w n * (w + (n : Int)) := Int.mul_le_mul_of_nonneg_left (by omega) (by omega)
    have d := Int.mul_le_mul_of_nonneg_right b hw
    have e : ((n + 1 : Nat) : Int) * rise w (n + 1) = (n : Int) * rise w n * (w + (n : Int)) + rise w n * (w + (n : Int)) := by
      show ((n + 1 : Nat) : Int) * (rise w n * (w + (n : Int))) = _
      rw [Int.mul_assoc, show ((n + 1 : Nat) : Int) = (n : Int) + 1 by omega, Int.add_mul, Int.one_mul]
    have f : 0 ≤ rise w n * w := Int.mul_nonneg (by omega) (by omega)
    have g := Int.mul_nonneg a hw
    show 0 ≤ mt w n * (w + (n : Int)) + rise w n * w ∧ mt w n * (w + (n : Int)) + rise w n * w ≤ _
    rw [e]
    omega
theorem mt_abs {w : Int} (h : 1 ≤ w) (h1 : w.natAbs < 2 ^ 130) {n : Nat} (hn : n ≤ 20) : (mt w n).natAbs < 2 ^ 2700 := by
  obtain ⟨a, b⟩ := mt_bd h n
  have r := rise_pos h n
  have c := natAbs_mul_lt (a := (n : Int)) (b := rise w n) (k := 5) (m := 2621) (by omega) (lt2_mono (lt_of_le2 (rise_le h1 n (by omega))) (by omega))
  have d : ((n : Int) * rise w n).natAbs < 2 ^ 2700 := lt2_mono c (by omega)
  omega
def sp_mean : Sp := fun vs H Q _ => ∃ (n : Nat) (w : Int), vs = [.int n, .int w] ∧ 1 ≤ n ∧ n ≤ 20 ∧ 1 ≤ w ∧ w ≤ 1000000000000 ∧ RetU [.int (mt w n / cd (mt w n) (rise w n)), .int (rise w n / cd (mt w n) (rise w n))] H Q
theorem su_mean {H : Hp} {n : Nat} {w : Int} (h0 : 1 ≤ n) (h1 : n ≤ 20) (h2 : 1 ≤ w) (h3 : w ≤ 1000000000000) : SpU sp_mean ([.int (n : Int), .int w] ++ []) H [.int (mt w n / cd (mt w n) (rise w n)), .int (rise w n / cd (mt w n) (rise w n))] := fun H1 _ Q q E => ⟨n, w, rfl, h0, h1, h2, h3, q⟩
def likely (l : List Int) (m : Int) : List Nat := (List.range l.length).filter fun t => decide (l.getD t 0 = m)
def Mx (l : List Int) (m : Int) : Prop := m ∈ l ∧ ∀ y ∈ l, y ≤ m
theorem Mx.ex : ∀ {l : List Int}, l ≠ [] → ∃ m, Mx l m
  | [], h => absurd rfl h
  | [x], _ => ⟨x, by simp, by simp⟩
  | x :: y :: r, _ => by
    obtain ⟨m, h1, h2⟩ := Mx.ex (l := y :: r) (by simp)
    by_cases h : x ≤ m
    · exact ⟨m, List.mem_cons_of_mem _ h1, fun z hz => (List.mem_cons.mp hz).elim (fun e => e ▸ h) (h2 z)⟩
    · exact ⟨x, List.mem_cons_self, fun z hz => (List.mem_cons.mp hz).elim (fun e => e ▸ Int.le_refl _) fun hz => by
        have := h2 z hz
        omega⟩
def sp_likeliest : Sp := fun vs H Q _ => ∃ (n : Nat) (w m : Int), vs = [.int n, .int w] ∧ 1 ≤ n ∧ n ≤ 20 ∧ 1 ≤ w ∧ w ≤ 1000000000000 ∧ Mx (sums w n) m ∧ RetL (nv (likely (sums w n) m)) H Q
theorem sl_likeliest {H : Hp} {n : Nat} {w m : Int} (h0 : 1 ≤ n) (h1 : n ≤ 20) (h2 : 1 ≤ w) (h3 : w ≤ 1000000000000) (hm : Mx (sums w n) m) : SpL sp_likeliest ([.int (n : Int), .int w] ++ []) H (nv (likely (sums w n) m)) := fun H1 _ Q q E => ⟨n, w, m, rfl, h0, h1, h2, h3, hm, q⟩
def frac (a b : Int) : List V := [.int (a / cd a b), .int (b / cd a b)]
def sp_seating_share : Sp := fun vs H Q _ => ∃ (a : Addr) (h : List Nat) (rs : List (List Nat)) (w : Int), vs = [.ref a, .int w] ∧ H a = some (.lst (nv h)) ∧ Ord h ∧ Rings h rs ∧ rs.length ≤ 20 ∧ 1 ≤ w ∧ w ≤ 1000000000000 ∧ RetU (frac (w ^ rs.length) (rise w h.length)) H Q
theorem su_seating_share {H : Hp} {a : Addr} {h : List Nat} {rs : List (List Nat)} {w : Int} (ha : H a = some (.lst (nv h))) (o : Ord h) (R : Rings h rs) (hl : rs.length ≤ 20) (h2 : 1 ≤ w) (h3 : w ≤ 1000000000000) : SpU sp_seating_share ([.ref a, .int w] ++ []) H (frac (w ^ rs.length) (rise w h.length)) := fun H1 e Q q E => ⟨a, h, rs, w, rfl, e a _ ha, o, R, hl, h2, h3, q⟩
def sp_lowest : Sp := fun vs H Q _ => ∃ a b : Int, vs = [.int a, .int b] ∧ 0 ≤ a ∧ 0 < b ∧ b.natAbs < 2 ^ 8000 ∧ RetU (frac a b) H Q
theorem su_lowest {H : Hp} {a b : Int} (h0 : 0 ≤ a) (h1 : 0 < b) (h2 : b.natAbs < 2 ^ 8000) : SpU sp_lowest ([.int a, .int b] ++ []) H (frac a b) := fun H1 _ Q q E => ⟨a, b, rfl, h0, h1, h2, q⟩
def sp_law_heavy : Sp := fun vs H Q _ => ∃ (p : Addr) (n : Nat), vs = [.ref p] ∧ Po p n H ∧ n + 3 < 1000000000 ∧ ∀ (w : Int) H', 1 ≤ w → w ≤ 1000000000000 → Po p (n + 3) H' → Ex (Hm p H) H' → Q (.int w) H'
def sp_law_row : Sp := fun vs H Q _ => ∃ (n : Nat) (w : Int), vs = [.int n, .int w] ∧ n ≤ 20 ∧ 0 ≤ w ∧ w ≤ 2 ^ 42 ∧ RetL ((sums w n).map V.int) H Q
theorem sl_row {H : Hp} {n : Nat} {w : Int} (h0 : n ≤ 20) (h1 : 0 ≤ w) (h2 : w ≤ 2 ^ 42) : SpL sp_law_row ([.int (n : Int), .int w] ++ []) H ((sums w n).map V.int) := fun H1 _ Q q E => ⟨n, w, rfl, h0, h1, h2, q⟩
theorem p_ret {σ : L2.St} {H0 H : Hp} {p : Addr} {k n : Nat} {te : TE} {R : V → Hp → Prop} {D : Ends} (h : EvP p k te σ H0 R) (e : Ex H0 H) (hp : Po p n H) (hn : n + k ≤ 1000000000) (q : ∀ v H2, R v H2 → Po p (n + k) H2 → Ex (Hm p H) H2 → D.rt v H2) : tRet te D σ H := h n H e hp hn _ q
def rowF (w i : Int) : V → V → V
  | .int x, .int y => .int (w * x + i * y)
  | v, _ => v
theorem zip_rowF (w i : Int) : ∀ as bs : List Int, List.zipWith (rowF w i) (as.map V.int) (bs.map V.int) = (List.zipWith (· + ·) (bs.map (· * i)) (as.map (· * w))).map V.int
  | [], bs => by cases bs <;> rfl
  | _ :: _, [] => rfl
  | x :: r, y :: s => by
    have := zip_rowF w i r s
    simp only [List.map_cons, List.zipWith_cons_cons]
    rw [this]
    show V.int (w * x + i * y) :: _ = _
    rw [Int.mul_comm w x, Int.mul_comm i y, Int.add_comm]
section
variable {P : Program} {w : World} {K : PySem.W.Frag} {mg : Str → Option Value} {base : Heap}
theorem ok_total_weight (T : Tx K mg) : FnOk P w K mg base CX0 4 T.f_total_weight T.d_total_weight ["guests", "weight"] sp_total := by
  refine T.F_total_weight.ok sc_total_weight (fun vs H Q E h => ?_) (fun cdv A outer s H vs Q E hr h => ?_)
  · obtain ⟨n, x, rfl, _⟩ := h
    rfl
  · obtain ⟨n, x, rfl, h0, h1, h2, h3, k⟩ := h
    refine ⟨_, (pss_cons (ps_expr (pe_call (ok_check_guests T) (hr.mono (by decide)) (by rfl) T.g_check_guests T.F_check_guests.kp T.b_check_guests .nil pass0 (pa_cons (pv 0) pa_nil)))
      (pss_cons (ps_expr (pe_call (ok_check_weight T) (hr.mono (by decide)) (by rfl) T.g_check_weight T.F_check_weight.kp T.b_check_weight .nil pass0 (pa_cons (pv 1) pa_nil)))
      (pss_one (ps_ret (pe_call (ok_rising T) (hr.mono (by decide)) (by rfl) T.g_rising T.F_rising.kp T.b_rising .nil pass0 (pa_cons (pv 1) (pa_cons (pv 0) pa_nil))))))), ?_⟩
    refine q_drop (by walk_at "ev") fun H1 e1 => ?_
    refine q_drop (by walk_at "ev") fun H2 e2 => ?_
    exact s_ret (by walk_at "ev") fun H3 e3 => k _ (e1.trans (e2.trans e3))
theorem ok_mean_tables (T : Tx K mg) : FnOk P w K mg base CX0 4 T.f_mean_tables T.d_mean_tables ["guests", "weight"] sp_mean := by
  refine T.F_mean_tables.ok sc_mean_tables (fun vs H Q E h => ?_) (fun cdv A outer s H vs Q E hr h => ?_)
  · obtain ⟨n, x, rfl, _⟩ := h
    rfl
  · obtain ⟨n, x, rfl, h0, h1, h2, h3, k⟩ := h
    refine ⟨_, (pss_cons (ps_expr (pe_call (ok_check_guests T) (hr.mono (by decide)) (by rfl) T.g_check_guests T.F_check_guests.kp T.b_check_guests .nil pass0 (pa_cons (pv 0) pa_nil)))
      (pss_cons (ps_expr (pe_call (ok_check_weight T) (hr.mono (by decide)) (by rfl) T.g_check_weight T.F_check_weight.kp T.b_check_weight .nil pass0 (pa_cons (pv 1) pa_nil)))
      (pss_cons (ps_set (i := 2) sc_mean_tables.nd rfl (Or.inl rfl) pe_int)
      (pss_cons (ps_set (i := 3) sc_mean_tables.nd rfl (Or.inl rfl) pe_int)
      (pss_cons (ps_for PassesOwn.never rfl (pi_range1 (by rfl) T.m_range (pa_cons (pv 0) pa_nil)) (pg_name (i := 4) sc_mean_tables.nd rfl (Or.inl rfl)) (pss_cons (ps_set (i := 2) sc_mean_tables.nd rfl (Or.inl rfl) (pe_op op_add (pe_op op_mulX (pv 2) (pe_op op_add (pv 1) (pv 4))) (pe_op op_mulX (pv 3) (pv 1))))
      (pss_one (ps_set (i := 3) sc_mean_tables.nd rfl (Or.inl rfl) (pe_op op_mulX (pv 3) (pe_op op_add (pv 1) (pv 4)))))))
      (pss_one (ps_ret (pe_call (ok_fraction T) (hr.mono (by decide)) (by rfl) T.g_fraction T.F_fraction.kp T.b_fraction .nil pass0 (pa_cons (pv 2) (pa_cons (pv 3) pa_nil)))))))))), ?_⟩
    refine q_drop (by walk_at "ev") fun H1 e1 => ?_
    refine q_drop (by walk_at "ev") fun H2 e2 => ?_
    refine q_asg ev_c fun H3 e3 => ?_
    refine q_asg ev_c fun H4 e4 => ?_
    have hb : x.natAbs < 2 ^ 130 := by omega
    refine q_forR1 (n := (n : Int)) (by walk_at "ea") ⟨by omega, by omega⟩ (fun i σ' H' => ∃ y, σ' = [some (.int n), some (.int x), some (.int (mt x i)), some (.int (rise x i)), y] ∧ Ex H H') (fun H5 e5 => ⟨none, rfl, e1.trans (e2.trans (e3.trans (e4.trans e5)))⟩) ?_ ?_
    · rintro i σ' H' hi ⟨y, rfl, e⟩
      have hs : (x + (i : Int)).natAbs < 2 ^ 131 := by omega
      have hr1 := lt_of_le2 (rise_le hb i (by omega))
      have m1 : CMulX (mt x i) (x + (i : Int)) := mulx_ok (mt_abs h2 hb (by omega)) hs (by decide)
      have m2 : CMulX (rise x i) x := mulx_ok hr1 hb (by omega)
      have m3 : CMulX (rise x i) (x + (i : Int)) := mulx_ok hr1 hs (by omega)
      refine q_asg (by walk_at "ev") fun H5 e5 => ?_
      exact s_asg (by walk_at "ev") fun H6 e6 => ⟨_, rfl, e.trans (e5.trans e6)⟩
    · rintro σ' H' ⟨y, rfl, e⟩
      rw [Int.toNat_natCast]
      refine s_retU (eu_call (ea_cons (ev_var rfl) (ea_cons (ev_var rfl) ea_nil)) (su_fraction (rise_pos h2 n) (lt2_mono (lt_of_le2 (rise_le hb n (by omega))) (by omega)))) fun p H5 hp e5 h5 => k p H5 (fresh_back e hp) (e.trans e5) h5
theorem ok_likeliest_tables (T : Tx K mg) : FnOk P w K mg base CX0 4 T.f_likeliest_tables T.d_likeliest_tables ["guests", "weight"] sp_likeliest := by
  refine T.F_likeliest_tables.ok sc_likeliest_tables (fun vs H Q E h => ?_) (fun cdv A outer s H vs Q E hr h => ?_)
  · obtain ⟨n, x, m, rfl, _⟩ := h
    rfl
  · obtain ⟨n, x, m, rfl, h0, h1, h2, h3, hm, k⟩ := h
    refine ⟨_, (pss_cons (ps_expr (pe_call (ok_check_guests T) (hr.mono (by decide)) (by rfl) T.g_check_guests T.F_check_guests.kp T.b_check_guests .nil pass0 (pa_cons (pv 0) pa_nil)))
      (pss_cons (ps_expr (pe_call (ok_check_weight T) (hr.mono (by decide)) (by rfl) T.g_check_weight T.F_check_weight.kp T.b_check_weight .nil pass0 (pa_cons (pv 1) pa_nil)))
      (pss_cons (ps_set (i := 2) sc_likeliest_tables.nd rfl (Or.inl rfl) (pe_call (ok_weights_by_tables T) (hr.mono (by decide)) (by rfl) T.g_weights_by_tables T.F_weights_by_tables.kp T.b_weights_by_tables .nil pass0 (pa_cons (pv 0) (pa_cons (pv 1) pa_nil))))
      (pss_cons (ps_set (i := 3) sc_likeliest_tables.nd rfl (Or.inr rfl) (pe_callB (cr_max rfl) (by rfl) T.m_max (by decide +kernel) (pa_cons (pv 2) pa_nil)))
      (pss_one (ps_ret (pe_lc (own := [("number", 4), ("part", 5)]) (g := (gTup _ 2 (gCons (gName 4) (gCons (gName 5) gNil)))) rfl sc_likeliest_tables.nd (pi_enum (by rfl) T.m_enumerate (pa_cons (pv 2) pa_nil)) (blkOk_by (own := [("number", 4), ("part", 5)]) (N := n_likeliest_tables) (sc := defScope s_likeliest_tables) (by decide +kernel)) (fun _ _ _ _ _ => (pg_tup rfl (pgs_cons (pg_name (i := 4) sc_likeliest_tables.nd rfl (Or.inl rfl)) (pgs_cons (pg_name (i := 5) sc_likeliest_tables.nd rfl (Or.inl rfl)) pgs_nil)))) (fun _ _ _ _ _ => (pts_one (pt_cmpR op_eq (pv 5) (pv 3) (nomark _)))) (fun _ _ _ _ _ => (pv 4))))))))), ?_⟩
    refine q_drop (by walk_at "ev") fun H1 e1 => ?_
    refine q_drop (by walk_at "ev") fun H2 e2 => ?_
    refine q_asgL (by walk_at "el") fun a H3 na e3 h3 => ?_
    refine q_asg (ev_maxV (K := K) (ev_var rfl) (sq_of h3) hm.1 hm.2) fun H4 e4 => ?_
    have h4 := e4 a _ h3
    have sl := sums_len x n
    refine s_retL (xs := nv (likely (sums x n) m)) ?_ fun p H5 hp e5 h5 => k p H5 (fresh_back (e1.trans (e2.trans (e3.trans e4))) hp) (e1.trans (e2.trans (e3.trans (e4.trans e5)))) h5
    have e : nv (likely (sums x n) m) = given ((sums x n).map V.int).length (fun t => decide ((sums x n).getD t 0 = m)) (fun t => V.int (t : Int)) := by
      unfold given likely
      rw [List.length_map, nv_eq]
    rw [e]
    refine el_en (K := K) _ _ (by walk_at "ea") (sq_of h4) (by rw [List.length_map]; omega) (fun _ _ => rfl) (fun t v H5 e5 hv => ?_) fun t v H5 e5 hv _ => ev_var rfl
    rw [List.getElem?_map] at hv
    obtain ⟨z, hz, rfl⟩ := Option.map_eq_some_iff.mp hv
    have gz : (sums x n).getD t 0 = z := by rw [List.getD_eq_getElem?_getD, hz] <;> rfl
    show EvT _ _ _ (decide ((sums x n).getD t 0 = m))
    rw [gz]
    refine et_is (et_test (ev_op (ev_var rfl) (ev_var rfl) (rv_eq rfl))) ?_
    apply decide_eq_decide.mpr
    exact ⟨fun q => V.int.inj q, fun q => by rw [q]⟩
theorem ok_seating_share (T : Tx K mg) : FnOk P w K mg base CX0 6 T.f_seating_share T.d_seating_share ["seating", "weight"] sp_seating_share := by
  refine T.F_seating_share.ok sc_seating_share (fun vs H Q E h => ?_) (fun cdv A outer s H vs Q E hr h => ?_)
  · obtain ⟨a, h, rs, x, rfl, _⟩ := h
    rfl
  · obtain ⟨a, h, rs, x, rfl, ha, o, R, hl, h2, h3, k⟩ := h
    refine ⟨_, (pss_cons (ps_set (i := 2) sc_seating_share.nd rfl (Or.inl rfl) (pe_call (ok_tables_of T) (hr.mono (by decide)) (by rfl) T.g_tables_of T.F_tables_of.kp T.b_tables_of .nil pass0 (pa_cons (pv 0) pa_nil)))
      (pss_cons (ps_expr (pe_call (ok_check_weight T) (hr.mono (by decide)) (by rfl) T.g_check_weight T.F_check_weight.kp T.b_check_weight .nil pass0 (pa_cons (pv 1) pa_nil)))
      (pss_one (ps_ret (pe_call (ok_fraction T) (hr.mono (by decide)) (by rfl) T.g_fraction T.F_fraction.kp T.b_fraction .nil pass0 (pa_cons (pe_call (ok_raised T) (hr.mono (by decide)) (by rfl) T.g_raised T.F_raised.kp T.b_raised .nil pass0 (pa_cons (pv 1) (pa_cons (pe_callB call_lenR (by rfl) T.m_len (by decide +kernel) (pa_cons (pv 2) pa_nil)) pa_nil))) (pa_cons (pe_call (ok_rising T) (hr.mono (by decide)) (by rfl) T.g_rising T.F_rising.kp T.b_rising .nil pass0 (pa_cons (pv 1) (pa_cons (pe_callB call_lenR (by rfl) T.m_len (by decide +kernel) (pa_cons (pv 0) pa_nil)) pa_nil))) pa_nil))))))), ?_⟩
    have o2 := o.2
    have lt : EvLT (tCall sp_tables_of [] E0 (tCons (tVar 0) tNil)) (start n_seating_share [.ref a, .int x]) H (rs.map nv) := fun H1 e Q q => (ea_cons (ev_var (i := 0) rfl) ea_nil) H1 (Ex.refl _) _ fun H2 e2 => ⟨a, h, rs, rfl, e2 a _ (e a _ ha), o, R, fun p ws H3 hp e3 h3 ht => q p ws H3 (fresh_back e2 hp) (e2.trans e3) h3 ht⟩
    refine q_asgLT lt fun b ws H1 nb e1 h1 t1 => ?_
    have wl := t1.len
    rw [List.length_map] at wl
    refine q_drop (by walk_at "ev") fun H2 e2 => ?_
    have hb : x.natAbs < 2 ^ 130 := by omega
    have l1 := ev_len (K := K) (ta := tVar 2) (σ := [some (V.ref a), some (.int x), some (.ref b)]) (ev_var (i := 2) rfl) (sq_of (e2 b _ h1))
    have l2 := ev_len (K := K) (ta := tVar 0) (σ := [some (V.ref a), some (.int x), some (.ref b)]) (ev_var (i := 0) rfl) (sq_of (e2 a _ (e1 a _ ha)))
    rw [wl] at l1
    rw [nv_len] at l2
    have pw := ev_call (E := E0) (ea_cons (ev_var (i := 1) (v := .int x) (σ := [some (V.ref a), some (.int x), some (.ref b)]) rfl) (ea_cons l1 ea_nil)) (sv_pow hb (by omega) (by omega))
    rw [Int.toNat_natCast] at pw
    refine s_retU (eu_call (ea_cons pw (ea_cons (ev_call (ea_cons (ev_var rfl) (ea_cons l2 ea_nil)) (sv_rise hb (by omega))) ea_nil)) (su_fraction (rise_pos h2 _) (lt2_mono (lt_of_le2 (rise_le hb _ (by omega))) (by omega)))) fun p H3 hp e3 h3 => k p H3 (fresh_back (e1.trans e2) hp) (e1.trans (e2.trans e3)) h3
theorem ok_law_lowest (T : Tx K mg) : FnOk P w K mg base CX0 1 T.f_law_lowest T.d_law_lowest ["top", "bottom"] sp_lowest := by
  refine T.F_law_lowest.ok sc_law_lowest (fun vs H Q E h => ?_) (fun cdv A outer s H vs Q E hr h => ?_)
  · obtain ⟨a, b, rfl, _⟩ := h
    rfl
  · obtain ⟨a, b, rfl, ha, hb, hs, k⟩ := h
    refine ⟨_, (pss_cons (ps_par (i := 2) (j := 3) (by rfl) sc_law_lowest.nd rfl rfl (by decide) rfl rfl (pa_cons (pv 1) (pa_cons (pv 0) pa_nil)) (by rfl))
      (pss_cons (ps_while PassesOwn.never (pt_cmpR op_ne (pv 3) pe_int (nomark _)) (pss_one (ps_par (i := 2) (j := 3) (by rfl) sc_law_lowest.nd rfl rfl (by decide) rfl rfl (pa_cons (pv 3) (pa_cons (pe_op op_mod (pe_callTy call_intI (by rfl) T.m_int (by decide +kernel) (pa_cons (pv 2) pa_nil)) (pv 3)) pa_nil)) (by rfl))))
      (pss_one (ps_ret (pe_tup (pa_cons (pe_op op_fdivW (pv 0) (pv 2)) (pa_cons (pe_op op_fdivW (pv 1) (pv 2)) pa_nil))))))), ?_⟩
    obtain ⟨A, rfl⟩ : ∃ z : Nat, a = z := ⟨a.toNat, by omega⟩
    obtain ⟨B, rfl⟩ : ∃ z : Nat, b = z := ⟨b.toNat, by omega⟩
    refine q_par (by walk_at "ea") fun H1 e1 => ?_
    refine q_while (fun m σ' H' => ∃ x y : Nat, σ' = [some (.int (A : Int)), some (.int (B : Int)), some (.int (x : Int)), some (.int (y : Int))] ∧ Ex H H' ∧ Nat.gcd x y = Nat.gcd B A ∧ 0 < x ∧ m = y) A ⟨B, A, rfl, e1, rfl, by omega, rfl⟩ ?_
    rintro m σ' H' ⟨x, y, rfl, e, g, hx, hm⟩
    refine ⟨decide (y ≠ 0), et_is (et_test (ev_op (ev_var rfl) ev_c (rv_ne rfl))) ?_, fun hb2 H2 e2 => ?_, fun hb2 H2 e2 => ?_⟩
    · by_cases z : y = 0
      · subst z
        simp
      · have : V.int (y : Int) ≠ .int 0 := fun q => z (by
          have := V.int.inj q
          omega)
        simp [z, this]
    · have hy := of_decide_eq_true hb2
      refine ⟨fun σ2 H3 => σ2 = [some (.int (A : Int)), some (.int (B : Int)), some (.int (y : Int)), some (.int ((x % y : Nat) : Int))] ∧ Ex H H3, fun σ2 H3 ⟨q1, q2⟩ => ⟨x % y, by rw [hm]; exact Nat.mod_lt _ (by omega), y, x % y, q1, q2, ?_, by omega, rfl⟩, ?_⟩
      · rw [Nat.gcd_comm, ← Nat.gcd_rec, Nat.gcd_comm]
        exact g
      · refine s_par (ea_cons (ev_var rfl) (ea_cons (ev_op (ev_intI (ev_var rfl)) (ev_var rfl) (rv_I (by omega))) ea_nil)) fun H3 e3 => ⟨?_, e.trans (e2.trans e3)⟩
        rw [Int.natCast_emod]
        rfl
    · have hy : y = 0 := by simpa using hb2
      subst hy
      rw [Nat.gcd_zero_right] at g
      have gx : (x : Int) = cd (A : Int) (B : Int) := by
        unfold cd
        rw [Int.natAbs_natCast, Int.natAbs_natCast, Nat.gcd_comm, ← g]
      rw [gx]
      have hd : ∀ z : Int, CDivW z (cd (A : Int) (B : Int)) := fun z => wide_div (cd_pos hb) (Nat.lt_of_le_of_lt (by have := cd_le (a := (A : Int)) hb; have := cd_pos (a := (A : Int)) hb; omega) hs) (by decide) (by decide)
      exact s_retU (eu_tup (ea_cons (ev_op (ev_var rfl) (ev_var rfl) (rv_I (hd _))) (ea_cons (ev_op (ev_var rfl) (ev_var rfl) (rv_I (hd _))) ea_nil)) (Nat.le_of_ble_eq_true rfl)) fun p H3 hp e3 h3 => k p H3 (fresh_back (e.trans e2) hp) (e.trans (e2.trans e3)) h3
theorem ok_law_heavy (T : Tx K mg) : FnOk P w K mg base CX0 2 T.f_law_heavy T.d_law_heavy ["pouch"] sp_law_heavy := by
  refine T.F_law_heavy.ok sc_law_heavy (fun vs H Q E h => ?_) (fun cdv A outer s H vs Q E hr h => ?_)
  · obtain ⟨p, n, rfl, _⟩ := h
    rfl
  · obtain ⟨p, n, rfl, hpo, hn, k⟩ := h
    refine ⟨_, (pss_one (ps_ret (pe_ix ix_list (pe_lst (pa_cons pe_int (pa_cons pe_int (pa_cons (pe_op op_add pe_int (pe_call (ok_law_dip T) (hr.mono (by decide)) (by rfl) T.g_law_dip T.F_law_dip.kp T.b_law_dip .nil pass0 (pa_cons (pv 0) (pa_cons pe_int pa_nil)))) (pa_cons (pe_op op_add pe_int (pe_call (ok_law_dip T) (hr.mono (by decide)) (by rfl) T.g_law_dip T.F_law_dip.kp T.b_law_dip .nil pass0 (pa_cons (pv 0) (pa_cons (pe_op op_powX pe_int pe_int) pa_nil)))) (pa_cons (pe_op op_powX pe_int pe_int) pa_nil)))))) (pe_call (ok_law_dip T) (hr.mono (by decide)) (by rfl) T.g_law_dip T.F_law_dip.kp T.b_law_dip .nil pass0 (pa_cons (pv 0) (pa_cons pe_int pa_nil))) (fun _ _ => rfl)))), ?_⟩
    have ten : Ev (tOp (rI CPowX fun i j => .int (i ^ j.toNat)) (tC (.int 10)) (tC (.int 12))) (start n_law_heavy [.ref p]) (Hm p H) (.int ((10 : Int) ^ (12 : Int).toNat)) := ev_op ev_c ev_c (rv_I (by constructor <;> decide +kernel))
    refine p_ret (p := p) (k := ((0 + (0 + ((0 + 1) + ((0 + 1) + (0 + 0)))))) + 1) (H0 := Hm p H) (R := fun v _ => ∃ w : Int, v = .int w ∧ 1 ≤ w ∧ w ≤ 1000000000000) (ep_ix (A := fun v => ∃ w : Int, v = .int w ∧ 1 ≤ w ∧ w ≤ 1000000000000) (ix := fun v => ∃ r, v = .int r ∧ 0 ≤ r ∧ r < 5) (C := fun vs => ∃ a b : Int, vs = [.int 1, .int 2, .int (1 + a), .int (1 + b), .int ((10 : Int) ^ (12 : Int).toNat)] ∧ (0 ≤ a ∧ a < 9) ∧ (0 ≤ b ∧ b < 10 ^ 12)) hm_p
        (ep_is (ep_lst (epa_pure hm_p ev_c (epa_pure hm_p ev_c (epa_cons (A := fun v => ∃ a : Int, v = .int (1 + a) ∧ (0 ≤ a ∧ a < 9)) hm_p (ep_add (C := fun r => 0 ≤ r ∧ r < 9) hm_p ev_c (ep_dipI (w := 9) hm_p (ev_var rfl) ev_c (by decide) (by decide))) (epa_cons (A := fun v => ∃ a : Int, v = .int (1 + a) ∧ (0 ≤ a ∧ a < 10 ^ 12)) hm_p (ep_add (C := fun r => 0 ≤ r ∧ r < 10 ^ 12) hm_p ev_c (ep_dipI (w := (10 : Int) ^ (12 : Int).toNat) hm_p (ev_var rfl) ten (by decide) (by decide))) (epa_pure hm_p ten epa_nil))))) ?_) ?_) (ep_dipI (w := 5) hm_p (ev_var rfl) ev_c (by decide) (by decide)) ?_) hm_sub hpo (by omega) ?_
    · rintro vs ⟨_, _, rfl, _, _, _, rfl, _, _, _, rfl, _, _, _, rfl, _, _, _, rfl, _, rfl⟩
      exact Nat.le_of_ble_eq_true rfl
    · rintro v H4 ⟨l, vs, ne, rfl, hl, _, _, rfl, rfl, _, _, rfl, rfl, _, _, rfl, ⟨a, rfl, ha⟩, _, _, rfl, ⟨b, rfl, hb⟩, _, _, rfl, rfl, rfl⟩
      exact ⟨l, _, ne, rfl, hl, a, b, rfl, ha, hb⟩
    · rintro vs v ⟨a, b, rfl, ⟨a0, a1⟩, ⟨b0, b1⟩⟩ ⟨i, rfl, i0, i1⟩
      have : i = 0 ∨ i = 1 ∨ i = 2 ∨ i = 3 ∨ i = 4 := by omega
      rcases this with rfl | rfl | rfl | rfl | rfl
      · exact ⟨0, .int 1, rfl, rfl, 1, rfl, by decide, by decide⟩
      · exact ⟨1, .int 2, rfl, rfl, 2, rfl, by decide, by decide⟩
      · exact ⟨2, .int (1 + a), rfl, rfl, _, rfl, by omega, by omega⟩
      · exact ⟨3, .int (1 + b), rfl, rfl, _, rfl, by omega, by omega⟩
      · exact ⟨4, _, rfl, rfl, _, rfl, by decide, by decide⟩
    · rintro v H2 ⟨x, rfl, x0, x1⟩ p2 e2
      exact k x H2 x0 x1 (p2.mono (by omega)) e2
end

/-! ### the mathematics of the weights -/
theorem zip_sum : ∀ {as bs : List Int}, as.length = bs.length → (List.zipWith (· + ·) as bs).sum = as.sum + bs.sum
  | [], [], _ => rfl
  | [], _ :: _, h => by simp at h
  | _ :: _, [], h => by simp at h
  | a :: as, b :: bs, h => by
    have := zip_sum (as := as) (bs := bs) (by simpa using h)
    simp only [List.zipWith_cons_cons, List.sum_cons, this]
    omega
theorem mul_sum (c : Int) : ∀ as : List Int, (as.map (· * c)).sum = as.sum * c
  | [] => by simp
  | a :: as => by
    rw [List.map_cons, List.sum_cons, List.sum_cons, mul_sum c as, Int.add_mul]
theorem sums_sum (w : Int) : ∀ n, (sums w n).sum = rise w n
  | 0 => rfl
  | n + 1 => by
    show (List.zipWith (· + ·) ((sums w n).map (· * (n : Int)) ++ [0]) (0 :: (sums w n).map (· * w))).sum = rise w n * (w + (n : Int))
    have e : (0 :: (sums w n).map (· * w)).sum = (sums w n).sum * w := by
      rw [List.sum_cons, mul_sum, Int.zero_add]
    rw [zip_sum (by simp), List.sum_append, mul_sum, e, sums_sum w n]
    simp
    rw [Int.mul_add]
    omega
/-- items times their numbers, from k on -/
def ws : Int → List Int → Int
  | _, [] => 0
  | k, x :: r => k * x + ws (k + 1) r
theorem ws_zip : ∀ (k : Int) {as bs : List Int}, as.length = bs.length → ws k (List.zipWith (· + ·) as bs) = ws k as + ws k bs
  | _, [], [], _ => rfl
  | _, [], _ :: _, h => by simp at h
  | _, _ :: _, [], h => by simp at h
  | k, a :: as, b :: bs, h => by
    have := ws_zip (k + 1) (as := as) (bs := bs) (by simpa using h)
    simp only [List.zipWith_cons_cons, ws, this, Int.mul_add]
    omega
theorem ws_mul (c : Int) : ∀ (k : Int) (as : List Int), ws k (as.map (· * c)) = ws k as * c
  | _, [] => by simp [ws]
  | k, a :: as => by
    rw [List.map_cons]
    simp only [ws, ws_mul c (k + 1) as, Int.add_mul, Int.mul_assoc]
theorem ws_zero : ∀ (k : Int) (as : List Int), ws k (as ++ [0]) = ws k as
  | k, [] => by simp [ws]
  | k, a :: as => by
    rw [List.cons_append]
    simp only [ws, ws_zero (k + 1) as]
theorem ws_next : ∀ (k : Int) (as : List Int), ws (k + 1) as = ws k as + as.sum
  | _, [] => by simp [ws]
  | k, a :: as => by
    simp only [ws, ws_next (k + 1) as, List.sum_cons, Int.add_mul, Int.one_mul]
    omega
theorem sums_ws (w : Int) : ∀ n, ws 0 (sums w n) = mt w n
  | 0 => rfl
  | n + 1 => by
    show ws 0 (List.zipWith (· + ·) ((sums w n).map (· * (n : Int)) ++ [0]) (0 :: (sums w n).map (· * w))) = mt w n * (w + (n : Int)) + rise w n * w
    rw [ws_zip 0 (by simp), ws_zero, ws_mul]
    have : ws 0 (0 :: (sums w n).map (· * w)) = ws (0 + 1) ((sums w n).map (· * w)) := by simp [ws]
    rw [this, ws_next, ws_mul, mul_sum, sums_ws w n, sums_sum, Int.mul_add]
    omega
theorem ws_range : ∀ (l : List Int) (k : Nat), ((List.range l.length).map fun t : Nat => (((t + k : Nat)) : Int) * l.getD t 0).sum = ws k l
  | [], _ => rfl
  | x :: r, k => by
    rw [List.length_cons, List.range_succ_eq_map, List.map_cons, List.sum_cons, List.map_map]
    have := ws_range r (k + 1)
    have e : ((List.range r.length).map ((fun t : Nat => (((t + k : Nat)) : Int) * (x :: r).getD t 0) ∘ Nat.succ)) = (List.range r.length).map fun t : Nat => (((t + (k + 1) : Nat)) : Int) * r.getD t 0 := by
      refine List.map_congr_left fun t _ => ?_
      show (((t + 1 + k : Nat)) : Int) * (x :: r).getD (t + 1) 0 = _
      rw [show t + 1 + k = t + (k + 1) by omega]
      rfl
    rw [e, this]
    simp [ws]
theorem rise_small {w : Int} (h0 : 1 ≤ w) (h1 : w ≤ 2 ^ 42) : ∀ n, n ≤ 20 → rise w n ≤ 2 ^ (43 * n)
  | 0, _ => by
    show (1 : Int) ≤ 2 ^ 0
    decide
  | n + 1, hn => by
    have ih := rise_small h0 h1 n (by omega)
    have r := rise_pos h0 n
    have e43 : (2 : Int) ^ (43 * (n + 1)) = 2 ^ (43 * n) * 2 ^ 43 := by rw [Nat.mul_succ, Int.pow_add]
    rw [e43]
    exact Int.mul_le_mul ih (by omega) (by omega) (Int.pow_nonneg (by decide))
theorem mt_low {w : Int} (h : 1 ≤ w) : ∀ n : Nat, 1 ≤ n → rise w n ≤ mt w n
  | 0, h0 => by omega
  | 1, _ => by
    show rise w 0 * (w + ((0 : Nat) : Int)) ≤ mt w 0 * (w + ((0 : Nat) : Int)) + rise w 0 * w
    simp [mt, rise]
  | n + 2, _ => by
    have ih := mt_low h (n + 1) (by omega)
    have r := rise_pos h (n + 1)
    have a := Int.mul_le_mul_of_nonneg_right ih (show 0 ≤ w + ((n + 1 : Nat) : Int) by omega)
    have b : 0 ≤ rise w (n + 1) * w := Int.mul_nonneg (by omega) (by omega)
    show rise w (n + 1) * (w + ((n + 1 : Nat) : Int)) ≤ mt w (n + 1) * (w + ((n + 1 : Nat) : Int)) + rise w (n + 1) * w
    omega
theorem div_cd {a b : Int} (hb : 0 < b) : a / cd a b * cd a b = a ∧ b / cd a b * cd a b = b := ⟨Int.ediv_mul_cancel cd_dvd1, Int.ediv_mul_cancel cd_dvd2⟩
theorem low_pos {a b : Int} (hb : 0 < b) : 0 < b / cd a b := by
  have g := cd_pos (a := a) hb
  have e := (div_cd (a := a) hb).2
  rcases Int.lt_or_le 0 (b / cd a b) with h | h
  · exact h
  · have := Int.mul_le_mul_of_nonneg_right h (show 0 ≤ cd a b by omega)
    omega
theorem cd_one {a b : Int} (ha : 0 ≤ a) (hb : 0 < b) : cd (a / cd a b) (b / cd a b) = 1 := by
  obtain ⟨A, rfl⟩ : ∃ z : Nat, a = z := ⟨a.toNat, by omega⟩
  obtain ⟨B, rfl⟩ : ∃ z : Nat, b = z := ⟨b.toNat, by omega⟩
  have e : cd (A : Int) (B : Int) = ((Nat.gcd A B : Nat) : Int) := rfl
  rw [e]
  unfold cd
  have h1 : ((A : Int) / ((Nat.gcd A B : Nat) : Int)).natAbs = A / Nat.gcd A B := by
    rw [← Int.natCast_ediv, Int.natAbs_natCast]
  have h2 : ((B : Int) / ((Nat.gcd A B : Nat) : Int)).natAbs = B / Nat.gcd A B := by
    rw [← Int.natCast_ediv, Int.natAbs_natCast]
  rw [h1, h2, Nat.gcd_div (Nat.gcd_dvd_left A B) (Nat.gcd_dvd_right A B), Nat.div_self (Nat.gcd_pos_of_pos_right A (by omega))]
  rfl
/-! numbers of seatings by tables: each is, squared, more than those beside it -/
theorem stir_pos : ∀ n t, 1 ≤ t → t ≤ n → 0 < stir n t
  | 0, t, h, h2 => by omega
  | n + 1, 0, h, _ => by omega
  | n + 1, t + 1, _, h => by
    show 0 < n * stir n (t + 1) + stir n t
    rcases Nat.eq_zero_or_pos t with rfl | ht
    · rcases Nat.eq_zero_or_pos n with rfl | hn
      · decide
      · have := Nat.mul_pos hn (stir_pos n 1 (by omega) (by omega))
        show 0 < n * stir n 1 + stir n 0
        omega
    · have := stir_pos n t ht (by omega)
      omega
theorem stir_none : ∀ n, 1 ≤ n → stir n 0 = 0
  | 0, h => by omega
  | 1, _ => rfl
  | n + 2, _ => by
    show (n + 1) * stir (n + 1) 0 = 0
    rw [stir_none (n + 1) (by omega)]
    simp
def pre (n k : Nat) : Nat := match k with
  | 0 => 0
  | k + 1 => stir n k
theorem lc_mid {x y z t : Nat} (hy : 0 < y) (hz : 0 < z) (h1 : x * z ≤ y * y) (h2 : y * t ≤ z * z) : x * t ≤ y * z := by
  have a : x * z * (y * t) ≤ y * y * (z * z) := Nat.mul_le_mul h1 h2
  have b : (x * t) * (y * z) ≤ (y * z) * (y * z) := by
    have e1 : x * z * (y * t) = (x * t) * (y * z) := by grind
    have e2 : y * y * (z * z) = (y * z) * (y * z) := by grind
    rw [← e1, ← e2]
    exact a
  exact Nat.le_of_mul_le_mul_right b (Nat.mul_pos hy hz)
theorem stir_lc : ∀ n, 1 ≤ n → (∀ k, pre n k * stir n (k + 1) ≤ stir n k * stir n k) ∧ ∀ k, k + 1 ≤ n → stir n k * stir n (k + 2) < stir n (k + 1) * stir n (k + 1)
  | 0, h => by omega
  | 1, _ => by
    refine ⟨fun k => ?_, fun k hk => ?_⟩
    · match k with
      | 0 => decide
      | 1 => decide
      | k + 2 =>
        show stir 1 (k + 1) * stir 1 (k + 3) ≤ _
        rw [stir_big 1 (k + 3) (by omega)]
        simp
    · obtain rfl : k = 0 := by omega
      decide
  | n + 2, _ => by
    obtain ⟨A, B⟩ := stir_lc (n + 1) (by omega)
    have key : ∀ k, k + 1 ≤ n + 2 → stir (n + 2) k * stir (n + 2) (k + 2) < stir (n + 2) (k + 1) * stir (n + 2) (k + 1) := fun k hk => by
      have e0 : stir (n + 2) k = (n + 1) * stir (n + 1) k + pre (n + 1) k := by
        cases k with
        | zero => rfl
        | succ k => rfl
      have e1 : stir (n + 2) (k + 1) = (n + 1) * stir (n + 1) (k + 1) + stir (n + 1) k := rfl
      have e2 : stir (n + 2) (k + 2) = (n + 1) * stir (n + 1) (k + 2) + stir (n + 1) (k + 1) := rfl
      have Y := A k
      have X : stir (n + 1) k * stir (n + 1) (k + 2) ≤ stir (n + 1) (k + 1) * stir (n + 1) (k + 1) := A (k + 1)
      have Z : pre (n + 1) k * stir (n + 1) (k + 2) ≤ stir (n + 1) k * stir (n + 1) (k + 1) := by
        by_cases h0 : k = 0
        · subst h0
          show 0 * _ ≤ _
          simp
        · by_cases h1 : k + 1 ≤ n + 1
          · exact lc_mid (stir_pos (n + 1) k (by omega) (by omega)) (stir_pos (n + 1) (k + 1) (by omega) h1) Y X
          · rw [stir_big (n + 1) (k + 2) (by omega)]
            simp
      have S : stir (n + 1) k * stir (n + 1) (k + 2) < stir (n + 1) (k + 1) * stir (n + 1) (k + 1) ∨ pre (n + 1) k * stir (n + 1) (k + 1) < stir (n + 1) k * stir (n + 1) k := by
        by_cases h1 : k + 1 ≤ n + 1
        · exact .inl (B k h1)
        · right
          rw [stir_big (n + 1) (k + 1) (by omega)]
          have := stir_pos (n + 1) k (by omega) (by omega)
          simpa using Nat.mul_pos this this
      rw [e0, e1, e2]
      generalize stir (n + 1) k = b at *
      generalize stir (n + 1) (k + 1) = c at *
      generalize stir (n + 1) (k + 2) = d at *
      generalize pre (n + 1) k = a at *
      have E1 : ((n + 1) * b + a) * ((n + 1) * d + c) = (n + 1) * (n + 1) * (b * d) + a * c + (n + 1) * (b * c) + (n + 1) * (a * d) := by grind
      have E2 : ((n + 1) * c + b) * ((n + 1) * c + b) = (n + 1) * (n + 1) * (c * c) + b * b + (n + 1) * (b * c) + (n + 1) * (b * c) := by grind
      rw [E1, E2]
      have z2 := Nat.mul_le_mul_left (n + 1) Z
      have x2 := Nat.mul_le_mul_left ((n + 1) * (n + 1)) X
      rcases S with s | s
      · have x3 := Nat.mul_lt_mul_of_pos_left s (show 0 < (n + 1) * (n + 1) from Nat.mul_pos (by omega) (by omega))
        omega
      · omega
    refine ⟨fun k => ?_, key⟩
    match k with
    | 0 =>
      show 0 * _ ≤ _
      simp
    | k + 1 =>
      show stir (n + 2) k * stir (n + 2) (k + 2) ≤ _
      by_cases h : k + 1 ≤ n + 2
      · exact Nat.le_of_lt (key k h)
      · rw [stir_big (n + 2) (k + 2) (by omega)]
        simp
/-- the sum of weights of the seatings with t tables -/
def sw (w : Int) (n t : Nat) : Int := (stir n t : Int) * w ^ t
theorem sw_lc {w : Int} (hw : 1 ≤ w) {n : Nat} (hn : 1 ≤ n) {t : Nat} (ht : t + 1 ≤ n) : sw w n t * sw w n (t + 2) < sw w n (t + 1) * sw w n (t + 1) := by
  have h := (stir_lc n hn).2 t ht
  have p : (0 : Int) < w ^ (t + t + 2) := Int.pow_pos (by omega)
  have h' : ((stir n t * stir n (t + 2) : Nat) : Int) < ((stir n (t + 1) * stir n (t + 1) : Nat) : Int) := by omega
  rw [Int.natCast_mul, Int.natCast_mul] at h'
  have := Int.mul_lt_mul_of_pos_right h' p
  have e1 : (stir n t : Int) * (stir n (t + 2) : Int) * w ^ (t + t + 2) = sw w n t * sw w n (t + 2) := by
    unfold sw
    rw [show t + t + 2 = t + (t + 2) by omega, Int.pow_add]
    grind
  have e2 : (stir n (t + 1) : Int) * (stir n (t + 1) : Int) * w ^ (t + t + 2) = sw w n (t + 1) * sw w n (t + 1) := by
    unfold sw
    rw [show t + t + 2 = (t + 1) + (t + 1) by omega, Int.pow_add]
    grind
  rw [e1, e2] at this
  exact this
theorem sw_pos {w : Int} (hw : 1 ≤ w) {n t : Nat} (h1 : 1 ≤ t) (h2 : t ≤ n) : 0 < sw w n t := by
  have := stir_pos n t h1 h2
  exact Int.mul_pos (by omega) (Int.pow_pos (by omega))
theorem sw_two {w : Int} (hw : 1 ≤ w) {n : Nat} (hn : 1 ≤ n) {m : Int} (hm : ∀ t, t ≤ n → sw w n t ≤ m) {i j : Nat} (hi : sw w n i = m) (hj : sw w n j = m) (hjn : j ≤ n) (lt : i < j) : j ≤ i + 1 := by
  rcases Nat.lt_or_ge (i + 1) j with h | h
  · exfalso
    have m1 : 0 < m := by
      have := sw_pos hw (n := n) (t := 1) (by omega) hn
      have := hm 1 hn
      omega
    have down : ∀ d, i + 2 + d ≤ n → sw w n (i + 2 + d) < sw w n (i + 1 + d) := fun d => by
      induction d with
      | zero =>
        intro hd
        have a := sw_lc hw hn (t := i) (by omega)
        have b := hm (i + 1) (by omega)
        have p1 := sw_pos hw (n := n) (t := i + 1) (by omega) (by omega)
        have c : sw w n (i + 1) * sw w n (i + 1) ≤ m * sw w n (i + 1) := Int.mul_le_mul_of_nonneg_right b (by omega)
        rw [hi] at a
        exact Int.lt_of_mul_lt_mul_left (Int.lt_of_lt_of_le a c) (by omega)
      | succ d ih =>
        intro hd
        have ih := ih (by omega)
        have a := sw_lc hw hn (t := i + 1 + d) (by omega)
        have p1 := sw_pos hw (n := n) (t := i + 1 + d) (by omega) (by omega)
        have p2 := sw_pos hw (n := n) (t := i + 2 + d) (by omega) (by omega)
        have c : sw w n (i + 2 + d) * sw w n (i + 2 + d) < sw w n (i + 1 + d) * sw w n (i + 2 + d) := Int.mul_lt_mul_of_pos_right ih p2
        have e1 : i + 1 + d + 2 = i + 2 + (d + 1) := by omega
        have e2 : i + 1 + d + 1 = i + 2 + d := by omega
        rw [e1, e2] at a
        have := Int.lt_of_mul_lt_mul_left (Int.lt_trans a c) (by omega)
        rw [show i + 1 + (d + 1) = i + 2 + d by omega]
        exact this
    have far : ∀ d, i + 2 + d ≤ n → sw w n (i + 2 + d) < sw w n (i + 1) := fun d => by
      induction d with
      | zero => exact down 0
      | succ d ih =>
        intro hd
        have a := down (d + 1) hd
        have b := ih (by omega)
        rw [show i + 1 + (d + 1) = i + 2 + d by omega] at a
        omega
    have a := far (j - (i + 2)) (by omega)
    rw [show i + 2 + (j - (i + 2)) = j by omega, hj] at a
    have := hm (i + 1) (by omega)
    omega
  · exact h
theorem sums_is (w : Int) (n t : Nat) (h : t ≤ n) : (sums w n).getD t 0 = sw w n t := by
  rw [List.getD_eq_getElem?_getD, sums_get w n t h]
  rfl

local macro_rules | `(tactic| walk_at "call") => `(tactic| (with_reducible exact sv_whole))
local macro_rules | `(tactic| walk_at "call") => `(tactic| ((with_reducible refine' sv_ord ?c1 ?c2); (case c1 => assumption); (case c2 => assumption)))

local macro_rules | `(tactic| walk_at "call") => `(tactic| ((with_reducible refine' sv_pow ?c1 ?c2 ?c3); (case c1 => walk_at "side"); (case c2 => walk_at "side"); (case c3 => walk_at "side")))
local macro_rules | `(tactic| walk_at "call") => `(tactic| ((with_reducible refine' sv_rise ?c1 ?c2); (case c1 => walk_at "side"); (case c2 => walk_at "side")))
local macro_rules | `(tactic| walk_at "call") => `(tactic| (with_reducible exact sv_between))
local macro_rules | `(tactic| walk_at "call") => `(tactic| ((with_reducible refine' sv_check1 ?c1 ?c2); (case c1 => walk_at "side"); (case c2 => walk_at "side")))
local macro_rules | `(tactic| walk_at "call") => `(tactic| ((with_reducible refine' sv_check_number ?c1 ?c2); (case c1 => walk_at "side"); (case c2 => walk_at "side")))
local macro_rules | `(tactic| walk_at "callU") => `(tactic| ((with_reducible refine' su_fraction ?c1 ?c2); (case c1 => walk_at "side"); (case c2 => walk_at "side")))

local macro_rules | `(tactic| walk_at "callL") => `(tactic| ((with_reducible refine' sl_wbt ?c1 ?c2 ?c3); (case c1 => walk_at "side"); (case c2 => walk_at "side"); (case c3 => walk_at "side")))
local macro_rules | `(tactic| walk_at "callU") => `(tactic| ((with_reducible refine' su_share ?c1 ?c2 ?c3 ?c4 ?c5); (case c1 => walk_at "side"); (case c2 => walk_at "side"); (case c3 => walk_at "side"); (case c4 => walk_at "side"); (case c5 => walk_at "side")))


/-! ### the law: constants -/
def rgB (h r : List Nat) : Bool := decide (0 < r.length) && decide r.Nodup && (List.range r.length).all fun i => match r[i]?, r[(i + 1) % r.length]? with
  | some x, some y => h[x]? == some y
  | _, _ => false
theorem rg_of {h r : List Nat} (e : rgB h r = true) : Rg h r := by
  unfold rgB at e
  rw [Bool.and_eq_true, Bool.and_eq_true, decide_eq_true_iff, decide_eq_true_iff, List.all_eq_true] at e
  refine ⟨e.1.1, e.1.2, fun i hi => ?_⟩
  have := e.2 i (List.mem_range.mpr hi)
  cases h1 : r[i]? with
  | none => rw [h1] at this; cases this
  | some x =>
    cases h2 : r[(i + 1) % r.length]? with
    | none => rw [h1, h2] at this; cases this
    | some y =>
      rw [h1, h2] at this
      exact ⟨x, y, rfl, rfl, eq_of_beq this⟩
def ringsB (h : List Nat) (rs : List (List Nat)) : Bool := (rs.all fun r => rgB h r && leads r) && decide ((rs.map (·.headD 0)).Pairwise (· < ·)) && rs.flatten.isPerm (List.range h.length)
theorem rings_of {h : List Nat} {rs : List (List Nat)} (e : ringsB h rs = true) : Rings h rs := by
  unfold ringsB at e
  rw [Bool.and_eq_true, Bool.and_eq_true, decide_eq_true_iff, List.all_eq_true] at e
  refine ⟨fun r hr => ?_, fun r hr => ?_, e.1.2, List.isPerm_iff.mp e.2⟩
  · exact rg_of (Bool.and_eq_true_iff.mp (e.1.1 r hr)).1
  · exact of_decide_eq_true (Bool.and_eq_true_iff.mp (e.1.1 r hr)).2
def ordB (h : List Nat) : Bool := h.isPerm (List.range h.length) && decide (1 ≤ h.length) && decide (h.length ≤ 20)
theorem ord_of {h : List Nat} (e : ordB h = true) : Ord h := by
  unfold ordB at e
  rw [Bool.and_eq_true, Bool.and_eq_true, decide_eq_true_iff, decide_eq_true_iff] at e
  exact ⟨List.isPerm_iff.mp e.1.1, e.1.2, e.2⟩
def EvLBA (ta : TA) (σ : L2.St) (H : Hp) (rs : List (List Nat)) : Prop := ∀ H1, Ex H H1 → ∀ Q : List V → Hp → Prop, (∀ vs H2, Ex H1 H2 → Paired (Lb H2) vs rs → Q vs H2) → ta σ H1 Q
def EvLTA (ta : TA) (σ : L2.St) (H : Hp) (rs : List (List V)) : Prop := ∀ H1, Ex H H1 → ∀ Q : List V → Hp → Prop, (∀ vs H2, Ex H1 H2 → TL H2 vs rs → Q vs H2) → ta σ H1 Q
section
variable {K : PySem.W.Frag} {σ : L2.St} {H H' : Hp} {ta tb tc te : TE} {tr : TA} {D : Ends} {tz : TS} {r : List Nat} {rs ss : List (List Nat)}
theorem lba_nil : EvLBA tNil σ H [] := fun H1 _ _ q => q [] H1 (Ex.refl _) .nil
theorem lba_cons (h : EvL te σ H (nv r)) (hr : EvLBA tr σ H rs) : EvLBA (tCons te tr) σ H (r :: rs) := fun H1 e _ q => h H1 e _ fun p H2 _ e2 h2 => hr H2 (e.trans e2) _ fun vs H3 e3 hv => q _ H3 (e2.trans e3) (.cons ⟨p, rfl, e3 p _ h2⟩ hv)
theorem elb_lst (h : EvLBA tr σ H rs) (hl : rs.length ≤ 1000) : EvLB (tLst tr) σ H rs := fun H1 e Q q => h H1 e _ fun vs H2 e2 hv => ⟨sz_of (by have := Paired.length hv; omega), fun l hl => q l vs _ (fresh_back e2 hl) (e2.trans (Ex.new hl)) upd_same (paired_imp (fun _ _ x => Lb.ex (Ex.new hl) x) hv)⟩
theorem lta_nil : EvLTA tNil σ H [] := fun H1 _ _ q => q [] H1 (Ex.refl _) .nil
theorem lta_cons {x : List V} {xs : List (List V)} (h : EvU te σ H x) (hr : EvLTA tr σ H xs) : EvLTA (tCons te tr) σ H (x :: xs) := fun H1 e _ q => h H1 e _ fun p H2 _ e2 h2 => hr H2 (e.trans e2) _ fun vs H3 e3 hv => q _ H3 (e2.trans e3) (.cons ⟨p, rfl, e3 p _ h2⟩ hv)
theorem elt_lst {xs : List (List V)} (h : EvLTA tr σ H xs) (hl : xs.length ≤ 1000) : EvLT (tLst tr) σ H xs := fun H1 e Q q => h H1 e _ fun vs H2 e2 hv => ⟨sz_of (by have := hv.len; omega), fun l hl => q l vs _ (fresh_back e2 hl) (e2.trans (Ex.new hl)) upd_same (hv.ex (Ex.new hl))⟩
theorem dp_LB : ∀ {vs : List V} {rs : List (List Nat)}, Paired (Lb H) vs rs → DpAll K H vs (rs.map di)
  | _, _, .nil => .nil
  | _, _, .cons ⟨b, e, h⟩ t => by
    subst e
    exact .cons (dp_L h) (dp_LB t)
theorem ed_LB (h : EvLB te σ H rs) : EvD K te σ H (.list (rs.map di)) := fun H1 e Q q => h H1 e Q fun p vs H2 _ e2 h2 hv => q _ H2 e2 (.lst (sq_of h2) (dp_LB hv))
theorem elb_cat {a : Addr} {ws : List V} (h : Ev ta σ H (.ref a)) (ha : H a = some (.lst ws)) (hw : Paired (Lb H) ws rs) (h2 : EvLB tb σ H ss) (hl : rs.length + ss.length ≤ 1000) : EvLB (tOp rCat ta tb) σ H (rs ++ ss) := fun H1 e Q q =>
  h H1 e _ fun H2 e2 => h2 H2 (e.trans e2) _ fun p vs H3 _ e3 h3 hv => by
    have hw3 := paired_imp (fun _ _ x => Lb.ex (e.trans (e2.trans e3)) x) hw
    have l1 := Paired.length hw3
    have l2 := Paired.length hv
    have app : ∀ {l : List V} {m : List (List Nat)} {l' : List V} {m' : List (List Nat)} {G : Hp}, Paired (Lb G) l m → Paired (Lb G) l' m' → Paired (Lb G) (l ++ l') (m ++ m') := fun {l m l' m' G} h h' => by
      induction h with
      | nil => exact h'
      | cons a _ ih => exact .cons a ih
    exact ⟨a, p, ws, vs, rfl, rfl, e3 a _ (e2 a _ (e a _ ha)), h3, sz_of (by omega), fun l hl => q l _ _ (fresh_back (e2.trans e3) hl) ((e2.trans e3).trans (Ex.new hl)) upd_same (paired_imp (fun _ _ x => Lb.ex (Ex.new hl) x) (app hw3 hv))⟩
theorem q_asgLB {i : Nat} (h : EvLB te σ H rs) (k : ∀ p vs H1, H p = none → Ex H H1 → H1 p = some (.lst vs) → Paired (Lb H1) vs rs → tz D (σ.set i (some (.ref p))) H1) : tSeq (tAsg te (gName i)) tz D σ H := h H (Ex.refl H) _ k
theorem el_call2LL {sp : Sp} {dvs xs ys zs : List V} {E : XK} (h : EvL ta σ H xs) (h2 : EvL tb σ H ys) (hs : ∀ p q H1, Ex H H1 → H1 p = some (.lst xs) → H1 q = some (.lst ys) → SpL sp ([.ref p, .ref q] ++ dvs) H1 zs) : EvL (tCall sp dvs E (tCons ta (tCons tb tNil))) σ H zs := fun H1 e Q q =>
  h H1 e _ fun p H2 _ e2 hp => h2 H2 (e.trans e2) _ fun p' H3 _ e3 hp' => hs p p' H3 ((e.trans e2).trans e3) (e3 p _ hp) hp' H3 (Ex.refl _) Q (fun l H4 hl e4 h4 => q l H4 (fresh_back (e2.trans e3) hl) ((e2.trans e3).trans e4) h4) E
theorem el_i4 {a b c d : Nat} : EvL (tLst (tCons (tC (.int a)) (tCons (tC (.int b)) (tCons (tC (.int c)) (tCons (tC (.int d)) tNil))))) σ H (nv [a, b, c, d]) := el_lst (ea_cons ev_c (ea_cons ev_c (ea_cons ev_c (ea_cons ev_c ea_nil)))) (Nat.le_of_ble_eq_true rfl)
theorem el_i1 {a : Nat} : EvL (tLst (tCons (tC (.int a)) tNil)) σ H (nv [a]) := el_lst (ea_cons ev_c ea_nil) (Nat.le_of_ble_eq_true rfl)
end

/-! ### _law_every -/
def ext (m : Nat) (row : List Nat) : List (List Nat) := ((List.range m).filter fun one => !decide (one ∈ row)).map fun one => row ++ [one]
def grow (m : Nat) (rows : List (List Nat)) : List (List Nat) := (rows.map (ext m)).flatten
def everyTo (m : Nat) : Nat → List (List Nat)
  | 0 => [[]]
  | k + 1 => grow m (everyTo m k)
def every (m : Nat) : List (List Nat) := everyTo m m
theorem every_small : ∀ m : Nat, m < 6 → ∀ k : Nat, k < 6 → k ≤ m → (everyTo m k).length ≤ 120 ∧ ∀ r ∈ everyTo m k, r.length ≤ 5 := by decide +kernel
theorem grow_next {m i : Nat} {rows : List (List Nat)} {r : List Nat} (h : rows[i]? = some r) : grow m (rows.take (i + 1)) = grow m (rows.take i) ++ ext m r := by
  unfold grow
  rw [List.take_add_one, h, List.map_append, List.flatten_append]
  simp
theorem lb_lc {g : Addr} {H : Hp} {us : List V} {rows : List (List Nat)} (hu : H g = some (.lst us)) (hp : Paired (Lc g H) us rows) {v : V} {r : List Nat} (h : Lb H v r) (ne : r ≠ []) : Lc g H v r := by
  obtain ⟨b, rfl, hb⟩ := h
  refine ⟨b, rfl, fun z => ?_, hb⟩
  subst z
  rw [hu] at hb
  have e : us = nv r := by
    have := Option.some.inj hb
    injection this
  cases r with
  | nil => exact ne rfl
  | cons x l =>
    cases hp with
    | nil => simp [nv, iz] at e
    | cons a _ =>
      obtain ⟨c, rfl, _⟩ := a
      have := (List.cons.inj e).1
      cases this
theorem paired_app {α β : Type} {F : α → β → Prop} : ∀ {l l' : List α} {m m' : List β}, Paired F l m → Paired F l' m' → Paired F (l ++ l') (m ++ m')
  | _, _, _, _, .nil, h => h
  | _, _, _, _, .cons a t, h => .cons a (paired_app t h)
section
variable {K : PySem.W.Frag} {σ : L2.St} {H : Hp} {ta tb te : TE} {t : TT} {D : Ends} {tz : TS}
/-- [a new list for i in range(n) if t] -/
theorem elb_R1f {tn : TA} {j : Nat} {vs : List Nat} {n : Int} (f : Nat → Bool) (F : Nat → List Nat) (h : EvA tn σ H [.int n]) (hn : 0 ≤ n ∧ n ≤ 40000) (hw : ∀ x, wipe ((wipe σ vs).set j (some x)) vs = wipe σ vs)
    (ht : ∀ (i : Nat) H1, Ex H H1 → (i : Int) < n → EvT t ((wipe σ vs).set j (some (.int (i : Int)))) H1 (f i)) (he : ∀ (i : Nat) H1, Ex H H1 → (i : Int) < n → f i = true → EvL te ((wipe σ vs).set j (some (.int (i : Int)))) H1 (nv (F i))) :
    EvLB (tLc (iRng1 tn) (gName j) t te vs) σ H (((List.range n.toNat).filter f).map F) := fun H0 e Q q => h H0 e _ fun H1 e1 => ⟨n, rfl, by omega, by omega, fun Dl hD =>
  lc_range (lo := 0) (n := n.toNat) (fun i H' => Ex H1 H' ∧ ∃ us, H' Dl = some (.lst us) ∧ Paired (Lc Dl H') us (((List.range i).filter f).map F)) ⟨Ex.new hD, [], upd_same, .nil⟩ (fun i H' hi p => by
    obtain ⟨p1, us, p2, p3⟩ := p
    have e0 : (0 : Int) + (i : Int) = (i : Int) := Int.zero_add _
    have ul : us.length ≤ i := by
      have := Paired.length p3
      rw [List.length_map] at this
      have := List.length_filter_le f (List.range i)
      rw [List.length_range] at this
      omega
    show wipe ((wipe σ vs).set j (some (.int ((0 : Int) + (i : Int))))) vs = wipe σ vs ∧ t ((wipe σ vs).set j (some (.int ((0 : Int) + (i : Int))))) H' fun b H3 => if b = true then te ((wipe σ vs).set j (some (.int ((0 : Int) + (i : Int))))) H3 fun y H4 => ∃ acc, H4 Dl = some (.lst acc) ∧ acc.length < sizeLine ∧ (Ex H1 (upd H4 Dl (.lst (acc ++ [y]))) ∧ ∃ us, (upd H4 Dl (.lst (acc ++ [y]))) Dl = some (.lst us) ∧ Paired (Lc Dl (upd H4 Dl (.lst (acc ++ [y])))) us (((List.range (i + 1)).filter f).map F)) else (Ex H1 H3 ∧ ∃ us, H3 Dl = some (.lst us) ∧ Paired (Lc Dl H3) us (((List.range (i + 1)).filter f).map F))
    rw [e0]
    refine ⟨hw _, ht i H1 (e.trans e1) (by omega) H' p1 _ fun H3 e3 => ?_⟩
    have nx : ((List.range (i + 1)).filter f).map F = ((List.range i).filter f).map F ++ (([i].filter f).map F) := by rw [List.range_succ, List.filter_append, List.map_append]
    rw [nx]
    cases hf : f i with
    | true =>
      rw [if_pos rfl]
      refine he i H1 (e.trans e1) (by omega) hf H3 (p1.trans e3) _ fun l H4 hl4 e4 h4 => ?_
      have lD : l ≠ Dl := fun z => by
        subst z
        rw [e3 l _ p2] at hl4
        cases hl4
      refine ⟨us, e4 Dl _ (e3 Dl _ p2), sz_lt (by omega), Ex.mut (p1.trans (e3.trans e4)) hD, _, upd_same, ?_⟩
      have : [i].filter f = [i] := by simp [hf]
      rw [this]
      exact Paired.snoc (paired_imp (fun _ _ z => (z.ex (e3.trans e4)).upd) p3) ⟨l, rfl, lD, by rw [upd_ne lD]; exact h4⟩
    | false =>
      rw [if_neg (by simp)]
      refine ⟨p1.trans e3, us, e3 Dl _ p2, ?_⟩
      have : [i].filter f = [] := by simp [hf]
      rw [this, List.map_nil, List.append_nil]
      exact paired_imp (fun _ _ z => z.ex e3) p3) (fun H' p => by
      obtain ⟨p1, us, p2, p3⟩ := p
      exact q Dl us H' (fresh_back e1 hD) (e1.trans p1) p2 (paired_imp (fun _ _ z => z.lb) p3))⟩
theorem el_catLL {a : Addr} {xs ys : List V} (h : Ev ta σ H (.ref a)) (ha : H a = some (.lst xs)) (h2 : EvL tb σ H ys) (hz : xs.length + ys.length ≤ 1000) : EvL (tOp rCat ta tb) σ H (xs ++ ys) := el_catL h ha h2 hz
end
def sp_law_every : Sp := fun vs H Q _ => ∃ m : Nat, vs = [.int (m : Int)] ∧ m ≤ 5 ∧ ∀ p ws H', H p = none → Ex H H' → H' p = some (.lst ws) → Paired (Lb H') ws (every m) → Q (.ref p) H'
section
variable {P : Program} {w : World} {K : PySem.W.Frag} {mg : Str → Option Value} {base : Heap}
theorem ok_law_every (T : Tx K mg) : FnOk P w K mg base CX0 1 T.f_law_every T.d_law_every ["many"] sp_law_every := by
  refine T.F_law_every.ok sc_law_every (fun vs H Q E h => ?_) (fun cdv A outer s H vs Q E hr h => ?_)
  · obtain ⟨m, rfl, _⟩ := h
    rfl
  · obtain ⟨m, rfl, hm, k⟩ := h
    refine ⟨_, (pss_cons (ps_set (i := 1) sc_law_every.nd rfl (Or.inl rfl) (pe_lst (pa_cons (pe_lst pa_nil) pa_nil)))
      (pss_cons (ps_for PassesOwn.never rfl (pi_range1 (by rfl) T.m_range (pa_cons (pv 0) pa_nil)) (pg_name (i := 2) sc_law_every.nd rfl (Or.inl rfl)) (pss_cons (ps_set (i := 3) sc_law_every.nd rfl (Or.inl rfl) (pe_lst pa_nil))
      (pss_cons (ps_for PassesOwn.never rfl (pi_list (pv 1)) (pg_name (i := 4) sc_law_every.nd rfl (Or.inr rfl)) (pss_one (ps_expr (pe_bm PySem.F.plainAttrs_list PySem.F.slot_list_extend PySem.F.type_list_extend mt_extend (pv 3) (pa_cons (pe_lc (own := [("one", 5)]) (g := (gName 5)) rfl sc_law_every.nd (pi_range1 (by rfl) T.m_range (pa_cons (pv 0) pa_nil)) (blkOk_by (own := [("one", 5)]) (N := n_law_every) (sc := defScope s_law_every) (by decide +kernel)) (fun _ _ _ _ _ => (pg_name (i := 5) sc_law_every.nd rfl (Or.inl rfl))) (fun _ _ _ _ _ => (pts_one (pt_cmpR (r := rIn K true) op_notIn_seq (pv 5) (pv 4) (by rfl)))) (fun _ _ _ _ _ => (pe_op op_cat (pv 4) (pe_lst (pa_cons (pv 5) pa_nil))))) pa_nil)))))
      (pss_one (ps_set (i := 1) sc_law_every.nd rfl (Or.inl rfl) (pv 3))))))
      (pss_one (ps_ret (pv 1))))), ?_⟩
    refine q_asgLB (rs := [[]]) (elb_lst (lba_cons (r := []) (el_lst ea_nil (Nat.zero_le _)) lba_nil) (by decide)) fun f ws H1 nf e1 h1 w1 => ?_
    refine q_forR1 (n := (m : Int)) (by walk_at "ea") ⟨by omega, by omega⟩ (fun i σ' H' => ∃ f ws y2 y3 y4, σ' = [some (.int m), some (.ref f), y2, y3, y4, none] ∧ H f = none ∧ Ex H H' ∧ H' f = some (.lst ws) ∧ Paired (Lb H') ws (everyTo m i)) (fun H2 e2 => ⟨f, ws, none, none, none, rfl, nf, e1.trans e2, e2 f _ h1, paired_imp (fun _ _ x => Lb.ex e2 x) w1⟩) ?_ ?_
    · rintro i σ' H' hi ⟨f, ws, y2, y3, y4, rfl, nf, e, hf, hw⟩
      obtain ⟨sm1, sm2⟩ := every_small m (by omega) i (by omega) (by omega)
      have wl := Paired.length hw
      refine q_asgL (xs := []) (el_lst ea_nil (Nat.zero_le _)) fun g H2 ng e2 hg => ?_
      refine q_forLn (xs := ws) (K := K) (ev_var rfl) (sq_of (e2 f _ hf)) (fun n σ' H3 => ∃ y4 us, σ' = [some (.int m), some (.ref f), some (.int (i : Int)), some (.ref g), y4, none] ∧ Ex H' H3 ∧ H3 g = some (.lst us) ∧ Paired (Lc g H3) us (grow m ((everyTo m i).take n))) (fun H3 e3 => ⟨y4, [], rfl, e2.trans e3, e3 g _ hg, .nil⟩) (fun n σ' H3 _ ⟨_, _, _, e3, _⟩ => sq_of (e3 f _ hf)) ?_ ?_
      · rintro n v σ' H3 hv ⟨y4, us, rfl, e3, hg3, hu⟩
        obtain ⟨r, hr, b, rfl, hb⟩ := paired_get hw hv
        have rl := sm2 r (List.mem_of_getElem? hr)
        have ul := Paired.length hu
        have gl : (grow m ((everyTo m i).take n)).length ≤ 600 := by
          have : ∀ l : List (List Nat), (grow m l).length ≤ m * l.length := fun l => by
            induction l with
            | nil => simp [grow]
            | cons a l ih =>
              have : (ext m a).length ≤ m := by
                unfold ext
                rw [List.length_map]
                have := List.length_filter_le (fun one => !decide (one ∈ a)) (List.range m)
                rw [List.length_range] at this
                exact this
              unfold grow at ih ⊢
              rw [List.map_cons, List.flatten_cons, List.length_append, List.length_cons, Nat.mul_succ]
              omega
          have h1 := this ((everyTo m i).take n)
          have h2 : ((everyTo m i).take n).length ≤ 120 := by
            rw [List.length_take]
            omega
          have := Nat.mul_le_mul (show m ≤ 5 from hm) h2
          omega
        refine s_dropBM hg3 (ev_var rfl) fun H4 e4 => ?_
        have hb4 := e4 b _ (e3 b _ hb)
        have hg4 := e4 g _ hg3
        have comp := elb_R1f (te := tOp rCat (tVar 4) (tLst (tCons (tVar 5) tNil))) (tn := tCons (tVar 0) tNil) (t := tTest (tOp (rIn K true) (tVar 5) (tVar 4))) (j := 5) (vs := [5]) (H := H4) (σ := [some (V.int m), some (.ref f), some (.int (i : Int)), some (.ref g), some (.ref b), none]) (n := (m : Int)) (fun one => !decide (one ∈ r)) (fun one => r ++ [one]) (ea_cons (ev_var rfl) ea_nil) ⟨by omega, by omega⟩ (fun _ => rfl) (fun one H5 e5 ho => et_is (et_test (ev_op (ev_var rfl) (ev_var rfl) (rv_niL (K := K) (sq_of (e5 b _ hb4)) rfl (nv_flat r)))) (by rw [nv_in])) (fun one H5 e5 ho _ => by
          rw [nv_app]
          exact el_catL (ev_var rfl) (e5 b _ hb4) (el_lst (ea_cons (ev_var rfl) ea_nil) (Nat.le_of_ble_eq_true rfl)) (by rw [nv_len]; show r.length + 1 ≤ 1000; omega))
        rw [Int.toNat_natCast] at comp
        refine comp H4 (Ex.refl _) _ fun l vs H5 hl e5 h5 hw5 => ?_
        have hw5 : Paired (Lb H5) vs (ext m r) := hw5
        have vl := Paired.length hw5
        have el : (ext m r).length ≤ 5 := by
          unfold ext
          rw [List.length_map]
          have := List.length_filter_le (fun one => !decide (one ∈ r)) (List.range m)
          rw [List.length_range] at this
          omega
        have hg5 := e5 g _ hg4
        have hu5 : Paired (Lc g H5) us (grow m ((everyTo m i).take n)) := paired_imp (fun _ _ z => z.ex (e4.trans e5)) hu
        have vc : Paired (Lc g H5) vs (ext m r) := by
          have ne : ∀ x ∈ ext m r, x ≠ [] := fun x hx => by
            unfold ext at hx
            obtain ⟨o, _, rfl⟩ := List.mem_map.mp hx
            simp
          have : ∀ {l : List V} {q : List (List Nat)}, Paired (Lb H5) l q → (∀ x ∈ q, x ≠ []) → Paired (Lc g H5) l q := fun {l q} h => by
            induction h with
            | nil => intro _; exact .nil
            | cons a t ih => intro hx; exact .cons (lb_lc hg5 hu5 a (hx _ List.mem_cons_self)) (ih fun x z => hx x (List.mem_cons_of_mem _ z))
          exact this hw5 ne
        refine ⟨g, l, us, vs, rfl, rfl, hg5, h5, sz_of (by omega), ?_⟩
        refine ⟨_, us ++ vs, rfl, Ex.mut (e3.trans (e4.trans e5)) ng, upd_same, ?_⟩
        rw [grow_next hr]
        exact paired_imp (fun _ _ z => z.upd) (paired_app hu5 vc)
      · rintro σ' H3 ⟨y4, us, rfl, e3, hg3, hu⟩
        rw [wl, List.take_of_length_le (Nat.le_refl _)] at hu
        refine s_asg (ev_var rfl) fun H4 e4 => ⟨g, us, _, _, _, rfl, fresh_back e ng, e.trans (e3.trans e4), e4 g _ hg3, paired_imp (fun _ _ z => Lb.ex e4 z.lb) hu⟩
    · rintro σ' H' ⟨f, ws, y2, y3, y4, rfl, nf, e, hf, hw⟩
      rw [Int.toNat_natCast] at hw
      exact s_ret (ev_var rfl) fun H2 e2 => k f ws H2 nf (e.trans e2) (e2 f _ hf) (paired_imp (fun _ _ x => Lb.ex e2 x) hw)
end
/-! ### _law_tables -/
theorem rings_num_le {rs : List (List Nat)} (h : ∀ r ∈ rs, 0 < r.length) : rs.length ≤ rs.flatten.length := by
  induction rs with
  | nil => simp
  | cons r l ih =>
    have := ih fun x hx => h x (List.mem_cons_of_mem _ hx)
    have := h r List.mem_cons_self
    rw [List.flatten_cons, List.length_append, List.length_cons]
    omega
theorem flat_take_len {rs : List (List Nat)} {n i : Nat} (h : rs.flatten.length ≤ n) : (rs.take i).flatten.length ≤ n := by
  have h1 : (rs.take i).flatten.length ≤ rs.flatten.length := by
    conv => rhs; rw [← List.take_append_drop i rs, List.flatten_append, List.length_append]
    omega
  omega
theorem q_dropBM {K : PySem.W.Frag} {σ : L2.St} {H : Hp} {ta : TE} {tr : TA} {D : Ends} {tz : TS} {r : V → List V → Hp → VK → Prop} {l : Addr} {xs : List V} (hl : H l = some (.lst xs)) (ha : Ev ta σ H (.ref l)) (k : ∀ H1, Ex H H1 → tr σ H1 fun vs H2 => r (.ref l) vs H2 fun _ H3 => tz D σ H3) : tSeq (tDrop (tBM K "list" r ta tr)) tz D σ H :=
  s_dropBM (D := { D with nx := tz D }) hl ha k
def sp_law_tables : Sp := fun vs H Q _ => ∃ (a : Addr) (h : List Nat) (rs : List (List Nat)), vs = [.ref a] ∧ H a = some (.lst (nv h)) ∧ Ord h ∧ Rings h rs ∧ (∀ p ws H2, H p = none → Ex H H2 → H2 p = some (.lst ws) → TL H2 ws (rs.map nv) → Q (.ref p) H2)
def hd (rs : List (List Nat)) (k : Nat) : Nat := (rs.getD k []).headD 0
theorem Rings.hd_lt {h : List Nat} {rs : List (List Nat)} (R : Rings h rs) {j k : Nat} (jk : j < k) (hk : k < rs.length) : hd rs j < hd rs k := by
  have := R.asc
  rw [List.pairwise_map, List.pairwise_iff_getElem] at this
  have q := this j k (by omega) hk jk
  unfold hd
  rw [List.getD_eq_getElem?_getD, List.getD_eq_getElem?_getD, List.getElem?_eq_getElem (show j < rs.length by omega), List.getElem?_eq_getElem hk]
  exact q
theorem Rings.new {h : List Nat} {rs : List (List Nat)} (R : Rings h rs) {i j : Nat} (hi : i < h.length) (low : ∀ k, j ≤ k → k < rs.length → i ≤ hd rs k) (no : i ∉ (rs.take j).flatten) : j < rs.length ∧ hd rs j = i := by
  have hm : i ∈ rs.flatten := R.all.mem_iff.mpr (List.mem_range.mpr hi)
  obtain ⟨r, hr, hir⟩ := List.mem_flatten.mp hm
  obtain ⟨k, hk⟩ := List.mem_iff_getElem?.mp hr
  have hkl := (List.getElem?_eq_some_iff.mp hk).1
  have jk : j ≤ k := by
    rcases Nat.lt_or_ge k j with h | h
    · exact absurd (List.mem_flatten.mpr ⟨r, List.mem_of_getElem? (by rw [List.getElem?_take_of_lt h]; exact hk), hir⟩) no
    · exact h
  have e : hd rs k = r.headD 0 := by
    unfold hd
    rw [List.getD_eq_getElem?_getD, hk]
    rfl
  have h1 := R.low r hr i hir
  have h2 := low k jk hkl
  rcases Nat.lt_or_ge j k with lt | ge
  · have h3 := R.hd_lt lt hkl
    have h4 := low j (Nat.le_refl _) (by omega)
    omega
  · have : j = k := by omega
    subst this
    exact ⟨hkl, by omega⟩
section
variable {K : PySem.W.Frag} {σ : L2.St} {H : Hp} {ta tb te : TE} {t : TT} {D : Ends} {tz : TS}
theorem q_parLV {i j : Nat} {x : V} {ys : List V} (h2 : EvL ta σ H ys) (h : ∀ H1, Ex H H1 → Ev tb σ H1 x) (k : ∀ q H1, H q = none → Ex H H1 → H1 q = some (.lst ys) → tz D ((σ.set i (some (.ref q))).set j (some x)) H1) : tSeq (tPar i j (tCons ta (tCons tb tNil))) tz D σ H :=
  h2 H (Ex.refl H) _ fun q H1 hq e1 h3 => h H1 e1 H1 (Ex.refl _) _ fun H2 e2 => ⟨_, _, rfl, k q H2 hq (e1.trans e2) (e2 q _ h3)⟩
end
section
variable {P : Program} {w : World} {K : PySem.W.Frag} {mg : Str → Option Value} {base : Heap}
theorem ok_law_tables (T : Tx K mg) : FnOk P w K mg base CX0 1 T.f_law_tables T.d_law_tables ["hall"] sp_law_tables := by
  refine T.F_law_tables.ok sc_law_tables (fun vs H Q E h => ?_) (fun cdv A outer s H vs Q E hr h => ?_)
  · obtain ⟨a, h, rs, rfl, _⟩ := h
    rfl
  · obtain ⟨a, h, rs, rfl, ha, o, R, k⟩ := h
    refine ⟨_, (pss_cons (ps_par (i := 1) (j := 2) (by rfl) sc_law_tables.nd rfl rfl (by decide) rfl rfl (pa_cons (pe_lst pa_nil) (pa_cons (pe_lst pa_nil) pa_nil)) (by rfl))
      (pss_cons (ps_for PassesOwn.never rfl (pi_range1 (by rfl) T.m_range (pa_cons (pe_callB call_lenR (by rfl) T.m_len (by decide +kernel) (pa_cons (pv 0) pa_nil)) pa_nil)) (pg_name (i := 3) sc_law_tables.nd rfl (Or.inl rfl)) (pss_one (ps_if (pt_cmpR op_notIn_seq (pv 3) (pv 2) (by rfl)) (pss_cons (ps_par (i := 4) (j := 5) (by rfl) sc_law_tables.nd rfl rfl (by decide) rfl rfl (pa_cons (pe_lst (pa_cons (pv 3) pa_nil)) (pa_cons (pe_ix ix_list (pv 0) (pv 3) (fun _ _ => rfl)) pa_nil)) (by rfl))
      (pss_cons (ps_while PassesOwn.never (pt_cmpR op_ne (pv 5) (pv 3) (nomark _)) (pss_cons (ps_expr (pe_bm PySem.F.plainAttrs_list PySem.F.slot_list_append PySem.F.type_list_append mt_append (pv 4) (pa_cons (pv 5) pa_nil)))
      (pss_one (ps_set (i := 5) sc_law_tables.nd rfl (Or.inl rfl) (pe_ix ix_list (pv 0) (pv 5) (fun _ _ => rfl))))))
      (pss_cons (ps_expr (pe_bm PySem.F.plainAttrs_list PySem.F.slot_list_extend PySem.F.type_list_extend mt_extend (pv 2) (pa_cons (pv 4) pa_nil)))
      (pss_one (ps_expr (pe_bm PySem.F.plainAttrs_list PySem.F.slot_list_append PySem.F.type_list_append mt_append (pv 1) (pa_cons (pe_callTy call_tupR (by rfl) T.m_tuple (by decide +kernel) (pa_cons (pv 4) pa_nil)) pa_nil))))))) pss_nil)))
      (pss_one (ps_ret (pv 1))))), ?_⟩
    have o2 := o.2
    have few := R.all.length_eq
    rw [List.length_range] at few
    refine q_parLL (xs := nv []) (ys := nv []) (el_lst ea_nil (Nat.zero_le _)) (el_lst ea_nil (Nat.zero_le _)) fun p q H1 np nq pq e1 hp hq => ?_
    refine q_forR1 (n := (h.length : Int)) (ea_cons (by
      have := ev_len (K := K) (ta := tVar 0) (σ := [some (V.ref a), some (.ref p), some (.ref q), none, none, none]) (ev_var (i := 0) rfl) (sq_of (e1 a _ ha))
      rw [nv_len] at this
      exact this) ea_nil) ⟨by omega, by omega⟩ (fun i σ' H' => ∃ (j : Nat) (ws : List V) (y3 y4 y5 : Option V), σ' = [some (.ref a), some (.ref p), some (.ref q), y3, y4, y5] ∧ Ex H H' ∧ j ≤ rs.length ∧ (∀ k, k < j → hd rs k < i) ∧ (∀ k, j ≤ k → k < rs.length → i ≤ hd rs k) ∧ H' p = some (.lst ws) ∧ TL H' ws ((rs.take j).map nv) ∧ H' q = some (.lst (nv (rs.take j).flatten)))
      (fun H2 e2 => ⟨0, [], none, none, none, rfl, e1.trans e2, Nat.zero_le _, by simp, by simp, e2 p _ hp, .nil, e2 q _ hq⟩) ?_ ?_
    · rintro i σ' H' hi ⟨j, ws, y3, y4, y5, rfl, e, jl, up, low, hp', tp, hq'⟩
      have hil : i < h.length := by omega
      have wl := tp.len
      rw [List.length_map, List.length_take] at wl
      have fl := flat_take_len (rs := rs) (i := j) (Nat.le_of_eq few)
      have rsl : rs.length ≤ 20 := by
        have : rs.length ≤ rs.flatten.length := rings_num_le fun r hr => (R.rg r hr).ne
        omega
      refine s_when (b := !decide (i ∈ (rs.take j).flatten)) (et_is (et_test (ev_op (ev_var rfl) (ev_var rfl) (rv_niL (K := K) (sq_of hq') rfl (nv_flat _)))) (by rw [nv_in])) (fun hb H2 e2 => ?_) fun hb H2 e2 => ?_
      · have no : i ∉ (rs.take j).flatten := by simpa using hb
        obtain ⟨jlt, hj⟩ := R.new hil low no
        obtain ⟨r, hrj⟩ : ∃ r, rs[j]? = some r := ⟨rs[j], List.getElem?_eq_getElem jlt⟩
        have hr := List.mem_of_getElem? hrj
        have Rr := R.rg r hr
        have ne := Rr.ne
        have rl := R.short hr
        have r0 : r[0]? = some i := by
          have : r.headD 0 = i := by
            unfold hd at hj
            rw [List.getD_eq_getElem?_getD, hrj] at hj
            exact hj
          cases r with
          | nil => simp at ne
          | cons x l => simpa using this
        have at_ : ∀ t, ∃ x, r[t % r.length]? = some x := fun t => ⟨r[t % r.length]'(Nat.mod_lt _ ne), List.getElem?_eq_getElem _⟩
        have step : ∀ t x y, r[t % r.length]? = some x → r[(t + 1) % r.length]? = some y → h[x]? = some y := fun t x y hx hy => by
          obtain ⟨u, v, g1, g2, g3⟩ := Rr.st (t % r.length) (Nat.mod_lt _ ne)
          rw [hx] at g1
          rw [Nat.mod_add_mod, hy] at g2
          rw [Option.some.inj g1, Option.some.inj g2]
          exact g3
        have ha2 := e2 a _ (e a _ ha)
        obtain ⟨x1, hx1⟩ := at_ 1
        have hx1' := step 0 i x1 (by rw [Nat.zero_mod]; exact r0) hx1
        refine q_parLV (ys := nv [i]) (el_lst (ea_cons (ev_var rfl) ea_nil) (Nat.le_of_ble_eq_true rfl)) (fun H3 e3 => ev_op (ev_var rfl) (ev_var rfl) (rv_ixL (K := K) (sq_of (e3 a _ ha2)) (atI_nat (nv_get hx1')))) fun l H3 nl e3 hl => ?_
        refine q_while (fun m σ' H' => ∃ (t x : Nat), σ' = [some (.ref a), some (.ref p), some (.ref q), some (.int (i : Int)), some (.ref l), some (.int (x : Int))] ∧ 1 ≤ t ∧ t ≤ r.length ∧ r[t % r.length]? = some x ∧ Ex H2 H' ∧ H' l = some (.lst (nv (r.take t))) ∧ m = r.length - t) (r.length - 1) ⟨1, x1, rfl, Nat.le_refl _, ne, hx1, e3, by rw [hl, take_next r0]; rfl, rfl⟩ ?_
        rintro m σ' H4 ⟨t, x, rfl, t1, t2, hx, e4, hl4, hm⟩
        refine ⟨decide (t < r.length), et_is (et_test (ev_op (ev_var rfl) (ev_var rfl) (rv_ne rfl))) ?_, fun hb H5 e5 => ?_, fun hb H5 e5 => ?_⟩
        · rw [dec_int]
          by_cases hn : t < r.length
          · rw [Nat.mod_eq_of_lt hn] at hx
            have ne : x ≠ i := fun z => by
              subst z
              have := nd_ix Rr.nd hx r0
              omega
            have : ((x : Int) == (i : Int)) = false := by
              rw [beq_eq_false_iff_ne]
              omega
            rw [this]
            simp [hn]
          · have e0 : t = r.length := by omega
            rw [e0, Nat.mod_self, r0] at hx
            have : x = i := (Option.some.inj hx).symm
            subst this
            simp [hn]
        · have hn := of_decide_eq_true hb
          obtain ⟨y, hy⟩ := at_ (t + 1)
          have hxy := step t x y hx hy
          rw [Nat.mod_eq_of_lt hn] at hx
          have hl5 := e5 l _ hl4
          refine ⟨fun σ2 H6 => σ2 = [some (.ref a), some (.ref p), some (.ref q), some (.int (i : Int)), some (.ref l), some (.int (y : Int))] ∧ Ex H2 H6 ∧ H6 l = some (.lst (nv (r.take (t + 1)))), fun σ2 H6 ⟨q1, q2, q3⟩ => ⟨r.length - (t + 1), by omega, t + 1, y, q1, by omega, hn, hy, q2, q3, rfl⟩, ?_⟩
          refine q_app (K := K) hl5 (ev_var rfl) (ev_var rfl) (by rw [nv_len, List.length_take]; omega) fun H6 e6 => ?_
          have eM : Ex H2 (upd H6 l (.lst (nv (r.take t) ++ [.int (x : Int)]))) := Ex.mut (e4.trans (e5.trans e6)) nl
          refine s_asg (ev_op (ev_var rfl) (ev_var rfl) (rv_ixL (K := K) (sq_of (eM a _ ha2)) (atI_nat (nv_get hxy)))) fun H7 e7 => ⟨rfl, eM.trans e7, e7 l _ ?_⟩
          rw [upd_same, take_next hx, nv_app]
          rfl
        · have hn := of_decide_eq_false hb
          have ht : r.take t = r := List.take_of_length_le (by omega)
          rw [ht] at hl4
          have e25 := e4.trans e5
          have hq5 := e25 q _ (e2 q _ hq')
          have hp5 := e25 p _ (e2 p _ hp')
          have hl5 := e5 l _ hl4
          have lq : l ≠ q := fun z => by rw [z, e2 q _ hq'] at nl; cases nl
          have lp : l ≠ p := fun z => by rw [z, e2 p _ hp'] at nl; cases nl
          refine q_dropBM hq5 (ev_var rfl) fun H6 e6 => ?_
          refine (ea_cons (ev_var (i := 4) rfl) ea_nil) H6 (Ex.refl _) _ fun H7 e7 => ?_
          have hq7 := e7 q _ (e6 q _ hq5)
          have hl7 := e7 l _ (e6 l _ hl5)
          have hp7 := e7 p _ (e6 p _ hp5)
          refine ⟨q, l, _, _, rfl, rfl, hq7, hl7, sz_of (by rw [nv_len, nv_len]; omega), ?_⟩
          have tp7 : TL H7 ws ((rs.take j).map nv) := tp.ex (e2.trans (e25.trans (e6.trans e7)))
          have eU : Ex H (upd H7 q (.lst (nv (rs.take j).flatten ++ nv r))) := Ex.mut (e.trans (e2.trans (e25.trans (e6.trans e7)))) nq
          have hpU : (upd H7 q (.lst (nv (rs.take j).flatten ++ nv r))) p = some (.lst ws) := by rw [upd_ne pq]; exact hp7
          have hlU : (upd H7 q (.lst (nv (rs.take j).flatten ++ nv r))) l = some (.lst (nv r)) := by rw [upd_ne lq]; exact hl7
          have tpU := tp7.upd (o := .lst (nv (rs.take j).flatten ++ nv r)) hq7
          refine s_appU (K := K) hpU (ev_var rfl) (eu_tupOf (K := K) (ev_var rfl) (sq_of hlU)) (by omega) fun u H8 nu e8 hu => ?_
          have hp8 := e8 p _ hpU
          refine ⟨j + 1, ws ++ [.ref u], _, _, _, rfl, Ex.mut (eU.trans e8) np, jlt, fun k hk => ?_, fun k hk hk2 => ?_, upd_same, ?_, ?_⟩
          · rcases Nat.lt_or_ge k j with h | h
            · have := up k h
              omega
            · have : k = j := by omega
              subst this
              omega
          · have := R.hd_lt (show j < k by omega) hk2
            omega
          · rw [take_next hrj, List.map_append]
            exact ((tpU.ex e8).app ⟨u, rfl, hu⟩).upd hp8
          · rw [upd_ne (Ne.symm pq), take_next hrj, List.flatten_append, nv_app]
            have := e8 q _ upd_same
            rw [this]
            simp
      · have yes : i ∈ (rs.take j).flatten := by simpa using hb
        refine ⟨j, ws, _, _, _, rfl, e.trans e2, jl, fun k hk => by have := up k hk; omega, fun k hk hk2 => ?_, e2 p _ hp', tp.ex e2, e2 q _ hq'⟩
        have h1 := low k hk hk2
        rcases Nat.lt_or_ge i (hd rs k) with h | h
        · exact h
        · exfalso
          have e0 : hd rs k = i := by omega
          obtain ⟨r, hr, hir⟩ := List.mem_flatten.mp yes
          obtain ⟨n, hn⟩ := List.mem_iff_getElem?.mp hr
          have nj : n < j := by
            have := (List.getElem?_eq_some_iff.mp hn).1
            rw [List.length_take] at this
            omega
          rw [List.getElem?_take_of_lt nj] at hn
          have h3 := up n nj
          have h4 : hd rs k ∈ rs[k] := by
            have ne := (R.rg rs[k] (List.getElem_mem hk2)).ne
            unfold hd
            rw [List.getD_eq_getElem?_getD, List.getElem?_eq_getElem hk2]
            show (rs[k]).headD 0 ∈ rs[k]
            cases hh : rs[k] with
            | nil => rw [hh] at ne; simp at ne
            | cons x l => simp
          rw [e0] at h4
          have same := nodup_flat R.nodup (List.mem_of_getElem? hn) (List.getElem_mem hk2) hir h4
          have h5 : hd rs n = hd rs k := by
            unfold hd
            rw [List.getD_eq_getElem?_getD, List.getD_eq_getElem?_getD, hn, List.getElem?_eq_getElem hk2, same]
          omega
    · rintro σ' H' ⟨j, ws, y3, y4, y5, rfl, e, jl, up, low, hp', tp, hq'⟩
      have : j = rs.length := by
        rcases Nat.lt_or_ge j rs.length with h1 | h1
        · exfalso
          have h2 := low j (Nat.le_refl _) h1
          rw [Int.toNat_natCast] at h2
          have ne := (R.rg rs[j] (List.getElem_mem h1)).ne
          have h4 : hd rs j ∈ rs[j] := by
            unfold hd
            rw [List.getD_eq_getElem?_getD, List.getElem?_eq_getElem h1]
            show (rs[j]).headD 0 ∈ rs[j]
            cases hh : rs[j] with
            | nil => rw [hh] at ne; simp at ne
            | cons x l => simp
          have := List.mem_range.mp (R.all.mem_iff.mp (List.mem_flatten.mpr ⟨_, List.getElem_mem h1, h4⟩))
          omega
        · omega
      subst this
      rw [List.take_length] at tp
      exact s_ret (ev_var rfl) fun H2 e2 => k p ws H2 np (e.trans e2) (e2 p _ hp') (tp.ex e2)
end

local macro_rules | `(tactic| walk_at "call") => `(tactic| (with_reducible exact sv_whole))
local macro_rules | `(tactic| walk_at "call") => `(tactic| ((with_reducible refine' sv_ord ?c1 ?c2); (case c1 => assumption); (case c2 => assumption)))

local macro_rules | `(tactic| walk_at "call") => `(tactic| ((with_reducible refine' sv_pow ?c1 ?c2 ?c3); (case c1 => walk_at "side"); (case c2 => walk_at "side"); (case c3 => walk_at "side")))
local macro_rules | `(tactic| walk_at "call") => `(tactic| ((with_reducible refine' sv_rise ?c1 ?c2); (case c1 => walk_at "side"); (case c2 => walk_at "side")))
local macro_rules | `(tactic| walk_at "call") => `(tactic| (with_reducible exact sv_between))
local macro_rules | `(tactic| walk_at "call") => `(tactic| ((with_reducible refine' sv_check1 ?c1 ?c2); (case c1 => walk_at "side"); (case c2 => walk_at "side")))
local macro_rules | `(tactic| walk_at "call") => `(tactic| ((with_reducible refine' sv_check_number ?c1 ?c2); (case c1 => walk_at "side"); (case c2 => walk_at "side")))
local macro_rules | `(tactic| walk_at "callU") => `(tactic| ((with_reducible refine' su_fraction ?c1 ?c2); (case c1 => walk_at "side"); (case c2 => walk_at "side")))

local macro_rules | `(tactic| walk_at "callL") => `(tactic| ((with_reducible refine' sl_wbt ?c1 ?c2 ?c3); (case c1 => walk_at "side"); (case c2 => walk_at "side"); (case c3 => walk_at "side")))
local macro_rules | `(tactic| walk_at "callU") => `(tactic| ((with_reducible refine' su_share ?c1 ?c2 ?c3 ?c4 ?c5); (case c1 => walk_at "side"); (case c2 => walk_at "side"); (case c3 => walk_at "side"); (case c4 => walk_at "side"); (case c5 => walk_at "side")))


def shareD (a b : Int) : PyData := .tuple [.int (a / cd a b), .int (b / cd a b)]
def sharesD (w : Int) (n : Nat) : PyData := .list ((List.range (n + 1)).map fun t => shareD (sw w n t) (rise w n))
theorem dpa_frac {K : PySem.W.Frag} {H : Hp} (a b : Int) : DpAll K H (frac a b) [.int (a / cd a b), .int (b / cd a b)] := .cons (.int _) (.cons (.int _) .nil)
theorem dpa_fracs {K : PySem.W.Frag} {H : Hp} (f : Nat → Int × Int) : ∀ {ws : List V} (l : List Nat), TL H ws (l.map fun t => frac (f t).1 (f t).2) → DpAll K H ws (l.map fun t => shareD (f t).1 (f t).2)
  | [], [], _ => .nil
  | _ :: _, t :: l, .cons ⟨b, e, h⟩ q => by
    subst e
    exact .cons (.tup (st_of h) (dpa_frac _ _)) (dpa_fracs f l q)
theorem quot_le {a b B : Int} (ha : 0 ≤ a) (hb : 0 < b) (hB : a ≤ B) : 0 ≤ a / cd a b ∧ a / cd a b ≤ B := by
  have g := cd_pos (a := a) hb
  refine ⟨Int.ediv_nonneg ha (by omega), ?_⟩
  have := Int.ediv_le_self (cd a b) ha
  omega
theorem quot_le2 {a b B : Int} (hb : 0 < b) (hB : b ≤ B) : 0 ≤ b / cd a b ∧ b / cd a b ≤ B := by
  have g := cd_pos (a := a) hb
  refine ⟨Int.ediv_nonneg (by omega) (by omega), ?_⟩
  have := Int.ediv_le_self (cd a b) (show 0 ≤ b by omega)
  omega
theorem big_abs {z : Int} {k : Nat} (h0 : 0 ≤ z) (h : z ≤ 2 ^ k) (hk : k + 1 ≤ 1900) : z.natAbs < 2 ^ 1900 := by
  have e : (2 : Int) ^ k = ((2 ^ k : Nat) : Int) := by simp
  rw [e] at h
  exact lt2_mono (lt_of_le2 (k := k) (by omega)) hk
theorem shn_share {a b : Int} {k : Nat} (ha : 0 ≤ a) (hb : 0 < b) (h1 : a ≤ 2 ^ k) (h2 : b ≤ 2 ^ k) (hk : k + 1 ≤ 1900) : ShN (shareD a b) 3849 := by
  have q1 := quot_le ha hb h1
  have q2 := quot_le2 (a := a) hb h2
  exact shn_tup (n := 1921) (ds := [.int (a / cd a b), .int (b / cd a b)]) fun d hd => by
    rcases List.mem_cons.mp hd with e | hd
    · rw [e]
      exact ⟨shn_int2 (big_abs q1.1 q1.2 hk), Nat.zero_le _⟩
    · rw [List.mem_singleton.mp hd]
      exact ⟨shn_int2 (big_abs q2.1 q2.2 hk), Nat.zero_le _⟩
theorem two_mono {a b : Nat} (h : a ≤ b) : (2 : Int) ^ a ≤ 2 ^ b := by
  have e : ∀ k : Nat, (2 : Int) ^ k = ((2 ^ k : Nat) : Int) := fun k => by simp
  rw [e, e]
  exact Int.ofNat_le.mpr (Nat.pow_le_pow_right (by decide) h)
theorem sw_bd {w : Int} (h0 : 1 ≤ w) (h1 : w ≤ 2 ^ 42) {n t : Nat} (hn : n ≤ 20) (ht : t ≤ n) : 0 ≤ sw w n t ∧ sw w n t ≤ 2 ^ 860 := by
  have a := sums_small (w := w) (by omega) h1 n hn (sw w n t) (by
    have := sums_get w n t ht
    exact List.mem_of_getElem? this)
  refine ⟨a.1, Int.le_trans a.2 (two_mono (by omega))⟩
theorem rise_bd {w : Int} (h0 : 1 ≤ w) (h1 : w ≤ 2 ^ 42) {n : Nat} (hn : n ≤ 20) : rise w n ≤ 2 ^ 860 := Int.le_trans (rise_small h0 h1 n hn) (two_mono (by omega))
theorem shn_shares {w : Int} (h0 : 1 ≤ w) (h1 : w ≤ 2 ^ 42) {n : Nat} (hn : n ≤ 20) : ShN (sharesD w n) 100000 := by
  have := shn_list (n := 3849) (ds := (List.range (n + 1)).map fun t => shareD (sw w n t) (rise w n)) fun d hd => by
    obtain ⟨t, ht, rfl⟩ := List.mem_map.mp hd
    have ht := List.mem_range.mp ht
    obtain ⟨a, b⟩ := sw_bd h0 h1 hn (show t ≤ n by omega)
    exact ⟨shn_share a (rise_pos h0 n) b (rise_bd h0 h1 hn) (by decide), Nat.le_of_ble_eq_true rfl⟩
  refine ⟨this.shw, this.nod, ?_, this.dep⟩
  have l := this.len
  rw [List.length_map, List.length_range] at l
  have : (3849 + 2) * (n + 1) ≤ (3849 + 2) * 21 := Nat.mul_le_mul_left _ (by omega)
  exact Nat.le_trans l (by omega)
section
variable {K : PySem.W.Frag} {σ : L2.St} {H : Hp} {ta tb te : TE} {D : Ends} {tz : TS}
theorem ev_sumV {a : Addr} {ns : List Int} (h : Ev ta σ H (.ref a)) (ha : SqL K H a (ns.map V.int)) : Ev (tCB (rSum K) (tCons ta tNil)) σ H (.int ns.sum) := fun H1 e Q q => h H1 e _ fun H2 e2 => ⟨a, ns, rfl, ex_l (e.trans e2) ha, q H2 e2⟩
theorem ed_fracs {f : Nat → Int × Int} {l : List Nat} (h : EvLT te σ H (l.map fun t => frac (f t).1 (f t).2)) : EvD K te σ H (.list (l.map fun t => shareD (f t).1 (f t).2)) := fun H1 e Q q => h H1 e _ fun p ws H2 _ e2 h2 ht => q _ H2 e2 (.lst (sq_of h2) (dpa_fracs f l ht))
end
theorem ints_get {l : List Int} {i : Nat} {x : V} (h : (l.map V.int)[i]? = some x) : x = .int (l.getD i 0) ∧ i < l.length := by
  rw [List.getElem?_map] at h
  obtain ⟨z, hz, rfl⟩ := Option.map_eq_some_iff.mp h
  refine ⟨?_, (List.getElem?_eq_some_iff.mp hz).1⟩
  rw [List.getD_eq_getElem?_getD, hz]
  rfl
theorem ints_at {l : List Int} {i : Nat} (h : i < l.length) : atI (l.map V.int) (i : Int) = some (.int (l.getD i 0)) := by
  refine atI_nat ?_
  rw [List.getElem?_map, List.getElem?_eq_getElem h, List.getD_eq_getElem?_getD, List.getElem?_eq_getElem h]
  rfl
theorem pow_bd {w : Int} (h0 : 1 ≤ w) (h1 : w ≤ 2 ^ 42) {n : Nat} (hn : n ≤ 20) : 0 ≤ w ^ n ∧ w ^ n ≤ 2 ^ 860 := by
  refine ⟨Int.pow_nonneg (by omega), ?_⟩
  have : ∀ k : Nat, w ^ k ≤ 2 ^ (42 * k) := fun k => by
    induction k with
    | zero => simp
    | succ k ih =>
      rw [Int.pow_succ, Nat.mul_succ, Int.pow_add]
      exact Int.mul_le_mul ih h1 (by omega) (Int.pow_nonneg (by decide))
  exact Int.le_trans (this n) (two_mono (by omega))

/-! ### _law_right -/
def orb (h : List Nat) (i : Nat) : Nat → Nat → List Nat
  | 0, _ => []
  | f + 1, x => if x = i then [] else x :: orb h i f (h.getD x 0)
def cyc (h : List Nat) : List (List Nat) := (List.range h.length).foldl (fun acc i => if i ∈ acc.flatten then acc else acc ++ [i :: orb h i h.length (h.getD i 0)]) []
theorem every_ok : ∀ m : Nat, m < 6 → 1 ≤ m → ∀ h ∈ every m, ordB h = true ∧ ringsB h (cyc h) = true ∧ h.length = m ∧ (cyc h).length ≤ m := by decide +kernel
def cnt (t : Nat) (l : List Nat) : Nat := (l.filter fun x => decide (x = t)).length
theorem every_cnt : ∀ m : Nat, m < 6 → 1 ≤ m → ∀ t : Nat, t < 6 → cnt t ((every m).map fun h => (cyc h).length) = stir m t := by decide +kernel
theorem cnt_next {t i c : Nat} {l : List Nat} (h : l[i]? = some c) : cnt t (l.take (i + 1)) = cnt t (l.take i) + if c = t then 1 else 0 := by
  unfold cnt
  rw [List.take_add_one, h, List.filter_append, List.length_append]
  by_cases e : c = t
  · simp [e]
  · simp [e]
def acc (x : Int) (m : Nat) (l : List Nat) : List Int := (List.range (m + 1)).map fun t => (cnt t l : Int) * x ^ t
theorem acc_get {x : Int} {m t : Nat} {l : List Nat} (h : t ≤ m) : (acc x m l)[t]? = some ((cnt t l : Int) * x ^ t) := by
  unfold acc
  rw [List.getElem?_map, List.getElem?_range (by omega)]
  rfl
theorem acc_next {x : Int} {m i c : Nat} {l : List Nat} (h : l[i]? = some c) (hc : c ≤ m) : (acc x m (l.take i)).set c ((cnt c (l.take i) : Int) * x ^ c + x ^ c) = acc x m (l.take (i + 1)) := by
  refine List.ext_getElem? fun t => ?_
  have l1 : (acc x m (l.take i)).length = m + 1 := by simp [acc]
  have l2 : (acc x m (l.take (i + 1))).length = m + 1 := by simp [acc]
  by_cases ht : t ≤ m
  · rw [acc_get ht, cnt_next h]
    by_cases e : c = t
    · subst e
      rw [List.getElem?_set_self (by omega), if_pos rfl, show ((cnt c (l.take i) + 1 : Nat) : Int) = (cnt c (l.take i) : Int) + 1 by omega, Int.add_mul, Int.one_mul]
    · rw [List.getElem?_set_ne e, acc_get ht, if_neg e]
      simp
  · rw [List.getElem?_eq_none (by rw [List.length_set]; omega), List.getElem?_eq_none (by omega)]
theorem acc_zero (x : Int) (m : Nat) : acc x m [] = List.replicate (m + 1) 0 := by
  unfold acc cnt
  refine List.ext_getElem (by simp) fun i h1 h2 => ?_
  simp
theorem acc_end {x : Int} {m : Nat} (h1 : 1 ≤ m) (h5 : m < 6) : acc x m ((every m).map fun h => (cyc h).length) = sums x m := by
  unfold acc
  conv => rhs; rw [range_get (sums x m) 0, sums_len]
  refine List.map_congr_left fun t ht => ?_
  have := List.mem_range.mp ht
  rw [sums_is x m t (by omega)]
  unfold sw
  by_cases h : t < 6
  · rw [every_cnt m h5 h1 t h]
  · omega
theorem rep_ints (n : Nat) : (List.replicate n [V.int 0]).flatten = (List.replicate n (0 : Int)).map V.int := by
  rw [List.map_replicate]
  induction n with
  | zero => rfl
  | succ n ih => rw [List.replicate_succ, List.flatten_cons, ih, List.replicate_succ]; rfl
theorem el_mapI {K : PySem.W.Frag} {σ : L2.St} {H : Hp} {te tl : TE} {a : Addr} {xs : List V} {j : Nat} {vs : List Nat} (f : Nat → V) (h : Ev tl σ H (.ref a)) (hx : SqL K H a xs) (hz : xs.length ≤ 40000) (hw : ∀ x, wipe ((wipe σ vs).set j (some x)) vs = wipe σ vs)
    (he : ∀ (i : Nat) (x : V) H1, Ex H H1 → xs[i]? = some x → Ev te ((wipe σ vs).set j (some x)) H1 (f i)) : EvL (tLc (iList K tl) (gName j) tYes te vs) σ H ((List.range xs.length).map f) := by
  have e : (List.range xs.length).map f = given xs.length (fun _ => true) f := by
    unfold given
    rw [List.filter_eq_self.mpr (fun _ _ => rfl)]
  rw [e]
  exact el_lcL _ _ h hx hz hw (fun _ _ _ _ _ => et_yes) fun i x H1 e hi _ => he i x H1 e hi
theorem canLay_dis : ∀ rs : List (List Nat), PyData.canLayAll0 (rs.map di) = true
  | [] => rfl
  | m :: r => by simp [PyData.canLayAll0, PyData.canLay0, di, canLay_ints, canLay_dis r]
theorem depth_dis : ∀ rs : List (List Nat), PyData.depthAll (rs.map di) ≤ 1
  | [] => by simp [PyData.depthAll]
  | m :: r => by
    have := depth_dis r
    simp [PyData.depthAll, PyData.depth, di, depth_ints]
    omega
theorem shaped_dis (rs : List (List Nat)) : SeqAt.shaped (.list (rs.map di)) = true := by
  have := depth_dis rs
  simp [SeqAt.shaped, PyData.canLay0, canLay_dis, PyData.depth]
  omega
theorem hm_in {p a : Addr} {H : Hp} {o : HO} (ne : a ≠ p) (h : H a = some o) : Hm p H a = some o := by
  unfold Hm
  rw [if_neg ne]
  exact h
theorem TL.hm {H H' : Hp} {p : Addr} {n : Nat} {ws : List V} {rs : List (List V)} (t : TL H ws rs) (hp : Po p n H) (s : Ex (Hm p H) H') : TL H' ws rs := t.imp fun a r x => hm_at s (fun z => by
  obtain ⟨_, _, _, h1, _⟩ := hp
  rw [← z, x] at h1
  cases h1) x
theorem shaped_ii (a b : Int) : SeqAt.shaped (.list [.int a, .int b]) = true := shaped_ints [a, b]
theorem shaped_dd (r s : List Nat) : SeqAt.shaped (.list [di r, di s]) = true := shaped_dis [r, s]
theorem shaped_sh (a b : Int) : SeqAt.shaped (.tuple [.int a, .int b]) = true := by
  simp [SeqAt.shaped, PyData.canLay0, PyData.canLayAll0, PyData.depth, PyData.depthAll]
theorem shaped_shD (a b : Int) : SeqAt.shaped (shareD a b) = true := shaped_sh _ _
theorem likely_len {l : List Int} {m : Int} : (likely l m).length ≤ l.length := by
  unfold likely
  have := List.length_filter_le (fun t => decide (l.getD t 0 = m)) (List.range l.length)
  rw [List.length_range] at this
  exact this
theorem cyc_le {h : List Nat} : (cyc h).length ≤ h.length := by
  unfold cyc
  have : ∀ (l : List Nat) (acc : List (List Nat)), (l.foldl (fun acc i => if i ∈ acc.flatten then acc else acc ++ [i :: orb h i h.length (h.getD i 0)]) acc).length ≤ acc.length + l.length := fun l => by
    induction l with
    | nil => intro acc; exact Nat.le_refl _
    | cons a l ih =>
      intro acc
      rw [List.foldl_cons]
      refine Nat.le_trans (ih _) ?_
      split
      · rw [List.length_cons]; omega
      · rw [List.length_append, List.length_cons, List.length_cons, List.length_nil]; omega
  have := this (List.range h.length) []
  rw [List.length_range, List.length_nil] at this
  omega
theorem every_lt : ∀ m : Nat, m < 6 → ∀ h ∈ every m, ∀ x ∈ h, x < 6 := by decide +kernel
theorem row_ne {p c : Addr} {n m : Nat} {H : Hp} {h : List Nat} (hp : Po p n H) (hc : H c = some (.lst (nv h))) (hm : m < 6) (hh : h ∈ every m) : c ≠ p := fun z => by
  obtain ⟨a, b, d, h1, h2, _⟩ := hp
  rw [z, h1] at hc
  have e := HO.lst.inj (Option.some.inj hc)
  have e1 : (nv h)[1]? = some (.int b) := by rw [← e]; rfl
  rw [nv_eq, List.getElem?_map] at e1
  obtain ⟨x, hx, e2⟩ := Option.map_eq_some_iff.mp e1
  have := every_lt m hm h hh x (List.mem_of_getElem? hx)
  have := V.int.inj e2
  omega
section
variable {K : PySem.W.Frag} {σ : L2.St} {H : Hp} {ta tb te : TE} {t : TA} {D : Ends} {tz : TS}
theorem eu_is {xs ys : List V} (h : EvU te σ H xs) (e : xs = ys) : EvU te σ H ys := e ▸ h
theorem q_twoL {i : Nat} {xs ys : List V} (h1 : EvL ta σ H xs) (h2 : EvL tb σ H ys) (k : ∀ t b1 b2 H1, H b1 = none → Ex H H1 → H1 t = some (.lst [.ref b1, .ref b2]) → H1 b1 = some (.lst xs) → H1 b2 = some (.lst ys) → tz D (σ.set i (some (.ref t))) H1) : tSeq (tAsg (tLst (tCons ta (tCons tb tNil))) (gName i)) tz D σ H :=
  h1 H (Ex.refl H) _ fun b1 H1 n1 e1 v1 => h2 H1 e1 _ fun b2 H2 n2 e2 v2 => ⟨sz_of (by show 2 ≤ 100000; decide), fun t ht => by
    have eN : Ex H2 (upd H2 t (.lst [.ref b1, .ref b2])) := Ex.new ht
    exact k t b1 b2 _ n1 (e1.trans (e2.trans eN)) upd_same (eN b1 _ (e2 b1 _ v1)) (eN b2 _ v2)⟩
theorem ev_lenLT {rs : List (List V)} (h : EvLT te σ H rs) : Ev (tCB (rLenS K) (tCons te tNil)) σ H (.int (rs.length : Int)) := fun H1 e Q q => h H1 e _ fun p ws H2 _ e2 h2 ht => ⟨p, ws, rfl, Or.inl (sq_of h2), by
  rw [ht.len]
  exact q H2 e2⟩
theorem elt_law {a : Addr} {h : List Nat} {rs : List (List Nat)} {E : XK} (e0 : EvA t σ H [.ref a]) (ha : H a = some (.lst (nv h))) (o : Ord h) (R : Rings h rs) : EvLT (tCall sp_law_tables [] E t) σ H (rs.map nv) := fun H1 e Q q =>
  e0 H1 e _ fun H2 e2 => ⟨a, h, rs, rfl, e2 a _ (e a _ ha), o, R, fun p ws H3 hp e3 h3 ht => q p ws H3 (fresh_back e2 hp) (e2.trans e3) h3 ht⟩
theorem q_every {i m : Nat} {E : XK} (h : EvA t σ H [.int (m : Int)]) (hm : m ≤ 5) (k : ∀ p ws H1, H p = none → Ex H H1 → H1 p = some (.lst ws) → Paired (Lb H1) ws (every m) → tz D (σ.set i (some (.ref p))) H1) : tSeq (tAsg (tCall sp_law_every [] E t) (gName i)) tz D σ H :=
  h H (Ex.refl H) _ fun H1 e1 => ⟨m, rfl, hm, fun p ws H2 hp e2 h2 hw => k p ws H2 (fresh_back e1 hp) (e1.trans e2) h2 hw⟩
theorem q_parLU {i j : Nat} {xs ys : List V} (h : EvL ta σ H xs) (h2 : EvU tb σ H ys) (k : ∀ p q H1, H p = none → H q = none → Ex H H1 → H1 p = some (.lst xs) → H1 q = some (.tup ys) → tz D ((σ.set i (some (.ref p))).set j (some (.ref q))) H1) : tSeq (tPar i j (tCons ta (tCons tb tNil))) tz D σ H :=
  h H (Ex.refl H) _ fun p H1 hp e1 h1 => h2 H1 e1 _ fun q H2 hq e2 h3 => ⟨_, _, rfl, k p q H2 hp (fresh_back e1 hq) (e1.trans e2) (e2 p _ h1) h3⟩
theorem ed_ixT {a : Addr} {ws : List V} {i : Nat} {x y : Int} {rs : List (List V)} (h : Ev ta σ H (.ref a)) (ha : H a = some (.lst ws)) (ht : TL H ws rs) (hb : Ev tb σ H (.int (i : Int))) (hi : rs[i]? = some [.int x, .int y]) : EvD K (tOp (rIxL K) ta tb) σ H (.tuple [.int x, .int y]) := fun H1 e Q q =>
  h H1 e _ fun H2 e2 => hb H2 (e.trans e2) _ fun H3 e3 => by
    have e13 := e.trans (e2.trans e3)
    have il : i < ws.length := by
      rw [ht.len]
      exact (List.getElem?_eq_some_iff.mp hi).1
    obtain ⟨b, r, h1, h2, h3⟩ := ht.get (List.getElem?_eq_getElem il)
    rw [hi] at h3
    have : r = [.int x, .int y] := (Option.some.inj h3).symm
    subst this
    refine ⟨a, ws, i, .ref b, rfl, rfl, sq_of (e13 a _ ha), ?_, q _ H3 (e2.trans e3) (.tup (st_of (e13 b _ h2)) (.cons (.int _) (.cons (.int _) .nil)))⟩
    rw [← h1]
    exact atI_nat (List.getElem?_eq_getElem il)
end
def sp_law_right : Sp := fun vs H Q _ => ∃ (p : Addr) (n m : Nat) (x : Int), vs = [.ref p, .int (m : Int), .int x] ∧ Po p n H ∧ n + 100 < 1000000000 ∧ 1 ≤ m ∧ m ≤ 5 ∧ 1 ≤ x ∧ x ≤ 1000000000000 ∧ ∀ H', Po p (n + 100) H' → Ex (Hm p H) H' → Q (.bl true) H'
section
variable {P : Program} {w : World} {K : PySem.W.Frag} {mg : Str → Option Value} {base : Heap}
theorem ok_law_right (T : Tx K mg) : FnOkG P w K mg base 7 T.f_law_right T.d_law_right ["pouch", "many", "heavy"] sp_law_right := by
  refine funG T.F_law_right sc_law_right (fun vs H Q E h => ?_) (fun cdv A outer s H vs Q E hg hr h => ?_)
  · obtain ⟨p, n, m, x, rfl, _⟩ := h
    rfl
  · obtain ⟨p, n, m, x, rfl, hpo, hn, hm1, hm, hx1, hx2, k⟩ := h
    refine ⟨_, (pss_cons (ps_set (i := 3) sc_law_right.nd rfl (Or.inl rfl) (pe_call (ok_law_every T) (hr.mono (by decide)) (by rfl) T.g_law_every T.F_law_every.kp T.b_law_every .nil pass0 (pa_cons (pv 1) pa_nil)))
      (pss_cons (ps_setLc (i := 5) (own := [("row", 4)]) (g := (gName 4)) (tt := tYes) rfl sc_law_right.nd rfl rfl (sw_true rfl rfl rfl (by decide +kernel)) (pi_list (pv 3)) (blkOk_by (own := [("row", 4)]) (N := n_law_right) (sc := defScope s_law_right) (by decide +kernel)) (fun _ _ _ _ _ => (pg_name (i := 4) sc_law_right.nd rfl (Or.inl rfl))) (fun _ _ _ _ _ => pts_nil) (fun _ _ _ _ _ => (pe_callB (id := "len") (r := rLenS K) call_lenR (by rfl) T.m_len (by decide +kernel) (pa_cons (pe_call (ok_law_tables T) (hr.mono (by decide)) (by rfl) T.g_law_tables T.F_law_tables.kp T.b_law_tables .nil pass0 (pa_cons (pv 4) pa_nil)) pa_nil))))
      (pss_cons (ps_set (i := 6) sc_law_right.nd rfl (Or.inr rfl) (pe_op op_rep (pe_lst (pa_cons pe_int pa_nil)) (pe_op op_add (pv 1) pe_int)))
      (pss_cons (ps_for PassesOwn.never rfl (pi_list (pv 5)) (pg_name (i := 7) sc_law_right.nd rfl (Or.inl rfl)) (pss_one (ps_asg (pe_op op_add (pe_ix ix_list (pv 6) (pv 7) (fun _ _ => rfl)) (pe_call (ok_law_weigh T) (hr.mono (by decide)) (by rfl) T.g_law_weigh T.F_law_weigh.kp T.b_law_weigh .nil pass0 (pa_cons (pv 2) (pa_cons (pv 7) pa_nil)))) (pg_sub (pv 6) (pv 7) set_list))))
      (pss_cons (ps_set (i := 8) sc_law_right.nd rfl (Or.inr rfl) (pe_callB (cr_sum rfl) (by rfl) T.m_sum (by decide +kernel) (pa_cons (pv 6) pa_nil)))
      (pss_cons (ps_if (pt_cmpR (op_neD hr.units) (pe_lst (pa_cons (pe_call (ok_total_weight T) (hr.mono (by decide)) (by rfl) T.g_total_weight T.F_total_weight.kp T.b_total_weight .nil pass0 (pa_cons (pv 1) (pa_cons (pv 2) pa_nil))) (pa_cons (pe_callK0 (ok_total_weight T) (hr.mono (by decide)) (by rfl) T.g_total_weight T.F_total_weight.kp T.kb_total_weight_0_weight_guests pass0 (pk_cons (pv 2) (pk_cons (pv 1) pk_nil))) pa_nil))) (pe_lst (pa_cons (pv 8) (pa_cons (pv 8) pa_nil))) (nomark _)) (pss_one (ps_ret pe_bl)) pss_nil)
      (pss_cons (ps_setLc (i := 10) (own := [("one", 9)]) (g := (gName 9)) (tt := tYes) rfl sc_law_right.nd rfl rfl (sw_true rfl rfl rfl (by decide +kernel)) (pi_list (pv 6)) (blkOk_by (own := [("one", 9)]) (N := n_law_right) (sc := defScope s_law_right) (by decide +kernel)) (fun _ _ _ _ _ => (pg_name (i := 9) sc_law_right.nd rfl (Or.inl rfl))) (fun _ _ _ _ _ => pts_nil) (fun _ _ _ _ _ => (pe_call (ok_law_lowest T) (hr.mono (by decide)) (by rfl) T.g_law_lowest T.F_law_lowest.kp T.b_law_lowest .nil pass0 (pa_cons (pv 9) (pa_cons (pv 8) pa_nil)))))
      (pss_cons (ps_if (pt_cmpR op_ne (pe_callB (id := "repr") (r := rRepr K) (call_reprD hg hr.units) (by rfl) T.m_repr (by decide +kernel) (pa_cons (pe_lc (own := [("width", 7)]) (g := (gName 7)) (tt := tYes) rfl sc_law_right.nd (pi_range1 (by rfl) T.m_range (pa_cons (pe_op op_add (pv 1) pe_int) pa_nil)) (blkOk_by (own := [("width", 7)]) (N := n_law_right) (sc := defScope s_law_right) (by decide +kernel)) (fun _ _ _ _ _ => (pg_name (i := 7) sc_law_right.nd rfl (Or.inl rfl))) (fun _ _ _ _ _ => pts_nil) (fun _ _ _ _ _ => (pe_call (ok_tables_share T) (hr.mono (by decide)) (by rfl) T.g_tables_share T.F_tables_share.kp T.b_tables_share .nil pass0 (pa_cons (pv 1) (pa_cons (pv 2) (pa_cons (pv 7) pa_nil)))))) pa_nil)) (pe_callB (id := "repr") (r := rRepr K) (call_reprD hg hr.units) (by rfl) T.m_repr (by decide +kernel) (pa_cons (pv 10) pa_nil)) (nomark _)) (pss_one (ps_ret pe_bl)) pss_nil)
      (pss_cons (ps_set (i := 11) sc_law_right.nd rfl (Or.inl rfl) (pe_call (ok_law_lowest T) (hr.mono (by decide)) (by rfl) T.g_law_lowest T.F_law_lowest.kp T.b_law_lowest .nil pass0 (pa_cons (pe_callB (cr_sum rfl) (by rfl) T.m_sum (by decide +kernel) (pa_cons (pe_lc (own := [("width", 7)]) (g := (gName 7)) (tt := tYes) rfl sc_law_right.nd (pi_range1 (by rfl) T.m_range (pa_cons (pe_op op_add (pv 1) pe_int) pa_nil)) (blkOk_by (own := [("width", 7)]) (N := n_law_right) (sc := defScope s_law_right) (by decide +kernel)) (fun _ _ _ _ _ => (pg_name (i := 7) sc_law_right.nd rfl (Or.inl rfl))) (fun _ _ _ _ _ => pts_nil) (fun _ _ _ _ _ => (pe_op op_mulX (pv 7) (pe_ix (r := rIxL K) ix_list (pv 6) (pv 7) (fun _ _ => rfl))))) pa_nil)) (pa_cons (pv 8) pa_nil))))
      (pss_cons (ps_if (pt_cmpR op_ne (pe_callB (id := "repr") (r := rRepr K) (call_reprD hg hr.units) (by rfl) T.m_repr (by decide +kernel) (pa_cons (pe_lst (pa_cons (pe_call (ok_mean_tables T) (hr.mono (by decide)) (by rfl) T.g_mean_tables T.F_mean_tables.kp T.b_mean_tables .nil pass0 (pa_cons (pv 1) (pa_cons (pv 2) pa_nil))) (pa_cons (pe_callK0 (ok_mean_tables T) (hr.mono (by decide)) (by rfl) T.g_mean_tables T.F_mean_tables.kp T.kb_mean_tables_0_weight_guests pass0 (pk_cons (pv 2) (pk_cons (pv 1) pk_nil))) pa_nil))) pa_nil)) (pe_callB (id := "repr") (r := rRepr K) (call_reprD hg hr.units) (by rfl) T.m_repr (by decide +kernel) (pa_cons (pe_lst (pa_cons (pv 11) (pa_cons (pv 11) pa_nil))) pa_nil)) (nomark _)) (pss_one (ps_ret pe_bl)) pss_nil)
      (pss_cons (ps_setLc (i := 12) (own := [("width", 7)]) (g := (gName 7)) rfl sc_law_right.nd rfl rfl (sw_true rfl rfl rfl (by decide +kernel)) (pi_range1 (by rfl) T.m_range (pa_cons (pe_op op_add (pv 1) pe_int) pa_nil)) (blkOk_by (own := [("width", 7)]) (N := n_law_right) (sc := defScope s_law_right) (by decide +kernel)) (fun _ _ _ _ _ => (pg_name (i := 7) sc_law_right.nd rfl (Or.inl rfl))) (fun _ _ _ _ _ => (pts_one (pt_cmpR op_eq (pe_ix (r := rIxL K) ix_list (pv 6) (pv 7) (fun _ _ => rfl)) (pe_callB (id := "max") (r := rMax K) (cr_max rfl) (by rfl) T.m_max (by decide +kernel) (pa_cons (pv 6) pa_nil)) (nomark _)))) (fun _ _ _ _ _ => (pv 7)))
      (pss_cons (ps_set (i := 13) sc_law_right.nd rfl (Or.inl rfl) (pe_lst (pa_cons (pe_call (ok_likeliest_tables T) (hr.mono (by decide)) (by rfl) T.g_likeliest_tables T.F_likeliest_tables.kp T.b_likeliest_tables .nil pass0 (pa_cons (pv 1) (pa_cons (pv 2) pa_nil))) (pa_cons (pe_callK0 (ok_likeliest_tables T) (hr.mono (by decide)) (by rfl) T.g_likeliest_tables T.F_likeliest_tables.kp T.kb_likeliest_tables_0_weight_guests pass0 (pk_cons (pv 2) (pk_cons (pv 1) pk_nil))) pa_nil))))
      (pss_cons (ps_if (pt_cmpR (op_neD hr.units) (pv 13) (pe_lst (pa_cons (pv 12) (pa_cons (pv 12) pa_nil))) (nomark _)) (pss_one (ps_ret pe_bl)) pss_nil)
      (pss_cons (ps_expr (pe_bm PySem.F.plainAttrs_list PySem.F.slot_list_append PySem.F.type_list_append mt_append (pe_ix ix_list (pv 13) pe_int (fun _ _ => rfl)) (pa_cons pe_non pa_nil)))
      (pss_cons (ps_set (i := 14) sc_law_right.nd rfl (Or.inl rfl) (pe_call (ok_law_dip T) (hr.mono (by decide)) (by rfl) T.g_law_dip T.F_law_dip.kp T.b_law_dip .nil pass0 (pa_cons (pv 0) (pa_cons (pe_callB call_lenR (by rfl) T.m_len (by decide +kernel) (pa_cons (pv 3) pa_nil)) pa_nil))))
      (pss_cons (ps_par (i := 15) (j := 16) (by rfl) sc_law_right.nd rfl rfl (by decide) rfl rfl (pa_cons (pe_callTy call_listR (by rfl) T.m_list (by decide +kernel) (pa_cons (pe_ix ix_list (pv 3) (pv 14) (fun _ _ => rfl)) pa_nil)) (pa_cons (pe_call (ok_law_lowest T) (hr.mono (by decide)) (by rfl) T.g_law_lowest T.F_law_lowest.kp T.b_law_lowest .nil pass0 (pa_cons (pe_call (ok_law_weigh T) (hr.mono (by decide)) (by rfl) T.g_law_weigh T.F_law_weigh.kp T.b_law_weigh .nil pass0 (pa_cons (pv 2) (pa_cons (pe_ix ix_list (pv 5) (pv 14) (fun _ _ => rfl)) pa_nil))) (pa_cons (pv 8) pa_nil))) pa_nil)) (by rfl))
      (pss_cons (ps_set (i := 13) sc_law_right.nd rfl (Or.inl rfl) (pe_lst (pa_cons (pe_call (ok_seating_share T) (hr.mono (by decide)) (by rfl) T.g_seating_share T.F_seating_share.kp T.b_seating_share .nil pass0 (pa_cons (pv 15) (pa_cons (pv 2) pa_nil))) (pa_cons (pe_callK0 (ok_seating_share T) (hr.mono (by decide)) (by rfl) T.g_seating_share T.F_seating_share.kp T.kb_seating_share_0_weight_seating pass0 (pk_cons (pv 2) (pk_cons (pv 15) pk_nil))) pa_nil))))
      (pss_cons (ps_if (PW.pt (pw_or (pt_cmpR op_ne (pe_callB (id := "repr") (r := rRepr K) (call_reprD hg hr.units) (by rfl) T.m_repr (by decide +kernel) (pa_cons (pv 13) pa_nil)) (pe_callB (id := "repr") (r := rRepr K) (call_reprD hg hr.units) (by rfl) T.m_repr (by decide +kernel) (pa_cons (pe_lst (pa_cons (pv 16) (pa_cons (pv 16) pa_nil))) pa_nil)) (nomark _)) (pw_or1 (pt_cmpR (op_neD hr.units) (pv 15) (pe_ix ix_list (pv 3) (pv 14) (fun _ _ => rfl)) (nomark _))))) (pss_one (ps_ret pe_bl)) pss_nil)
      (pss_cons (ps_set (i := 7) sc_law_right.nd rfl (Or.inl rfl) (pe_call (ok_law_dip T) (hr.mono (by decide)) (by rfl) T.g_law_dip T.F_law_dip.kp T.b_law_dip .nil pass0 (pa_cons (pv 0) (pa_cons (pe_op op_add (pv 1) pe_int) pa_nil))))
      (pss_one (ps_ret (pe_and (pe_cmpR (op_eqD hr.units) (pe_callK0 (ok_tables_share T) (hr.mono (by decide)) (by rfl) T.g_tables_share T.F_tables_share.kp T.kb_tables_share_0_number_weight_guests pass0 (pk_cons (pv 7) (pk_cons (pv 2) (pk_cons (pv 1) pk_nil)))) (pe_ix ix_list (pv 10) (pv 7) (fun _ _ => rfl)) (nomark _)) (pe_one (pe_cmpR (op_eqD hr.units) (pe_call (ok_likeliest_tables T) (hr.mono (by decide)) (by rfl) T.g_likeliest_tables T.F_likeliest_tables.kp T.b_likeliest_tables .nil pass0 (pa_cons (pv 1) (pa_cons (pv 2) pa_nil))) (pv 12) (nomark _))))))))))))))))))))))))), ?_⟩
    have hb : x.natAbs < 2 ^ 130 := by omega
    have x42 : x ≤ 2 ^ 42 := by omega
    have hm20 : m ≤ 20 := by omega
    have sl := sums_len x m
    have rp := rise_pos hx1 m
    have rb := rise_bd hx1 x42 hm20
    have r8 : (rise x m).natAbs < 2 ^ 8000 := lt2_mono (big_abs (by omega) rb (by decide)) (by decide)
    obtain ⟨el1, el2⟩ := every_small m (by omega) m (by omega) (Nat.le_refl _)
    have el1 : (every m).length ≤ 120 := el1
    refine q_every (by walk_at "ea") hm fun a ws H1 na e1 h1 w1 => ?_
    have wl := Paired.length w1
    refine q_asgL (xs := nv ((every m).map fun h => (cyc h).length)) ?_ fun b H2 nb e2 h2 => ?_
    · have g := el_mapI (K := K) (te := tCB (rLenS K) (tCons (tCall sp_law_tables [] E0 (tCons (tVar 4) tNil)) tNil)) (tl := tVar 3) (j := 4) (vs := [4]) (H := H1) (σ := [some (V.ref p), some (.int m), some (.int x), some (.ref a), none, none, none, none, none, none, none, none, none, none, none, none, none]) (xs := ws) (fun i => V.int ((((every m).map fun h => (cyc h).length).getD i 0 : Nat) : Int)) (ev_var (i := 3) rfl) (sq_of h1) (by omega) (fun _ => rfl) fun i v H2 e2 hv => ?_
      · have e : (List.range ws.length).map (fun i => V.int ((((every m).map fun h => (cyc h).length).getD i 0 : Nat) : Int)) = nv ((every m).map fun h => (cyc h).length) := by
          rw [wl, nv_eq]
          conv => rhs; rw [range_get ((every m).map fun h => (cyc h).length) 0]
          rw [List.map_map, List.length_map]
          rfl
        rw [e] at g
        exact g
      · obtain ⟨h, hh, c, rfl, hc⟩ := paired_get w1 hv
        obtain ⟨o1, o2, o3, o4⟩ := every_ok m (by omega) hm1 h (List.mem_of_getElem? hh)
        have := ev_lenLT (K := K) (elt_law (E := E0) (ea_cons (ev_var (i := 4) (v := .ref c) (σ := [some (V.ref p), some (.int m), some (.int x), some (.ref a), some (.ref c), none, none, none, none, none, none, none, none, none, none, none, none]) rfl) ea_nil) (e2 c _ hc) (ord_of o1) (rings_of o2))
        rw [List.length_map] at this
        have gd : ((every m).map fun h => (cyc h).length).getD i 0 = (cyc h).length := by
          rw [List.getD_eq_getElem?_getD, List.getElem?_map, hh]
          rfl
        show Ev _ _ _ (V.int ((((every m).map fun h => (cyc h).length).getD i 0 : Nat) : Int))
        rw [gd]
        exact this
    generalize hwd : ((every m).map fun h => (cyc h).length) = wd at h2
    have wdl : wd.length ≤ 120 := by rw [← hwd, List.length_map]; exact el1
    have wdm : ∀ (i c : Nat), wd[i]? = some c → c ≤ m := fun i c hc => by
      rw [← hwd, List.getElem?_map] at hc
      obtain ⟨h, hh, rfl⟩ := Option.map_eq_some_iff.mp hc
      exact (every_ok m (by omega) hm1 h (List.mem_of_getElem? hh)).2.2.2
    refine q_asgL (xs := (acc x m []).map V.int) (by
      have := el_rep (xs := [V.int 0]) (k := (m : Int) + 1) (ta := tLst (tCons (tC (.int 0)) tNil)) (tb := tOp (rI0 fun i j => .int (i + j)) (tVar 1) (tC (.int 1))) (σ := [some (V.ref p), some (.int m), some (.int x), some (.ref a), none, some (.ref b), none, none, none, none, none, none, none, none, none, none, none]) (H := H2) (el_lst (ea_cons ev_c ea_nil) (Nat.le_of_ble_eq_true rfl)) (ev_op (ev_var (i := 1) rfl) ev_c rv_I0) (by omega) (by omega) (by decide)
      rw [show ((m : Int) + 1).toNat = m + 1 by omega, rep_ints, ← acc_zero x] at this
      exact this) fun c H3 nc e3 h3 => ?_
    refine q_forLn (xs := nv wd) (K := K) (ev_var rfl) (sq_of (e3 b _ h2)) (fun i σ' H' => ∃ y7 : Option V, σ' = [some (.ref p), some (.int m), some (.int x), some (.ref a), none, some (.ref b), some (.ref c), y7, none, none, none, none, none, none, none, none, none] ∧ Ex H2 H' ∧ H' c = some (.lst ((acc x m (wd.take i)).map V.int))) (fun H4 e4 => ⟨none, rfl, e3.trans e4, e4 c _ h3⟩) (fun i σ' H' _ ⟨_, _, e, _⟩ => sq_of (e b _ h2)) ?_ ?_
    · rintro i v σ' H4 hv ⟨y7, rfl, e4, h4⟩
      have il : i < wd.length := by
        have := (List.getElem?_eq_some_iff.mp hv).1
        rw [nv_len] at this
        exact this
      obtain ⟨d, hd⟩ : ∃ d, wd[i]? = some d := ⟨wd[i], List.getElem?_eq_getElem il⟩
      have hvd : v = .int (d : Int) := by
        have := nv_get hd
        rw [hv] at this
        exact Option.some.inj this
      subst hvd
      have dm := wdm i d hd
      have al : (acc x m (wd.take i)).length = m + 1 := by simp [acc]
      have g0 : ((acc x m (wd.take i)).map V.int)[d]? = some (.int ((cnt d (wd.take i) : Int) * x ^ d)) := by
        rw [List.getElem?_map, acc_get dm]
        rfl
      have pw := ev_call (E := E0) (ea_cons (ev_var (i := 2) (v := .int x) (σ := [some (V.ref p), some (.int m), some (.int x), some (.ref a), none, some (.ref b), some (.ref c), some (.int (d : Int)), none, none, none, none, none, none, none, none, none]) (H := H4) rfl) (ea_cons (ev_var (i := 7) (v := .int (d : Int)) rfl) ea_nil)) (sv_pow hb (by omega) (by omega))
      rw [Int.toNat_natCast] at pw
      refine s_setL (j := d) h4 (ev_op (ev_op (ev_var rfl) (ev_var rfl) (rv_ixL (K := K) (sq_of h4) (atI_nat g0))) pw rv_I0) (ev_var rfl) (ev_var rfl) (by rw [List.length_map]; omega) fun H5 e5 => ⟨_, rfl, Ex.mut (e4.trans e5) nc, ?_⟩
      rw [upd_same, ← List.map_set, acc_next hd dm]
    · rintro σ' H4 ⟨y7, rfl, e4, h4⟩
      rw [nv_len, List.take_length, ← hwd, acc_end hm1 (by omega)] at h4
      have sm := ev_sumV (K := K) (ta := tVar 6) (σ := [some (V.ref p), some (.int m), some (.int x), some (.ref a), none, some (.ref b), some (.ref c), y7, none, none, none, none, none, none, none, none, none]) (ev_var (i := 6) rfl) (sq_of h4)
      rw [sums_sum] at sm
      refine q_asg sm fun H5 e5 => ?_
      have h5 := e5 c _ h4
      refine q_when (b := false) (et_is (et_test (ev_neD (d := .list [.int (rise x m), .int (rise x m)]) (e := .list [.int (rise x m), .int (rise x m)]) (ed_lst (eda_cons (ed_int (ev_call (ea_cons (ev_var rfl) (ea_cons (ev_var rfl) ea_nil)) (sv_total hm1 hm20 hx1 hx2))) (eda_cons (ed_int (ev_callK (zs := [.int x, .int (m : Int)]) ea_nil (ea_cons (ev_var rfl) (ea_cons (ev_var rfl) ea_nil)) (sv_total hm1 hm20 hx1 hx2))) eda_nil)) (Nat.le_of_ble_eq_true rfl)) (ed_lst (eda_cons (ed_int (ev_var rfl)) (eda_cons (ed_int (ev_var rfl)) eda_nil)) (Nat.le_of_ble_eq_true rfl)) (shaped_ii _ _) (shaped_ii _ _))) (by rw [eqv_same (shaped_ii _ _)]; rfl)) (fun hb => Bool.noConfusion hb) fun _ H6 e6 => ?_
      have h6 := e6 c _ h5
      refine q_asgLT (rs := (List.range (m + 1)).map fun t => frac (sw x m t) (rise x m)) ?_ fun d us H7 nd e7 h7 t7 => ?_
      · have g := elt_map (K := K) (te := tCall sp_lowest [] E0 (tCons (tVar 9) (tCons (tVar 8) tNil))) (tl := tVar 6) (j := 9) (vs := [9]) (H := H6) (xs := (sums x m).map V.int) (σ := [some (V.ref p), some (.int m), some (.int x), some (.ref a), none, some (.ref b), some (.ref c), y7, some (.int (rise x m)), none, none, none, none, none, none, none, none]) (fun t => frac (sw x m t) (rise x m)) (ev_var (i := 6) rfl) (sq_of h6) (by rw [List.length_map]; omega) (fun _ => rfl) (fun t v H5 e5 hv => by
          obtain ⟨rfl, tl⟩ := ints_get hv
          have ht : t ≤ m := by omega
          rw [sums_is x m t ht]
          exact eu_call (ea_cons (ev_var rfl) (ea_cons (ev_var rfl) ea_nil)) (su_lowest (sw_bd hx1 x42 hm20 ht).1 rp r8))
        rw [List.length_map, sl] at g
        exact g
      have h7c := e7 c _ h6
      have shn := shn_shares hx1 x42 hm20
      refine q_when (b := false) (et_is (et_test (ev_op (ev_reprN (d := sharesD x m) (ed_fracs (f := fun t => (sw x m t, rise x m)) ?_) rfl shn (by decide)) (ev_reprN (d := sharesD x m) (ed_of (ev_var rfl) (.lst (sq_of h7) (dpa_fracs (fun t => (sw x m t, rise x m)) _ t7))) rfl shn (by decide)) (rv_ne rfl))) (by simp)) (fun hb => Bool.noConfusion hb) fun _ H8 e8 => ?_
      · have g := elt_R1 (te := tCall sp_tables_share [] E0 (tCons (tVar 1) (tCons (tVar 2) (tCons (tVar 7) tNil)))) (ta := tCons (tOp (rI0 fun i j => .int (i + j)) (tVar 1) (tC (.int 1))) tNil) (j := 7) (vs := [7]) (H := H7) (σ := [some (.ref p), some (.int m), some (.int x), some (.ref a), none, some (.ref b), some (.ref c), y7, some (.int (rise x m)), none, some (.ref d), none, none, none, none, none, none]) (n := (m : Int) + 1) (fun t : Nat => frac (sw x m t) (rise x m)) (ea_cons (ev_op (ev_var rfl) ev_c rv_I0) ea_nil) ⟨by omega, by omega⟩ (fun _ => rfl) (fun t H4 e4 ht => eu_call (ea_cons (ev_var rfl) (ea_cons (ev_var rfl) (ea_cons (ev_var rfl) ea_nil))) (su_share hm1 hm20 (by omega) hx1 hx2))
        rw [show ((m : Int) + 1).toNat = m + 1 by omega] at g
        exact g
      have h8c := e8 c _ h7c
      have h8d := e8 d _ h7
      have t8 := t7.ex e8
      obtain ⟨mt0, mt1⟩ := mt_bd hx1 m
      have mtb : mt x m ≤ 2 ^ 865 := by
        have : (m : Int) * rise x m ≤ 2 ^ 5 * 2 ^ 860 := Int.mul_le_mul (by omega) rb (by omega) (by decide)
        rw [← Int.pow_add] at this
        omega
      have rb5 : rise x m ≤ 2 ^ 865 := Int.le_trans rb (two_mono (by decide))
      have rowb : ∀ t, t ≤ m → ((sums x m).getD t 0).natAbs < 2 ^ 1900 := fun t ht => by
        rw [sums_is x m t ht]
        exact big_abs (sw_bd hx1 x42 hm20 ht).1 (sw_bd hx1 x42 hm20 ht).2 (by decide)
      have wsum : Ev (tCB (rSum K) (tCons (tLc (iRng1 (tCons (tOp (rI0 fun i j => .int (i + j)) (tVar 1) (tC (.int 1))) tNil)) (gName 7) tYes (tOp (rI CMulX fun i j => .int (i * j)) (tVar 7) (tOp (rIxL K) (tVar 6) (tVar 7))) [7]) tNil)) [some (.ref p), some (.int m), some (.int x), some (.ref a), none, some (.ref b), some (.ref c), y7, some (.int (rise x m)), none, some (.ref d), none, none, none, none, none, none] H8 (.int (mt x m)) := by
        have g := el_lcR1 (te := tOp (rI CMulX fun i j => .int (i * j)) (tVar 7) (tOp (rIxL K) (tVar 6) (tVar 7))) (ta := tCons (tOp (rI0 fun i j => .int (i + j)) (tVar 1) (tC (.int 1))) tNil) (t := tYes) (j := 7) (vs := [7]) (H := H8) (σ := [some (.ref p), some (.int m), some (.int x), some (.ref a), none, some (.ref b), some (.ref c), y7, some (.int (rise x m)), none, some (.ref d), none, none, none, none, none, none]) (n := (m : Int) + 1) (fun _ => true) (fun t => V.int ((t : Int) * (sums x m).getD t 0)) (ea_cons (ev_op (ev_var rfl) ev_c rv_I0) ea_nil) ⟨by omega, by omega⟩ (fun _ => rfl) (fun _ _ _ _ => et_yes) fun t H6 e6 ht _ => ev_op (ev_var rfl) (ev_op (ev_var rfl) (ev_var rfl) (rv_ixL (K := K) (sq_of (e6 c _ h8c)) (ints_at (by omega)))) (rv_I (mulx_ok (a := 64) (b := 1900) (by omega) (rowb t (by omega)) (by decide)))
        rw [show ((m : Int) + 1).toNat = m + 1 by omega, given_at] at g
        have e : (List.range (m + 1)).map (fun t : Nat => V.int ((t : Int) * (sums x m).getD t 0)) = ((List.range (m + 1)).map fun t : Nat => (t : Int) * (sums x m).getD t 0).map V.int := by
          rw [List.map_map]
          rfl
        rw [e] at g
        have q := ev_sumN (K := K) g
        have wr := ws_range (sums x m) 0
        rw [sl] at wr
        have wr2 : ((List.range (m + 1)).map fun t : Nat => (t : Int) * (sums x m).getD t 0).sum = mt x m := by
          rw [← sums_ws x m]
          exact wr
        rw [wr2] at q
        exact q
      refine q_asgU (xs := frac (mt x m) (rise x m)) (eu_call (ea_cons wsum (ea_cons (ev_var rfl) ea_nil)) (su_lowest mt0 rp r8)) fun mn H9 nmn e9 h9 => ?_
      have two : ∀ (A B : Int), 0 ≤ A → 0 < B → A ≤ 2 ^ 865 → B ≤ 2 ^ 865 → ShN (.list [shareD A B, shareD A B]) 10000 := fun A B a0 b0 a1 b1 => by
        have s1 := shn_share a0 b0 a1 b1 (by decide)
        have := shn_list (n := 3849) (ds := [shareD A B, shareD A B]) fun z hz => by
          rcases List.mem_cons.mp hz with e | hz
          · rw [e]; exact ⟨s1, Nat.le_of_ble_eq_true rfl⟩
          · rw [List.mem_singleton.mp hz]; exact ⟨s1, Nat.le_of_ble_eq_true rfl⟩
        exact ⟨this.shw, this.nod, Nat.le_trans this.len (Nat.le_of_ble_eq_true rfl), this.dep⟩
      refine q_when (b := false) (et_is (et_test (ev_op (ev_reprN (d := .list [shareD (mt x m) (rise x m), shareD (mt x m) (rise x m)]) (ed_lst (eda_cons (ed_ofU (eu_call (ea_cons (ev_var rfl) (ea_cons (ev_var rfl) ea_nil)) (su_mean hm1 hm20 hx1 hx2)) (dpa_frac _ _)) (eda_cons (ed_ofU (eu_callK (zs := [.int x, .int (m : Int)]) ea_nil (ea_cons (ev_var rfl) (ea_cons (ev_var rfl) ea_nil)) (su_mean hm1 hm20 hx1 hx2)) (dpa_frac _ _)) eda_nil)) (Nat.le_of_ble_eq_true rfl)) rfl (two _ _ mt0 rp mtb rb5) (by decide)) (ev_reprN (d := .list [shareD (mt x m) (rise x m), shareD (mt x m) (rise x m)]) (ed_lst (eda_cons (ed_of (ev_var rfl) (.tup (st_of h9) (dpa_frac _ _))) (eda_cons (ed_of (ev_var rfl) (.tup (st_of h9) (dpa_frac _ _))) eda_nil)) (Nat.le_of_ble_eq_true rfl)) rfl (two _ _ mt0 rp mtb rb5) (by decide)) (rv_ne rfl))) (by simp)) (fun hb => Bool.noConfusion hb) fun _ H10 e10 => ?_
      obtain ⟨mv, hmv⟩ := Mx.ex (l := sums x m) (by
        intro z
        rw [z] at sl
        cases sl)
      have h10c := e10 c _ (e9 c _ h8c)
      refine q_asgL (xs := nv (likely (sums x m) mv)) ?_ fun be H11 nbe e11 h11 => ?_
      · have g := el_lcR1 (te := tVar 7) (ta := tCons (tOp (rI0 fun i j => .int (i + j)) (tVar 1) (tC (.int 1))) tNil) (t := tTest (tOp rEq (tOp (rIxL K) (tVar 6) (tVar 7)) (tCB (rMax K) (tCons (tVar 6) tNil)))) (j := 7) (vs := [7]) (H := H10) (σ := [some (.ref p), some (.int m), some (.int x), some (.ref a), none, some (.ref b), some (.ref c), y7, some (.int (rise x m)), none, some (.ref d), some (.ref mn), none, none, none, none, none]) (n := (m : Int) + 1) (fun t => decide ((sums x m).getD t 0 = mv)) (fun t => V.int (t : Int)) (ea_cons (ev_op (ev_var rfl) ev_c rv_I0) ea_nil) ⟨by omega, by omega⟩ (fun _ => rfl) (fun t H12 e12 ht => et_is (et_test (ev_op (ev_op (ev_var rfl) (ev_var rfl) (rv_ixL (K := K) (sq_of (e12 c _ h10c)) (ints_at (by omega)))) (ev_maxV (K := K) (ev_var rfl) (sq_of (e12 c _ h10c)) hmv.1 hmv.2) (rv_eq rfl))) (decide_eq_decide.mpr ⟨fun q => V.int.inj q, fun q => by rw [q]⟩)) fun t H12 e12 ht _ => ev_var rfl
        rw [show ((m : Int) + 1).toNat = m + 1 by omega] at g
        have e : given (m + 1) (fun t => decide ((sums x m).getD t 0 = mv)) (fun t => V.int (t : Int)) = nv (likely (sums x m) mv) := by
          unfold given likely
          rw [sl, nv_eq]
        rw [e] at g
        exact g
      refine q_twoL (xs := nv (likely (sums x m) mv)) (ys := nv (likely (sums x m) mv)) (el_call (ea_cons (ev_var rfl) (ea_cons (ev_var rfl) ea_nil)) (sl_likeliest hm1 hm20 hx1 hx2 hmv)) (el_callK (zs := [.int x, .int (m : Int)]) ea_nil (ea_cons (ev_var rfl) (ea_cons (ev_var rfl) ea_nil)) (sl_likeliest hm1 hm20 hx1 hx2 hmv)) fun tt b1 b2 H12 nb1 e12 ht hb1 hb2 => ?_
      have h12 := e12 be _ h11
      refine q_when (b := false) (et_is (et_test (ev_neD (d := .list [di (likely (sums x m) mv), di (likely (sums x m) mv)]) (e := .list [di (likely (sums x m) mv), di (likely (sums x m) mv)]) (ed_of (ev_var rfl) (.lst (sq_of ht) (.cons (dp_L hb1) (.cons (dp_L hb2) .nil)))) (ed_lst (eda_cons (ed_of (ev_var rfl) (dp_L h12)) (eda_cons (ed_of (ev_var rfl) (dp_L h12)) eda_nil)) (Nat.le_of_ble_eq_true rfl)) (shaped_dd _ _) (shaped_dd _ _))) (by rw [eqv_same (shaped_dd _ _)]; rfl)) (fun hb => Bool.noConfusion hb) fun _ H13 e13 => ?_
      have lkl : (likely (sums x m) mv).length ≤ 6 := by
        have := likely_len (l := sums x m) (m := mv)
        omega
      refine q_app (K := K) (e13 b1 _ hb1) (ev_op (ev_var rfl) ev_c (rv_ixL (K := K) (sq_of (e13 tt _ ht)) (atI_nat (j := 0) rfl))) ev_c (by rw [nv_len]; omega) fun H14 e14 => ?_
      have eU : Ex H11 (upd H14 b1 (.lst (nv (likely (sums x m) mv) ++ [.non]))) := Ex.mut (e12.trans (e13.trans e14)) nb1
      generalize upd H14 b1 (.lst (nv (likely (sums x m) mv) ++ [.non])) = HU at eU
      have e411 := e5.trans (e6.trans (e7.trans (e8.trans (e9.trans (e10.trans e11)))))
      have e14U : Ex H4 HU := e411.trans eU
      have e1U : Ex H1 HU := e2.trans (e4.trans e14U)
      have eHU : Ex H HU := e1.trans e1U
      have hUa := e1U a _ h1
      have wU := paired_imp (fun _ _ z => Lb.ex e1U z) w1
      have hUb := (e4.trans e14U) b _ h2
      have hUd := (e8.trans (e9.trans (e10.trans (e11.trans eU)))) d _ h7
      have tU := TL.ex (e8.trans (e9.trans (e10.trans (e11.trans eU)))) t7
      have hUe := eU be _ h11
      have pU := hpo.ex eHU
      have ap := hpo.ne na
      have bp := hpo.ne (fresh_back e1 nb)
      have dp : d ≠ p := hpo.ne (fresh_back (e1.trans (e2.trans (e4.trans (e5.trans e6)))) nd)
      have ep : be ≠ p := hpo.ne (fresh_back (e1.trans (e2.trans (e4.trans (e5.trans (e6.trans (e7.trans (e8.trans (e9.trans e10)))))))) nbe)
      have wl0 : 0 < ws.length := by
        have : 0 < (every m).length := by
          have : ∀ m : Nat, m < 6 → 0 < (every m).length := by decide +kernel
          exact this m (by omega)
        omega
      refine pq_asg (p := p) (k := 1) (H0 := Hm p HU) (ep_dipI (w := (ws.length : Int)) hm_p (ev_var rfl) (ev_len (K := K) (ev_var (i := 3) rfl) (sq_of (hm_in ap hUa))) (by omega) (by omega)) hm_sub pU (by omega) ?_
      rintro v HV ⟨sp, rfl, s0, s1⟩ pV eV
      obtain ⟨i, rfl⟩ : ∃ q : Nat, sp = q := ⟨sp.toNat, by omega⟩
      have il : i < ws.length := by omega
      obtain ⟨h, hh, ca, hca, hc⟩ := paired_get wU (List.getElem?_eq_getElem il)
      have hev := List.mem_of_getElem? hh
      have cp := row_ne (m := m) pU hc (by omega) hev
      obtain ⟨o1, o2, o3, o4⟩ := every_ok m (by omega) hm1 h hev
      have hVa := hm_at eV ap hUa
      have hVb := hm_at eV bp hUb
      have hVc := hm_at eV cp hc
      have hVd := hm_at eV dp hUd
      have hVe := hm_at eV ep hUe
      have tV := TL.hm tU pU eV
      have wsi : atI ws (i : Int) = some (.ref ca) := atI_nat (by rw [List.getElem?_eq_getElem il, hca])
      have wdi : atI (nv wd) (i : Int) = some (.int (((cyc h).length : Nat) : Int)) := atI_nat (nv_get (by rw [← hwd, List.getElem?_map, hh]; rfl))
      have pwb : 0 ≤ x ^ (cyc h).length ∧ x ^ (cyc h).length ≤ 2 ^ 860 := pow_bd hx1 x42 (by omega)
      have hl : h.length = m := o3
      refine q_parLU (xs := nv h) (ys := frac (x ^ (cyc h).length) (rise x m)) (el_list (K := K) (ev_op (ev_var rfl) (ev_var rfl) (rv_ixL (K := K) (sq_of hVa) wsi)) (sq_of hVc)) (eu_call (ea_cons (ev_is (ev_call (ea_cons (ev_var rfl) (ea_cons (ev_op (ev_var rfl) (ev_var rfl) (rv_ixL (K := K) (sq_of hVb) wdi)) ea_nil)) (sv_pow hb (by omega) (by omega))) (by rw [Int.toNat_natCast])) (ea_cons (ev_var rfl) ea_nil)) (su_lowest pwb.1 rp r8)) fun hl2 sh HW nhl nsh eW hW1 hW2 => ?_
      have sd1 := two (x ^ (cyc h).length) (rise x m) pwb.1 rp (Int.le_trans pwb.2 (two_mono (by decide))) rb5
      refine q_asgD (K := K) (d := .list [shareD (x ^ (cyc h).length) (rise x m), shareD (x ^ (cyc h).length) (rise x m)]) (ed_lst (eda_cons (ed_ofU (eu_is (eu_call (ea_cons (ev_var rfl) (ea_cons (ev_var rfl) ea_nil)) (su_seating_share hW1 (ord_of o1) (rings_of o2) (by omega) hx1 hx2)) (by rw [hl])) (dpa_frac _ _)) (eda_cons (ed_ofU (eu_is (eu_callK (zs := [.int x, .ref hl2]) ea_nil (ea_cons (ev_var rfl) (ea_cons (ev_var rfl) ea_nil)) (su_seating_share hW1 (ord_of o1) (rings_of o2) (by omega) hx1 hx2)) (by rw [hl])) (dpa_frac _ _)) eda_nil)) (Nat.le_of_ble_eq_true rfl)) fun tv HX eX dX => ?_
      have hXh := eX hl2 _ hW1
      have hXs := eX sh _ hW2
      have hXa := eX a _ (eW a _ hVa)
      have hXc := eX ca _ (eW ca _ hVc)
      refine q_when (b := false) (et_is (et_or (et_test (ev_op (ev_reprN (ed_of (ev_var rfl) dX) rfl sd1 (by decide)) (ev_reprN (d := .list [shareD (x ^ (cyc h).length) (rise x m), shareD (x ^ (cyc h).length) (rise x m)]) (ed_lst (eda_cons (ed_of (ev_var rfl) (.tup (st_of hXs) (dpa_frac _ _))) (eda_cons (ed_of (ev_var rfl) (.tup (st_of hXs) (dpa_frac _ _))) eda_nil)) (Nat.le_of_ble_eq_true rfl)) rfl sd1 (by decide)) (rv_ne rfl))) fun _ => et_test (ev_neD (d := di h) (e := di h) (ed_of (ev_var rfl) (dp_L hXh)) (ed_of (ev_op (ev_var rfl) (ev_var rfl) (rv_ixL (K := K) (sq_of hXa) wsi)) (dp_L hXc)) (shaped_di _) (shaped_di _))) (by rw [eqv_same (shaped_di _)]; simp)) (fun hb => Bool.noConfusion hb) fun _ HY eY => ?_
      have eVY := eW.trans (eX.trans eY)
      have pY := pV.ex eVY
      refine pq_asg (p := p) (k := 1) (H0 := Hm p HY) (ep_dipI (w := (m : Int) + 1) hm_p (ev_var rfl) (ev_op (ev_var rfl) ev_c rv_I0) (by omega) (by omega)) hm_sub pY (by omega) ?_
      rintro v HZ ⟨wz, rfl, z0, z1⟩ pZ eZ
      obtain ⟨j, rfl⟩ : ∃ q : Nat, wz = q := ⟨wz.toNat, by omega⟩
      have jm : j ≤ m := by omega
      have hZd := hm_at eZ dp (eVY d _ hVd)
      have hZe := hm_at eZ ep (eVY be _ hVe)
      have tZ := TL.hm (TL.ex eVY tV) pY eZ
      refine s_ret (v := .bl true) (ev_is (ev_andV (ev_eqD (d := shareD (sw x m j) (rise x m)) (e := shareD (sw x m j) (rise x m)) (ed_ofU (eu_callK (zs := [.int (j : Int), .int x, .int (m : Int)]) ea_nil (ea_cons (ev_var rfl) (ea_cons (ev_var rfl) (ea_cons (ev_var rfl) ea_nil))) (su_share hm1 hm20 jm hx1 hx2)) (dpa_frac _ _)) (ed_ixT (i := j) (ev_var rfl) hZd tZ (ev_var rfl) (by rw [List.getElem?_map, List.getElem?_range (by omega)]; rfl)) (shaped_sh _ _) (shaped_sh _ _)) fun _ => ev_eqD (d := di (likely (sums x m) mv)) (e := di (likely (sums x m) mv)) (ed_L (el_call (ea_cons (ev_var rfl) (ea_cons (ev_var rfl) ea_nil)) (sl_likeliest hm1 hm20 hx1 hx2 hmv))) (ed_of (ev_var rfl) (dp_L hZe)) (shaped_di _) (shaped_di _)) (by rw [eqv_same (shaped_shD _ _), eqv_same (shaped_di _)]; rfl)) fun HE eE => k HE ((pZ.ex eE).mono (by omega)) ?_
      exact hm_trans (hm_of eHU) (hm_trans eV (hm_trans (hm_of eVY) (hm_trans eZ (hm_of eE))))
end

local macro_rules | `(tactic| walk_at "call") => `(tactic| (with_reducible exact sv_whole))
local macro_rules | `(tactic| walk_at "call") => `(tactic| ((with_reducible refine' sv_ord ?c1 ?c2); (case c1 => assumption); (case c2 => assumption)))

local macro_rules | `(tactic| walk_at "call") => `(tactic| ((with_reducible refine' sv_pow ?c1 ?c2 ?c3); (case c1 => walk_at "side"); (case c2 => walk_at "side"); (case c3 => walk_at "side")))
local macro_rules | `(tactic| walk_at "call") => `(tactic| ((with_reducible refine' sv_rise ?c1 ?c2); (case c1 => walk_at "side"); (case c2 => walk_at "side")))
local macro_rules | `(tactic| walk_at "call") => `(tactic| (with_reducible exact sv_between))
local macro_rules | `(tactic| walk_at "call") => `(tactic| ((with_reducible refine' sv_check1 ?c1 ?c2); (case c1 => walk_at "side"); (case c2 => walk_at "side")))
local macro_rules | `(tactic| walk_at "call") => `(tactic| ((with_reducible refine' sv_check_number ?c1 ?c2); (case c1 => walk_at "side"); (case c2 => walk_at "side")))
local macro_rules | `(tactic| walk_at "callU") => `(tactic| ((with_reducible refine' su_fraction ?c1 ?c2); (case c1 => walk_at "side"); (case c2 => walk_at "side")))

local macro_rules | `(tactic| walk_at "callL") => `(tactic| ((with_reducible refine' sl_wbt ?c1 ?c2 ?c3); (case c1 => walk_at "side"); (case c2 => walk_at "side"); (case c3 => walk_at "side")))
local macro_rules | `(tactic| walk_at "callU") => `(tactic| ((with_reducible refine' su_share ?c1 ?c2 ?c3 ?c4 ?c5); (case c1 => walk_at "side"); (case c2 => walk_at "side"); (case c3 => walk_at "side"); (case c4 => walk_at "side"); (case c5 => walk_at "side")))


/-! ### the law -/
section
variable {K : PySem.W.Frag} {σ : L2.St} {H : Hp} {ta tb te tm tw : TE} {p : Addr} {k k1 k2 : Nat}
theorem ep_right {E : XK} (h0 : H p = none) (ha : Ev ta σ H (.ref p)) (hm : EvP p k1 tm σ H (fun v _ => ∃ m : Nat, v = .int m ∧ 1 ≤ m ∧ m ≤ 5)) (hw : EvP p k2 tw σ H (fun v _ => ∃ x : Int, v = .int x ∧ 1 ≤ x ∧ x ≤ 1000000000000)) : EvP p (k1 + k2 + 101) (tCall sp_law_right [] E (tCons ta (tCons tm (tCons tw tNil)))) σ H (fun v _ => v = .bl true) := fun n H1 e hp hn Q q =>
  ha H1 e _ fun H2 e2 => hm n H2 (e.trans e2) (hp.ex e2) (by omega) _ fun v H3 hv p3 e3 => hw (n + k1) H3 (hm_next h0 (e.trans e2) e3) p3 (by omega) _ fun u H4 hu p4 e4 => by
    obtain ⟨m, rfl, m1, m2⟩ := hv
    obtain ⟨x, rfl, x1, x2⟩ := hu
    exact ⟨p, n + k1 + k2, m, x, rfl, p4, by omega, m1, m2, x1, x2, fun H5 p5 e5 => q _ H5 rfl (p5.mono (by omega)) (hm_trans (hm_trans (hm_trans (hm_of e2) e3) e4) e5)⟩
theorem ep_heavy {E : XK} (ha : Ev ta σ H (.ref p)) : EvP p 4 (tCall sp_law_heavy [] E (tCons ta tNil)) σ H (fun v _ => ∃ x : Int, v = .int x ∧ 1 ≤ x ∧ x ≤ 1000000000000) := fun n H1 e hp hn Q q =>
  ha H1 e _ fun H2 e2 => ⟨p, n, rfl, hp.ex e2, by omega, fun x H3 x1 x2 p3 e3 => q _ H3 ⟨x, rfl, x1, x2⟩ (p3.mono (by omega)) (hm_trans (hm_of e2) e3)⟩
theorem ed_share {a b x y : Int} (h : EvU te σ H (frac a b)) (e1 : a / cd a b = x) (e2 : b / cd a b = y) : EvD K te σ H (.tuple [.int x, .int y]) := by
  subst e1
  subst e2
  exact ed_ofU h (dpa_frac a b)
theorem ed_pair {x y : Int} (h : Ev ta σ H (.int x)) (h2 : Ev tb σ H (.int y)) : EvD K (tTup (tCons ta (tCons tb tNil))) σ H (.tuple [.int x, .int y]) := ed_ofU (eu_tup (ea_cons h (ea_cons h2 ea_nil)) (Nat.le_of_ble_eq_true rfl)) (.cons (.int _) (.cons (.int _) .nil))
theorem ev_ten : Ev (tOp (rI CPowX fun i j => .int (i ^ j.toNat)) (tC (.int 10)) (tC (.int 12))) σ H (.int 1000000000000) := ev_is (ev_op ev_c ev_c (rv_I (by constructor <;> decide +kernel))) rfl
theorem eu_share1 {f : List Nat} {rs : List (List Nat)} {x : Int} {E : XK} (h : EvL ta σ H (nv f)) (hb : ∀ H1, Ex H H1 → Ev tb σ H1 (.int x)) (o : Ord f) (R : Rings f rs) (hl : rs.length ≤ 20) (h2 : 1 ≤ x) (h3 : x ≤ 1000000000000) : EvU (tCall sp_seating_share [] E (tCons ta (tCons tb tNil))) σ H (frac (x ^ rs.length) (rise x f.length)) := fun H1 e Q q =>
  h H1 e _ fun a H2 _ e2 ha => hb H2 (e.trans e2) H2 (Ex.refl _) _ fun H3 e3 => ⟨a, f, rs, x, rfl, e3 a _ ha, o, R, hl, h2, h3, fun u H4 hu e4 h4 => q u H4 (fresh_back (e2.trans e3) hu) (e2.trans (e3.trans e4)) h4⟩
theorem tot_is {n : Nat} {w z : Int} (h0 : 1 ≤ n) (h1 : n ≤ 20) (h2 : 1 ≤ w) (h3 : w ≤ 1000000000000) (e : rise w n = z) : Ev (tCall sp_total [] E0 (tCons (tC (.int (n : Int))) (tCons (tC (.int w)) tNil))) σ H (.int z) := by
  subst e
  exact ev_call (E := E0) (ea_cons ev_c (ea_cons ev_c ea_nil)) (sv_total h0 h1 h2 h3)
end
theorem ex_of_hm {p : Addr} {H H3 H4 : Hp} (hp : H p = none) (e : Ex H H3) (e4 : Ex (Hm p H3) H4) : Ex H H4 := hm_next hp e e4
theorem max_min4 {m : Int} (h0 : 0 ≤ m) : 0 ≤ (if (if m < 4 then m else 4) > 1 then (if m < 4 then m else 4) else 1) ∧ (if (if m < 4 then m else 4) > 1 then (if m < 4 then m else 4) else 1) ≤ (4 : Int) := by
  split <;> split <;> omega
def told1 : PyData := .list [.int 120, .tuple [.int 1, .int 30], .tuple [.int 11, .int 30], .tuple [.int 77, .int 30]]
def told2 : PyData := .list [.int 7, .tuple [.int 1, .int 1], .tuple [.int 1, .int 1], .tuple [.int 0, .int 1], .tuple [.int 1, .int 1]]
theorem shn1 : ShN told1 1000 := ⟨by decide +kernel, by decide +kernel, by decide +kernel, by decide +kernel⟩
theorem shn2 : ShN told2 1000 := ⟨by decide +kernel, by decide +kernel, by decide +kernel, by decide +kernel⟩
theorem mx21 : Mx (sums 1 2) 1 := by
  unfold Mx
  decide +kernel
theorem lik21 : likely (sums 1 2) 1 = [1, 2] := by decide +kernel
def sp_law (K : PySem.W.Frag) : Sp := fun vs H Q _ => ∃ (a : Addr) (ns : List Int), vs = [.ref a] ∧ SqL K H a (ns.map V.int) ∧ ns.length ≤ 63 ∧ ∀ H', Q (.bl true) H'
section
variable {P : Program} {w : World} {K : PySem.W.Frag} {mg : Str → Option Value} {base : Heap}
theorem ok_law (T : Tx K mg) : FnOkG P w K mg base 8 T.f_law T.d_law ["script"] (sp_law K) := by
  refine funG T.F_law sc_law (fun vs H Q E h => ?_) (fun cdv A outer s H vs Q E hg hr h => ?_)
  · obtain ⟨a, ns, rfl, _⟩ := h
    rfl
  · obtain ⟨a, ns, rfl, hs, hl, k⟩ := h
    refine ⟨_, (pss_cons (ps_for PassesOwn.never rfl (pi_range1 (by rfl) T.m_range (pa_cons (pe_callB (call_maxR rfl) (by rfl) T.m_max (by decide +kernel) (pa_cons pe_int (pa_cons (pe_callB (call_minR rfl) (by rfl) T.m_min (by decide +kernel) (pa_cons pe_int (pa_cons (pe_callB call_lenR (by rfl) T.m_len (by decide +kernel) (pa_cons (pv 0) pa_nil)) pa_nil))) pa_nil))) pa_nil)) (pg_name (i := 1) sc_law.nd rfl (Or.inl rfl)) (pss_cons (ps_set (i := 2) sc_law.nd rfl (Or.inl rfl) (pe_call (ok_law_pouch T) (hr.mono (by decide)) (by rfl) T.g_law_pouch T.F_law_pouch.kp T.b_law_pouch .nil pass0 (pa_cons (pv 0) (pa_cons (pv 1) pa_nil))))
      (pss_cons (ps_for PassesOwn.never rfl (pi_range2 (by rfl) T.m_range (pa_cons pe_int (pa_cons pe_int pa_nil))) (pg_name (i := 3) sc_law.nd rfl (Or.inl rfl)) (pss_one (ps_if (pt_not (pt_val (pe_callG (ok_law_right T) hg (hr.mono (by decide)) (by rfl) T.g_law_right T.F_law_right.kp T.b_law_right (pa_cons (pv 2) (pa_cons (pv 3) (pa_cons (pe_call (ok_law_heavy T) (hr.mono (by decide)) (by rfl) T.g_law_heavy T.F_law_heavy.kp T.b_law_heavy .nil pass0 (pa_cons (pv 2) pa_nil)) pa_nil)))))) (pss_one (ps_ret pe_bl)) pss_nil)))
      (pss_one (ps_if (PW.pt (pw_or (pt_not (pt_val (pe_callG (ok_law_right T) hg (hr.mono (by decide)) (by rfl) T.g_law_right T.F_law_right.kp T.b_law_right (pa_cons (pv 2) (pa_cons (pe_op op_add pe_int (pe_call (ok_law_dip T) (hr.mono (by decide)) (by rfl) T.g_law_dip T.F_law_dip.kp T.b_law_dip .nil pass0 (pa_cons (pv 2) (pa_cons pe_int pa_nil)))) (pa_cons pe_int pa_nil)))))) (pw_or1 (pt_not (pt_val (pe_callG (ok_law_right T) hg (hr.mono (by decide)) (by rfl) T.g_law_right T.F_law_right.kp T.b_law_right (pa_cons (pv 2) (pa_cons (pe_op op_add pe_int (pe_call (ok_law_dip T) (hr.mono (by decide)) (by rfl) T.g_law_dip T.F_law_dip.kp T.b_law_dip .nil pass0 (pa_cons (pv 2) (pa_cons pe_int pa_nil)))) (pa_cons (pe_op op_powX pe_int pe_int) pa_nil))))))))) (pss_one (ps_ret pe_bl)) pss_nil)))))
      (pss_cons (ps_set (i := 4) sc_law.nd rfl (Or.inl rfl) (pe_lst (pa_cons (pe_call (ok_total_weight T) (hr.mono (by decide)) (by rfl) T.g_total_weight T.F_total_weight.kp T.b_total_weight .nil pass0 (pa_cons pe_int (pa_cons pe_int pa_nil))) (pa_cons (pe_call (ok_seating_share T) (hr.mono (by decide)) (by rfl) T.g_seating_share T.F_seating_share.kp T.b_seating_share .nil pass0 (pa_cons (pe_lst (pa_cons pe_int (pa_cons pe_int (pa_cons pe_int (pa_cons pe_int pa_nil))))) (pa_cons pe_int pa_nil))) (pa_cons (pe_call (ok_tables_share T) (hr.mono (by decide)) (by rfl) T.g_tables_share T.F_tables_share.kp T.b_tables_share .nil pass0 (pa_cons pe_int (pa_cons pe_int (pa_cons pe_int pa_nil)))) (pa_cons (pe_call (ok_mean_tables T) (hr.mono (by decide)) (by rfl) T.g_mean_tables T.F_mean_tables.kp T.b_mean_tables .nil pass0 (pa_cons pe_int (pa_cons pe_int pa_nil))) pa_nil))))))
      (pss_cons (ps_if (pt_cmpR op_ne (pe_callB (id := "repr") (r := rRepr K) (call_reprD hg hr.units) (by rfl) T.m_repr (by decide +kernel) (pa_cons (pv 4) pa_nil)) (pe_callB (id := "repr") (r := rRepr K) (call_reprD hg hr.units) (by rfl) T.m_repr (by decide +kernel) (pa_cons (pe_lst (pa_cons pe_int (pa_cons (pe_tup (pa_cons pe_int (pa_cons pe_int pa_nil))) (pa_cons (pe_tup (pa_cons pe_int (pa_cons pe_int pa_nil))) (pa_cons (pe_tup (pa_cons pe_int (pa_cons pe_int pa_nil))) pa_nil))))) pa_nil)) (nomark _)) (pss_one (ps_ret pe_bl)) pss_nil)
      (pss_cons (ps_set (i := 4) sc_law.nd rfl (Or.inl rfl) (pe_lst (pa_cons (pe_call (ok_total_weight T) (hr.mono (by decide)) (by rfl) T.g_total_weight T.F_total_weight.kp T.b_total_weight .nil pass0 (pa_cons pe_int (pa_cons pe_int pa_nil))) (pa_cons (pe_call (ok_seating_share T) (hr.mono (by decide)) (by rfl) T.g_seating_share T.F_seating_share.kp T.b_seating_share .nil pass0 (pa_cons (pe_lst (pa_cons pe_int pa_nil)) (pa_cons pe_int pa_nil))) (pa_cons (pe_call (ok_tables_share T) (hr.mono (by decide)) (by rfl) T.g_tables_share T.F_tables_share.kp T.b_tables_share .nil pass0 (pa_cons pe_int (pa_cons pe_int (pa_cons pe_int pa_nil)))) (pa_cons (pe_call (ok_tables_share T) (hr.mono (by decide)) (by rfl) T.g_tables_share T.F_tables_share.kp T.b_tables_share .nil pass0 (pa_cons pe_int (pa_cons pe_int (pa_cons pe_int pa_nil)))) (pa_cons (pe_call (ok_mean_tables T) (hr.mono (by decide)) (by rfl) T.g_mean_tables T.F_mean_tables.kp T.b_mean_tables .nil pass0 (pa_cons pe_int (pa_cons pe_int pa_nil))) pa_nil)))))))
      (pss_one (ps_ret (pe_and (pe_cmpR op_eq (pe_callB (id := "repr") (r := rRepr K) (call_reprD hg hr.units) (by rfl) T.m_repr (by decide +kernel) (pa_cons (pv 4) pa_nil)) (pe_callB (id := "repr") (r := rRepr K) (call_reprD hg hr.units) (by rfl) T.m_repr (by decide +kernel) (pa_cons (pe_lst (pa_cons pe_int (pa_cons (pe_tup (pa_cons pe_int (pa_cons pe_int pa_nil))) (pa_cons (pe_tup (pa_cons pe_int (pa_cons pe_int pa_nil))) (pa_cons (pe_tup (pa_cons pe_int (pa_cons pe_int pa_nil))) (pa_cons (pe_tup (pa_cons pe_int (pa_cons pe_int pa_nil))) pa_nil)))))) pa_nil)) (nomark _)) (pe_one (pe_cmpR (op_eqD hr.units) (pe_call (ok_likeliest_tables T) (hr.mono (by decide)) (by rfl) T.g_likeliest_tables T.F_likeliest_tables.kp T.b_likeliest_tables .nil pass0 (pa_cons pe_int (pa_cons pe_int pa_nil))) (pe_lst (pa_cons pe_int (pa_cons pe_int pa_nil))) (nomark _)))))))))), ?_⟩
    have mm := max_min4 (m := ((ns.map V.int).length : Int)) (by omega)
    refine q_forR1 (by walk_at "ea") ⟨mm.1, Int.le_trans mm.2 (by decide)⟩ (fun i σ' H' => ∃ y1 y2 y3, σ' = [some (.ref a), y1, y2, y3, none] ∧ Ex H H') (fun H1 e1 => ⟨none, none, none, rfl, e1⟩) ?_ ?_
    · rintro i σ' H' hi ⟨y1, y2, y3, rfl, e⟩
      have hi3 : (i : Int) < 4 := Int.lt_of_lt_of_le hi mm.2
      refine pq_pouch (by walk_at "ea") (ex_l e hs) (by omega) fun p H1 hp e1 hpo => ?_
      refine q_forR2 (lo := 1) (n := 6) (by walk_at "ea") (by decide) (fun j σ' H2 => ∃ y3, σ' = [some (.ref a), some (.int (i : Int)), some (.ref p), y3, none] ∧ Po p (j * 105) H2 ∧ Ex (Hm p H1) H2) (fun H2 e2 => ⟨y3, rfl, (hpo.ex e2).mono (by omega), hm_of e2⟩) ?_ ?_
      · rintro j σ' H2 hj ⟨y3, rfl, p2, e2⟩
        obtain ⟨m, hm⟩ : ∃ m : Nat, (1 : Int) + j = m := ⟨1 + j, by omega⟩
        rw [hm]
        refine ps_no (p := p) (k := 0 + 4 + 101) (H0 := Hm p H2) (tp_is (b := !true) (tp_not (tp_B (ep_right hm_p (ev_var rfl) (ep_is (ep_ev (v := .int (m : Int)) (ev_var rfl)) fun v H4 hv => ⟨m, hv, by omega, by omega⟩) (ep_heavy (ev_var rfl))))) rfl) hm_sub p2 (by omega) fun H4 p4 e4 => ?_
        exact ⟨_, rfl, p4.mono (by omega), hm_trans e2 e4⟩
      · rintro σ' H2 ⟨y3, rfl, p2, e2⟩
        have e02 := ex_of_hm hp e1 e2
        refine ps_no (p := p) (k := ((0 + 1) + 0 + 101) + ((0 + 1) + 0 + 101)) (H0 := Hm p H2) (tp_or (b := false) hm_p ?_ ?_) hm_sub p2 (by decide) fun H4 p4 e4 => ?_
        · exact tp_is (b := !true) (tp_not (tp_B (ep_right hm_p (ev_var rfl) (ep_is (ep_add hm_p ev_c (ep_dipI (w := 5) hm_p (ev_var rfl) ev_c (by decide) (by decide))) fun v H4 ⟨r', e', r0', r1'⟩ => ⟨(1 + r').toNat, by rw [e']; exact congrArg V.int (by omega), by omega, by omega⟩) (ep_is (ep_ev (v := .int 1) ev_c) fun v H4 hv => ⟨1, hv, by decide, by decide⟩)))) rfl
        · exact tp_is (b := !true) (tp_not (tp_B (ep_right hm_p (ev_var rfl) (ep_is (ep_add hm_p ev_c (ep_dipI (w := 5) hm_p (ev_var rfl) ev_c (by decide) (by decide))) fun v H4 ⟨r', e', r0', r1'⟩ => ⟨(1 + r').toNat, by rw [e']; exact congrArg V.int (by omega), by omega, by omega⟩) (ep_is (ep_ev (v := .int 1000000000000) ev_ten) fun v H4 hv => ⟨1000000000000, hv, by decide, by decide⟩)))) rfl
        · exact ⟨_, _, _, rfl, e.trans (ex_of_hm hp e02 e4)⟩
    · rintro σ' H' ⟨y1, y2, y3, rfl, e⟩
      refine q_asgD (K := K) (d := told1) (ed_lst (eda_cons (ed_int (tot_is (n := 4) (w := 2) (by decide) (by decide) (by decide) (by decide) (by decide +kernel))) (eda_cons (ed_share (a := 2 ^ 2) (b := rise 2 4) (eu_share1 (f := [1, 3, 2, 0]) (rs := [[0, 1, 3], [2]]) (x := 2) el_i4 (fun _ _ => ev_c) (ord_of (by decide +kernel)) (rings_of (by decide +kernel)) (by decide) (by decide) (by decide)) ?_ ?_) (eda_cons (ed_share (a := sw 2 4 2) (b := rise 2 4) (eu_call (ea_cons ev_c (ea_cons ev_c (ea_cons ev_c ea_nil))) (su_share (n := 4) (t := 2) (by decide) (by decide) (by decide) (by decide) (by decide))) ?_ ?_) (eda_cons (ed_share (a := mt 2 4) (b := rise 2 4) (eu_call (ea_cons ev_c (ea_cons ev_c ea_nil)) (su_mean (n := 4) (by decide) (by decide) (by decide) (by decide))) ?_ ?_) eda_nil)))) (Nat.le_of_ble_eq_true rfl)) fun v1 H1 e1 d1 => ?_
      · decide +kernel
      · decide +kernel
      · decide +kernel
      · decide +kernel
      · decide +kernel
      · decide +kernel
      refine q_when (b := false) (et_is (et_test (ev_op (ev_reprN (d := told1) (ed_of (ev_var rfl) d1) rfl shn1 (by decide)) (ev_reprN (d := told1) (ed_lst (eda_cons (ed_int ev_c) (eda_cons (ed_pair ev_c ev_c) (eda_cons (ed_pair ev_c ev_c) (eda_cons (ed_pair ev_c ev_c) eda_nil)))) (Nat.le_of_ble_eq_true rfl)) rfl shn1 (by decide)) (rv_ne rfl))) (by simp)) (fun hb => Bool.noConfusion hb) fun _ H2 e2 => ?_
      refine q_asgD (K := K) (d := told2) (ed_lst (eda_cons (ed_int (tot_is (n := 1) (w := 7) (by decide) (by decide) (by decide) (by decide) (by decide +kernel))) (eda_cons (ed_share (a := 7 ^ 1) (b := rise 7 1) (eu_share1 (f := [0]) (rs := [[0]]) (x := 7) el_i1 (fun _ _ => ev_c) (ord_of (by decide +kernel)) (rings_of (by decide +kernel)) (by decide) (by decide) (by decide)) ?_ ?_) (eda_cons (ed_share (a := sw 7 1 1) (b := rise 7 1) (eu_call (ea_cons ev_c (ea_cons ev_c (ea_cons ev_c ea_nil))) (su_share (n := 1) (t := 1) (by decide) (by decide) (by decide) (by decide) (by decide))) ?_ ?_) (eda_cons (ed_share (a := sw 7 1 0) (b := rise 7 1) (eu_call (ea_cons ev_c (ea_cons ev_c (ea_cons ev_c ea_nil))) (su_share (n := 1) (t := 0) (by decide) (by decide) (by decide) (by decide) (by decide))) ?_ ?_) (eda_cons (ed_share (a := mt 7 1) (b := rise 7 1) (eu_call (ea_cons ev_c (ea_cons ev_c ea_nil)) (su_mean (n := 1) (by decide) (by decide) (by decide) (by decide))) ?_ ?_) eda_nil))))) (Nat.le_of_ble_eq_true rfl)) fun v2 H3 e3 d2 => ?_
      · decide +kernel
      · decide +kernel
      · decide +kernel
      · decide +kernel
      · decide +kernel
      · decide +kernel
      · decide +kernel
      · decide +kernel
      have lk : ∀ (σ : L2.St) (H1 : Hp), EvL (tCall sp_likeliest [] E0 (tCons (tC (.int 2)) (tCons (tC (.int 1)) tNil))) σ H1 (nv [1, 2]) := fun σ H1 => by
        have := el_call (E := E0) (ea_cons (ev_c (v := .int ((2 : Nat) : Int)) (σ := σ) (H := H1)) (ea_cons (ev_c (v := .int 1)) ea_nil)) (sl_likeliest (n := 2) (w := 1) (by decide) (by decide) (by decide) (by decide) mx21)
        rw [lik21] at this
        exact this
      refine s_ret (v := .bl true) (ev_is (ev_andV (ev_op (ev_reprN (d := told2) (ed_of (ev_var rfl) d2) rfl shn2 (by decide)) (ev_reprN (d := told2) (ed_lst (eda_cons (ed_int ev_c) (eda_cons (ed_pair ev_c ev_c) (eda_cons (ed_pair ev_c ev_c) (eda_cons (ed_pair ev_c ev_c) (eda_cons (ed_pair ev_c ev_c) eda_nil))))) (Nat.le_of_ble_eq_true rfl)) rfl shn2 (by decide)) (rv_eq rfl)) fun _ => ev_eqD (d := di [1, 2]) (e := di [1, 2]) (ed_L (lk _ _)) (ed_L (r := [1, 2]) (el_lst (ea_cons ev_c (ea_cons ev_c ea_nil)) (Nat.le_of_ble_eq_true rfl))) (by decide +kernel) (by decide +kernel)) (by rw [eqv_same (by decide +kernel)]; simp)) fun H5 e5 => k H5
end

theorem all_mk {l : PySem.W.OpenLaw} {w : World} {K : PySem.W.Frag} {h : Heap} {mg : Str → Option Value} {fa : Addr} (X : K.In h) (G : h.Ns mainGlobals mg) (hfa : mg "law" = some (.ref fa))
    {f1 : Addr} {od1 an1 : Option Addr} {sl1 : Array (Option Value)} {oc1 kV1 dc1 pm1 cd1 ct1 : Value}
    {f2 : Addr} {od2 an2 : Option Addr} {sl2 : Array (Option Value)} {oc2 kV2 dc2 pm2 cd2 ct2 : Value}
    {f3 : Addr} {od3 an3 : Option Addr} {sl3 : Array (Option Value)} {oc3 kV3 dc3 pm3 cd3 ct3 : Value}
    {f4 : Addr} {od4 an4 : Option Addr} {sl4 : Array (Option Value)} {oc4 kV4 dc4 pm4 cd4 ct4 : Value}
    {f5 : Addr} {od5 an5 : Option Addr} {sl5 : Array (Option Value)} {oc5 kV5 dc5 pm5 cd5 ct5 : Value}
    {f6 : Addr} {od6 an6 : Option Addr} {sl6 : Array (Option Value)} {oc6 kV6 dc6 pm6 cd6 ct6 : Value}
    {f7 : Addr} {od7 an7 : Option Addr} {sl7 : Array (Option Value)} {oc7 kV7 dc7 pm7 cd7 ct7 : Value}
    {f8 : Addr} {od8 an8 : Option Addr} {sl8 : Array (Option Value)} {oc8 kV8 dc8 pm8 cd8 ct8 : Value}
    {f9 : Addr} {od9 an9 : Option Addr} {sl9 : Array (Option Value)} {oc9 kV9 dc9 pm9 cd9 ct9 : Value}
    {f10 : Addr} {od10 an10 : Option Addr} {sl10 : Array (Option Value)} {oc10 kV10 dc10 pm10 cd10 ct10 : Value}
    {f11 : Addr} {od11 an11 : Option Addr} {sl11 : Array (Option Value)} {oc11 kV11 dc11 pm11 cd11 ct11 : Value}
    {f12 : Addr} {od12 an12 : Option Addr} {sl12 : Array (Option Value)} {oc12 kV12 dc12 pm12 cd12 ct12 : Value}
    {f13 : Addr} {od13 an13 : Option Addr} {sl13 : Array (Option Value)} {oc13 kV13 dc13 pm13 cd13 ct13 : Value}
    {f14 : Addr} {od14 an14 : Option Addr} {sl14 : Array (Option Value)} {oc14 kV14 dc14 pm14 cd14 ct14 : Value}
    {f15 : Addr} {od15 an15 : Option Addr} {sl15 : Array (Option Value)} {oc15 kV15 dc15 pm15 cd15 ct15 : Value}
    {f16 : Addr} {od16 an16 : Option Addr} {sl16 : Array (Option Value)} {oc16 kV16 dc16 pm16 cd16 ct16 : Value}
    {f17 : Addr} {od17 an17 : Option Addr} {sl17 : Array (Option Value)} {oc17 kV17 dc17 pm17 cd17 ct17 : Value}
    {f18 : Addr} {od18 an18 : Option Addr} {sl18 : Array (Option Value)} {oc18 kV18 dc18 pm18 cd18 ct18 : Value}
    {f19 : Addr} {od19 an19 : Option Addr} {sl19 : Array (Option Value)} {oc19 kV19 dc19 pm19 cd19 ct19 : Value}
    {f20 : Addr} {od20 an20 : Option Addr} {sl20 : Array (Option Value)} {oc20 kV20 dc20 pm20 cd20 ct20 : Value}
    {f21 : Addr} {od21 an21 : Option Addr} {sl21 : Array (Option Value)} {oc21 kV21 dc21 pm21 cd21 ct21 : Value}
    {f22 : Addr} {od22 an22 : Option Addr} {sl22 : Array (Option Value)} {oc22 kV22 dc22 pm22 cd22 ct22 : Value}
    {f23 : Addr} {od23 an23 : Option Addr} {sl23 : Array (Option Value)} {oc23 kV23 dc23 pm23 cd23 ct23 : Value}
    {f24 : Addr} {od24 an24 : Option Addr} {sl24 : Array (Option Value)} {oc24 kV24 dc24 pm24 cd24 ct24 : Value}
    {f25 : Addr} {od25 an25 : Option Addr} {sl25 : Array (Option Value)} {oc25 kV25 dc25 pm25 cd25 ct25 : Value}
    {f26 : Addr} {od26 an26 : Option Addr} {sl26 : Array (Option Value)} {oc26 kV26 dc26 pm26 cd26 ct26 : Value}
    {f27 : Addr} {od27 an27 : Option Addr} {sl27 : Array (Option Value)} {oc27 kV27 dc27 pm27 cd27 ct27 : Value}
    {f28 : Addr} {od28 an28 : Option Addr} {sl28 : Array (Option Value)} {oc28 kV28 dc28 pm28 cd28 ct28 : Value}
    {f29 : Addr} {od29 an29 : Option Addr} {sl29 : Array (Option Value)} {oc29 kV29 dc29 pm29 cd29 ct29 : Value}
    {f30 : Addr} {od30 an30 : Option Addr} {sl30 : Array (Option Value)} {oc30 kV30 dc30 pm30 cd30 ct30 : Value}
    {t_MOST_GUESTS : Tok}
    {t_MOST_WEIGHT : Tok}
    (a1 : PySem.W.nsIn K mainGlobals "is_whole" = some (some (.ref f1))) (l1 : K.lookup f1 = some ⟨oc1, od1, .func (PySem.W.fnOf "is_whole" "is_whole" (defArgs s_is_whole) (defBody s_is_whole) (defScope s_is_whole) .none kV1 dc1 pm1 an1 cd1 ct1), sl1⟩) (c1 : PySem.W.codeIn K cd1 "is_whole" = true) (k1 : PySem.W.keepIn K (.ref f1) = true)
    (a2 : PySem.W.nsIn K mainGlobals "is_within" = some (some (.ref f2))) (l2 : K.lookup f2 = some ⟨oc2, od2, .func (PySem.W.fnOf "is_within" "is_within" (defArgs s_is_within) (defBody s_is_within) (defScope s_is_within) .none kV2 dc2 pm2 an2 cd2 ct2), sl2⟩) (c2 : PySem.W.codeIn K cd2 "is_within" = true) (k2 : PySem.W.keepIn K (.ref f2) = true)
    (a3 : PySem.W.nsIn K mainGlobals "is_order" = some (some (.ref f3))) (l3 : K.lookup f3 = some ⟨oc3, od3, .func (PySem.W.fnOf "is_order" "is_order" (defArgs s_is_order) (defBody s_is_order) (defScope s_is_order) .none kV3 dc3 pm3 an3 cd3 ct3), sl3⟩) (c3 : PySem.W.codeIn K cd3 "is_order" = true) (k3 : PySem.W.keepIn K (.ref f3) = true)
    (a4 : PySem.W.nsIn K mainGlobals "check_guests" = some (some (.ref f4))) (l4 : K.lookup f4 = some ⟨oc4, od4, .func (PySem.W.fnOf "check_guests" "check_guests" (defArgs s_check_guests) (defBody s_check_guests) (defScope s_check_guests) .none kV4 dc4 pm4 an4 cd4 ct4), sl4⟩) (c4 : PySem.W.codeIn K cd4 "check_guests" = true) (k4 : PySem.W.keepIn K (.ref f4) = true)
    (a5 : PySem.W.nsIn K mainGlobals "check_weight" = some (some (.ref f5))) (l5 : K.lookup f5 = some ⟨oc5, od5, .func (PySem.W.fnOf "check_weight" "check_weight" (defArgs s_check_weight) (defBody s_check_weight) (defScope s_check_weight) .none kV5 dc5 pm5 an5 cd5 ct5), sl5⟩) (c5 : PySem.W.codeIn K cd5 "check_weight" = true) (k5 : PySem.W.keepIn K (.ref f5) = true)
    (a6 : PySem.W.nsIn K mainGlobals "check_number" = some (some (.ref f6))) (l6 : K.lookup f6 = some ⟨oc6, od6, .func (PySem.W.fnOf "check_number" "check_number" (defArgs s_check_number) (defBody s_check_number) (defScope s_check_number) .none kV6 dc6 pm6 an6 cd6 ct6), sl6⟩) (c6 : PySem.W.codeIn K cd6 "check_number" = true) (k6 : PySem.W.keepIn K (.ref f6) = true)
    (a7 : PySem.W.nsIn K mainGlobals "raised" = some (some (.ref f7))) (l7 : K.lookup f7 = some ⟨oc7, od7, .func (PySem.W.fnOf "raised" "raised" (defArgs s_raised) (defBody s_raised) (defScope s_raised) .none kV7 dc7 pm7 an7 cd7 ct7), sl7⟩) (c7 : PySem.W.codeIn K cd7 "raised" = true) (k7 : PySem.W.keepIn K (.ref f7) = true)
    (a8 : PySem.W.nsIn K mainGlobals "rising" = some (some (.ref f8))) (l8 : K.lookup f8 = some ⟨oc8, od8, .func (PySem.W.fnOf "rising" "rising" (defArgs s_rising) (defBody s_rising) (defScope s_rising) .none kV8 dc8 pm8 an8 cd8 ct8), sl8⟩) (c8 : PySem.W.codeIn K cd8 "rising" = true) (k8 : PySem.W.keepIn K (.ref f8) = true)
    (a9 : PySem.W.nsIn K mainGlobals "sums_by_tables" = some (some (.ref f9))) (l9 : K.lookup f9 = some ⟨oc9, od9, .func (PySem.W.fnOf "sums_by_tables" "sums_by_tables" (defArgs s_sums_by_tables) (defBody s_sums_by_tables) (defScope s_sums_by_tables) .none kV9 dc9 pm9 an9 cd9 ct9), sl9⟩) (c9 : PySem.W.codeIn K cd9 "sums_by_tables" = true) (k9 : PySem.W.keepIn K (.ref f9) = true)
    (a10 : PySem.W.nsIn K mainGlobals "fraction" = some (some (.ref f10))) (l10 : K.lookup f10 = some ⟨oc10, od10, .func (PySem.W.fnOf "fraction" "fraction" (defArgs s_fraction) (defBody s_fraction) (defScope s_fraction) .none kV10 dc10 pm10 an10 cd10 ct10), sl10⟩) (c10 : PySem.W.codeIn K cd10 "fraction" = true) (k10 : PySem.W.keepIn K (.ref f10) = true)
    (a11 : PySem.W.nsIn K mainGlobals "is_seating" = some (some (.ref f11))) (l11 : K.lookup f11 = some ⟨oc11, od11, .func (PySem.W.fnOf "is_seating" "is_seating" (defArgs s_is_seating) (defBody s_is_seating) (defScope s_is_seating) .none kV11 dc11 pm11 an11 cd11 ct11), sl11⟩) (c11 : PySem.W.codeIn K cd11 "is_seating" = true) (k11 : PySem.W.keepIn K (.ref f11) = true)
    (a12 : PySem.W.nsIn K mainGlobals "tables_of" = some (some (.ref f12))) (l12 : K.lookup f12 = some ⟨oc12, od12, .func (PySem.W.fnOf "tables_of" "tables_of" (defArgs s_tables_of) (defBody s_tables_of) (defScope s_tables_of) .none kV12 dc12 pm12 an12 cd12 ct12), sl12⟩) (c12 : PySem.W.codeIn K cd12 "tables_of" = true) (k12 : PySem.W.keepIn K (.ref f12) = true)
    (a13 : PySem.W.nsIn K mainGlobals "check_seating" = some (some (.ref f13))) (l13 : K.lookup f13 = some ⟨oc13, od13, .func (PySem.W.fnOf "check_seating" "check_seating" (defArgs s_check_seating) (defBody s_check_seating) (defScope s_check_seating) .none kV13 dc13 pm13 an13 cd13 ct13), sl13⟩) (c13 : PySem.W.codeIn K cd13 "check_seating" = true) (k13 : PySem.W.keepIn K (.ref f13) = true)
    (a14 : PySem.W.nsIn K mainGlobals "walk_left" = some (some (.ref f14))) (l14 : K.lookup f14 = some ⟨oc14, od14, .func (PySem.W.fnOf "walk_left" "walk_left" (defArgs s_walk_left) (defBody s_walk_left) (defScope s_walk_left) .none kV14 dc14 pm14 an14 cd14 ct14), sl14⟩) (c14 : PySem.W.codeIn K cd14 "walk_left" = true) (k14 : PySem.W.keepIn K (.ref f14) = true)
    (a15 : PySem.W.nsIn K mainGlobals "tables_among" = some (some (.ref f15))) (l15 : K.lookup f15 = some ⟨oc15, od15, .func (PySem.W.fnOf "tables_among" "tables_among" (defArgs s_tables_among) (defBody s_tables_among) (defScope s_tables_among) .none kV15 dc15 pm15 an15 cd15 ct15), sl15⟩) (c15 : PySem.W.codeIn K cd15 "tables_among" = true) (k15 : PySem.W.keepIn K (.ref f15) = true)
    (a16 : PySem.W.nsIn K mainGlobals "total_weight" = some (some (.ref f16))) (l16 : K.lookup f16 = some ⟨oc16, od16, .func (PySem.W.fnOf "total_weight" "total_weight" (defArgs s_total_weight) (defBody s_total_weight) (defScope s_total_weight) .none kV16 dc16 pm16 an16 cd16 ct16), sl16⟩) (c16 : PySem.W.codeIn K cd16 "total_weight" = true) (k16 : PySem.W.keepIn K (.ref f16) = true)
    (a17 : PySem.W.nsIn K mainGlobals "seating_share" = some (some (.ref f17))) (l17 : K.lookup f17 = some ⟨oc17, od17, .func (PySem.W.fnOf "seating_share" "seating_share" (defArgs s_seating_share) (defBody s_seating_share) (defScope s_seating_share) .none kV17 dc17 pm17 an17 cd17 ct17), sl17⟩) (c17 : PySem.W.codeIn K cd17 "seating_share" = true) (k17 : PySem.W.keepIn K (.ref f17) = true)
    (a18 : PySem.W.nsIn K mainGlobals "tables_share" = some (some (.ref f18))) (l18 : K.lookup f18 = some ⟨oc18, od18, .func (PySem.W.fnOf "tables_share" "tables_share" (defArgs s_tables_share) (defBody s_tables_share) (defScope s_tables_share) .none kV18 dc18 pm18 an18 cd18 ct18), sl18⟩) (c18 : PySem.W.codeIn K cd18 "tables_share" = true) (k18 : PySem.W.keepIn K (.ref f18) = true)
    (a19 : PySem.W.nsIn K mainGlobals "mean_tables" = some (some (.ref f19))) (l19 : K.lookup f19 = some ⟨oc19, od19, .func (PySem.W.fnOf "mean_tables" "mean_tables" (defArgs s_mean_tables) (defBody s_mean_tables) (defScope s_mean_tables) .none kV19 dc19 pm19 an19 cd19 ct19), sl19⟩) (c19 : PySem.W.codeIn K cd19 "mean_tables" = true) (k19 : PySem.W.keepIn K (.ref f19) = true)
    (a20 : PySem.W.nsIn K mainGlobals "likeliest_tables" = some (some (.ref f20))) (l20 : K.lookup f20 = some ⟨oc20, od20, .func (PySem.W.fnOf "likeliest_tables" "likeliest_tables" (defArgs s_likeliest_tables) (defBody s_likeliest_tables) (defScope s_likeliest_tables) .none kV20 dc20 pm20 an20 cd20 ct20), sl20⟩) (c20 : PySem.W.codeIn K cd20 "likeliest_tables" = true) (k20 : PySem.W.keepIn K (.ref f20) = true)
    (a21 : PySem.W.nsIn K mainGlobals "weights_by_tables" = some (some (.ref f21))) (l21 : K.lookup f21 = some ⟨oc21, od21, .func (PySem.W.fnOf "weights_by_tables" "weights_by_tables" (defArgs s_weights_by_tables) (defBody s_weights_by_tables) (defScope s_weights_by_tables) .none kV21 dc21 pm21 an21 cd21 ct21), sl21⟩) (c21 : PySem.W.codeIn K cd21 "weights_by_tables" = true) (k21 : PySem.W.keepIn K (.ref f21) = true)
    (a22 : PySem.W.nsIn K mainGlobals "_law_pouch" = some (some (.ref f22))) (l22 : K.lookup f22 = some ⟨oc22, od22, .func (PySem.W.fnOf "_law_pouch" "_law_pouch" (defArgs s_law_pouch) (defBody s_law_pouch) (defScope s_law_pouch) .none kV22 dc22 pm22 an22 cd22 ct22), sl22⟩) (c22 : PySem.W.codeIn K cd22 "_law_pouch" = true) (k22 : PySem.W.keepIn K (.ref f22) = true)
    (a23 : PySem.W.nsIn K mainGlobals "_law_dip" = some (some (.ref f23))) (l23 : K.lookup f23 = some ⟨oc23, od23, .func (PySem.W.fnOf "_law_dip" "_law_dip" (defArgs s_law_dip) (defBody s_law_dip) (defScope s_law_dip) .none kV23 dc23 pm23 an23 cd23 ct23), sl23⟩) (c23 : PySem.W.codeIn K cd23 "_law_dip" = true) (k23 : PySem.W.keepIn K (.ref f23) = true)
    (a24 : PySem.W.nsIn K mainGlobals "_law_every" = some (some (.ref f24))) (l24 : K.lookup f24 = some ⟨oc24, od24, .func (PySem.W.fnOf "_law_every" "_law_every" (defArgs s_law_every) (defBody s_law_every) (defScope s_law_every) .none kV24 dc24 pm24 an24 cd24 ct24), sl24⟩) (c24 : PySem.W.codeIn K cd24 "_law_every" = true) (k24 : PySem.W.keepIn K (.ref f24) = true)
    (a25 : PySem.W.nsIn K mainGlobals "_law_tables" = some (some (.ref f25))) (l25 : K.lookup f25 = some ⟨oc25, od25, .func (PySem.W.fnOf "_law_tables" "_law_tables" (defArgs s_law_tables) (defBody s_law_tables) (defScope s_law_tables) .none kV25 dc25 pm25 an25 cd25 ct25), sl25⟩) (c25 : PySem.W.codeIn K cd25 "_law_tables" = true) (k25 : PySem.W.keepIn K (.ref f25) = true)
    (a26 : PySem.W.nsIn K mainGlobals "_law_lowest" = some (some (.ref f26))) (l26 : K.lookup f26 = some ⟨oc26, od26, .func (PySem.W.fnOf "_law_lowest" "_law_lowest" (defArgs s_law_lowest) (defBody s_law_lowest) (defScope s_law_lowest) .none kV26 dc26 pm26 an26 cd26 ct26), sl26⟩) (c26 : PySem.W.codeIn K cd26 "_law_lowest" = true) (k26 : PySem.W.keepIn K (.ref f26) = true)
    (a27 : PySem.W.nsIn K mainGlobals "_law_weigh" = some (some (.ref f27))) (l27 : K.lookup f27 = some ⟨oc27, od27, .func (PySem.W.fnOf "_law_weigh" "_law_weigh" (defArgs s_law_weigh) (defBody s_law_weigh) (defScope s_law_weigh) .none kV27 dc27 pm27 an27 cd27 ct27), sl27⟩) (c27 : PySem.W.codeIn K cd27 "_law_weigh" = true) (k27 : PySem.W.keepIn K (.ref f27) = true)
    (a28 : PySem.W.nsIn K mainGlobals "_law_heavy" = some (some (.ref f28))) (l28 : K.lookup f28 = some ⟨oc28, od28, .func (PySem.W.fnOf "_law_heavy" "_law_heavy" (defArgs s_law_heavy) (defBody s_law_heavy) (defScope s_law_heavy) .none kV28 dc28 pm28 an28 cd28 ct28), sl28⟩) (c28 : PySem.W.codeIn K cd28 "_law_heavy" = true) (k28 : PySem.W.keepIn K (.ref f28) = true)
    (a29 : PySem.W.nsIn K mainGlobals "_law_right" = some (some (.ref f29))) (l29 : K.lookup f29 = some ⟨oc29, od29, .func (PySem.W.fnOf "_law_right" "_law_right" (defArgs s_law_right) (defBody s_law_right) (defScope s_law_right) .none kV29 dc29 pm29 an29 cd29 ct29), sl29⟩) (c29 : PySem.W.codeIn K cd29 "_law_right" = true) (k29 : PySem.W.keepIn K (.ref f29) = true)
    (a30 : PySem.W.nsIn K mainGlobals "law" = some (some (.ref f30))) (l30 : K.lookup f30 = some ⟨oc30, od30, .func (PySem.W.fnOf "law" "law" (defArgs s_law) (defBody s_law) (defScope s_law) .none kV30 dc30 pm30 an30 cd30 ct30), sl30⟩) (c30 : PySem.W.codeIn K cd30 "law" = true) (k30 : PySem.W.keepIn K (.ref f30) = true)
    (z_abs : PySem.W.nsIn K mainGlobals "abs" = some none)
    (z_all : PySem.W.nsIn K mainGlobals "all" = some none)
    (z_enumerate : PySem.W.nsIn K mainGlobals "enumerate" = some none)
    (z_int : PySem.W.nsIn K mainGlobals "int" = some none)
    (z_len : PySem.W.nsIn K mainGlobals "len" = some none)
    (z_list : PySem.W.nsIn K mainGlobals "list" = some none)
    (z_max : PySem.W.nsIn K mainGlobals "max" = some none)
    (z_min : PySem.W.nsIn K mainGlobals "min" = some none)
    (z_range : PySem.W.nsIn K mainGlobals "range" = some none)
    (z_repr : PySem.W.nsIn K mainGlobals "repr" = some none)
    (z_sorted : PySem.W.nsIn K mainGlobals "sorted" = some none)
    (z_sum : PySem.W.nsIn K mainGlobals "sum" = some none)
    (z_tuple : PySem.W.nsIn K mainGlobals "tuple" = some none)
    (z_type : PySem.W.nsIn K mainGlobals "type" = some none)
    (z_zip : PySem.W.nsIn K mainGlobals "zip" = some none)
    (y_MOST_GUESTS : PySem.W.nsIn K mainGlobals "MOST_GUESTS" = some (some (.int 20 t_MOST_GUESTS)))
    (y_MOST_WEIGHT : PySem.W.nsIn K mainGlobals "MOST_WEIGHT" = some (some (.int 1000000000000 t_MOST_WEIGHT)))
    (x_gcd : PySem.W.nsIn K mainGlobals "gcd" = some (some (.builtin "math.gcd")))
    : ∃ fd : FuncData, (∀ (s : Shared) (v : Value), BindsTo s fd ⟨[v], []⟩ [("script", v)]) ∧ ∀ base : Heap, K.In base → base.Ns mainGlobals mg → FnOkG l.prog w K mg base 8 fa fd ["script"] (sp_law K) := by
  have e := hfa.symm.trans (PySem.W.mg_of X G a30)
  cases e
  have F1 := fun_mk (st := s_is_whole) l1 c1 k1
  have F2 := fun_mk (st := s_is_within) l2 c2 k2
  have F3 := fun_mk (st := s_is_order) l3 c3 k3
  have F4 := fun_mk (st := s_check_guests) l4 c4 k4
  have F5 := fun_mk (st := s_check_weight) l5 c5 k5
  have F6 := fun_mk (st := s_check_number) l6 c6 k6
  have F7 := fun_mk (st := s_raised) l7 c7 k7
  have F8 := fun_mk (st := s_rising) l8 c8 k8
  have F9 := fun_mk (st := s_sums_by_tables) l9 c9 k9
  have F10 := fun_mk (st := s_fraction) l10 c10 k10
  have F11 := fun_mk (st := s_is_seating) l11 c11 k11
  have F12 := fun_mk (st := s_tables_of) l12 c12 k12
  have F13 := fun_mk (st := s_check_seating) l13 c13 k13
  have F14 := fun_mk (st := s_walk_left) l14 c14 k14
  have F15 := fun_mk (st := s_tables_among) l15 c15 k15
  have F16 := fun_mk (st := s_total_weight) l16 c16 k16
  have F17 := fun_mk (st := s_seating_share) l17 c17 k17
  have F18 := fun_mk (st := s_tables_share) l18 c18 k18
  have F19 := fun_mk (st := s_mean_tables) l19 c19 k19
  have F20 := fun_mk (st := s_likeliest_tables) l20 c20 k20
  have F21 := fun_mk (st := s_weights_by_tables) l21 c21 k21
  have F22 := fun_mk (st := s_law_pouch) l22 c22 k22
  have F23 := fun_mk (st := s_law_dip) l23 c23 k23
  have F24 := fun_mk (st := s_law_every) l24 c24 k24
  have F25 := fun_mk (st := s_law_tables) l25 c25 k25
  have F26 := fun_mk (st := s_law_lowest) l26 c26 k26
  have F27 := fun_mk (st := s_law_weigh) l27 c27 k27
  have F28 := fun_mk (st := s_law_heavy) l28 c28 k28
  have F29 := fun_mk (st := s_law_right) l29 c29 k29
  have F30 := fun_mk (st := s_law) l30 c30 k30
  let T : Tx K mg :=
    { f_is_whole := f1, d_is_whole := _, F_is_whole := F1, g_is_whole := PySem.W.mg_of X G a1, b_is_whole := F1.binds (ps := ["thing"]) fun _ _ _ _ _ _ us hl => match us, hl with | [_], _ => rfl,
      f_is_within := f2, d_is_within := _, F_is_within := F2, g_is_within := PySem.W.mg_of X G a2, b_is_within := F2.binds (ps := ["thing", "least", "most"]) fun _ _ _ _ _ _ us hl => match us, hl with | [_, _, _], _ => rfl,
      f_is_order := f3, d_is_order := _, F_is_order := F3, g_is_order := PySem.W.mg_of X G a3, b_is_order := F3.binds (ps := ["thing"]) fun _ _ _ _ _ _ us hl => match us, hl with | [_], _ => rfl,
      f_check_guests := f4, d_check_guests := _, F_check_guests := F4, g_check_guests := PySem.W.mg_of X G a4, b_check_guests := F4.binds (ps := ["guests"]) fun _ _ _ _ _ _ us hl => match us, hl with | [_], _ => rfl,
      f_check_weight := f5, d_check_weight := _, F_check_weight := F5, g_check_weight := PySem.W.mg_of X G a5, b_check_weight := F5.binds (ps := ["weight"]) fun _ _ _ _ _ _ us hl => match us, hl with | [_], _ => rfl,
      f_check_number := f6, d_check_number := _, F_check_number := F6, g_check_number := PySem.W.mg_of X G a6, b_check_number := F6.binds (ps := ["number", "least", "most"]) fun _ _ _ _ _ _ us hl => match us, hl with | [_, _, _], _ => rfl,
      f_raised := f7, d_raised := _, F_raised := F7, g_raised := PySem.W.mg_of X G a7, b_raised := F7.binds (ps := ["base", "times"]) fun _ _ _ _ _ _ us hl => match us, hl with | [_, _], _ => rfl,
      f_rising := f8, d_rising := _, F_rising := F8, g_rising := PySem.W.mg_of X G a8, b_rising := F8.binds (ps := ["weight", "guests"]) fun _ _ _ _ _ _ us hl => match us, hl with | [_, _], _ => rfl,
      f_sums_by_tables := f9, d_sums_by_tables := _, F_sums_by_tables := F9, g_sums_by_tables := PySem.W.mg_of X G a9, b_sums_by_tables := F9.binds (ps := ["factors"]) fun _ _ _ _ _ _ us hl => match us, hl with | [_], _ => rfl,
      f_fraction := f10, d_fraction := _, F_fraction := F10, g_fraction := PySem.W.mg_of X G a10, b_fraction := F10.binds (ps := ["top", "bottom"]) fun _ _ _ _ _ _ us hl => match us, hl with | [_, _], _ => rfl,
      f_is_seating := f11, d_is_seating := _, F_is_seating := F11, g_is_seating := PySem.W.mg_of X G a11, b_is_seating := F11.binds (ps := ["thing"]) fun _ _ _ _ _ _ us hl => match us, hl with | [_], _ => rfl,
      f_tables_of := f12, d_tables_of := _, F_tables_of := F12, g_tables_of := PySem.W.mg_of X G a12, b_tables_of := F12.binds (ps := ["seating"]) fun _ _ _ _ _ _ us hl => match us, hl with | [_], _ => rfl,
      f_check_seating := f13, d_check_seating := _, F_check_seating := F13, g_check_seating := PySem.W.mg_of X G a13, b_check_seating := F13.binds (ps := ["seating"]) fun _ _ _ _ _ _ us hl => match us, hl with | [_], _ => rfl,
      f_walk_left := f14, d_walk_left := _, F_walk_left := F14, g_walk_left := PySem.W.mg_of X G a14, b_walk_left := F14.binds (ps := ["lefts", "guest"]) fun _ _ _ _ _ _ us hl => match us, hl with | [_, _], _ => rfl,
      f_tables_among := f15, d_tables_among := _, F_tables_among := F15, g_tables_among := PySem.W.mg_of X G a15, b_tables_among := F15.binds (ps := ["lefts", "guests"]) fun _ _ _ _ _ _ us hl => match us, hl with | [_, _], _ => rfl,
      f_total_weight := f16, d_total_weight := _, F_total_weight := F16, g_total_weight := PySem.W.mg_of X G a16, b_total_weight := F16.binds (ps := ["guests", "weight"]) fun _ _ _ _ _ _ us hl => match us, hl with | [_, _], _ => rfl,
      f_seating_share := f17, d_seating_share := _, F_seating_share := F17, g_seating_share := PySem.W.mg_of X G a17, b_seating_share := F17.binds (ps := ["seating", "weight"]) fun _ _ _ _ _ _ us hl => match us, hl with | [_, _], _ => rfl,
      f_tables_share := f18, d_tables_share := _, F_tables_share := F18, g_tables_share := PySem.W.mg_of X G a18, b_tables_share := F18.binds (ps := ["guests", "weight", "number"]) fun _ _ _ _ _ _ us hl => match us, hl with | [_, _, _], _ => rfl,
      f_mean_tables := f19, d_mean_tables := _, F_mean_tables := F19, g_mean_tables := PySem.W.mg_of X G a19, b_mean_tables := F19.binds (ps := ["guests", "weight"]) fun _ _ _ _ _ _ us hl => match us, hl with | [_, _], _ => rfl,
      f_likeliest_tables := f20, d_likeliest_tables := _, F_likeliest_tables := F20, g_likeliest_tables := PySem.W.mg_of X G a20, b_likeliest_tables := F20.binds (ps := ["guests", "weight"]) fun _ _ _ _ _ _ us hl => match us, hl with | [_, _], _ => rfl,
      f_weights_by_tables := f21, d_weights_by_tables := _, F_weights_by_tables := F21, g_weights_by_tables := PySem.W.mg_of X G a21, b_weights_by_tables := F21.binds (ps := ["guests", "weight"]) fun _ _ _ _ _ _ us hl => match us, hl with | [_, _], _ => rfl,
      f_law_pouch := f22, d_law_pouch := _, F_law_pouch := F22, g_law_pouch := PySem.W.mg_of X G a22, b_law_pouch := F22.binds (ps := ["script", "at"]) fun _ _ _ _ _ _ us hl => match us, hl with | [_, _], _ => rfl,
      f_law_dip := f23, d_law_dip := _, F_law_dip := F23, g_law_dip := PySem.W.mg_of X G a23, b_law_dip := F23.binds (ps := ["pouch", "wide"]) fun _ _ _ _ _ _ us hl => match us, hl with | [_, _], _ => rfl,
      f_law_every := f24, d_law_every := _, F_law_every := F24, g_law_every := PySem.W.mg_of X G a24, b_law_every := F24.binds (ps := ["many"]) fun _ _ _ _ _ _ us hl => match us, hl with | [_], _ => rfl,
      f_law_tables := f25, d_law_tables := _, F_law_tables := F25, g_law_tables := PySem.W.mg_of X G a25, b_law_tables := F25.binds (ps := ["hall"]) fun _ _ _ _ _ _ us hl => match us, hl with | [_], _ => rfl,
      f_law_lowest := f26, d_law_lowest := _, F_law_lowest := F26, g_law_lowest := PySem.W.mg_of X G a26, b_law_lowest := F26.binds (ps := ["top", "bottom"]) fun _ _ _ _ _ _ us hl => match us, hl with | [_, _], _ => rfl,
      f_law_weigh := f27, d_law_weigh := _, F_law_weigh := F27, g_law_weigh := PySem.W.mg_of X G a27, b_law_weigh := F27.binds (ps := ["heavy", "many"]) fun _ _ _ _ _ _ us hl => match us, hl with | [_, _], _ => rfl,
      f_law_heavy := f28, d_law_heavy := _, F_law_heavy := F28, g_law_heavy := PySem.W.mg_of X G a28, b_law_heavy := F28.binds (ps := ["pouch"]) fun _ _ _ _ _ _ us hl => match us, hl with | [_], _ => rfl,
      f_law_right := f29, d_law_right := _, F_law_right := F29, g_law_right := PySem.W.mg_of X G a29, b_law_right := F29.binds (ps := ["pouch", "many", "heavy"]) fun _ _ _ _ _ _ us hl => match us, hl with | [_, _, _], _ => rfl,
      f_law := fa, d_law := _, F_law := F30, g_law := PySem.W.mg_of X G a30, b_law := F30.binds (ps := ["script"]) fun _ _ _ _ _ _ us hl => match us, hl with | [_], _ => rfl,
      m_abs := PySem.W.mg_none_of X G z_abs,
      m_all := PySem.W.mg_none_of X G z_all,
      m_enumerate := PySem.W.mg_none_of X G z_enumerate,
      m_int := PySem.W.mg_none_of X G z_int,
      m_len := PySem.W.mg_none_of X G z_len,
      m_list := PySem.W.mg_none_of X G z_list,
      m_max := PySem.W.mg_none_of X G z_max,
      m_min := PySem.W.mg_none_of X G z_min,
      m_range := PySem.W.mg_none_of X G z_range,
      m_repr := PySem.W.mg_none_of X G z_repr,
      m_sorted := PySem.W.mg_none_of X G z_sorted,
      m_sum := PySem.W.mg_none_of X G z_sum,
      m_tuple := PySem.W.mg_none_of X G z_tuple,
      m_type := PySem.W.mg_none_of X G z_type,
      m_zip := PySem.W.mg_none_of X G z_zip,
      c_MOST_GUESTS := ⟨_, PySem.W.mg_of X G y_MOST_GUESTS, ⟨_, rfl⟩⟩,
      c_MOST_WEIGHT := ⟨_, PySem.W.mg_of X G y_MOST_WEIGHT, ⟨_, rfl⟩⟩,
      i_gcd := PySem.W.mg_of X G x_gcd,
      kb_tables_share_0_number_weight_guests := ⟨(fun s us ws _ hl => match us, ws, hl with | [], [_, _, _], _ => .of_eq rfl | (_ :: _), _, hl => absurd (show (0 : Nat) = 3 from hl) (by decide) | [], [], hl => absurd (show (0 : Nat) = 3 from hl) (by decide) | [], (_ :: []), hl => absurd (show (0 : Nat) = 3 from hl) (by decide) | [], (_ :: (_ :: [])), hl => absurd (show (0 : Nat) = 3 from hl) (by decide) | [], (_ :: (_ :: (_ :: (_ :: _)))), hl => absurd (show (0 : Nat) = 3 from hl) (by decide)), (fun {vs us zs ws} r z => match r, z with | .nil, (.cons b0 (.cons b1 (.cons b2 .nil))) => (.cons b2 (.cons b1 (.cons b0 .nil))) | (.cons _ _), _ => .nil | .nil, .nil => .nil | .nil, (.cons _ .nil) => .nil | .nil, (.cons _ (.cons _ .nil)) => .nil | .nil, (.cons _ (.cons _ (.cons _ (.cons _ _)))) => .nil)⟩,
      kb_seating_share_0_weight_seating := ⟨(fun s us ws _ hl => match us, ws, hl with | [], [_, _], _ => .of_eq rfl | (_ :: _), _, hl => absurd (show (0 : Nat) = 2 from hl) (by decide) | [], [], hl => absurd (show (0 : Nat) = 2 from hl) (by decide) | [], (_ :: []), hl => absurd (show (0 : Nat) = 2 from hl) (by decide) | [], (_ :: (_ :: (_ :: _))), hl => absurd (show (0 : Nat) = 2 from hl) (by decide)), (fun {vs us zs ws} r z => match r, z with | .nil, (.cons b0 (.cons b1 .nil)) => (.cons b1 (.cons b0 .nil)) | (.cons _ _), _ => .nil | .nil, .nil => .nil | .nil, (.cons _ .nil) => .nil | .nil, (.cons _ (.cons _ (.cons _ _))) => .nil)⟩,
      kb_likeliest_tables_0_weight_guests := ⟨(fun s us ws _ hl => match us, ws, hl with | [], [_, _], _ => .of_eq rfl | (_ :: _), _, hl => absurd (show (0 : Nat) = 2 from hl) (by decide) | [], [], hl => absurd (show (0 : Nat) = 2 from hl) (by decide) | [], (_ :: []), hl => absurd (show (0 : Nat) = 2 from hl) (by decide) | [], (_ :: (_ :: (_ :: _))), hl => absurd (show (0 : Nat) = 2 from hl) (by decide)), (fun {vs us zs ws} r z => match r, z with | .nil, (.cons b0 (.cons b1 .nil)) => (.cons b1 (.cons b0 .nil)) | (.cons _ _), _ => .nil | .nil, .nil => .nil | .nil, (.cons _ .nil) => .nil | .nil, (.cons _ (.cons _ (.cons _ _))) => .nil)⟩,
      kb_mean_tables_0_weight_guests := ⟨(fun s us ws _ hl => match us, ws, hl with | [], [_, _], _ => .of_eq rfl | (_ :: _), _, hl => absurd (show (0 : Nat) = 2 from hl) (by decide) | [], [], hl => absurd (show (0 : Nat) = 2 from hl) (by decide) | [], (_ :: []), hl => absurd (show (0 : Nat) = 2 from hl) (by decide) | [], (_ :: (_ :: (_ :: _))), hl => absurd (show (0 : Nat) = 2 from hl) (by decide)), (fun {vs us zs ws} r z => match r, z with | .nil, (.cons b0 (.cons b1 .nil)) => (.cons b1 (.cons b0 .nil)) | (.cons _ _), _ => .nil | .nil, .nil => .nil | .nil, (.cons _ .nil) => .nil | .nil, (.cons _ (.cons _ (.cons _ _))) => .nil)⟩,
      kb_total_weight_0_weight_guests := ⟨(fun s us ws _ hl => match us, ws, hl with | [], [_, _], _ => .of_eq rfl | (_ :: _), _, hl => absurd (show (0 : Nat) = 2 from hl) (by decide) | [], [], hl => absurd (show (0 : Nat) = 2 from hl) (by decide) | [], (_ :: []), hl => absurd (show (0 : Nat) = 2 from hl) (by decide) | [], (_ :: (_ :: (_ :: _))), hl => absurd (show (0 : Nat) = 2 from hl) (by decide)), (fun {vs us zs ws} r z => match r, z with | .nil, (.cons b0 (.cons b1 .nil)) => (.cons b1 (.cons b0 .nil)) | (.cons _ _), _ => .nil | .nil, .nil => .nil | .nil, (.cons _ .nil) => .nil | .nil, (.cons _ (.cons _ (.cons _ _))) => .nil)⟩ }
  exact ⟨PySem.W.fnOf "law" "law" (defArgs s_law) (defBody s_law) (defScope s_law) .none kV30 dc30 pm30 an30 cd30 ct30, fun s v => .of_eq rfl, fun base _ _ => ok_law T⟩
end K08
open PySem PySem.W PyProof.Rows
set_option maxRecDepth 100000 in
set_option maxHeartbeats 0 in
theorem PySem.Challenge.cw_newtables_k08_weights_of_few_guests_holds : PySem.Challenge.rw_newtables_k08_weights_of_few_guests.Holds := by
  w_on; o_law; k_head; (case hw => w_witness2)
  k_fill
  refine Kit.walk_G (l := PySem.Challenge.rw_newtables_k08_weights_of_few_guests) (m := 63) (n := 8) (x := "script") (want := fun w => K08.sp_law _) rfl (by decide) rfl ⟨rfl, by decide, by decide⟩ (fun w h Y => PySem.W.kIn_of Y) ?F (fun _ _ a ns hl _ hS => ⟨a, ns, rfl, hS, hl, fun _ => rfl⟩)
  case F =>
    intro w mg fa h KX G hmg
    refine' K08.all_mk KX G hmg ?a1 ?l1 ?c1 ?k1 ?a2 ?l2 ?c2 ?k2 ?a3 ?l3 ?c3 ?k3 ?a4 ?l4 ?c4 ?k4 ?a5 ?l5 ?c5 ?k5 ?a6 ?l6 ?c6 ?k6 ?a7 ?l7 ?c7 ?k7 ?a8 ?l8 ?c8 ?k8 ?a9 ?l9 ?c9 ?k9 ?a10 ?l10 ?c10 ?k10 ?a11 ?l11 ?c11 ?k11 ?a12 ?l12 ?c12 ?k12 ?a13 ?l13 ?c13 ?k13 ?a14 ?l14 ?c14 ?k14 ?a15 ?l15 ?c15 ?k15 ?a16 ?l16 ?c16 ?k16 ?a17 ?l17 ?c17 ?k17 ?a18 ?l18 ?c18 ?k18 ?a19 ?l19 ?c19 ?k19 ?a20 ?l20 ?c20 ?k20 ?a21 ?l21 ?c21 ?k21 ?a22 ?l22 ?c22 ?k22 ?a23 ?l23 ?c23 ?k23 ?a24 ?l24 ?c24 ?k24 ?a25 ?l25 ?c25 ?k25 ?a26 ?l26 ?c26 ?k26 ?a27 ?l27 ?c27 ?k27 ?a28 ?l28 ?c28 ?k28 ?a29 ?l29 ?c29 ?k29 ?a30 ?l30 ?c30 ?k30 ?z_abs ?z_all ?z_enumerate ?z_int ?z_len ?z_list ?z_max ?z_min ?z_range ?z_repr ?z_sorted ?z_sum ?z_tuple ?z_type ?z_zip ?y_MOST_GUESTS ?y_MOST_WEIGHT ?x_gcd
    (case a1 => k_is); (case l1 => k_is); (case c1 => k_is); (case k1 => k_is); (case a2 => k_is); (case l2 => k_is)
    (case c2 => k_is); (case k2 => k_is); (case a3 => k_is); (case l3 => k_is); (case c3 => k_is); (case k3 => k_is)
    (case a4 => k_is); (case l4 => k_is); (case c4 => k_is); (case k4 => k_is); (case a5 => k_is); (case l5 => k_is)
    (case c5 => k_is); (case k5 => k_is); (case a6 => k_is); (case l6 => k_is); (case c6 => k_is); (case k6 => k_is)
    (case a7 => k_is); (case l7 => k_is); (case c7 => k_is); (case k7 => k_is); (case a8 => k_is); (case l8 => k_is)
    (case c8 => k_is); (case k8 => k_is); (case a9 => k_is); (case l9 => k_is); (case c9 => k_is); (case k9 => k_is)
    (case a10 => k_is); (case l10 => k_is); (case c10 => k_is); (case k10 => k_is); (case a11 => k_is); (case l11 => k_is)
    (case c11 => k_is); (case k11 => k_is); (case a12 => k_is); (case l12 => k_is); (case c12 => k_is); (case k12 => k_is)
    (case a13 => k_is); (case l13 => k_is); (case c13 => k_is); (case k13 => k_is); (case a14 => k_is); (case l14 => k_is)
    (case c14 => k_is); (case k14 => k_is); (case a15 => k_is); (case l15 => k_is); (case c15 => k_is); (case k15 => k_is)
    (case a16 => k_is); (case l16 => k_is); (case c16 => k_is); (case k16 => k_is); (case a17 => k_is); (case l17 => k_is)
    (case c17 => k_is); (case k17 => k_is); (case a18 => k_is); (case l18 => k_is); (case c18 => k_is); (case k18 => k_is)
    (case a19 => k_is); (case l19 => k_is); (case c19 => k_is); (case k19 => k_is); (case a20 => k_is); (case l20 => k_is)
    (case c20 => k_is); (case k20 => k_is); (case a21 => k_is); (case l21 => k_is); (case c21 => k_is); (case k21 => k_is)
    (case a22 => k_is); (case l22 => k_is); (case c22 => k_is); (case k22 => k_is); (case a23 => k_is); (case l23 => k_is)
    (case c23 => k_is); (case k23 => k_is); (case a24 => k_is); (case l24 => k_is); (case c24 => k_is); (case k24 => k_is)
    (case a25 => k_is); (case l25 => k_is); (case c25 => k_is); (case k25 => k_is); (case a26 => k_is); (case l26 => k_is)
    (case c26 => k_is); (case k26 => k_is); (case a27 => k_is); (case l27 => k_is); (case c27 => k_is); (case k27 => k_is)
    (case a28 => k_is); (case l28 => k_is); (case c28 => k_is); (case k28 => k_is); (case a29 => k_is); (case l29 => k_is)
    (case c29 => k_is); (case k29 => k_is); (case a30 => k_is); (case l30 => k_is); (case c30 => k_is); (case k30 => k_is)
    (case z_abs => k_is); (case z_all => k_is); (case z_enumerate => k_is); (case z_int => k_is); (case z_len => k_is); (case z_list => k_is)
    (case z_max => k_is); (case z_min => k_is); (case z_range => k_is); (case z_repr => k_is); (case z_sorted => k_is); (case z_sum => k_is)
    (case z_tuple => k_is); (case z_type => k_is); (case z_zip => k_is); (case y_MOST_GUESTS => k_is); (case y_MOST_WEIGHT => k_is); (case x_gcd => k_is)
