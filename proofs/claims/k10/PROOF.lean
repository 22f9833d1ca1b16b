import PyProof.Rows.All
import Wide.All
import OpenK.AllK
import Wide.FinOn
import PyProof.TypeEq
import HandS.ForMost
import HandS.Evl
import HandS.Wide
import HandS.WideBits
import HandS.Gcd
import HandS.Codes
import HandS.Conv
import HandS.IsInst
import HandS.More
import HandS.Walk
import HandS.Style
import PyProof.InstEq
import HandS.Sort
import KE.DataMinMax
import PySem.Challenge.RW_newtables_k10_best_weights
set_option Elab.async false
set_option linter.all false
set_option maxRecDepth 100000
set_option maxHeartbeats 4000000
namespace Kit
open PySem PySem.Spec PyProof.Rows L2 Evl
/-! rules that the layer lacks -/
section
variable {X : Cx} {a b c d : Expr} {ta tb tc td : TE} {pos : Pos}
def CPowX (i j : Int) : Prop := 0 ≤ j ∧ (Builtin.Int.intBits i : Int) * j ≤ 2 ^ 27
theorem op_powX : OpR X (binaryOp .Pow) (rI CPowX fun i j => .int (i ^ j.toNat)) := opI fun _ _ _ _ _ _ _ hc q => pow_int hc.1 hc.2 q
/-- the types that are compared by == -/
def Meta (n : String) : Prop := ∀ s : Shared, s.TypeIs (.type n) "type"
def rEqTy : R2 := fun x y H Q => ∃ m n, x = .ty m ∧ y = .ty n ∧ Meta m ∧ Meta n ∧ Q (.bl (decide (m = n))) H
theorem op_eqTy : OpR X (compareOp .Eq) rEqTy := by
  intro pins s σ H x y v u Q I rx ry h
  obtain ⟨m, n, rfl, rfl, hm, hn, q⟩ := h
  cases (show v = Value.type m from rx)
  cases (show u = Value.type n from ry)
  by_cases e : m = n
  · subst e
    exact PySem.TypeEq.eq_type_same hm ⟨.bl true, H, I, rfl, by simpa using q⟩
  · exact PySem.TypeEq.eq_type_other hm hn (by rw [beq_eq_false_iff_ne]; exact fun z => e (Value.type.inj z)) ⟨.bl false, H, I, rfl, by simpa [e] using q⟩
/-- a op b op c op d -/
def tChain3 (r r' r'' : R2) (ta tb tc td : TE) : TE := fun σ H Q => ta σ H fun x H1 => tb σ H1 fun y H2 => r x y H2 fun z H3 => ∃ k, z = .bl k ∧
  (if k = true then tc σ H3 fun w' H4 => r' y w' H4 fun z' H5 => ∃ k', z' = .bl k' ∧ (if k' = true then td σ H5 fun w'' H6 => r'' w' w'' H6 Q else Q (.bl false) H5) else Q (.bl false) H3)
theorem pe_chain3 {op op' op'' : CmpOp} {r r' r'' : R2} (ho : OpR X (compareOp op) r) (ho' : OpR X (compareOp op') r') (ho'' : OpR X (compareOp op'') r'') (ha : PE X a ta) (hb : PE X b tb) (hc : PE X c tc) (hd : PE X d td)
    (hm : lastMarks [op, op', op''] [b, c, d] = false := by with_unfolding_all rfl) : PE X (.Compare a [op, op', op''] [b, c, d] pos) (tChain3 r r' r'' ta tb tc td) := by
  refine ⟨fun pins s σ H Q I h => ?_⟩
  refine Compare_chain (thn (ha.run pins s σ H _ I h) fun v s1 ⟨x, H1, I1, r1, q1⟩ => chain_link (thn (hb.run pins s1 σ H1 _ I1 q1) fun u s2 ⟨y, H2, I2, r2, q2⟩ =>
    thn (ho pins s2 σ H2 x y v u _ I2 r1 r2 q2) fun d s3 ⟨z, H3, I3, r3, k, e, q3⟩ => ?_)) hm
  subst e
  cases r3
  refine wpAny_truthy_bool ?_
  cases k with
  | false => exact ite_ff ⟨.bl false, H3, I3, rfl, q3⟩
  | true =>
    refine ite_tt (chain_link (thn (hc.run pins s3 σ H3 _ I3 q3) fun w' s4 ⟨z', H4, I4, r4, q4⟩ => thn (ho' pins s4 σ H4 y z' u w' _ I4 r2 r4 q4) fun d' s5 ⟨z5, H5, I5, r5, k5, e5, q5⟩ => ?_))
    subst e5
    cases r5
    refine wpAny_truthy_bool ?_
    cases k5 with
    | false => exact ite_ff ⟨.bl false, H5, I5, rfl, q5⟩
    | true => exact ite_tt (chain_last (thn (hd.run pins s5 σ H5 _ I5 q5) fun w6 s6 ⟨z6, H6, I6, r6, q6⟩ => ho'' pins s6 σ H6 z' z6 w' w6 Q I6 r4 r6 q6))
theorem pt_chain3 {op op' op'' : CmpOp} {r r' r'' : R2} (ho : OpR X (compareOp op) r) (ho' : OpR X (compareOp op') r') (ho'' : OpR X (compareOp op'') r'') (ha : PE X a ta) (hb : PE X b tb) (hc : PE X c tc) (hd : PE X d td)
    (hm : lastMarks [op, op', op''] [b, c, d] = false := by with_unfolding_all rfl) : PT X (.Compare a [op, op', op''] [b, c, d] pos) (tTest (tChain3 r r' r'' ta tb tc td)) := by
  refine ⟨fun pins s σ H Q I h => ?_⟩
  refine isTrue_chain (thn (ha.run pins s σ H _ I h) fun v s1 ⟨x, H1, I1, r1, q1⟩ => test_link (thn (hb.run pins s1 σ H1 _ I1 q1) fun u s2 ⟨y, H2, I2, r2, q2⟩ =>
    thn (ho pins s2 σ H2 x y v u _ I2 r1 r2 q2) fun d s3 ⟨z, H3, I3, r3, k, e, q3⟩ => ?_)) hm
  subst e
  cases r3
  refine wpAny_truthy_bool ?_
  cases k with
  | false =>
    obtain ⟨k', e', q'⟩ := q3
    cases e'
    exact ite_ff ⟨H3, I3, q'⟩
  | true =>
    refine ite_tt (test_link (thn (hc.run pins s3 σ H3 _ I3 q3) fun w' s4 ⟨z', H4, I4, r4, q4⟩ => thn (ho' pins s4 σ H4 y z' u w' _ I4 r2 r4 q4) fun d' s5 ⟨z5, H5, I5, r5, k5, e5, q5⟩ => ?_))
    subst e5
    cases r5
    refine wpAny_truthy_bool ?_
    cases k5 with
    | false =>
      obtain ⟨k', e', q'⟩ := q5
      cases e'
      exact ite_ff ⟨H5, I5, q'⟩
    | true =>
      refine ite_tt (test_last (thn (hd.run pins s5 σ H5 _ I5 q5) fun w6 s6 ⟨z6, H6, I6, r6, q6⟩ => thn (ho'' pins s6 σ H6 z' z6 w' w6 _ I6 r4 r6 q6) fun d7 s7 ⟨z7, H7, I7, r7, k7, e7, q7⟩ => ?_))
      subst e7
      cases r7
      exact wpAny_truthy_bool ⟨H7, I7, q7⟩
end
/-! f(k = v, ..): keywords alone -/
section
variable {X : Cx} {CX : CXT} {k : Nat} {f C : Addr} {fd : FuncData} {ps ks : List Str} {sp : Sp} {E : XK} {x m : Str} {p pos apos kpos : Pos} {kws : List Keyword} {tk : TA}
variable {g : List Value → List Value → List Value} {gV : List V → List V → List V}
theorem pe_callK0 (F : FnOk X.prog X.w X.K X.mg X.base CX k f fd ps sp) (hr : Room k X.A) (hg : Gl X x) (hm : X.mg x = some (.ref f)) (hk : PySem.W.keepIn X.K (.ref f) = true) (hb : KBinds X.K fd ps ks g gV) (hx : Passes CX X E)
    (hkw : PK X kws tk) (hall : (backToKw pos (keywordEach kws X.env)).all (·.1.isSome) = true := by rfl) (hks : (backToKw pos (keywordEach kws X.env)).filterMap (·.1) = ks := by rfl)
    (hdb : (x == ("__debug__" : Str)) = false := by decide)
    (hpl : ((backTo pos (starEach [] X.env)).any (·.1) || (backToKw pos (keywordEach kws X.env)).any (·.1.isNone)) = false := by rfl) :
    PE X (.Call (.Name x p) [] kws pos) (tCallK sp gV E tNil tk) := by
  refine ⟨fun pins s σ H Q I h => ?_⟩
  refine wpAny_Call_Name_kw (ld_glob I hg hm ?_ hdb)
  refine PySem.W.callWith_KW0 (h₀ := X.base) I.ok.mod.kin hk hall ?_ hpl
  refine thn (hkw.run pos pins s σ H _ I h) fun ws s2 ⟨zs, H2, I2, rz, q2⟩ => ⟨I2.kIn, ?_⟩
  rw [hks]
  exact run_fnk F hr hb hx I2 (us := []) (vs := []) .nil rz q2
end
theorem pe_gc {X : Cx} {x : Str} {pos : Pos} {v : V} (hg : Gl X x) (h : ∃ u, X.mg x = some u ∧ RelV v u) (hd : (x == ("__debug__" : Str)) = false := by decide) : PE X (.Name x pos) (tC v) := by
  obtain ⟨u, hm, r⟩ := h
  exact pe_glob hg hm r hd
/-! built-ins by name, with readings that have names -/
section
variable {X : Cx}
def rAbs : List V → Hp → VK → Prop := fun xs H Q => ∃ i, xs = [.int i] ∧ Q (.int (if i < 0 then -i else i)) H
def rMin2 : List V → Hp → VK → Prop := fun xs H Q => ∃ i j, xs = [.int i, .int j] ∧ Q (.int (if j < i then j else i)) H
def rIntI : List V → Hp → VK → Prop := fun xs H Q => ∃ i, xs = [.int i] ∧ Q (.int i) H
def rIntB : List V → Hp → VK → Prop := fun xs H Q => ∃ b, xs = [.bl b] ∧ Q (.int (if b then 1 else 0)) H
theorem call_absR : CallR X (.builtin "abs") rAbs := call_abs
theorem call_maxR (hc : X.calm = true) : CallR X (.builtin "max") rMax2 := call_max2 hc
theorem call_minR (hc : X.calm = true) : CallR X (.builtin "min") rMin2 := call_min2 hc
theorem call_intI : CallR X (.type "int") rIntI := by
  intro pins s σ H xs us Q I r h
  obtain ⟨i, e, q⟩ := h
  exact call_int1 pins s σ H xs us Q I r (.inl ⟨i, e, q⟩)
theorem call_intB : CallR X (.type "int") rIntB := by
  intro pins s σ H xs us Q I r h
  obtain ⟨i, e, q⟩ := h
  exact call_int1 pins s σ H xs us Q I r (.inr ⟨i, e, q⟩)
theorem call_lenR : CallR X (.builtin "len") (rLenS X.K) := call_len_seq
theorem call_listR : CallR X (.type "list") (rListS X.K) := call_list_of
def rTupS (K : PySem.W.Frag) : List V → Hp → VK → Prop := fun xs H Q => ∃ p ys, xs = [.ref p] ∧ SqL K H p ys ∧ ∀ l, H l = none → Q (.ref l) (upd H l (.tup ys))
theorem call_tupR : CallR X (.type "tuple") (rTupS X.K) := by
  intro pins s σ H xs us Q I r h
  obtain ⟨p, ys, e, hs, q⟩ := h
  exact call_tuple_of pins s σ H xs us Q I r ⟨p, ys, e, .inl ⟨hs, q⟩⟩
def rIsN1 : R2 := fun x y H Q => y = .non ∧ Q (.bl (decide (x = .non))) H
def rNotN1 : R2 := fun x y H Q => y = .non ∧ Q (.bl (!decide (x = .non))) H
theorem op_isNR : OpR X (compareOp .Is) rIsN1 := op_isN
theorem op_notNR : OpR X (compareOp .IsNot) rNotN1 := op_notN
end
/-! evaluations of these -/
section
variable {K : PySem.W.Frag} {σ : L2.St} {H H' : Hp} {ta tb tc td te : TE} {x y z v : V} {r : R2} {i j : Int}
theorem ev_abs (h : Ev ta σ H (.int i)) : Ev (tCB rAbs (tCons ta tNil)) σ H (.int (if i < 0 then -i else i)) := fun H1 e Q q => h H1 e _ fun H2 e2 => ⟨i, rfl, q H2 e2⟩
theorem ev_min2 (ha : Ev ta σ H (.int i)) (hb : Ev tb σ H (.int j)) : Ev (tCB rMin2 (tCons ta (tCons tb tNil))) σ H (.int (if j < i then j else i)) := fun H1 e Q q =>
  ha H1 e _ fun H2 e2 => hb H2 (e.trans e2) _ fun H3 e3 => ⟨i, j, rfl, q H3 (e2.trans e3)⟩
theorem ev_intI (h : Ev ta σ H (.int i)) : Ev (tCB rIntI (tCons ta tNil)) σ H (.int i) := fun H1 e Q q => h H1 e _ fun H2 e2 => ⟨i, rfl, q H2 e2⟩
theorem ev_intB {b : Bool} (h : Ev ta σ H (.bl b)) : Ev (tCB rIntB (tCons ta tNil)) σ H (.int (if b then 1 else 0)) := fun H1 e Q q => h H1 e _ fun H2 e2 => ⟨b, rfl, q H2 e2⟩
theorem rv_isN : RV rIsN1 x .non H (.bl (decide (x = .non))) := fun H1 _ _ q => ⟨rfl, q H1 (Ex.refl H1)⟩
theorem rv_notN : RV rNotN1 x .non H (.bl (!decide (x = .non))) := fun H1 _ _ q => ⟨rfl, q H1 (Ex.refl H1)⟩
theorem ev_chain {r r' : R2} {k : Bool} {k' : Bool} (ha : Ev ta σ H x) (hb : Ev tb σ H y) (hr : RV r x y H (.bl k)) (hc : k = true → ∃ z, Ev tc σ H z ∧ RV r' y z H (.bl k')) : Ev (tChain r r' ta tb tc) σ H (.bl (k && k')) := fun H1 e Q q =>
  ha H1 e _ fun H2 e2 => hb H2 (e.trans e2) _ fun H3 e3 => hr H3 ((e.trans e2).trans e3) _ fun H4 e4 => ⟨k, rfl, by
    cases k with
    | true =>
      obtain ⟨z, h1, h2⟩ := hc rfl
      exact h1 H4 (((e.trans e2).trans e3).trans e4) _ fun H5 e5 => h2 H5 ((((e.trans e2).trans e3).trans e4).trans e5) _ fun H6 e6 => q H6 ((((e2.trans e3).trans e4).trans e5).trans e6)
    | false => exact q H4 ((e2.trans e3).trans e4)⟩
theorem ev_chainI {C C' : Int → Int → Bool} {i j l : Int} (ha : Ev ta σ H (.int i)) (hb : Ev tb σ H (.int j)) (hc : Ev tc σ H (.int l)) :
    Ev (tChain (rI0 fun i j => .bl (C i j)) (rI0 fun i j => .bl (C' i j)) ta tb tc) σ H (.bl (C i j && C' j l)) := ev_chain ha hb rv_I0 fun _ => ⟨_, hc, rv_I0⟩
theorem ev_chain3I {C C' C'' : Int → Int → Bool} {i j l m : Int} (ha : Ev ta σ H (.int i)) (hb : Ev tb σ H (.int j)) (hc : Ev tc σ H (.int l)) (hd : Ev td σ H (.int m)) :
    Ev (tChain3 (rI0 fun i j => .bl (C i j)) (rI0 fun i j => .bl (C' i j)) (rI0 fun i j => .bl (C'' i j)) ta tb tc td) σ H (.bl (C i j && (C' j l && C'' l m))) := fun H1 e Q q =>
  ha H1 e _ fun H2 e2 => hb H2 (e.trans e2) _ fun H3 e3 => ⟨i, j, rfl, rfl, C i j, rfl, by
    have e23 := e2.trans e3
    generalize C i j = k1 at q ⊢
    cases k1 with
    | false => exact q H3 e23
    | true =>
      refine hc H3 (e.trans e23) _ fun H4 e4 => ⟨j, l, rfl, rfl, C' j l, rfl, ?_⟩
      generalize C' j l = k2 at q ⊢
      cases k2 with
      | false => exact q H4 (e23.trans e4)
      | true => exact hd H4 ((e.trans e23).trans e4) _ fun H5 e5 => ⟨l, m, rfl, rfl, q H5 ((e23.trans e4).trans e5)⟩⟩
theorem rv_eqTy {m n : String} (hm : Meta m) (hn : Meta n) : RV rEqTy (.ty m) (.ty n) H (.bl (decide (m = n))) := fun H1 _ _ q => ⟨m, n, rfl, rfl, hm, hn, q H1 (Ex.refl H1)⟩
theorem ev_typeI (h : Ev ta σ H (.int i)) : Ev (tThenZ ta kTyp) σ H (.ty "int") := fun H1 e Q q => h H1 e _ fun H2 e2 => ⟨"int", rfl, q H2 e2⟩
/-- a tuple that was made is read as two names -/
theorem s_tup2 {D : Ends} {i j : Nat} {p : Addr} (ha : Ev ta σ H (.ref p)) (hp : SqT K H p [x, y]) (k : ∀ H1, Ex H H1 → D.nx ((σ.set i (some x)).set j (some y)) H1) : tAsg ta (gTup K 2 (gCons (gName i) (gCons (gName j) gNil))) D σ H :=
  ha H (Ex.refl H) _ fun H1 e => ⟨p, [x, y], rfl, ex_t e hp, rfl, x, [y], rfl, y, [], rfl, rfl, k H1 e⟩
end
/-- a new tuple that is handed back -/
def RetU (xs : List V) (H : Hp) (Q : VK) : Prop := ∀ p H2, H p = none → Ex H H2 → H2 p = some (.tup xs) → Q (.ref p) H2
def SpU (sp : Sp) (vs : List V) (H : Hp) (xs : List V) : Prop := ∀ H1, Ex H H1 → ∀ Q : VK, (∀ p H2, H1 p = none → Ex H1 H2 → H2 p = some (.tup xs) → Q (.ref p) H2) → ∀ E : XK, sp vs H1 Q E
section
variable {K : PySem.W.Frag} {σ : L2.St} {H : Hp}
theorem eu_call {sp : Sp} {dvs vs xs : List V} {E : XK} {ta : TA} (h : EvA ta σ H vs) (hs : SpU sp (vs ++ dvs) H xs) : EvU (tCall sp dvs E ta) σ H xs := fun H1 e Q q =>
  h H1 e _ fun H2 e2 => hs H2 (e.trans e2) Q (fun p H3 hp e3 h3 => q p H3 (fresh_back e2 hp) (e2.trans e3) h3) E
/-- a, b = f(..), f's answer a new tuple -/
theorem s_tup2U {te : TE} {D : Ends} {i j : Nat} {x y : V} (ha : EvU te σ H [x, y]) (k : ∀ H1, Ex H H1 → D.nx ((σ.set i (some x)).set j (some y)) H1) : tAsg te (gTup K 2 (gCons (gName i) (gCons (gName j) gNil))) D σ H :=
  ha H (Ex.refl H) _ fun p H1 _ e h1 => ⟨p, [x, y], rfl, st_of h1, rfl, x, [y], rfl, y, [], rfl, rfl, k H1 e⟩
theorem q_tup2U {te : TE} {tz : TS} {D : Ends} {i j : Nat} {x y : V} (ha : EvU te σ H [x, y]) (k : ∀ H1, Ex H H1 → tz D ((σ.set i (some x)).set j (some y)) H1) : tSeq (tAsg te (gTup K 2 (gCons (gName i) (gCons (gName j) gNil)))) tz D σ H := s_tup2U (D := { D with nx := tz D }) ha k
theorem q_tup2 {ta : TE} {tz : TS} {D : Ends} {i j : Nat} {p : Addr} {x y : V} (ha : Ev ta σ H (.ref p)) (hp : SqT K H p [x, y]) (k : ∀ H1, Ex H H1 → tz D ((σ.set i (some x)).set j (some y)) H1) : tSeq (tAsg ta (gTup K 2 (gCons (gName i) (gCons (gName j) gNil)))) tz D σ H := s_tup2 (D := { D with nx := tz D }) ha hp k
/-- a, b = x, y -/
theorem s_par {ta : TA} {D : Ends} {i j : Nat} {x y : V} (ha : EvA ta σ H [x, y]) (k : ∀ H1, Ex H H1 → D.nx ((σ.set i (some x)).set j (some y)) H1) : tPar i j ta D σ H := ha H (Ex.refl H) _ fun H1 e => ⟨x, y, rfl, k H1 e⟩
theorem q_par {ta : TA} {tz : TS} {D : Ends} {i j : Nat} {x y : V} (ha : EvA ta σ H [x, y]) (k : ∀ H1, Ex H H1 → tz D ((σ.set i (some x)).set j (some y)) H1) : tSeq (tPar i j ta) tz D σ H := s_par (D := { D with nx := tz D }) ha k
end
theorem natAbs_pow_le {b : Int} {k : Nat} (h : b.natAbs < 2 ^ k) (n : Nat) : (b ^ n).natAbs ≤ 2 ^ (k * n) := by
  rw [Int.natAbs_pow, Nat.pow_mul]
  exact Nat.pow_le_pow_left (Nat.le_of_lt h) n
theorem lt_of_le2 {x k : Nat} (h : x ≤ 2 ^ k) : x < 2 ^ (k + 1) := Nat.lt_of_le_of_lt h (Nat.pow_lt_pow_right (by decide) (Nat.lt_succ_self k))
theorem lt2_mono {x k m : Nat} (h : x < 2 ^ k) (e : k ≤ m) : x < 2 ^ m := Nat.lt_of_lt_of_le h (Nat.pow_le_pow_right (by decide) e)
theorem natAbs_mul_lt {a b : Int} {k m : Nat} (ha : a.natAbs < 2 ^ k) (hb : b.natAbs < 2 ^ m) : (a * b).natAbs < 2 ^ (k + m) := wide_lt ha hb
/-! comprehensions -/
section
variable {K : PySem.W.Frag} {σ : L2.St} {H : Hp} {te tl : TE} {t : TT}
theorem et_yes : EvT tYes σ H true := fun H1 _ _ q => q H1 (Ex.refl H1)
theorem given_map {xs : List V} {F : V → V} : given xs.length (fun _ => true) (fun i => F (xs.getD i .non)) = xs.map F := by
  unfold given
  rw [List.filter_eq_self.mpr (fun _ _ => rfl)]
  refine List.ext_getElem (by simp) fun i h1 h2 => ?_
  simp at h1
  simp [h1]
/-- [e for x in xs] -/
theorem el_map {a : Addr} {xs : List V} {j : Nat} {vs : List Nat} (F : V → V) (h : Ev tl σ H (.ref a)) (hx : SqL K H a xs) (hz : xs.length ≤ 40000) (hw : ∀ x, wipe ((wipe σ vs).set j (some x)) vs = wipe σ vs)
    (he : ∀ (i : Nat) (x : V) H1, Ex H H1 → xs[i]? = some x → Ev te ((wipe σ vs).set j (some x)) H1 (F x)) : EvL (tLc (iList K tl) (gName j) tYes te vs) σ H (xs.map F) := by
  rw [← given_map]
  refine el_lcL _ _ h hx hz hw (fun _ _ _ _ _ => et_yes) fun i x H1 e hi _ => ?_
  have q := he i x H1 e hi
  have g : xs.getD i .non = x := by rw [List.getD_eq_getElem?_getD, hi] <;> rfl
  show Ev _ _ _ (F (xs.getD i .non))
  rw [g]
  exact q
theorem el_mapN {xs : List V} {j : Nat} {vs : List Nat} (F : V → V) (h : EvL tl σ H xs) (hz : xs.length ≤ 40000) (hw : ∀ x, wipe ((wipe σ vs).set j (some x)) vs = wipe σ vs)
    (he : ∀ (i : Nat) (x : V) H1, Ex H H1 → xs[i]? = some x → Ev te ((wipe σ vs).set j (some x)) H1 (F x)) : EvL (tLc (iList K tl) (gName j) tYes te vs) σ H (xs.map F) := by
  rw [← given_map]
  refine el_lcNL _ _ h hz hw (fun _ _ _ _ _ => et_yes) fun i x H1 e hi _ => ?_
  have q := he i x H1 e hi
  have g : xs.getD i .non = x := by rw [List.getD_eq_getElem?_getD, hi] <;> rfl
  show Ev _ _ _ (F (xs.getD i .non))
  rw [g]
  exact q
/-- [e for x in range(lo, hi) if t] -/
theorem el_lcR2 {ta : TA} {j : Nat} {vs : List Nat} {lo n : Int} (f : Nat → Bool) (v : Nat → V) (h : EvA ta σ H [.int lo, .int n]) (hn : 0 ≤ lo ∧ lo ≤ 40000 ∧ -40000 ≤ n ∧ n ≤ 40000) (hw : ∀ x, wipe ((wipe σ vs).set j (some x)) vs = wipe σ vs)
    (ht : ∀ (i : Nat) H1, Ex H H1 → lo + (i : Int) < n → EvT t ((wipe σ vs).set j (some (.int (lo + (i : Int))))) H1 (f i)) (he : ∀ (i : Nat) H1, Ex H H1 → lo + (i : Int) < n → f i = true → Ev te ((wipe σ vs).set j (some (.int (lo + (i : Int))))) H1 (v i)) :
    EvL (tLc (iRng2 ta) (gName j) t te vs) σ H (given (n - lo).toNat f v) := fun H0 e Q q => h H0 e _ fun H1 e1 => ⟨lo, n, rfl, ⟨by omega, by omega, by omega, by omega⟩, fun Dl hD =>
  lc_range (lo := lo) (n := (n - lo).toNat) (Cw H1 f v Dl) ⟨hD, Ex.new hD, upd_same⟩ (fun i H' hi p =>
    ⟨hw _, cw_turn p (by omega) (ht i H1 (e.trans e1) (by omega)) (fun hf => he i H1 (e.trans e1) (by omega) hf)⟩) (fun H' p => q Dl H' (fresh_back e1 p.1) (e1.trans p.2.1) p.2.2)⟩
theorem given_none {n : Nat} {f : Nat → Bool} {v : Nat → V} (h : ∀ i, i < n → f i = false) : given n f v = [] := by
  unfold given
  rw [List.filter_eq_nil_iff.mpr (fun i hi => by simp [h i (List.mem_range.mp hi)])]
  rfl
/-- xs + ys, both new -/
theorem el_cat {ta tb : TE} {xs ys : List V} (ha : EvL ta σ H xs) (hb : EvL tb σ H ys) (hl : xs.length + ys.length ≤ 100000) : EvL (tOp rCat ta tb) σ H (xs ++ ys) := fun H1 e Q q =>
  ha H1 e _ fun p H2 hp e2 h2 => hb H2 (e.trans e2) _ fun p' H3 hp' e3 h3 =>
    ⟨p, p', xs, ys, rfl, rfl, e3 p _ h2, h3, sz_of hl, fun l hl' => q l _ (fresh_back (e2.trans e3) hl') ((e2.trans e3).trans (Ex.new hl')) upd_same⟩
/-- [e for x, y in zip(xs, ys)] -/
theorem el_zip {ta : TA} {i j : Nat} {vs : List Nat} {a b : Addr} {xs ys : List V} (F : V → V → V) (h : EvA ta σ H [.ref a, .ref b]) (hx : SqL K H a xs) (hy : SqL K H b ys) (hl : xs.length = ys.length) (hz : xs.length ≤ 40000)
    (hw : ∀ x y, wipe (((wipe σ vs).set i (some x)).set j (some y)) vs = wipe σ vs)
    (he : ∀ (n : Nat) x y H1, Ex H H1 → xs[n]? = some x → ys[n]? = some y → Ev te (((wipe σ vs).set i (some x)).set j (some y)) H1 (F x y)) :
    EvL (tLc (iZip K ta) (gTup K 2 (gCons (gName i) (gCons (gName j) gNil))) tYes te vs) σ H (List.zipWith F xs ys) := fun H0 e Q q => h H0 e _ fun H1 e1 => ⟨a, b, xs, ys, rfl, ex_l (e.trans e1) hx, ex_l (e.trans e1) hy, fun Dl hD => by
  refine lc_it (walk_zip (n := xs.length) (by omega)) (fun n H' => Ex H1 H' ∧ H' Dl = some (.lst ((List.zipWith F xs ys).take n))) ⟨Ex.new hD, upd_same⟩ (fun n H' _ p => ⟨ex_l ((e.trans e1).trans p.1) hx, ex_l ((e.trans e1).trans p.1) hy⟩) ?_ fun H' p => ?_
  · rintro n v Hh H' hn ⟨p1, p2⟩ ⟨T, x, y, rfl, nT, rfl, g1, g2⟩
    have eT : Ex Hh (upd Hh T (.tup [x, y])) := Ex.new nT
    refine ⟨T, [x, y], rfl, st_of upd_same, rfl, x, [y], rfl, y, [], rfl, rfl, hw x y, ?_⟩
    show te _ _ _
    refine he n x y H1 (e.trans e1) g1 g2 _ (p1.trans eT) _ fun H4 e4 => ?_
    have k2 := e4 Dl _ (eT Dl _ p2)
    refine ⟨_, k2, sz_lt (by rw [List.length_take]; omega), Ex.mut (p1.trans (eT.trans e4)) hD, ?_⟩
    rw [upd_same]
    have gz : (List.zipWith F xs ys)[n]? = some (F x y) := by
      rw [List.getElem?_zipWith, show xs[n]? = some x from g1, show ys[n]? = some y from g2]
    rw [List.take_add_one, gz]
    rfl
  · obtain ⟨p1, p2⟩ := p
    rw [List.take_of_length_le (by rw [List.length_zipWith]; omega)] at p2
    exact q Dl H' (fresh_back e1 hD) (e1.trans p1) p2⟩
theorem ev_gcd {ta tb : TE} {a b : Int} (ha : Ev ta σ H (.int a)) (hb : Ev tb σ H (.int b)) : Ev (tCB rGcd (tCons ta (tCons tb tNil))) σ H (.int ((Nat.gcd a.natAbs b.natAbs : Nat) : Int)) := fun H1 e Q q =>
  ha H1 e _ fun H2 e2 => hb H2 (e.trans e2) _ fun H3 e3 => ⟨a, b, rfl, q H3 (e2.trans e3)⟩
end
/-! data, compared by == -/
section
variable {K : PySem.W.Frag} {σ : L2.St} {H H' : Hp}
mutual
theorem Dp.ex (e : Ex H H') : ∀ (d : PyData) (v : V), Dp K H v d → Dp K H' v d
  | .none, _, h => by cases h; exact .non
  | .bool _, _, h => by cases h; exact .bl _
  | .int _, _, h => by cases h; exact .int _
  | .str _, _, h => by cases h; exact .str _
  | .list ds, _, h => by
    cases h with
    | lst hs ha => exact .lst (ex_l e hs) (DpAll.ex e ds _ ha)
  | .tuple ds, _, h => by
    cases h with
    | tup hs ha => exact .tup (ex_t e hs) (DpAll.ex e ds _ ha)
  | .dict _, _, h => by cases h
theorem DpAll.ex (e : Ex H H') : ∀ (ds : List PyData) (vs : List V), DpAll K H vs ds → DpAll K H' vs ds
  | [], _, h => by cases h; exact .nil
  | d :: ds, _, h => by
    cases h with
    | cons h1 h2 => exact .cons (Dp.ex e d _ h1) (DpAll.ex e ds _ h2)
end
theorem DpAll.len : ∀ {ds : List PyData} {vs : List V}, DpAll K H vs ds → vs.length = ds.length
  | [], _, h => by cases h; rfl
  | d :: ds, _, h => by
    cases h with
    | cons h1 h2 => simp [DpAll.len h2]
def EvD (K : PySem.W.Frag) (te : TE) (σ : L2.St) (H : Hp) (d : PyData) : Prop := ∀ H1, Ex H H1 → ∀ Q : VK, (∀ v H2, Ex H1 H2 → Dp K H2 v d → Q v H2) → te σ H1 Q
def EvDA (K : PySem.W.Frag) (ta : TA) (σ : L2.St) (H : Hp) (ds : List PyData) : Prop := ∀ H1, Ex H H1 → ∀ Q : List V → Hp → Prop, (∀ vs H2, Ex H1 H2 → DpAll K H2 vs ds → Q vs H2) → ta σ H1 Q
variable {te ta tb : TE} {d e : PyData} {ds : List PyData}
theorem ed_of {v : V} (h : Ev te σ H v) (k : Dp K H v d) : EvD K te σ H d := fun H1 e1 Q q => h H1 e1 Q fun H2 e2 => q v H2 e2 (Dp.ex (e1.trans e2) d v k)
theorem ed_int {i : Int} (h : Ev te σ H (.int i)) : EvD K te σ H (.int i) := ed_of h (.int i)
theorem ed_bl {i : Bool} (h : Ev te σ H (.bl i)) : EvD K te σ H (.bool i) := ed_of h (.bl i)
theorem ed_non (h : Ev te σ H .non) : EvD K te σ H .none := ed_of h .non
theorem ed_str {i : Str} (h : Ev te σ H (.str i)) : EvD K te σ H (.str i) := ed_of h (.str i)
theorem eda_nil : EvDA K tNil σ H [] := fun H1 _ _ q => q [] H1 (Ex.refl H1) .nil
theorem eda_cons {tr : TA} (h : EvD K te σ H d) (hr : EvDA K tr σ H ds) : EvDA K (tCons te tr) σ H (d :: ds) := fun H1 e _ q =>
  h H1 e _ fun v H2 e2 dv => hr H2 (e.trans e2) _ fun vs H3 e3 dvs => q (v :: vs) H3 (e2.trans e3) (.cons (Dp.ex e3 d v dv) dvs)
theorem ed_lst {t : TA} (h : EvDA K t σ H ds) (hl : ds.length ≤ 100000) : EvD K (tLst t) σ H (.list ds) := fun H1 e _ q =>
  h H1 e _ fun vs H2 e2 dv => ⟨sz_of (by rw [DpAll.len dv]; exact hl), fun p hp => q _ _ (e2.trans (Ex.new hp)) (.lst (sq_of upd_same) (DpAll.ex (Ex.new hp) ds vs dv))⟩
theorem ed_tup {t : TA} (h : EvDA K t σ H ds) (hl : ds.length ≤ 100000) : EvD K (tTup t) σ H (.tuple ds) := fun H1 e _ q =>
  h H1 e _ fun vs H2 e2 dv => ⟨sz_of (by rw [DpAll.len dv]; exact hl), fun p hp => q _ _ (e2.trans (Ex.new hp)) (.tup (st_of upd_same) (DpAll.ex (Ex.new hp) ds vs dv))⟩
theorem ed_ofL {xs : List V} (h : EvL te σ H xs) (k : DpAll K H xs ds) : EvD K te σ H (.list ds) := fun H1 e1 Q q => h H1 e1 Q fun p H2 _ e2 h2 => q _ H2 e2 (.lst (sq_of h2) (DpAll.ex (e1.trans e2) ds xs k))
theorem ed_ofU {xs : List V} (h : EvU te σ H xs) (k : DpAll K H xs ds) : EvD K te σ H (.tuple ds) := fun H1 e1 Q q => h H1 e1 Q fun p H2 _ e2 h2 => q _ H2 e2 (.tup (st_of h2) (DpAll.ex (e1.trans e2) ds xs k))
theorem dpa_ints : ∀ ns : List Int, DpAll K H (ns.map V.int) (ns.map PyData.int)
  | [] => .nil
  | n :: r => .cons (.int n) (dpa_ints r)
theorem ev_eqD (ha : EvD K ta σ H d) (hb : EvD K tb σ H e) (sd : SeqAt.shaped d = true) (se : SeqAt.shaped e = true) : Ev (tOp (rEqD K) ta tb) σ H (.bl (PyData.eqv d e)) := fun H1 e1 Q q =>
  ha H1 e1 _ fun v H2 e2 dv => hb H2 (e1.trans e2) _ fun u H3 e3 du => ⟨d, e, Dp.ex e3 d v dv, du, sd, se, q H3 (e2.trans e3)⟩
theorem ev_neD (ha : EvD K ta σ H d) (hb : EvD K tb σ H e) (sd : SeqAt.shaped d = true) (se : SeqAt.shaped e = true) : Ev (tOp (rNeD K) ta tb) σ H (.bl (!PyData.eqv d e)) := fun H1 e1 Q q =>
  ha H1 e1 _ fun v H2 e2 dv => hb H2 (e1.trans e2) _ fun u H3 e3 du => ⟨d, e, Dp.ex e3 d v dv, du, sd, se, q H3 (e2.trans e3)⟩
theorem shaped_ints : ∀ ns : List Int, SeqAt.shaped (.list (ns.map PyData.int)) = true := fun ns => by
  have h1 : ∀ ms : List Int, PyData.canLayAll0 (ms.map PyData.int) = true := fun ms => by
    induction ms with
    | nil => rfl
    | cons m r ih => simp [PyData.canLayAll0, PyData.canLay0, ih]
  have h2 : ∀ ms : List Int, PyData.depthAll (ms.map PyData.int) = 0 := fun ms => by
    induction ms with
    | nil => rfl
    | cons m r ih => simp [PyData.depthAll, PyData.depth, ih]
  simp [SeqAt.shaped, PyData.canLay0, h1, PyData.depth, h2]
theorem eqv_same {d : PyData} (h : SeqAt.shaped d = true) : PyData.eqv d d = true := by
  have h1 : PyData.canLay0 d = true := (Bool.and_eq_true_iff.mp h).1
  first
    | exact PySem.P3.eqv_refl d h1
    | exact PyData.eqv_refl d h1
    | exact PySem.SeqAt.eqv_refl d h1
/-- f(k = v): a new tuple back -/
theorem eu_callK {sp : Sp} {gV : List V → List V → List V} {E : XK} {t tk : TA} {vs zs xs : List V} (h : EvA t σ H vs) (hk : EvA tk σ H zs) (hs : SpU sp (gV vs zs) H xs) : EvU (tCallK sp gV E t tk) σ H xs := fun H1 e Q q =>
  h H1 e _ fun H2 e2 => hk H2 (e.trans e2) _ fun H3 e3 => hs H3 ((e.trans e2).trans e3) Q (fun p H4 hp e4 h4 => q p H4 (fresh_back (e2.trans e3) hp) ((e2.trans e3).trans e4) h4) E
theorem ev_callK {sp : Sp} {gV : List V → List V → List V} {E : XK} {t tk : TA} {vs zs : List V} {z : V} (h : EvA t σ H vs) (hk : EvA tk σ H zs) (hs : SpV sp (gV vs zs) H z) : Ev (tCallK sp gV E t tk) σ H z := fun H1 e Q q =>
  h H1 e _ fun H2 e2 => hk H2 (e.trans e2) _ fun H3 e3 => hs H3 ((e.trans e2).trans e3) Q (fun H4 e4 => q H4 ((e2.trans e3).trans e4)) E
/-- isinstance(x, tuple) of a tuple; len of a tuple -/
theorem ev_isT {p : Addr} {xs : List V} {n : String} {b : Bool} (h : Ev ta σ H (.ref p)) (hp : H p = some (.tup xs)) (hk : PySem.W.kitOne K (.type "tuple") (.type n) = some b) : Ev (tCB (rIsi K) (tCons ta (tCons (tC (.ty n)) tNil))) σ H (.bl b) := fun H1 e Q q =>
  h H1 e _ fun H2 e2 => ⟨.ref p, .ty n, .type "tuple", .type n, b, rfl, .ty n, .base (.tup (e2 p _ (e p _ hp))), hk, q H2 e2⟩
theorem ev_lenT {p : Addr} {xs : List V} (ha : Ev ta σ H (.ref p)) (h : SqT K H p xs) : Ev (tCB (rLenS K) (tCons ta tNil)) σ H (.int (xs.length : Int)) := fun H1 e Q q =>
  ha H1 e _ fun H2 e2 => ⟨p, xs, rfl, Or.inr (ex_t (e.trans e2) h), q H2 e2⟩
/-- list(range(a, b)) -/
theorem el_rg2 {a b : Int} (ha : Ev ta σ H (.int a)) (hb : Ev tb σ H (.int b)) (h : RgOk a b) : EvL (tLstRg (tRg2 ta tb)) σ H (rgV a b) := fun H1 e Q q =>
  ha H1 e _ fun H2 e2 => hb H2 (e.trans e2) _ fun H3 e3 => ⟨a, b, rfl, rfl, h, fun p hp => q p _ (fresh_back (e2.trans e3) hp) ((e2.trans e3).trans (Ex.new hp)) upd_same⟩
theorem el_rg1 {b : Int} (hb : Ev tb σ H (.int b)) (h : RgOk 0 b) : EvL (tLstRg (tRg1 tb)) σ H (rgV 0 b) := fun H1 e Q q =>
  hb H1 e _ fun H3 e3 => ⟨b, rfl, h, fun p hp => q p _ (fresh_back e3 hp) (e3.trans (Ex.new hp)) upd_same⟩
end
/-! more statements -/
section
variable {K : PySem.W.Frag} {σ : L2.St} {H H' : Hp} {te tl : TE} {t : TT} {D : Ends} {tu tz : TS} {g : TG}
/-- a comprehension over range(lo, n) that keeps nothing -/
theorem el_noneR2 {ta : TA} {j : Nat} {vs : List Nat} {lo n : Int} (h : EvA ta σ H [.int lo, .int n]) (hn : 0 ≤ lo ∧ lo ≤ 40000 ∧ -40000 ≤ n ∧ n ≤ 40000) (hw : ∀ x, wipe ((wipe σ vs).set j (some x)) vs = wipe σ vs)
    (ht : ∀ (i : Nat) H1, Ex H H1 → lo + (i : Int) < n → EvT t ((wipe σ vs).set j (some (.int (lo + (i : Int))))) H1 false) : EvL (tLc (iRng2 ta) (gName j) t te vs) σ H [] := by
  have q := el_lcR2 (te := te) (fun _ => false) (fun _ => .non) h hn hw ht (fun _ _ _ _ hf => Bool.noConfusion hf)
  rw [given_none (fun _ _ => rfl)] at q
  exact q
/-- a for over a new tuple -/
theorem s_forNU {xs : List V} (h : EvU tl σ H xs) (Pv : Addr → Nat → L2.St → Hp → Prop) (h0 : ∀ p H1, H p = none → Ex H H1 → H1 p = some (.tup xs) → Pv p 0 σ H1) (hl : ∀ p i σ' H', i ≤ xs.length → Pv p i σ' H' → SqT K H' p xs)
    (hs : ∀ p i x σ' H', xs[i]? = some x → Pv p i σ' H' → g x σ' H' fun σ2 H2 => tu { D with nx := Pv p (i + 1), ct := Pv p (i + 1), bk := D.nx } σ2 H2) (hd : ∀ p σ' H', Pv p xs.length σ' H' → D.nx σ' H') : tFor (iTup K tl) g tu D σ H :=
  h H (Ex.refl H) _ fun p H1 hp e h1 => ⟨p, rfl, ⟨xs, st_of h1⟩, for_tup (Pv p) (h0 p H1 hp e h1) (hl p) (hs p) (hd p)⟩
theorem q_forNU {xs : List V} (h : EvU tl σ H xs) (Pv : Addr → Nat → L2.St → Hp → Prop) (h0 : ∀ p H1, H p = none → Ex H H1 → H1 p = some (.tup xs) → Pv p 0 σ H1) (hl : ∀ p i σ' H', i ≤ xs.length → Pv p i σ' H' → SqT K H' p xs)
    (hs : ∀ p i x σ' H', xs[i]? = some x → Pv p i σ' H' → g x σ' H' fun σ2 H2 => tu { D with nx := Pv p (i + 1), ct := Pv p (i + 1), bk := tz D } σ2 H2) (hd : ∀ p σ' H', Pv p xs.length σ' H' → tz D σ' H') : tSeq (tFor (iTup K tl) g tu) tz D σ H :=
  s_forNU (D := { D with nx := tz D }) h Pv h0 hl hs hd
theorem s_asgD {i : Nat} {d : PyData} (h : EvD K te σ H d) (k : ∀ v H1, Ex H H1 → Dp K H1 v d → D.nx (σ.set i (some v)) H1) : tAsg te (gName i) D σ H := h H (Ex.refl H) _ fun v H1 e dv => k v H1 e dv
theorem q_asgD {i : Nat} {d : PyData} (h : EvD K te σ H d) (k : ∀ v H1, Ex H H1 → Dp K H1 v d → tz D (σ.set i (some v)) H1) : tSeq (tAsg te (gName i)) tz D σ H := s_asgD (D := { D with nx := tz D }) h k
end
end Kit
set_option Elab.async false
set_option linter.all false
set_option maxRecDepth 100000
set_option maxHeartbeats 4000000
namespace Kit
open PySem PySem.Spec PyProof.Rows L2 Evl
theorem slot_type_ne : Slot "type" (cmpInfo .NotEq).2.1 "object.__ne__" :=
  .of (owner := "object") (n := "__ne__") (by rw [typeLookup_type, builtinLookup_eq_fast]; kernel_rfl) (by decide +kernel) (by decide +kernel) (by decide +kernel)
    (by first | exact .inl (by decide +kernel) | exact .inr (by decide +kernel)) (by rw [isSubtype_type]; kernel_rfl)
theorem slot_type_eqN : Slot "type" "__eq__" "object.__eq__" :=
  .of (owner := "object") (n := "__eq__") (by rw [typeLookup_type, builtinLookup_eq_fast]; kernel_rfl) (by decide +kernel) (by decide +kernel) (by decide +kernel)
    (by first | exact .inl (by decide +kernel) | exact .inr (by decide +kernel)) (by rw [isSubtype_type]; kernel_rfl)
section
variable {prog : Program} {w : World} {A : Around} {E : Value → Shared → Prop} {s : Shared} {Q : Value → Shared → Prop}
theorem ne_type_same {X : String} (hX : ∀ s' : Shared, s'.TypeIs (.type X) "type") (hu : A.units + 1 < cLine) (h : Q (.bool false) s) : wpAny (model prog w) A (compareOp .NotEq (.type X) (.type X)) Q E s := by
  show wpAny _ A (richCompare .NotEq _ _) Q E s
  refine wpAny_richCompare_same (T := "type") (hX s) (hX s) slot_type_ne ?_
  refine wpAny_call_entry slot_type_ne (hX s) PySem.F.cmpEntry_ne ?_ (PySem.F.cmpArgs_ne _ _)
  unfold Builtin.«object.__ne__»
  have key : wpAny (model prog w) A.in1 (call (.builtin "object.__eq__") [.type X, .type X]) (fun v s' => v = .bool true ∧ s' = s) E s :=
    call_gives slot_type_eqN (hX s) F.entry_object_eq (F.args_object_eq_2 _ _) (PySem.TypeEq.object_eq_same rfl (by simp)) ⟨rfl, rfl⟩
  repeat (first
    | with_reducible refine wpAny_cRoomFor (by show A.units + 1 < cLine; exact hu) ?_
    | (refine wpAny_bind (m := callSpecialIfBound? (.type X) (Str.ofString "__eq__") [.type X])
        (wpAny_callSpecialIfBound?_slot (hX _) slot_type_eqN (wpAny_mono key (fun r s' hr => by
          obtain ⟨rfl, rfl⟩ := hr
          have hq : Q (.bool false) s' := h
          repeat (first | exact ⟨_, rfl, (by intro e; cases e), hq⟩ | exact wpAny_pure ⟨_, rfl, (by intro e; cases e), hq⟩ | (refine wpAny_bind (m := truthy (.bool _)) (wpAny_truthy_bool ?_)) | wp_step)) fun _ _ e => e)))
    | wp_step)
end
end Kit
set_option Elab.async false
set_option linter.all false
set_option maxRecDepth 100000
set_option maxHeartbeats 4000000
namespace Kit
open PySem PySem.Spec PyProof.Rows L2 Evl
section
variable {X : Cx}
def rNeTyS : R2 := fun x y H Q => ∃ m, x = .ty m ∧ y = .ty m ∧ Meta m ∧ Q (.bl false) H
theorem op_neTyS (hu : X.A.units + 1 < cLine) : OpR X (compareOp .NotEq) rNeTyS := by
  intro pins s σ H x y v u Q I rx ry h
  obtain ⟨m, rfl, rfl, hm, q⟩ := h
  cases (show v = Value.type m from rx)
  cases (show u = Value.type m from ry)
  exact ne_type_same hm hu ⟨.bl false, H, I, rfl, q⟩
/-- min of a tuple of ints -/
def rMinT (K : PySem.W.Frag) : List V → Hp → VK → Prop := fun vs H Q => ∃ (a : Addr) (n : Int) (ns : List Int), vs = [V.ref a] ∧ SqT K H a ((n :: ns).map V.int) ∧ Q (.int (ns.foldl min n)) H
theorem alike_ints (ns : List Int) : PySem.W.AlikeAll (ns.map PyData.int) := by
  refine ⟨fun x hx y hy => ?_, fun x hx => ?_⟩
  · obtain ⟨a, _, rfl⟩ := List.mem_map.mp hx
    obtain ⟨b, _, rfl⟩ := List.mem_map.mp hy
    rfl
  · obtain ⟨a, _, rfl⟩ := List.mem_map.mp hx
    exact fun z => by cases z
theorem depth_ints : ∀ ms : List Int, PyData.depthAll (ms.map PyData.int) = 0
  | [] => rfl
  | m :: r => by simp [PyData.depthAll, PyData.depth, depth_ints r]
theorem cr_minT (hc : X.calm = true) (hu : X.A.units + 1 < cLine) : CallR X (.builtin "min") (rMinT X.K) := by
  intro pins s σ H vs us Q I r h
  obtain ⟨a, n, ns, rfl, hs, q⟩ := h
  obtain ⟨its, rv, hl, _⟩ := I.tuple hs
  rw [Vals.ref1 r]
  obtain ⟨as, rd⟩ := Dp.readsAll I (PyData.int n :: ns.map PyData.int) _ its (dpa_ints (n :: ns)) rv
  refine PySem.W.min_tuple_data (I.ok.hd hc) (show s.heap.IsTuple a its.toArray from hl) (by simpa using rd) (alike_ints (n :: ns)) ?_ fun i v h' tk bs hv hr hk => ?_
  · have := depth_ints (n :: ns)
    rw [List.map_cons] at this
    rw [this]
    exact hu
  · rw [PySem.W.minD_ints] at hr
    cases hr with
    | int _ t => exact ⟨.int (ns.foldl min n), H, I.kept (t' := tk) hk, ⟨_, rfl⟩, q⟩
theorem foldl_min_spec : ∀ (ns : List Int) (n : Int), ns.foldl min n ∈ n :: ns ∧ ∀ y ∈ n :: ns, ns.foldl min n ≤ y
  | [], n => ⟨by simp, by simp⟩
  | k :: r, n => by
    obtain ⟨h1, h2⟩ := foldl_min_spec r (min n k)
    refine ⟨?_, fun y hy => ?_⟩
    · rcases List.mem_cons.mp h1 with e | e
      · rw [List.foldl_cons, e]
        rcases Int.le_total n k with h | h
        · rw [Int.min_eq_left h]; simp
        · rw [Int.min_eq_right h]; simp
      · simp [List.foldl_cons, e]
    · have h3 := h2 (min n k) (by simp)
      rw [List.foldl_cons]
      rcases List.mem_cons.mp hy with e | hy
      · omega
      · rcases List.mem_cons.mp hy with e | hy
        · omega
        · exact h2 y (by simp [hy])
end
/-! readings of these -/
section
variable {K : PySem.W.Frag} {σ : L2.St} {H H' : Hp} {ta tb te tl : TE} {D : Ends} {tu tz : TS} {t : TT}
theorem ev_typeL {p : Addr} {xs : List V} (h : Ev ta σ H (.ref p)) (hp : H p = some (.lst xs)) : Ev (tThenZ ta kTyp) σ H (.ty "list") := fun H1 e Q q => h H1 e _ fun H2 e2 => ⟨"list", by
  have := e2 p _ (e p _ hp)
  simp [zTyV, this], q H2 e2⟩
theorem ev_typeT {p : Addr} {xs : List V} (h : Ev ta σ H (.ref p)) (hp : H p = some (.tup xs)) : Ev (tThenZ ta kTyp) σ H (.ty "tuple") := fun H1 e Q q => h H1 e _ fun H2 e2 => ⟨"tuple", by
  have := e2 p _ (e p _ hp)
  simp [zTyV, this], q H2 e2⟩
theorem rv_neTyS {m : String} (hm : Meta m) : RV rNeTyS (.ty m) (.ty m) H (.bl false) := fun H1 _ _ q => ⟨m, rfl, rfl, hm, q H1 (Ex.refl H1)⟩
theorem ev_sumN {ns : List Int} (h : EvL ta σ H (ns.map V.int)) : Ev (tCB (rSum K) (tCons ta tNil)) σ H (.int ns.sum) := fun H1 e Q q => h H1 e _ fun p H2 _ e2 h2 => ⟨p, ns, rfl, sq_of h2, q H2 e2⟩
theorem ev_allN {bs : List Bool} (h : EvL ta σ H (bs.map V.bl)) : Ev (tCB (rAll K) (tCons ta tNil)) σ H (.bl (bs.all id)) := fun H1 e Q q => h H1 e _ fun p H2 _ e2 h2 => ⟨p, bs, rfl, sq_of h2, q H2 e2⟩
theorem ev_minT {p : Addr} {n : Int} {ns : List Int} (h : Ev ta σ H (.ref p)) (hp : SqT K H p ((n :: ns).map V.int)) : Ev (tCB (rMinT K) (tCons ta tNil)) σ H (.int (ns.foldl min n)) := fun H1 e Q q => h H1 e _ fun H2 e2 => ⟨p, n, ns, rfl, ex_t (e.trans e2) hp, q H2 e2⟩
/-- sorted(xs), told by what it is -/
theorem ed_sorted {p : Addr} {ns ms : List Int} (h : Ev ta σ H (.ref p)) (hp : SqL K H p (ns.map V.int)) (hl : ns.length < 64) (hm : ms.Perm ns) (hs : ms.Pairwise (· ≤ ·)) : EvD K (tCB (rSorted K) (tCons ta tNil)) σ H (.list (ms.map PyData.int)) := fun H1 e Q q => h H1 e _ fun H2 e2 =>
  ⟨p, ns, rfl, ex_l (e.trans e2) hp, hl, fun ns' l pm so new => by
    have eq : ns' = ms := by
      exact List.Perm.eq_of_pairwise (le := fun a b : Int => a ≤ b) (fun a b _ _ h1 h2 => Int.le_antisymm h1 h2) so hs (pm.trans hm.symm)
    subst eq
    exact q _ _ (e2.trans (Ex.new new)) (.lst (sq_of upd_same) (dpa_ints _))⟩
/-- a new tuple of a list's items -/
theorem eu_tupOf {p : Addr} {xs : List V} (h : Ev ta σ H (.ref p)) (hp : SqL K H p xs) : EvU (tCB (rTupS K) (tCons ta tNil)) σ H xs := fun H1 e Q q => h H1 e _ fun H2 e2 =>
  ⟨p, xs, rfl, ex_l (e.trans e2) hp, fun l hl => q l _ (fresh_back e2 hl) (e2.trans (Ex.new hl)) upd_same⟩
/-- [0] * n -/
theorem el_rep {xs : List V} {k : Int} (ha : EvL ta σ H xs) (hb : Ev tb σ H (.int k)) (h0 : 0 ≤ k) (h1 : k ≤ 1000) (hx : xs.length ≤ 50) : EvL (tOp rRep ta tb) σ H (List.replicate k.toNat xs).flatten := fun H1 e Q q =>
  ha H1 e _ fun p H2 hp e2 h2 => hb H2 (e.trans e2) _ fun H3 e3 => ⟨p, k, xs, rfl, rfl, e3 p _ h2, by omega, by omega, sz_of (by
    have : xs.length * k.toNat ≤ 50 * 1000 := Nat.mul_le_mul hx (by omega)
    omega), fun l hl => q l _ (fresh_back (e2.trans e3) hl) ((e2.trans e3).trans (Ex.new hl)) upd_same⟩
/-- xs[::-1] -/
theorem el_rev {p : Addr} {xs : List V} (h : Ev ta σ H (.ref p)) (hp : SqL K H p xs) : EvL (tRevL K ta) σ H xs.reverse := fun H1 e Q q => h H1 e _ fun H2 e2 =>
  ⟨p, xs, rfl, ex_l (e.trans e2) hp, fun l hl => q l _ (fresh_back e2 hl) (e2.trans (Ex.new hl)) upd_same⟩
theorem el_revN {xs : List V} (h : EvL ta σ H xs) : EvL (tRevL K ta) σ H xs.reverse := fun H1 e Q q => h H1 e _ fun p H2 _ e2 h2 =>
  ⟨p, xs, rfl, sq_of h2, fun l hl => q l _ (fresh_back e2 hl) (e2.trans (Ex.new hl)) upd_same⟩
/-- for i, x in enumerate(xs): the pair is a new tuple -/
theorem s_forEn {ta : TA} {i j : Nat} {a : Addr} {xs : List V} (h : EvA ta σ H [.ref a]) (hx : SqL K H a xs) (Pv : Nat → L2.St → Hp → Prop) (h0 : ∀ H1, Ex H H1 → Pv 0 σ H1) (hl : ∀ n σ' H', n ≤ xs.length → Pv n σ' H' → SqL K H' a xs)
    (hs : ∀ n x σ' H' H2, xs[n]? = some x → Pv n σ' H' → Ex H' H2 → tu { D with nx := Pv (n + 1), ct := Pv (n + 1), bk := D.nx } ((σ'.set i (some (.int (n : Int)))).set j (some x)) H2) (hd : ∀ σ' H', Pv xs.length σ' H' → D.nx σ' H') :
    tFor (iEnum K ta) (gTup K 2 (gCons (gName i) (gCons (gName j) gNil))) tu D σ H := h H (Ex.refl H) _ fun H1 e => ⟨a, xs, rfl, ex_l e hx, by
  refine for_it walk_enum Pv (h0 H1 e) (fun n σ' H' hn p => hl n σ' H' hn p) ?_ hd
  rintro n v σ' Hh H2 hn p ⟨T, x, y, rfl, nT, rfl, g1, g2⟩
  have ex : V.int (n : Nat) = x := Option.some.inj g1
  subst ex
  exact ⟨T, [.int (n : Nat), y], rfl, st_of upd_same, rfl, _, [y], rfl, y, [], rfl, rfl, hs n y σ' Hh _ g2 p (Ex.new nT)⟩⟩
theorem q_forEn {ta : TA} {i j : Nat} {a : Addr} {xs : List V} (h : EvA ta σ H [.ref a]) (hx : SqL K H a xs) (Pv : Nat → L2.St → Hp → Prop) (h0 : ∀ H1, Ex H H1 → Pv 0 σ H1) (hl : ∀ n σ' H', n ≤ xs.length → Pv n σ' H' → SqL K H' a xs)
    (hs : ∀ n x σ' H' H2, xs[n]? = some x → Pv n σ' H' → Ex H' H2 → tu { D with nx := Pv (n + 1), ct := Pv (n + 1), bk := tz D } ((σ'.set i (some (.int (n : Int)))).set j (some x)) H2) (hd : ∀ σ' H', Pv xs.length σ' H' → tz D σ' H') :
    tSeq (tFor (iEnum K ta) (gTup K 2 (gCons (gName i) (gCons (gName j) gNil))) tu) tz D σ H := s_forEn (D := { D with nx := tz D }) h hx Pv h0 hl hs hd
end
end Kit
set_option Elab.async false
set_option linter.all false
set_option maxRecDepth 100000
set_option maxHeartbeats 4000000
namespace Kit
open PySem PySem.Spec PyProof.Rows L2 Evl
/-! ### new lists of new tuples -/
def TL (H : Hp) (vs : List V) (rs : List (List V)) : Prop := Paired (fun v r => ∃ a, v = .ref a ∧ H a = some (.tup r)) vs rs
theorem TL.imp {H H' : Hp} (f : ∀ a r, H a = some (.tup r) → H' a = some (.tup r)) : ∀ {vs : List V} {rs : List (List V)}, TL H vs rs → TL H' vs rs
  | _, _, .nil => .nil
  | _, _, .cons ⟨a, e, h⟩ t => .cons ⟨a, e, f a _ h⟩ (TL.imp f t)
theorem TL.ex {H H' : Hp} {vs : List V} {rs : List (List V)} (e : Ex H H') (h : TL H vs rs) : TL H' vs rs := h.imp fun a r x => e a _ x
theorem TL.upd {H : Hp} {l : Addr} {xs : List V} {o : HO} {vs : List V} {rs : List (List V)} (hl : H l = some (.lst xs)) (h : TL H vs rs) : TL (upd H l o) vs rs := h.imp fun a r x => by
  rw [upd_ne (ne_of x hl (by intro z; cases z))]
  exact x
theorem TL.len {H : Hp} : ∀ {vs : List V} {rs : List (List V)}, TL H vs rs → vs.length = rs.length
  | _, _, .nil => rfl
  | _, _, .cons _ t => by rw [List.length_cons, List.length_cons, TL.len t]
theorem TL.app {H : Hp} {v : V} {r : List V} (hv : ∃ a, v = .ref a ∧ H a = some (.tup r)) : ∀ {vs : List V} {rs : List (List V)}, TL H vs rs → TL H (vs ++ [v]) (rs ++ [r])
  | _, _, .nil => .cons hv .nil
  | _, _, .cons q t => .cons q (TL.app hv t)
theorem TL.get {H : Hp} : ∀ {vs : List V} {rs : List (List V)} {i : Nat} {v : V}, TL H vs rs → vs[i]? = some v → ∃ a r, v = .ref a ∧ H a = some (.tup r) ∧ rs[i]? = some r
  | _, _, 0, v, .cons ⟨a, e, h⟩ t, hv => ⟨a, _, (Option.some.inj (by simpa using hv)).symm.trans e, h, rfl⟩
  | _, _, i + 1, v, .cons _ t, hv => by
    obtain ⟨a, r, h1, h2, h3⟩ := TL.get (i := i) t (by simpa using hv)
    exact ⟨a, r, h1, h2, by simpa using h3⟩
  | _, _, 0, v, .nil, hv => by simp at hv
  | _, _, i + 1, v, .nil, hv => by simp at hv
theorem TL.rev {H : Hp} : ∀ {vs : List V} {rs : List (List V)}, TL H vs rs → TL H vs.reverse rs.reverse
  | _, _, .nil => .nil
  | _, _, .cons q t => by
    rw [List.reverse_cons, List.reverse_cons]
    exact TL.app q (TL.rev t)
def EvLT (te : TE) (σ : L2.St) (H : Hp) (rs : List (List V)) : Prop := ∀ H1, Ex H H1 → ∀ Q : VK, (∀ p vs H2, H1 p = none → Ex H1 H2 → H2 p = some (.lst vs) → TL H2 vs rs → Q (.ref p) H2) → te σ H1 Q
section
variable {K : PySem.W.Frag} {σ : L2.St} {H H' : Hp} {te tl : TE} {D : Ends} {tz : TS} {t : TT}
/-- [a new tuple for i in range(n)] -/
theorem elt_R1 {ta : TA} {j : Nat} {vs : List Nat} {n : Int} (f : Nat → List V) (h : EvA ta σ H [.int n]) (hn : 0 ≤ n ∧ n ≤ 40000) (hw : ∀ x, wipe ((wipe σ vs).set j (some x)) vs = wipe σ vs)
    (he : ∀ (i : Nat) H1, Ex H H1 → (i : Int) < n → EvU te ((wipe σ vs).set j (some (.int (i : Int)))) H1 (f i)) : EvLT (tLc (iRng1 ta) (gName j) tYes te vs) σ H ((List.range n.toNat).map f) := fun H0 e Q q => h H0 e _ fun H1 e1 => ⟨n, rfl, by omega, by omega, fun Dl hD =>
  lc_range (lo := 0) (n := n.toNat) (fun i H' => Ex H1 H' ∧ ∃ ws, H' Dl = some (.lst ws) ∧ TL H' ws ((List.range i).map f)) ⟨Ex.new hD, [], upd_same, .nil⟩ (fun i H' hi p => by
    obtain ⟨p1, ws, p2, p3⟩ := p
    have e0 : (0 : Int) + (i : Int) = (i : Int) := Int.zero_add _
    show wipe ((wipe σ vs).set j (some (.int ((0 : Int) + (i : Int))))) vs = wipe σ vs ∧ te ((wipe σ vs).set j (some (.int ((0 : Int) + (i : Int))))) H' fun y H4 => ∃ acc, H4 Dl = some (.lst acc) ∧ acc.length < sizeLine ∧ _
    rw [e0]
    refine ⟨hw _, he i H1 (e.trans e1) (by omega) H' p1 _ fun p H4 hp e4 h4 => ⟨ws, e4 Dl _ p2, sz_lt (by
      have := p3.len
      simp at this
      omega), Ex.mut (p1.trans e4) hD, ws ++ [.ref p], upd_same, ?_⟩⟩
    rw [List.range_succ, List.map_append]
    exact ((p3.ex e4).app ⟨p, rfl, h4⟩).upd (e4 Dl _ p2)) (fun H' p => by
      obtain ⟨p1, ws, p2, p3⟩ := p
      exact q Dl ws H' (fresh_back e1 hD) (e1.trans p1) p2 p3)⟩
/-- [a new tuple for x in xs] -/
theorem elt_map {a : Addr} {xs : List V} {j : Nat} {vs : List Nat} (f : Nat → List V) (h : Ev tl σ H (.ref a)) (hx : SqL K H a xs) (hz : xs.length ≤ 40000) (hw : ∀ x, wipe ((wipe σ vs).set j (some x)) vs = wipe σ vs)
    (he : ∀ (i : Nat) (x : V) H1, Ex H H1 → xs[i]? = some x → EvU te ((wipe σ vs).set j (some x)) H1 (f i)) : EvLT (tLc (iList K tl) (gName j) tYes te vs) σ H ((List.range xs.length).map f) := fun H0 e Q q => h H0 e _ fun H1 e1 => ⟨a, rfl, ⟨xs, ex_l (e.trans e1) hx⟩, fun Dl hD =>
  lc_list (xs := xs) (fun i H' => Ex H1 H' ∧ ∃ ws, H' Dl = some (.lst ws) ∧ TL H' ws ((List.range i).map f)) ⟨Ex.new hD, [], upd_same, .nil⟩ (fun i H' _ p => ex_l ((e.trans e1).trans p.1) hx) (fun i x H' hi p => by
    obtain ⟨p1, ws, p2, p3⟩ := p
    show wipe ((wipe σ vs).set j (some x)) vs = wipe σ vs ∧ te ((wipe σ vs).set j (some x)) H' fun y H4 => ∃ acc, H4 Dl = some (.lst acc) ∧ acc.length < sizeLine ∧ _
    refine ⟨hw _, he i x H1 (e.trans e1) hi H' p1 _ fun p H4 hp e4 h4 => ⟨ws, e4 Dl _ p2, sz_lt (by
      have := p3.len
      have := (List.getElem?_eq_some_iff.mp hi).1
      simp at *
      omega), Ex.mut (p1.trans e4) hD, ws ++ [.ref p], upd_same, ?_⟩⟩
    rw [List.range_succ, List.map_append]
    exact ((p3.ex e4).app ⟨p, rfl, h4⟩).upd (e4 Dl _ p2)) (fun H' p => by
      obtain ⟨p1, ws, p2, p3⟩ := p
      exact q Dl ws H' (fresh_back e1 hD) (e1.trans p1) p2 p3)⟩
theorem range_get {α : Type} (rs : List α) (d : α) : rs = (List.range rs.length).map fun i => rs.getD i d := by
  refine List.ext_getElem (by simp) fun i h1 h2 => ?_
  simp [h1]
theorem paired_map {α β γ : Type} {F : β → γ → Prop} (f : α → β) (g : α → γ) : ∀ l : List α, (∀ x ∈ l, F (f x) (g x)) → Paired F (l.map f) (l.map g)
  | [], _ => .nil
  | x :: r, h => .cons (h x (by simp)) (paired_map f g r fun y hy => h y (by simp [hy]))
/-- [x for x in xs if test(x)], xs a list of tuples, the test P of the tuple's items -/
theorem elt_filter {a : Addr} {xs : List V} {rs : List (List V)} {j : Nat} {vs : List Nat} (P : List V → Bool) (h : Ev tl σ H (.ref a)) (hx : SqL K H a xs) (ht : TL H xs rs) (hz : xs.length ≤ 40000) (hw : ∀ x, wipe ((wipe σ vs).set j (some x)) vs = wipe σ vs) (hj : ∀ x, ((wipe σ vs).set j (some x))[j]? = some (some x))
    (he : ∀ (b : Addr) (r : List V) H1, Ex H H1 → r ∈ rs → H1 b = some (.tup r) → EvT t ((wipe σ vs).set j (some (.ref b))) H1 (P r)) : EvLT (tLc (iList K tl) (gName j) t (tVar j) vs) σ H (rs.filter P) := fun H0 e Q q => by
  refine el_lcL (K := K) (f := fun i => P (rs.getD i [])) (v := fun i => xs.getD i .non) h hx hz hw (fun i x H1 e1 hi => ?_) (fun i x H1 e1 hi hf => ?_) H0 e Q fun p H2 hp e2 h2 => ?_
  · obtain ⟨b, r, rfl, hb, hr⟩ := ht.get hi
    have g : rs.getD i [] = r := by rw [List.getD_eq_getElem?_getD, hr] <;> rfl
    show EvT _ _ _ (P (rs.getD i []))
    rw [g]
    exact he b r H1 e1 (List.mem_of_getElem? hr) (e1 b _ hb)
  · have g : xs.getD i .non = x := by rw [List.getD_eq_getElem?_getD, hi] <;> rfl
    show Ev _ _ _ (xs.getD i .non)
    rw [g]
    exact ev_var (hj x)
  · refine q p _ H2 hp e2 h2 ?_
    have e3 : rs.filter P = ((List.range rs.length).filter fun i => P (rs.getD i [])).map fun i => rs.getD i [] := by
      conv => lhs; rw [range_get rs [], List.filter_map]
      rfl
    unfold given
    rw [e3, ht.len]
    refine paired_map _ _ _ fun i hi => ?_
    have hi := List.mem_range.mp (List.mem_filter.mp hi).1
    have hlx : i < xs.length := by rw [ht.len]; exact hi
    obtain ⟨b, r, h1, h2', h3⟩ := ht.get (List.getElem?_eq_getElem hlx)
    refine ⟨b, ?_, ?_⟩
    · rw [List.getD_eq_getElem?_getD, List.getElem?_eq_getElem hlx, h1]
      rfl
    · rw [List.getD_eq_getElem?_getD, h3]
      exact (e.trans e2) b _ h2'
theorem q_asgLT {i : Nat} {rs : List (List V)} (h : EvLT te σ H rs) (k : ∀ p vs H1, H p = none → Ex H H1 → H1 p = some (.lst vs) → TL H1 vs rs → tz D (σ.set i (some (.ref p))) H1) : tSeq (tAsg te (gName i)) tz D σ H := h H (Ex.refl H) _ fun p vs H1 hp e h1 h2 => k p vs H1 hp e h1 h2
theorem s_retLT {rs : List (List V)} (h : EvLT te σ H rs) (k : ∀ p vs H1, H p = none → Ex H H1 → H1 p = some (.lst vs) → TL H1 vs rs → D.rt (.ref p) H1) : tRet te D σ H := h H (Ex.refl H) _ k
end
end Kit
namespace K10
open PySem PySem.Spec PyProof.Rows L2 Evl Kit
def topS (i : Nat) : Stmt := PySem.Challenge.pw_newtables_k10_best_weights.main.body.getD i (.Pass ⟨0, 0, 0, 0⟩)
abbrev s_is_whole : Stmt := topS 9
abbrev n_is_whole : List Str := ["thing"]
theorem sc_is_whole : FnScope n_is_whole ["thing"] (defScope s_is_whole) := ⟨rfl, rfl, rfl, by decide +kernel, rfl, by decide +kernel, by decide +kernel⟩
abbrev s_is_within : Stmt := topS 10
abbrev n_is_within : List Str := ["thing", "least", "most"]
theorem sc_is_within : FnScope n_is_within ["thing", "least", "most"] (defScope s_is_within) := ⟨rfl, rfl, rfl, by decide +kernel, rfl, by decide +kernel, by decide +kernel⟩
abbrev s_check_guests : Stmt := topS 11
abbrev n_check_guests : List Str := ["guests"]
theorem sc_check_guests : FnScope n_check_guests ["guests"] (defScope s_check_guests) := ⟨rfl, rfl, rfl, by decide +kernel, rfl, by decide +kernel, by decide +kernel⟩
abbrev s_check_weight : Stmt := topS 12
abbrev n_check_weight : List Str := ["weight"]
theorem sc_check_weight : FnScope n_check_weight ["weight"] (defScope s_check_weight) := ⟨rfl, rfl, rfl, by decide +kernel, rfl, by decide +kernel, by decide +kernel⟩
abbrev s_check_number : Stmt := topS 13
abbrev n_check_number : List Str := ["number", "least", "most"]
theorem sc_check_number : FnScope n_check_number ["number", "least", "most"] (defScope s_check_number) := ⟨rfl, rfl, rfl, by decide +kernel, rfl, by decide +kernel, by decide +kernel⟩
abbrev s_raised : Stmt := topS 14
abbrev n_raised : List Str := ["base", "times", "total", "_"]
theorem sc_raised : FnScope n_raised ["base", "times"] (defScope s_raised) := ⟨rfl, rfl, rfl, by decide +kernel, rfl, by decide +kernel, by decide +kernel⟩
abbrev s_rising : Stmt := topS 15
abbrev n_rising : List Str := ["weight", "guests", "total", "guest"]
theorem sc_rising : FnScope n_rising ["weight", "guests"] (defScope s_rising) := ⟨rfl, rfl, rfl, by decide +kernel, rfl, by decide +kernel, by decide +kernel⟩
abbrev s_sums_by_tables : Stmt := topS 16
abbrev n_sums_by_tables : List Str := ["factors", "sums", "steep", "even", "part", "less", "more", "one", "other"]
theorem sc_sums_by_tables : FnScope n_sums_by_tables ["factors"] (defScope s_sums_by_tables) := ⟨rfl, rfl, rfl, by decide +kernel, rfl, by decide +kernel, by decide +kernel⟩
abbrev s_fraction : Stmt := topS 17
abbrev n_fraction : List Str := ["top", "bottom", "common"]
theorem sc_fraction : FnScope n_fraction ["top", "bottom"] (defScope s_fraction) := ⟨rfl, rfl, rfl, by decide +kernel, rfl, by decide +kernel, by decide +kernel⟩
abbrev s_tables_share : Stmt := topS 19
abbrev n_tables_share : List Str := ["guests", "weight", "number"]
theorem sc_tables_share : FnScope n_tables_share ["guests", "weight", "number"] (defScope s_tables_share) := ⟨rfl, rfl, rfl, by decide +kernel, rfl, by decide +kernel, by decide +kernel⟩
abbrev s_best_weights : Stmt := topS 20
abbrev n_best_weights : List Str := ["guests", "number", "weight"]
theorem sc_best_weights : FnScope n_best_weights ["guests", "number"] (defScope s_best_weights) := ⟨rfl, rfl, rfl, by decide +kernel, rfl, by decide +kernel, by decide +kernel⟩
abbrev s_weights_by_tables : Stmt := topS 21
abbrev n_weights_by_tables : List Str := ["guests", "weight", "guest"]
theorem sc_weights_by_tables : FnScope n_weights_by_tables ["guests", "weight"] (defScope s_weights_by_tables) := ⟨rfl, rfl, rfl, by decide +kernel, rfl, by decide +kernel, by decide +kernel⟩
abbrev s_gain_behind : Stmt := topS 22
abbrev n_gain_behind : List Str := ["guests", "number", "weight"]
theorem sc_gain_behind : FnScope n_gain_behind ["guests", "number", "weight"] (defScope s_gain_behind) := ⟨rfl, rfl, rfl, by decide +kernel, rfl, by decide +kernel, by decide +kernel⟩
abbrev s_law_pouch : Stmt := topS 24
abbrev n_law_pouch : List Str := ["script", "at", "cell"]
theorem sc_law_pouch : FnScope n_law_pouch ["script", "at"] (defScope s_law_pouch) := ⟨rfl, rfl, rfl, by decide +kernel, rfl, by decide +kernel, by decide +kernel⟩
abbrev s_law_dip : Stmt := topS 25
abbrev n_law_dip : List Str := ["pouch", "wide", "taken", "mixed"]
theorem sc_law_dip : FnScope n_law_dip ["pouch", "wide"] (defScope s_law_dip) := ⟨rfl, rfl, rfl, by decide +kernel, rfl, by decide +kernel, by decide +kernel⟩
abbrev s_law_weigh : Stmt := topS 26
abbrev n_law_weigh : List Str := ["heavy", "many", "found", "turn"]
theorem sc_law_weigh : FnScope n_law_weigh ["heavy", "many"] (defScope s_law_weigh) := ⟨rfl, rfl, rfl, by decide +kernel, rfl, by decide +kernel, by decide +kernel⟩
abbrev s_law_rise : Stmt := topS 27
abbrev n_law_rise : List Str := ["heavy", "many", "found", "turn"]
theorem sc_law_rise : FnScope n_law_rise ["heavy", "many"] (defScope s_law_rise) := ⟨rfl, rfl, rfl, by decide +kernel, rfl, by decide +kernel, by decide +kernel⟩
abbrev s_law_beats : Stmt := topS 28
abbrev n_law_beats : List Str := ["many", "width", "one", "other", "top", "more"]
theorem sc_law_beats : FnScope n_law_beats ["many", "width", "one", "other"] (defScope s_law_beats) := ⟨rfl, rfl, rfl, by decide +kernel, rfl, by decide +kernel, by decide +kernel⟩
abbrev s_law_right : Stmt := topS 29
abbrev n_law_right : List Str := ["many", "width", "told", "low", "high"]
theorem sc_law_right : FnScope n_law_right ["many", "width"] (defScope s_law_right) := ⟨rfl, rfl, rfl, by decide +kernel, rfl, by decide +kernel, by decide +kernel⟩
abbrev s_law_small_right : Stmt := topS 30
abbrev n_law_small_right : List Str := ["many", "width", "low", "high", "one", "some", "same"]
theorem sc_law_small_right : FnScope n_law_small_right ["many", "width"] (defScope s_law_small_right) := ⟨rfl, rfl, rfl, by decide +kernel, rfl, by decide +kernel, by decide +kernel⟩
abbrev s_law_far_right : Stmt := topS 31
abbrev n_law_far_right : List Str := ["pouch", "many", "width", "low", "high", "turn", "one", "top", "bottom", "less", "below"]
theorem sc_law_far_right : FnScope n_law_far_right ["pouch", "many", "width"] (defScope s_law_far_right) := ⟨rfl, rfl, rfl, by decide +kernel, rfl, by decide +kernel, by decide +kernel⟩
abbrev s_law : Stmt := topS 32
abbrev n_law : List Str := ["script", "at", "pouch", "many", "width", "told"]
theorem sc_law : FnScope n_law ["script"] (defScope s_law) := ⟨rfl, rfl, rfl, by decide +kernel, rfl, by decide +kernel, by decide +kernel⟩
def g_K10_kb_best_weights_0_number_guests : List Value → List Value → List Value := fun us ws => match us, ws with
  | [], [b0, b1] => [b1, b0]
  | _, _ => []
def v_K10_kb_best_weights_0_number_guests : List V → List V → List V := fun us ws => match us, ws with
  | [], [b0, b1] => [b1, b0]
  | _, _ => []
/-! what the top has written -/
structure Tx (K : PySem.W.Frag) (mg : Str → Option Value) where
  f_is_whole : Addr
  d_is_whole : FuncData
  F_is_whole : Fun K "is_whole" "is_whole" s_is_whole f_is_whole d_is_whole
  g_is_whole : mg "is_whole" = some (.ref f_is_whole)
  b_is_whole : Binds K d_is_whole ["thing"] []
  f_is_within : Addr
  d_is_within : FuncData
  F_is_within : Fun K "is_within" "is_within" s_is_within f_is_within d_is_within
  g_is_within : mg "is_within" = some (.ref f_is_within)
  b_is_within : Binds K d_is_within ["thing", "least", "most"] []
  f_check_guests : Addr
  d_check_guests : FuncData
  F_check_guests : Fun K "check_guests" "check_guests" s_check_guests f_check_guests d_check_guests
  g_check_guests : mg "check_guests" = some (.ref f_check_guests)
  b_check_guests : Binds K d_check_guests ["guests"] []
  f_check_weight : Addr
  d_check_weight : FuncData
  F_check_weight : Fun K "check_weight" "check_weight" s_check_weight f_check_weight d_check_weight
  g_check_weight : mg "check_weight" = some (.ref f_check_weight)
  b_check_weight : Binds K d_check_weight ["weight"] []
  f_check_number : Addr
  d_check_number : FuncData
  F_check_number : Fun K "check_number" "check_number" s_check_number f_check_number d_check_number
  g_check_number : mg "check_number" = some (.ref f_check_number)
  b_check_number : Binds K d_check_number ["number", "least", "most"] []
  f_raised : Addr
  d_raised : FuncData
  F_raised : Fun K "raised" "raised" s_raised f_raised d_raised
  g_raised : mg "raised" = some (.ref f_raised)
  b_raised : Binds K d_raised ["base", "times"] []
  f_rising : Addr
  d_rising : FuncData
  F_rising : Fun K "rising" "rising" s_rising f_rising d_rising
  g_rising : mg "rising" = some (.ref f_rising)
  b_rising : Binds K d_rising ["weight", "guests"] []
  f_sums_by_tables : Addr
  d_sums_by_tables : FuncData
  F_sums_by_tables : Fun K "sums_by_tables" "sums_by_tables" s_sums_by_tables f_sums_by_tables d_sums_by_tables
  g_sums_by_tables : mg "sums_by_tables" = some (.ref f_sums_by_tables)
  b_sums_by_tables : Binds K d_sums_by_tables ["factors"] []
  f_fraction : Addr
  d_fraction : FuncData
  F_fraction : Fun K "fraction" "fraction" s_fraction f_fraction d_fraction
  g_fraction : mg "fraction" = some (.ref f_fraction)
  b_fraction : Binds K d_fraction ["top", "bottom"] []
  f_tables_share : Addr
  d_tables_share : FuncData
  F_tables_share : Fun K "tables_share" "tables_share" s_tables_share f_tables_share d_tables_share
  g_tables_share : mg "tables_share" = some (.ref f_tables_share)
  b_tables_share : Binds K d_tables_share ["guests", "weight", "number"] []
  f_best_weights : Addr
  d_best_weights : FuncData
  F_best_weights : Fun K "best_weights" "best_weights" s_best_weights f_best_weights d_best_weights
  g_best_weights : mg "best_weights" = some (.ref f_best_weights)
  b_best_weights : Binds K d_best_weights ["guests", "number"] []
  f_weights_by_tables : Addr
  d_weights_by_tables : FuncData
  F_weights_by_tables : Fun K "weights_by_tables" "weights_by_tables" s_weights_by_tables f_weights_by_tables d_weights_by_tables
  g_weights_by_tables : mg "weights_by_tables" = some (.ref f_weights_by_tables)
  b_weights_by_tables : Binds K d_weights_by_tables ["guests", "weight"] []
  f_gain_behind : Addr
  d_gain_behind : FuncData
  F_gain_behind : Fun K "gain_behind" "gain_behind" s_gain_behind f_gain_behind d_gain_behind
  g_gain_behind : mg "gain_behind" = some (.ref f_gain_behind)
  b_gain_behind : Binds K d_gain_behind ["guests", "number", "weight"] []
  f_law_pouch : Addr
  d_law_pouch : FuncData
  F_law_pouch : Fun K "_law_pouch" "_law_pouch" s_law_pouch f_law_pouch d_law_pouch
  g_law_pouch : mg "_law_pouch" = some (.ref f_law_pouch)
  b_law_pouch : Binds K d_law_pouch ["script", "at"] []
  f_law_dip : Addr
  d_law_dip : FuncData
  F_law_dip : Fun K "_law_dip" "_law_dip" s_law_dip f_law_dip d_law_dip
  g_law_dip : mg "_law_dip" = some (.ref f_law_dip)
  b_law_dip : Binds K d_law_dip ["pouch", "wide"] []
  f_law_weigh : Addr
  d_law_weigh : FuncData
  F_law_weigh : Fun K "_law_weigh" "_law_weigh" s_law_weigh f_law_weigh d_law_weigh
  g_law_weigh : mg "_law_weigh" = some (.ref f_law_weigh)
  b_law_weigh : Binds K d_law_weigh ["heavy", "many"] []
  f_law_rise : Addr
  d_law_rise : FuncData
  F_law_rise : Fun K "_law_rise" "_law_rise" s_law_rise f_law_rise d_law_rise
  g_law_rise : mg "_law_rise" = some (.ref f_law_rise)
  b_law_rise : Binds K d_law_rise ["heavy", "many"] []
  f_law_beats : Addr
  d_law_beats : FuncData
  F_law_beats : Fun K "_law_beats" "_law_beats" s_law_beats f_law_beats d_law_beats
  g_law_beats : mg "_law_beats" = some (.ref f_law_beats)
  b_law_beats : Binds K d_law_beats ["many", "width", "one", "other"] []
  f_law_right : Addr
  d_law_right : FuncData
  F_law_right : Fun K "_law_right" "_law_right" s_law_right f_law_right d_law_right
  g_law_right : mg "_law_right" = some (.ref f_law_right)
  b_law_right : Binds K d_law_right ["many", "width"] []
  f_law_small_right : Addr
  d_law_small_right : FuncData
  F_law_small_right : Fun K "_law_small_right" "_law_small_right" s_law_small_right f_law_small_right d_law_small_right
  g_law_small_right : mg "_law_small_right" = some (.ref f_law_small_right)
  b_law_small_right : Binds K d_law_small_right ["many", "width"] []
  f_law_far_right : Addr
  d_law_far_right : FuncData
  F_law_far_right : Fun K "_law_far_right" "_law_far_right" s_law_far_right f_law_far_right d_law_far_right
  g_law_far_right : mg "_law_far_right" = some (.ref f_law_far_right)
  b_law_far_right : Binds K d_law_far_right ["pouch", "many", "width"] []
  f_law : Addr
  d_law : FuncData
  F_law : Fun K "law" "law" s_law f_law d_law
  g_law : mg "law" = some (.ref f_law)
  b_law : Binds K d_law ["script"] []
  m_abs : mg "abs" = none
  m_int : mg "int" = none
  m_isinstance : mg "isinstance" = none
  m_len : mg "len" = none
  m_list : mg "list" = none
  m_max : mg "max" = none
  m_min : mg "min" = none
  m_range : mg "range" = none
  m_tuple : mg "tuple" = none
  m_type : mg "type" = none
  m_zip : mg "zip" = none
  c_MOST_GUESTS : ∃ u, mg "MOST_GUESTS" = some u ∧ RelV (.int 20) u
  c_MOST_WEIGHT : ∃ u, mg "MOST_WEIGHT" = some u ∧ RelV (.int 1000000000000) u
  i_gcd : mg "gcd" = some (.builtin "math.gcd")
  kb_best_weights_0_number_guests : KBinds K d_best_weights ["guests", "number"] ["number", "guests"] g_K10_kb_best_weights_0_number_guests v_K10_kb_best_weights_0_number_guests
/-! readings that go by themselves -/
local macro_rules | `(tactic| walk_at "side") => `(tactic| first | with_reducible assumption | with_reducible rfl | omega | decide | (constructor <;> first | assumption | omega | decide))
local macro_rules | `(tactic| walk_at "ev") => `(tactic| first
  | ((with_reducible refine' ev_var ?e1); (case e1 => rfl))
  | (with_reducible exact ev_c)
  | ((with_reducible refine' ev_op ?e1 ?e2 rv_I0); (case e1 => walk_at "ev"); (case e2 => walk_at "ev"))
  | ((with_reducible refine' ev_op ?e1 ?e2 (rv_I ?e3)); (case e1 => walk_at "ev"); (case e2 => walk_at "ev"); (case e3 => walk_at "side"))
  | ((with_reducible refine' ev_op ?e1 ?e2 (rv_eq ?e3)); (case e1 => walk_at "ev"); (case e2 => walk_at "ev"); (case e3 => rfl))
  | ((with_reducible refine' ev_op ?e1 ?e2 (rv_ne ?e3)); (case e1 => walk_at "ev"); (case e2 => walk_at "ev"); (case e3 => rfl))
  | ((with_reducible refine' ev_op ?e1 ?e2 (rv_ixL ?e3 ?e4)); (case e1 => walk_at "ev"); (case e2 => walk_at "ev"); (case e3 => walk_at "sq"); (case e4 => walk_at "at"))
  | ((with_reducible refine' ev_op ?e1 ?e2 (rv_ixT ?e3 ?e4)); (case e1 => walk_at "ev"); (case e2 => walk_at "ev"); (case e3 => walk_at "sq"); (case e4 => walk_at "at"))
  | ((with_reducible refine' ev_op ?e1 ?e2 rv_isN); (case e1 => walk_at "ev"); (case e2 => walk_at "ev"))
  | ((with_reducible refine' ev_op ?e1 ?e2 rv_notN); (case e1 => walk_at "ev"); (case e2 => walk_at "ev"))
  | ((with_reducible refine' ev_op ?e1 ?e2 (rv_eqTy ?e3 ?e4)); (case e1 => walk_at "ev"); (case e2 => walk_at "ev"); (case e3 => exact PySem.TypeEq.meta_int); (case e4 => exact PySem.TypeEq.meta_int))
  | ((with_reducible refine' ev_un ?e1 ru_neg); (case e1 => walk_at "ev"))
  | ((with_reducible refine' ev_intI ?e1); (case e1 => walk_at "ev"))
  | ((with_reducible refine' ev_intB ?e1); (case e1 => walk_at "ev"))
  | ((with_reducible refine' ev_typeI ?e1); (case e1 => walk_at "ev"))
  | ((with_reducible refine' ev_abs ?e1); (case e1 => walk_at "ev"))
  | ((with_reducible refine' ev_max2 ?e1 ?e2); (case e1 => walk_at "ev"); (case e2 => walk_at "ev"))
  | ((with_reducible refine' ev_min2 ?e1 ?e2); (case e1 => walk_at "ev"); (case e2 => walk_at "ev"))
  | ((with_reducible refine' ev_gcd ?e1 ?e2); (case e1 => walk_at "ev"); (case e2 => walk_at "ev"))
  | ((with_reducible refine' ev_len ?e1 ?e2); (case e1 => walk_at "ev"); (case e2 => walk_at "sq"))
  | ((with_reducible refine' ev_chainI ?e1 ?e2 ?e3); (case e1 => walk_at "ev"); (case e2 => walk_at "ev"); (case e3 => walk_at "ev"))
  | ((with_reducible refine' ev_chain3I ?e1 ?e2 ?e3 ?e4); (case e1 => walk_at "ev"); (case e2 => walk_at "ev"); (case e3 => walk_at "ev"); (case e4 => walk_at "ev"))
  | ((with_reducible refine' ev_notV ?e1); (case e1 => walk_at "ev"))
  | ((with_reducible refine' ev_andV ?e1 ?e2); (case e1 => walk_at "ev"); (case e2 => (intro _; walk_at "ev")))
  | ((with_reducible refine' ev_orV ?e1 ?e2); (case e1 => walk_at "ev"); (case e2 => (intro _; walk_at "ev")))
  | ((with_reducible refine' ev_if ?e1 ?e2 ?e3); (case e1 => walk_at "et"); (case e2 => (intro _; walk_at "ev")); (case e3 => (intro _; walk_at "ev")))
  | ((with_reducible refine' ev_call ?e1 ?e2); (case e1 => walk_at "ea"); (case e2 => walk_at "call")))
local macro_rules | `(tactic| walk_at "ea") => `(tactic| first
  | (with_reducible exact ea_nil)
  | ((with_reducible refine' ea_cons ?e1 ?e2); (case e1 => walk_at "ev"); (case e2 => walk_at "ea")))
local macro_rules | `(tactic| walk_at "et") => `(tactic| first
  | ((with_reducible refine' et_test ?e1); (case e1 => walk_at "ev"))
  | ((with_reducible refine' et_B ?e1); (case e1 => walk_at "ev"))
  | ((with_reducible refine' et_not ?e1); (case e1 => walk_at "et"))
  | ((with_reducible refine' et_and ?e1 ?e2); (case e1 => walk_at "et"); (case e2 => (intro _; walk_at "et")))
  | ((with_reducible refine' et_or ?e1 ?e2); (case e1 => walk_at "et"); (case e2 => (intro _; walk_at "et"))))
local macro_rules | `(tactic| walk_at "eu") => `(tactic| first
  | ((with_reducible refine' eu_tup ?e1 ?e2); (case e1 => walk_at "ea"); (case e2 => exact Nat.le_of_ble_eq_true rfl))
  | ((with_reducible refine' eu_call ?e1 ?e2); (case e1 => walk_at "ea"); (case e2 => walk_at "callU")))
local macro_rules | `(tactic| walk_at "el") => `(tactic| first
  | ((with_reducible refine' el_call ?e1 ?e2); (case e1 => walk_at "ea"); (case e2 => walk_at "callL"))
  | ((with_reducible refine' el_lst ?e1 ?e2); (case e1 => walk_at "ea"); (case e2 => exact Nat.le_of_ble_eq_true rfl)))
local macro_rules | `(tactic| walk_at "sq") => `(tactic| first | assumption | exact sq_of (by assumption) | exact st_of (by assumption))
local macro_rules | `(tactic| walk_at "at") => `(tactic| first | assumption | rfl | (apply atI_nat; rfl))
local macro_rules | `(tactic| walk_at "call") => `(tactic| assumption)

/-! ### the pouch -/
/-- H without p -/
def Hm (p : Addr) (H : Hp) : Hp := fun b => if b = p then none else H b
theorem hm_p {p : Addr} {H : Hp} : Hm p H p = none := if_pos rfl
theorem hm_sub {p : Addr} {H : Hp} : Ex (Hm p H) H := fun a o h => by
  unfold Hm at h
  split at h
  · cases h
  · exact h
theorem hm_mono {p : Addr} {H H' : Hp} (e : Ex H H') : Ex (Hm p H) (Hm p H') := fun a o h => by
  unfold Hm at h ⊢
  split at h
  · cases h
  · rename_i ne
    rw [if_neg ne]
    exact e a o h
theorem ex_hm {p : Addr} {H0 H : Hp} (e : Ex H0 H) (h : H0 p = none) : Ex H0 (Hm p H) := fun a o ha => by
  unfold Hm
  rw [if_neg (ne_of_none ha h)]
  exact e a o ha
/-- a pouch after at most n mixed draws -/
def Po (p : Addr) (n : Nat) (H : Hp) : Prop := ∃ a b c : Int, H p = some (.lst [.int a, .int b, .int c]) ∧ (0 ≤ b ∧ b < 2 ^ 200) ∧ 0 ≤ c ∧ c ≤ n
theorem Po.ex {p : Addr} {n : Nat} {H H' : Hp} (h : Po p n H) (e : Ex H H') : Po p n H' := by
  obtain ⟨a, b, c, h1, h2⟩ := h
  exact ⟨a, b, c, e p _ h1, h2⟩
theorem Po.mono {p : Addr} {n m : Nat} {H : Hp} (h : Po p n H) (e : n ≤ m) : Po p m H := by
  obtain ⟨a, b, c, h1, h2, h3, h4⟩ := h
  exact ⟨a, b, c, h1, h2, h3, by omega⟩
theorem pow3_ok {i : Int} (h : i.natAbs < 2 ^ 250) : CPowX i 3 := by
  have := PyProof.Rows.intBits_le h
  unfold CPowX
  omega
theorem divw_ok {i j : Int} (h : 0 < j) (hb : j < 2 ^ 200) : CDivW i j := wide_div (b := 200) h (by omega) (by decide) (by decide)
theorem mulk_ok {i j : Int} (h : i.natAbs < 2 ^ 100000) (hb : j.natAbs < 2 ^ 100000) : CMulX i j := mulx_ok h hb (by decide)
def sp_law_pouch (K : PySem.W.Frag) : Sp := fun vs H Q _ => ∃ (s : Addr) (ns : List Int) (i : Nat), vs = [.ref s, .int (i : Int)] ∧ SqL K H s (ns.map V.int) ∧ i ≤ 100 ∧ ∀ p H', H p = none → Ex H H' → Po p 0 H' → Q (.ref p) H'
def sp_law_dip : Sp := fun vs H Q _ => ∃ (p : Addr) (n : Nat) (w : Int), vs = [.ref p, .int w] ∧ Po p n H ∧ n < 1000000000 ∧ 0 < w ∧ w < 2 ^ 200 ∧
  ∀ r H', 0 ≤ r → r < w → Po p (n + 1) H' → Ex (Hm p H) H' → Q (.int r) H'
section
variable {P : Program} {w : World} {K : PySem.W.Frag} {mg : Str → Option Value} {base : Heap}
theorem ok_law_dip (T : Tx K mg) : FnOk P w K mg base CX0 1 T.f_law_dip T.d_law_dip ["pouch", "wide"] sp_law_dip := by
  refine T.F_law_dip.ok sc_law_dip (fun vs H Q E h => ?_) (fun cdv A outer s H vs Q E hr h => ?_)
  · obtain ⟨p, n, w, rfl, _⟩ := h
    rfl
  · obtain ⟨p, n, w, rfl, ⟨a, b, c, hp, ⟨hb0, hb1⟩, hc0, hc1⟩, hn, hw0, hw1, k⟩ := h
    refine ⟨_, (pss_cons (ps_if (pt_cmpR op_gt (pe_ix ix_list (pv 0) pe_int (fun _ _ => rfl)) pe_int (nomark _)) (pss_cons (ps_set (i := 2) sc_law_dip.nd rfl (Or.inl rfl) (pe_op op_mod (pe_callTy call_intI (by rfl) T.m_int (by decide +kernel) (pa_cons (pe_ix ix_list (pv 0) pe_int (fun _ _ => rfl)) pa_nil)) (pv 1)))
      (pss_cons (ps_asg (pe_op op_fdivW (pe_ix ix_list (pv 0) pe_int (fun _ _ => rfl)) (pv 1)) (pg_sub (pv 0) pe_int set_list))
      (pss_one (ps_ret (pv 2))))) pss_nil)
      (pss_cons (ps_asg (pe_op op_add (pe_ix ix_list (pv 0) pe_int (fun _ _ => rfl)) pe_int) (pg_sub (pv 0) pe_int set_list))
      (pss_cons (ps_set (i := 3) sc_law_dip.nd rfl (Or.inl rfl) (pe_op op_mod (pe_op op_powX (pe_callTy call_intI (by rfl) T.m_int (by decide +kernel) (pa_cons (pe_op op_add (pe_ix ix_list (pv 0) pe_int (fun _ _ => rfl)) (pe_op op_mulX pe_int (pe_ix ix_list (pv 0) pe_int (fun _ _ => rfl)))) pa_nil)) pe_int) (pe_op op_add (pe_op op_powX pe_int pe_int) pe_int)))
      (pss_cons (ps_set (i := 3) sc_law_dip.nd rfl (Or.inl rfl) (pe_op op_mod (pe_op op_powX (pe_callTy call_intI (by rfl) T.m_int (by decide +kernel) (pa_cons (pe_op op_add (pv 3) (pe_op op_mulX pe_int (pe_ix ix_list (pv 0) pe_int (fun _ _ => rfl)))) pa_nil)) pe_int) (pe_op op_add (pe_op op_powX pe_int pe_int) pe_int)))
      (pss_one (ps_ret (pe_op op_mod (pe_callTy call_intI (by rfl) T.m_int (by decide +kernel) (pa_cons (pe_op op_fdivW (pv 3) pe_int) pa_nil)) (pv 1)))))))), ?_⟩
    have hp0 : Hm p H p = none := hm_p
    refine q_when (by walk_at "et") (fun hb H1 e1 => ?_) (fun hb H1 e1 => ?_)
    · have hp1 := e1 p _ hp
      refine q_asg (by walk_at "ev") fun H2 e2 => ?_
      have hp2 := e2 p _ hp1
      have hd : CDivW a w := divw_ok hw0 hw1
      refine q_setL (j := 0) hp2 (by walk_at "ev") (by walk_at "ev") ev_c (by show 0 < 3; decide) fun H3 e3 => ?_
      refine s_ret (by walk_at "ev") fun H4 e4 => ?_
      refine k _ _ (Int.emod_nonneg _ (by omega)) (Int.emod_lt_of_pos _ hw0) ⟨a / w, b, c, e4 p _ upd_same, ⟨hb0, hb1⟩, hc0, by omega⟩ ?_
      exact Ex.trans (Ex.mut (hm_sub.trans (e1.trans (e2.trans e3))) hp0) e4
    · have hp1 := e1 p _ hp
      refine q_setL (j := 2) hp1 (by walk_at "ev") (by walk_at "ev") ev_c (by show 2 < 3; decide) fun H2 e2 => ?_
      have hp2 : ∀ H3, Ex (upd H2 p (.lst ([V.int a, .int b, .int c].set 2 (.int (c + 1))))) H3 → H3 p = some (.lst [.int a, .int b, .int (c + 1)]) := fun H3 e => e p _ upd_same
      have hq := hp2 _ (Ex.refl _)
      have hm1 : CMulX 870022201 (c + 1) := mulx_ok (a := 64) (b := 64) (by decide) (by omega) (by decide)
      have hw1' : CPowX (b + 870022201 * (c + 1)) 3 := pow3_ok (by omega)
      have hw2 : CPowX 10 41 := ⟨by decide, by decide +kernel⟩
      refine q_asg (by walk_at "ev") fun H3 e3 => ?_
      have hq3 := hp2 _ e3
      have hm2 : CMulX 334214467 (c + 1) := mulx_ok (a := 64) (b := 64) (by decide) (by omega) (by decide)
      generalize hz : (b + 870022201 * (c + 1)) ^ (3 : Int).toNat % ((10 : Int) ^ (41 : Int).toNat + 37) = z
      have hz0 : 0 ≤ z := by
        rw [← hz]
        exact Int.emod_nonneg _ (by decide)
      have hz1 : z < (10 : Int) ^ (41 : Int).toNat + 37 := by
        rw [← hz]
        exact Int.emod_lt_of_pos _ (by decide)
      have hz2 : z < 2 ^ 200 := Int.lt_trans hz1 (by decide)
      have hw3 : CPowX (z + 334214467 * (c + 1)) 3 := pow3_ok (by omega)
      have hw4 : CPowX 10 39 := ⟨by decide, by decide +kernel⟩
      refine q_asg (by walk_at "ev") fun H4 e4 => ?_
      generalize (z + 334214467 * (c + 1)) ^ (3 : Int).toNat % ((10 : Int) ^ (39 : Int).toNat + 3) = y
      have hd : CDivW y 1048583 := divw_ok (by decide) (by decide)
      refine s_ret (by walk_at "ev") fun H5 e5 => ?_
      refine k _ _ (Int.emod_nonneg _ (by omega)) (Int.emod_lt_of_pos _ hw0) ⟨a, b, c + 1, hp2 _ (e3.trans (e4.trans e5)), ⟨hb0, hb1⟩, by omega, by omega⟩ ?_
      exact Ex.trans (Ex.mut (hm_sub.trans (e1.trans e2)) hp0) (e3.trans (e4.trans e5))
theorem ok_law_pouch (T : Tx K mg) : FnOk P w K mg base CX0 1 T.f_law_pouch T.d_law_pouch ["script", "at"] (sp_law_pouch K) := by
  refine T.F_law_pouch.ok sc_law_pouch (fun vs H Q E h => ?_) (fun cdv A outer s H vs Q E hr h => ?_)
  · obtain ⟨a, ns, i, rfl, _⟩ := h
    rfl
  · obtain ⟨a, ns, i, rfl, hs, hi, k⟩ := h
    refine ⟨_, (pss_cons (ps_set (i := 2) sc_law_pouch.nd rfl (Or.inl rfl) (pe_ifExp (pt_cmpR op_lt (pv 1) (pe_callB call_lenR (by rfl) T.m_len (by decide +kernel) (pa_cons (pv 0) pa_nil)) (nomark _)) (pe_ix ix_list (pv 0) (pv 1) (fun _ _ => rfl)) pe_int))
      (pss_one (ps_ret (pe_lst (pa_cons (pe_callB (call_maxR rfl) (by rfl) T.m_max (by decide +kernel) (pa_cons pe_int (pa_cons (pe_op op_sub (pe_callB call_absR (by rfl) T.m_abs (by decide +kernel) (pa_cons (pv 2) pa_nil)) (pe_op op_powX pe_int pe_int)) pa_nil))) (pa_cons (pe_op op_add (pe_op op_add (pe_op op_mulX (pe_op op_mod (pe_callTy call_intI (by rfl) T.m_int (by decide +kernel) (pa_cons (pv 2) pa_nil)) (pe_op op_add (pe_op op_powX pe_int pe_int) pe_int)) pe_int) (pe_op op_mulX pe_int (pv 1))) pe_int) (pa_cons pe_int pa_nil))))))), ?_⟩
    have hlen : (ns.map V.int).length = ns.length := List.length_map ..
    refine q_asg (v := .int (ns.getD i 0)) ?_ fun H1 e1 => ?_
    · refine ev_if (b := decide ((i : Int) < ((ns.map V.int).length : Int))) (by walk_at "et") (fun hb => ?_) (fun hb => ?_)
      · have hb := of_decide_eq_true hb
        rw [hlen] at hb
        have hlt : i < ns.length := by omega
        refine ev_op (ev_var rfl) (ev_var rfl) (rv_ixL hs (atI_nat (j := i) ?_))
        rw [List.getElem?_map, List.getElem?_eq_getElem hlt]
        simp [List.getD_eq_getElem?_getD, hlt]
      · have hb := of_decide_eq_false hb
        rw [hlen] at hb
        have e0 : ns.getD i 0 = 0 := by
          rw [List.getD_eq_getElem?_getD, List.getElem?_eq_none (by omega)]
          rfl
        rw [e0]
        exact ev_c
    · generalize ns.getD i 0 = z
      have hw1 : CPowX 10 18 := ⟨by decide, by decide +kernel⟩
      have hw2 : CPowX 10 38 := ⟨by decide, by decide +kernel⟩
      have hy0 : 0 ≤ z % ((10 : Int) ^ (38 : Int).toNat + 133) := Int.emod_nonneg _ (by decide)
      have hy1 : z % ((10 : Int) ^ (38 : Int).toNat + 133) < (10 : Int) ^ (38 : Int).toNat + 133 := Int.emod_lt_of_pos _ (by decide)
      have hy2 : z % ((10 : Int) ^ (38 : Int).toNat + 133) < 2 ^ 150 := Int.lt_trans hy1 (by decide)
      have hpos : 0 < (10 : Int) ^ (38 : Int).toNat + 133 := by decide
      have hm1 : CMulX (z % ((10 : Int) ^ (38 : Int).toNat + 133)) 107 := mulx_ok (a := 150) (b := 64) (by omega) (by decide) (by decide)
      have hm2 : CMulX 71 (i : Int) := mulx_ok (a := 64) (b := 64) (by decide) (by omega) (by decide)
      refine s_retL (el_lst (ea_cons (by walk_at "ev") (ea_cons (by walk_at "ev") (ea_cons ev_c ea_nil))) (Nat.le_of_ble_eq_true rfl)) fun p H2 hp e2 hl => ?_
      refine k p H2 (fresh_back e1 hp) (e1.trans e2) ⟨_, _, _, hl, ⟨?_, ?_⟩, by omega, by omega⟩
      · generalize z % ((10 : Int) ^ (38 : Int).toNat + 133) = y at hy0 hy2 ⊢
        omega
      · generalize z % ((10 : Int) ^ (38 : Int).toNat + 133) = y at hy0 hy2 ⊢
        omega
end

/-! ### the mathematics of the best weights -/
def rise (w : Int) : Nat → Int
  | 0 => 1
  | n + 1 => rise w n * (w + n)
def gain (n t : Nat) (w : Int) : Int := (w + 1) ^ t - w ^ (t - 1) * (w + n)
def beats (n t : Nat) (x y : Int) : Int := x ^ t * rise y n - y ^ t * rise x n
theorem rise_pos {w : Int} (h : 1 ≤ w) : ∀ n, 0 < rise w n
  | 0 => by
    show (0 : Int) < 1
    decide
  | n + 1 => Int.mul_pos (rise_pos h n) (by omega)
theorem rise_shift (w : Int) : ∀ n : Nat, rise (w + 1) n * w = rise w n * (w + n)
  | 0 => by
    show (1 : Int) * w = 1 * (w + ((0 : Nat) : Int))
    simp
  | n + 1 => by
    show rise (w + 1) n * (w + 1 + n) * w = rise w n * (w + n) * (w + ((n + 1 : Nat) : Int))
    have ih := rise_shift w n
    have e : ((n + 1 : Nat) : Int) = (n : Int) + 1 := by omega
    rw [e]
    grind
theorem beats_next {n t : Nat} {w : Int} (hw : 1 ≤ w) (ht : 1 ≤ t) : beats n t w (w + 1) = -(rise w n * gain n t w) := by
  obtain ⟨m, rfl⟩ : ∃ m, t = m + 1 := ⟨t - 1, by omega⟩
  unfold beats gain
  have h := rise_shift w n
  have e : w ^ (m + 1) = w ^ m * w := Int.pow_succ ..
  rw [show m + 1 - 1 = m by omega, e]
  grind
theorem beats_swap {n t : Nat} {x y : Int} : beats n t y x = -beats n t x y := by
  unfold beats
  grind
theorem pow_nn {a : Int} (h : 0 ≤ a) (m : Nat) : 0 ≤ a ^ m := Int.pow_nonneg h
theorem pow_pos' {a : Int} (h : 0 < a) (m : Nat) : 0 < a ^ m := Int.pow_pos h
theorem pow_le' {a b : Int} (h0 : 0 ≤ a) (h : a ≤ b) : ∀ m : Nat, a ^ m ≤ b ^ m
  | 0 => by simp
  | m + 1 => by
    rw [Int.pow_succ, Int.pow_succ]
    exact Int.mul_le_mul (pow_le' h0 h m) h h0 (pow_nn (by omega) m)
theorem abc {a A B C : Int} (ha : 2 ≤ a) (hB : 1 ≤ B) (hC : 0 ≤ C) (e1 : A = B + 1) (e2 : B = C + (a - 1)) : ∀ m : Nat, B ^ m - C ^ m ≤ a * (A ^ m - B ^ m)
  | 0 => by simp
  | m + 1 => by
    have ih := abc ha hB hC e1 e2 m
    have h1 : C ^ m ≤ B ^ m := pow_le' hC (by omega) m
    have h2 : 0 ≤ C ^ m := pow_nn hC m
    have h3 : 0 < B ^ m := pow_pos' (by omega) m
    rw [Int.pow_succ, Int.pow_succ, Int.pow_succ]
    generalize A ^ m = x at *
    generalize B ^ m = y at *
    generalize C ^ m = z at *
    have k := Int.mul_le_mul_of_nonneg_left ih (show 0 ≤ A by omega)
    have k2 := Int.mul_le_mul_of_nonneg_left h1 (show 0 ≤ a by omega)
    subst e1
    have e3 : C = B - (a - 1) := by omega
    subst e3
    have g : a * (x * (B + 1) - y * B) - (y * B - z * (B - (a - 1))) = ((B + 1) * (a * (x - y)) - (B + 1) * (y - z)) + (a * y - a * z) + y := by grind
    omega
theorem abc_lt {a A B C : Int} (ha : 2 ≤ a) (hB : 1 ≤ B) (hC : 0 ≤ C) (e1 : A = B + 1) (e2 : B = C + (a - 1)) (m : Nat) : B ^ (m + 1) - C ^ (m + 1) < a * (A ^ (m + 1) - B ^ (m + 1)) := by
  have ih := abc ha hB hC e1 e2 m
  have h1 : C ^ m ≤ B ^ m := pow_le' hC (by omega) m
  have h2 : 0 ≤ C ^ m := pow_nn hC m
  have h3 : 0 < B ^ m := pow_pos' (by omega) m
  rw [Int.pow_succ, Int.pow_succ, Int.pow_succ]
  generalize A ^ m = x at *
  generalize B ^ m = y at *
  generalize C ^ m = z at *
  have k := Int.mul_le_mul_of_nonneg_left ih (show 0 ≤ A by omega)
  have k2 := Int.mul_le_mul_of_nonneg_left h1 (show 0 ≤ a by omega)
  subst e1
  have e3 : C = B - (a - 1) := by omega
  subst e3
  have g : a * (x * (B + 1) - y * B) - (y * B - z * (B - (a - 1))) = ((B + 1) * (a * (x - y)) - (B + 1) * (y - z)) + (a * y - a * z) + y := by grind
  omega
theorem gain_fall {n m : Nat} {w : Int} : gain n (m + 1) w * (w + 1) ^ m - gain n (m + 1) (w + 1) * w ^ m =
    (w + 1) * (((w + 1) * (w + 1)) ^ m - (w * (w + 2)) ^ m) - ((w * (w + 2)) ^ m - (w * (w + 1)) ^ m) := by
  unfold gain
  rw [show m + 1 - 1 = m by omega, Int.pow_succ, Int.pow_succ, Int.mul_pow, Int.mul_pow, Int.mul_pow]
  rw [show w + 1 + 1 = w + 2 by omega]
  generalize (w + 1) ^ m = x
  generalize (w + 2) ^ m = y
  generalize w ^ m = z
  grind
theorem gain_neg {n t : Nat} {w : Int} (hw : 1 ≤ w) (ht : 1 ≤ t) (hn : t < n) (h : gain n t w ≤ 0) : gain n t (w + 1) < 0 := by
  obtain ⟨m, rfl⟩ : ∃ m, t = m + 1 := ⟨t - 1, by omega⟩
  cases m with
  | zero =>
    show (w + 1 + 1) ^ (0 + 1) - (w + 1) ^ 0 * (w + 1 + n) < 0
    rw [Int.pow_succ, Int.pow_zero, Int.pow_zero]
    omega
  | succ m =>
    have f := gain_fall (n := n) (m := m + 1) (w := w)
    have l := abc_lt (a := w + 1) (A := (w + 1) * (w + 1)) (B := w * (w + 2)) (C := w * (w + 1)) (by omega) (by
      have := Int.mul_pos (show 0 < w by omega) (show 0 < w + 2 by omega)
      omega) (by
      have := Int.mul_pos (show 0 < w by omega) (show 0 < w + 1 by omega)
      omega) (by grind) (by grind) m
    have p1 := pow_pos' (show 0 < w by omega) (m + 1)
    have p2 := pow_pos' (show 0 < w + 1 by omega) (m + 1)
    have q : gain n (m + 1 + 1) w * (w + 1) ^ (m + 1) ≤ 0 := Int.mul_nonpos_of_nonpos_of_nonneg h (by omega)
    have r : gain n (m + 1 + 1) (w + 1) * w ^ (m + 1) < 0 := by omega
    rw [Int.mul_comm] at r
    exact Int.neg_of_mul_neg_right r (by omega)
theorem gain_neg_far {n t : Nat} {w : Int} (hw : 1 ≤ w) (ht : 1 ≤ t) (hn : t < n) (h : gain n t w ≤ 0) : ∀ k : Nat, gain n t (w + 1 + k) < 0
  | 0 => by
    rw [show w + 1 + ((0 : Nat) : Int) = w + 1 by omega]
    exact gain_neg hw ht hn h
  | k + 1 => by
    have ih := gain_neg_far hw ht hn h k
    rw [show w + 1 + ((k + 1 : Nat) : Int) = (w + 1 + k) + 1 by omega]
    exact gain_neg (by omega) ht hn (by omega)
theorem beats_trans {n t : Nat} {x y z : Int} (hx : 1 ≤ x) (hy : 1 ≤ y) (hz : 1 ≤ z) (h1 : 0 ≤ beats n t x y) (h2 : 0 < beats n t y z) : 0 < beats n t x z := by
  have dx := rise_pos hx n
  have dy := rise_pos hy n
  have dz := rise_pos hz n
  unfold beats at *
  generalize x ^ t = a at *
  generalize y ^ t = b at *
  generalize z ^ t = c at *
  generalize rise x n = p at *
  generalize rise y n = q at *
  generalize rise z n = r at *
  have k1 : 0 ≤ (a * q - b * p) * r := Int.mul_nonneg h1 (by omega)
  have k2 : 0 < (b * r - c * q) * p := Int.mul_pos h2 dx
  have k3 : 0 < (a * r - c * p) * q := by grind
  exact Int.pos_of_mul_pos_left k3 (by omega)
theorem beats_self {n t : Nat} {x : Int} : beats n t x x = 0 := by
  unfold beats
  omega
/-- the least weight behind which the share does not rise -/
structure Low (n t : Nat) (lo : Int) : Prop where
  pos : 1 ≤ lo
  up : ∀ w, 1 ≤ w → w < lo → 0 < gain n t w
  top : gain n t lo ≤ 0
section
variable {n t : Nat} {lo : Int} (L : Low n t lo) (ht : 1 ≤ t) (hn : t < n)
include L ht hn
theorem Low.next : 0 ≤ beats n t lo (lo + 1) := by
  rw [beats_next L.pos ht]
  have := Int.mul_nonneg (Int.le_of_lt (rise_pos L.pos n)) (show 0 ≤ -gain n t lo by have := L.top; omega)
  rw [Int.mul_neg] at this
  omega
theorem Low.above : ∀ k : Nat, 0 < beats n t lo (lo + 1 + 1 + k)
  | 0 => by
    have g := gain_neg L.pos ht hn L.top
    have b : 0 < beats n t (lo + 1) (lo + 1 + 1) := by
      rw [beats_next (by have := L.pos; omega) ht]
      have := Int.mul_pos (rise_pos (show 1 ≤ lo + 1 by have := L.pos; omega) n) (show 0 < -gain n t (lo + 1) by omega)
      rw [Int.mul_neg] at this
      omega
    rw [show lo + 1 + 1 + ((0 : Nat) : Int) = lo + 1 + 1 by omega]
    exact beats_trans L.pos (by have := L.pos; omega) (by have := L.pos; omega) (L.next ht hn) b
  | k + 1 => by
    have hp := L.pos
    have ih := Low.above k
    have g := gain_neg_far L.pos ht hn L.top (k + 1)
    have b : 0 < beats n t (lo + 1 + 1 + k) (lo + 1 + 1 + k + 1) := by
      rw [beats_next (by omega) ht]
      rw [show lo + 1 + ((k + 1 : Nat) : Int) = lo + 1 + 1 + k by omega] at g
      have := Int.mul_pos (rise_pos (show 1 ≤ lo + 1 + 1 + k by omega) n) (show 0 < -gain n t (lo + 1 + 1 + k) by omega)
      rw [Int.mul_neg] at this
      omega
    rw [show lo + 1 + 1 + ((k + 1 : Nat) : Int) = lo + 1 + 1 + k + 1 by omega]
    exact beats_trans hp (by omega) (by omega) (by omega) b
theorem Low.below : ∀ k : Nat, 1 ≤ lo - 1 - k → 0 < beats n t lo (lo - 1 - k)
  | 0, h => by
    rw [show lo - 1 - ((0 : Nat) : Int) = lo - 1 by omega] at h ⊢
    have g := L.up (lo - 1) h (by omega)
    have b := beats_next (n := n) (t := t) h ht
    rw [show lo - 1 + 1 = lo by omega] at b
    rw [beats_swap, b]
    have := Int.mul_pos (rise_pos h n) g
    omega
  | k + 1, h => by
    have hp := L.pos
    have ih := Low.below k (by omega)
    rw [show lo - 1 - ((k + 1 : Nat) : Int) = lo - 1 - k - 1 by omega] at h ⊢
    have g := L.up (lo - 1 - k - 1) h (by omega)
    have b := beats_next (n := n) (t := t) h ht
    rw [show lo - 1 - k - 1 + 1 = lo - 1 - (k : Int) by omega] at b
    have b2 : 0 < beats n t (lo - 1 - k) (lo - 1 - k - 1) := by
      rw [beats_swap, b]
      have := Int.mul_pos (rise_pos h n) g
      omega
    exact beats_trans hp (by omega) h (by omega) b2
def high (n t : Nat) (lo : Int) : Int := if gain n t lo = 0 then lo + 1 else lo
omit L ht hn in
theorem high_or : high n t lo = lo ∨ high n t lo = lo + 1 := by
  unfold high
  split
  · exact .inr rfl
  · exact .inl rfl
/-- at no weight the share is greater; as great from lo to high alone -/
theorem Low.best {x : Int} (hx : 1 ≤ x) : 0 ≤ beats n t lo x ∧ (beats n t lo x = 0 ↔ lo ≤ x ∧ x ≤ high n t lo) := by
  have hp := L.pos
  have ho := high_or (n := n) (t := t) (lo := lo)
  by_cases h1 : x = lo
  · subst h1
    rw [beats_self]
    exact ⟨by omega, by omega⟩
  by_cases h2 : x < lo
  · have b := L.below ht hn (lo - 1 - x).toNat (by omega)
    rw [show lo - 1 - (((lo - 1 - x).toNat : Nat) : Int) = x by omega] at b
    exact ⟨by omega, by omega⟩
  by_cases h3 : x = lo + 1
  · subst h3
    have b := L.next ht hn
    have e := beats_next (n := n) (t := t) hp ht
    have r := rise_pos hp n
    refine ⟨b, ?_⟩
    unfold high
    rw [e]
    by_cases hg : gain n t lo = 0
    · rw [if_pos hg, hg]
      simp
      omega
    · rw [if_neg hg]
      have := Int.mul_pos r (show 0 < -gain n t lo by have := L.top; omega)
      rw [Int.mul_neg] at this
      omega
  · have b := L.above ht hn (x - (lo + 1 + 1)).toNat
    rw [show lo + 1 + 1 + (((x - (lo + 1 + 1)).toNat : Nat) : Int) = x by omega] at b
    exact ⟨by omega, by omega⟩
/-- the same from the greatest one -/
theorem Low.high_beats : beats n t lo (high n t lo) = 0 := ((L.best ht hn (x := high n t lo) (by have := L.pos; have := high_or (n := n) (t := t) (lo := lo); omega)).2).mpr ⟨by have := high_or (n := n) (t := t) (lo := lo); omega, by omega⟩
theorem Low.high_next : 0 < beats n t (high n t lo) (high n t lo + 1) := by
  have hp := L.pos
  unfold high
  split
  · rename_i hg
    have g := gain_neg hp ht hn L.top
    rw [beats_next (by omega) ht]
    have := Int.mul_pos (rise_pos (show 1 ≤ lo + 1 by omega) n) (show 0 < -gain n t (lo + 1) by omega)
    rw [Int.mul_neg] at this
    omega
  · rename_i hg
    rw [beats_next hp ht]
    have := Int.mul_pos (rise_pos hp n) (show 0 < -gain n t lo by have := L.top; omega)
    rw [Int.mul_neg] at this
    omega
theorem Low.low_prev (h : 1 < lo) : 0 < beats n t lo (lo - 1) := by
  have b := L.below ht hn 0 (by omega)
  rw [show lo - 1 - ((0 : Nat) : Int) = lo - 1 by omega] at b
  exact b
end
/-- at 200 the share of no number of tables below 20 rises -/
theorem gain_200 {n t : Nat} (ht : 1 ≤ t) (hn : t < n) (h20 : n ≤ 20) : gain n t 200 ≤ 0 := by
  have h : ∀ n : Fin 21, ∀ t : Fin 20, 1 ≤ t.val → t.val < n.val → gain n.val t.val 200 ≤ 0 := by decide +kernel
  exact h ⟨n, by omega⟩ ⟨t, by omega⟩ ht hn
theorem gain_high {n t : Nat} (ht : 1 ≤ t) (hn : t < n) (h20 : n ≤ 20) {w : Int} (hw : 200 ≤ w) : gain n t w ≤ 0 := by
  by_cases h : w = 200
  · subst h
    exact gain_200 ht hn h20
  · have g := gain_neg_far (w := 200) (by omega) ht hn (gain_200 ht hn h20) (w - 201).toNat
    rw [show (200 : Int) + 1 + (((w - 201).toNat : Nat) : Int) = w by omega] at g
    omega

/-! ### numbers -/
theorem rise_le {w : Int} (h : w.natAbs < 2 ^ 130) : ∀ n : Nat, n ≤ 100 → (rise w n).natAbs ≤ 2 ^ (131 * n)
  | 0, _ => by
    show (1 : Int).natAbs ≤ 2 ^ 0
    decide
  | n + 1, hn => by
    have ih := rise_le h n (by omega)
    show (rise w n * (w + n)).natAbs ≤ _
    rw [Int.natAbs_mul, Nat.mul_succ, Nat.pow_add]
    exact Nat.mul_le_mul ih (by omega)
def sp_pow : Sp := fun vs H Q _ => ∃ b t : Int, vs = [.int b, .int t] ∧ b.natAbs < 2 ^ 130 ∧ 0 ≤ t ∧ t ≤ 40 ∧ RetV (.int (b ^ t.toNat)) H Q
theorem sv_pow {H : Hp} {b t : Int} (hb : b.natAbs < 2 ^ 130) (h0 : 0 ≤ t) (h1 : t ≤ 40) : SpV sp_pow ([.int b, .int t] ++ []) H (.int (b ^ t.toNat)) := fun H1 _ Q q E => ⟨b, t, rfl, hb, h0, h1, q⟩
def sp_rise : Sp := fun vs H Q _ => ∃ (b : Int) (n : Nat), vs = [.int b, .int n] ∧ b.natAbs < 2 ^ 130 ∧ n ≤ 40 ∧ RetV (.int (rise b n)) H Q
theorem sv_rise {H : Hp} {b : Int} {n : Nat} (hb : b.natAbs < 2 ^ 130) (h1 : n ≤ 40) : SpV sp_rise ([.int b, .int (n : Int)] ++ []) H (.int (rise b n)) := fun H1 _ Q q E => ⟨b, n, rfl, hb, h1, q⟩
local macro_rules | `(tactic| walk_at "call") => `(tactic| ((with_reducible refine' sv_pow ?c1 ?c2 ?c3); (case c1 => walk_at "side"); (case c2 => walk_at "side"); (case c3 => walk_at "side")))
local macro_rules | `(tactic| walk_at "call") => `(tactic| ((with_reducible refine' sv_rise ?c1 ?c2); (case c1 => walk_at "side"); (case c2 => walk_at "side")))

section
variable {P : Program} {w : World} {K : PySem.W.Frag} {mg : Str → Option Value} {base : Heap}
theorem ok_raised (T : Tx K mg) : FnOk P w K mg base CX0 1 T.f_raised T.d_raised ["base","times"] sp_pow := by
  refine T.F_raised.ok sc_raised (fun vs H Q E h => ?_) (fun cdv A outer s H vs Q E hr h => ?_)
  · obtain ⟨b, t, rfl, _⟩ := h
    rfl
  · obtain ⟨b, t, rfl, hb, ht0, ht1, k⟩ := h
    refine ⟨_, (pss_cons (ps_set (i := 2) sc_raised.nd rfl (Or.inl rfl) pe_int)
      (pss_cons (ps_for PassesOwn.never rfl (pi_range1 (by rfl) T.m_range (pa_cons (pv 1) pa_nil)) (pg_name (i := 3) sc_raised.nd rfl (Or.inl rfl)) (pss_one (ps_set (i := 2) sc_raised.nd rfl (Or.inl rfl) (pe_op op_mulX (pv 2) (pv 0)))))
      (pss_one (ps_ret (pv 2))))), ?_⟩
    refine q_asg ev_c fun H1 e1 => ?_
    refine q_forR1 (n := t) (by walk_at "ea") ⟨ht0, by omega⟩ (fun i σ' H' => ∃ y, σ' = [some (.int b), some (.int t), some (.int (b ^ i)), y] ∧ Ex H H') (fun H2 e2 => ⟨none, by rw [Int.pow_zero]; rfl, e1.trans e2⟩) ?_ ?_
    · rintro i σ' H' hi ⟨y, rfl, e⟩
      have hm : CMulX (b ^ i) b := mulx_ok (lt_of_le2 (natAbs_pow_le hb i)) hb (by omega)
      exact s_asg (by walk_at "ev") fun H2 e2 => ⟨_, by rw [Int.pow_succ]; rfl, e.trans e2⟩
    · rintro σ' H' ⟨y, rfl, e⟩
      exact s_ret (by walk_at "ev") fun H2 e2 => k _ (e.trans e2)

theorem ok_law_weigh (T : Tx K mg) : FnOk P w K mg base CX0 1 T.f_law_weigh T.d_law_weigh ["heavy","many"] sp_pow := by
  refine T.F_law_weigh.ok sc_law_weigh (fun vs H Q E h => ?_) (fun cdv A outer s H vs Q E hr h => ?_)
  · obtain ⟨b, t, rfl, _⟩ := h
    rfl
  · obtain ⟨b, t, rfl, hb, ht0, ht1, k⟩ := h
    refine ⟨_, (pss_cons (ps_set (i := 2) sc_law_weigh.nd rfl (Or.inl rfl) pe_int)
      (pss_cons (ps_for PassesOwn.never rfl (pi_range1 (by rfl) T.m_range (pa_cons (pv 1) pa_nil)) (pg_name (i := 3) sc_law_weigh.nd rfl (Or.inl rfl)) (pss_one (ps_set (i := 2) sc_law_weigh.nd rfl (Or.inl rfl) (pe_op op_mulX (pv 2) (pv 0)))))
      (pss_one (ps_ret (pv 2))))), ?_⟩
    refine q_asg ev_c fun H1 e1 => ?_
    refine q_forR1 (n := t) (by walk_at "ea") ⟨ht0, by omega⟩ (fun i σ' H' => ∃ y, σ' = [some (.int b), some (.int t), some (.int (b ^ i)), y] ∧ Ex H H') (fun H2 e2 => ⟨none, by rw [Int.pow_zero]; rfl, e1.trans e2⟩) ?_ ?_
    · rintro i σ' H' hi ⟨y, rfl, e⟩
      have hm : CMulX (b ^ i) b := mulx_ok (lt_of_le2 (natAbs_pow_le hb i)) hb (by omega)
      exact s_asg (by walk_at "ev") fun H2 e2 => ⟨_, by rw [Int.pow_succ]; rfl, e.trans e2⟩
    · rintro σ' H' ⟨y, rfl, e⟩
      exact s_ret (by walk_at "ev") fun H2 e2 => k _ (e.trans e2)

theorem ok_rising (T : Tx K mg) : FnOk P w K mg base CX0 1 T.f_rising T.d_rising ["weight","guests"] sp_rise := by
  refine T.F_rising.ok sc_rising (fun vs H Q E h => ?_) (fun cdv A outer s H vs Q E hr h => ?_)
  · obtain ⟨b, n, rfl, _⟩ := h
    rfl
  · obtain ⟨b, n, rfl, hb, hn, k⟩ := h
    refine ⟨_, (pss_cons (ps_set (i := 2) sc_rising.nd rfl (Or.inl rfl) pe_int)
      (pss_cons (ps_for PassesOwn.never rfl (pi_range1 (by rfl) T.m_range (pa_cons (pv 1) pa_nil)) (pg_name (i := 3) sc_rising.nd rfl (Or.inl rfl)) (pss_one (ps_set (i := 2) sc_rising.nd rfl (Or.inl rfl) (pe_op op_mulX (pv 2) (pe_op op_add (pv 0) (pv 3))))))
      (pss_one (ps_ret (pv 2))))), ?_⟩
    refine q_asg ev_c fun H1 e1 => ?_
    refine q_forR1 (n := (n : Int)) (by walk_at "ea") ⟨by omega, by omega⟩ (fun i σ' H' => ∃ y, σ' = [some (.int b), some (.int n), some (.int (rise b i)), y] ∧ Ex H H') (fun H2 e2 => ⟨none, rfl, e1.trans e2⟩) ?_ ?_
    · rintro i σ' H' hi ⟨y, rfl, e⟩
      have hs : (b + (i : Int)).natAbs < 2 ^ 131 := by omega
      have hm : CMulX (rise b i) (b + (i : Int)) := mulx_ok (lt_of_le2 (rise_le hb i (by omega))) hs (by omega)
      exact s_asg (by walk_at "ev") fun H2 e2 => ⟨_, rfl, e.trans e2⟩
    · rintro σ' H' ⟨y, rfl, e⟩
      exact s_ret (by walk_at "ev") fun H2 e2 => k _ (e.trans e2)

theorem ok_law_rise (T : Tx K mg) : FnOk P w K mg base CX0 1 T.f_law_rise T.d_law_rise ["heavy","many"] sp_rise := by
  refine T.F_law_rise.ok sc_law_rise (fun vs H Q E h => ?_) (fun cdv A outer s H vs Q E hr h => ?_)
  · obtain ⟨b, n, rfl, _⟩ := h
    rfl
  · obtain ⟨b, n, rfl, hb, hn, k⟩ := h
    refine ⟨_, (pss_cons (ps_set (i := 2) sc_law_rise.nd rfl (Or.inl rfl) pe_int)
      (pss_cons (ps_for PassesOwn.never rfl (pi_range1 (by rfl) T.m_range (pa_cons (pv 1) pa_nil)) (pg_name (i := 3) sc_law_rise.nd rfl (Or.inl rfl)) (pss_one (ps_set (i := 2) sc_law_rise.nd rfl (Or.inl rfl) (pe_op op_mulX (pv 2) (pe_op op_add (pv 0) (pv 3))))))
      (pss_one (ps_ret (pv 2))))), ?_⟩
    refine q_asg ev_c fun H1 e1 => ?_
    refine q_forR1 (n := (n : Int)) (by walk_at "ea") ⟨by omega, by omega⟩ (fun i σ' H' => ∃ y, σ' = [some (.int b), some (.int n), some (.int (rise b i)), y] ∧ Ex H H') (fun H2 e2 => ⟨none, rfl, e1.trans e2⟩) ?_ ?_
    · rintro i σ' H' hi ⟨y, rfl, e⟩
      have hs : (b + (i : Int)).natAbs < 2 ^ 131 := by omega
      have hm : CMulX (rise b i) (b + (i : Int)) := mulx_ok (lt_of_le2 (rise_le hb i (by omega))) hs (by omega)
      exact s_asg (by walk_at "ev") fun H2 e2 => ⟨_, rfl, e.trans e2⟩
    · rintro σ' H' ⟨y, rfl, e⟩
      exact s_ret (by walk_at "ev") fun H2 e2 => k _ (e.trans e2)

/-! gain_behind -/
def sp_gain_behind : Sp := fun vs H Q _ => ∃ (n t : Nat) (w : Int), vs = [.int n, .int t, .int w] ∧ n ≤ 20 ∧ 1 ≤ t ∧ t ≤ 20 ∧ 0 ≤ w ∧ w ≤ 1000 ∧ RetV (.int (gain n t w)) H Q
theorem sv_gain {H : Hp} {n t : Nat} {w : Int} (h0 : n ≤ 20) (h1 : 1 ≤ t) (h2 : t ≤ 20) (h3 : 0 ≤ w) (h4 : w ≤ 1000) : SpV sp_gain_behind ([.int (n : Int), .int (t : Int), .int w] ++ []) H (.int (gain n t w)) := fun H1 _ Q q E => ⟨n, t, w, rfl, h0, h1, h2, h3, h4, q⟩
theorem ok_gain_behind (T : Tx K mg) : FnOk P w K mg base CX0 2 T.f_gain_behind T.d_gain_behind ["guests", "number", "weight"] sp_gain_behind := by
  refine T.F_gain_behind.ok sc_gain_behind (fun vs H Q E h => ?_) (fun cdv A outer s H vs Q E hr h => ?_)
  · obtain ⟨n, t, w, rfl, _⟩ := h
    rfl
  · obtain ⟨n, t, w, rfl, h0, h1, h2, h3, h4, k⟩ := h
    refine ⟨_, (pss_one (ps_ret (pe_op op_sub (pe_call (ok_raised T) (hr.mono (by decide)) (by rfl) T.g_raised T.F_raised.kp T.b_raised .nil pass0 (pa_cons (pe_op op_add (pv 2) pe_int) (pa_cons (pv 1) pa_nil))) (pe_op op_mulX (pe_call (ok_raised T) (hr.mono (by decide)) (by rfl) T.g_raised T.F_raised.kp T.b_raised .nil pass0 (pa_cons (pv 2) (pa_cons (pe_op op_sub (pv 1) pe_int) pa_nil))) (pe_op op_add (pv 2) (pv 0)))))), ?_⟩
    have hb : w.natAbs < 2 ^ 10 := by omega
    have hm : CMulX (w ^ ((t : Int) - 1).toNat) (w + (n : Int)) := mulx_ok (b := 64) (lt_of_le2 (natAbs_pow_le hb _)) (by omega) (by omega)
    refine s_ret (by walk_at "ev") fun H1 e1 => ?_
    have e : (w + 1) ^ (t : Int).toNat - w ^ ((t : Int) - 1).toNat * (w + (n : Int)) = gain n t w := by
      unfold gain
      rw [show (t : Int).toNat = t by omega, show ((t : Int) - 1).toNat = t - 1 by omega]
    rw [e]
    exact k _ e1
local macro_rules | `(tactic| walk_at "call") => `(tactic| ((with_reducible refine' sv_gain ?c1 ?c2 ?c3 ?c4 ?c5); (case c1 => walk_at "side"); (case c2 => walk_at "side"); (case c3 => walk_at "side"); (case c4 => walk_at "side"); (case c5 => walk_at "side")))
/-! _law_beats -/
def sp_law_beats : Sp := fun vs H Q _ => ∃ (n t : Nat) (x y : Int), vs = [.int n, .int t, .int x, .int y] ∧ n ≤ 20 ∧ t ≤ 20 ∧ x.natAbs < 2 ^ 128 ∧ y.natAbs < 2 ^ 128 ∧ RetV (.int (beats n t x y)) H Q
theorem sv_beats {H : Hp} {n t : Nat} {x y : Int} (h0 : n ≤ 20) (h1 : t ≤ 20) (h2 : x.natAbs < 2 ^ 128) (h3 : y.natAbs < 2 ^ 128) : SpV sp_law_beats ([.int (n : Int), .int (t : Int), .int x, .int y] ++ []) H (.int (beats n t x y)) := fun H1 _ Q q E => ⟨n, t, x, y, rfl, h0, h1, h2, h3, q⟩
theorem ok_law_beats (T : Tx K mg) : FnOk P w K mg base CX0 2 T.f_law_beats T.d_law_beats ["many", "width", "one", "other"] sp_law_beats := by
  refine T.F_law_beats.ok sc_law_beats (fun vs H Q E h => ?_) (fun cdv A outer s H vs Q E hr h => ?_)
  · obtain ⟨n, t, x, y, rfl, _⟩ := h
    rfl
  · obtain ⟨n, t, x, y, rfl, h0, h1, h2, h3, k⟩ := h
    refine ⟨_, (pss_cons (ps_par (i := 4) (j := 5) (by rfl) sc_law_beats.nd rfl rfl (by decide) rfl rfl (pa_cons (pe_call (ok_law_weigh T) (hr.mono (by decide)) (by rfl) T.g_law_weigh T.F_law_weigh.kp T.b_law_weigh .nil pass0 (pa_cons (pv 2) (pa_cons (pv 1) pa_nil))) (pa_cons (pe_call (ok_law_weigh T) (hr.mono (by decide)) (by rfl) T.g_law_weigh T.F_law_weigh.kp T.b_law_weigh .nil pass0 (pa_cons (pv 3) (pa_cons (pv 1) pa_nil))) pa_nil)) (by rfl))
      (pss_one (ps_ret (pe_op op_sub (pe_op op_mulX (pv 4) (pe_call (ok_law_rise T) (hr.mono (by decide)) (by rfl) T.g_law_rise T.F_law_rise.kp T.b_law_rise .nil pass0 (pa_cons (pv 3) (pa_cons (pv 0) pa_nil)))) (pe_op op_mulX (pv 5) (pe_call (ok_law_rise T) (hr.mono (by decide)) (by rfl) T.g_law_rise T.F_law_rise.kp T.b_law_rise .nil pass0 (pa_cons (pv 2) (pa_cons (pv 0) pa_nil)))))))), ?_⟩
    refine q_par (by walk_at "ea") fun H1 e1 => ?_
    have hm : ∀ a b : Int, a.natAbs < 2 ^ 128 → b.natAbs < 2 ^ 128 → CMulX (a ^ (t : Int).toNat) (rise b n) := fun a b ha hb =>
      mulx_ok (lt_of_le2 (natAbs_pow_le ha _)) (lt_of_le2 (rise_le (by omega) n (by omega))) (by omega)
    have hm1 := hm x y h2 h3
    have hm2 := hm y x h3 h2
    refine s_ret (by walk_at "ev") fun H2 e2 => ?_
    exact k _ (e1.trans e2)
local macro_rules | `(tactic| walk_at "call") => `(tactic| ((with_reducible refine' sv_beats ?c1 ?c2 ?c3 ?c4); (case c1 => walk_at "side"); (case c2 => walk_at "side"); (case c3 => walk_at "side"); (case c4 => walk_at "side")))

end
local macro_rules | `(tactic| walk_at "call") => `(tactic| ((with_reducible refine' sv_pow ?c1 ?c2 ?c3); (case c1 => walk_at "side"); (case c2 => walk_at "side"); (case c3 => walk_at "side")))
local macro_rules | `(tactic| walk_at "call") => `(tactic| ((with_reducible refine' sv_rise ?c1 ?c2); (case c1 => walk_at "side"); (case c2 => walk_at "side")))
local macro_rules | `(tactic| walk_at "call") => `(tactic| ((with_reducible refine' sv_gain ?c1 ?c2 ?c3 ?c4 ?c5); (case c1 => walk_at "side"); (case c2 => walk_at "side"); (case c3 => walk_at "side"); (case c4 => walk_at "side"); (case c5 => walk_at "side")))
local macro_rules | `(tactic| walk_at "call") => `(tactic| ((with_reducible refine' sv_beats ?c1 ?c2 ?c3 ?c4); (case c1 => walk_at "side"); (case c2 => walk_at "side"); (case c3 => walk_at "side"); (case c4 => walk_at "side")))

section
variable {P : Program} {w : World} {K : PySem.W.Frag} {mg : Str → Option Value} {base : Heap}
/-! ### checks, for ints -/
def sp_is_whole : Sp := fun vs H Q _ => ∃ x : Int, vs = [.int x] ∧ RetV (.bl true) H Q
theorem sv_whole {H : Hp} {x : Int} : SpV sp_is_whole ([.int x] ++ []) H (.bl true) := fun H1 _ Q q E => ⟨x, rfl, q⟩
theorem ok_is_whole (T : Tx K mg) : FnOk P w K mg base CX0 1 T.f_is_whole T.d_is_whole ["thing"] sp_is_whole := by
  refine T.F_is_whole.ok sc_is_whole (fun vs H Q E h => ?_) (fun cdv A outer s H vs Q E hr h => ?_)
  · obtain ⟨x, rfl, _⟩ := h
    rfl
  · obtain ⟨x, rfl, k⟩ := h
    refine ⟨_, (pss_one (ps_ret (pe_cmpR op_eqTy (pe_typeOf (by rfl) T.m_type (pv 0)) (pe_bltn (v := .ty "int") (by rfl) T.m_int (by decide +kernel) rfl) (nomark _)))), ?_⟩
    refine s_ret (by walk_at "ev") fun H1 e1 => ?_
    rw [show decide (("int" : String) = "int") = true from decide_eq_true rfl]
    exact k _ e1
local macro_rules | `(tactic| walk_at "call") => `(tactic| (with_reducible exact sv_whole))
def sp_is_within : Sp := fun vs H Q _ => ∃ x l m : Int, vs = [.int x, .int l, .int m] ∧ RetV (.bl (decide (l ≤ x) && decide (x ≤ m))) H Q
theorem sv_between {H : Hp} {x l m : Int} : SpV sp_is_within ([.int x, .int l, .int m] ++ []) H (.bl (decide (l ≤ x) && decide (x ≤ m))) := fun H1 _ Q q E => ⟨x, l, m, rfl, q⟩
theorem ok_is_within (T : Tx K mg) : FnOk P w K mg base CX0 2 T.f_is_within T.d_is_within ["thing", "least", "most"] sp_is_within := by
  refine T.F_is_within.ok sc_is_within (fun vs H Q E h => ?_) (fun cdv A outer s H vs Q E hr h => ?_)
  · obtain ⟨x, l, m, rfl, _⟩ := h
    rfl
  · obtain ⟨x, l, m, rfl, k⟩ := h
    refine ⟨_, (pss_one (ps_ret (pe_and (pe_call (ok_is_whole T) (hr.mono (by decide)) (by rfl) T.g_is_whole T.F_is_whole.kp T.b_is_whole .nil pass0 (pa_cons (pv 0) pa_nil)) (pe_one (pe_chain op_le op_le (pv 1) (pv 0) (pv 2)))))), ?_⟩
    refine s_ret (by walk_at "ev") fun H1 e1 => ?_
    exact k _ e1
local macro_rules | `(tactic| walk_at "call") => `(tactic| (with_reducible exact sv_between))
def sp_check1 (lo hi : Int) : Sp := fun vs H Q _ => ∃ x : Int, vs = [.int x] ∧ lo ≤ x ∧ x ≤ hi ∧ RetV .non H Q
theorem sv_check1 {H : Hp} {lo hi x : Int} (h0 : lo ≤ x) (h1 : x ≤ hi) : SpV (sp_check1 lo hi) ([.int x] ++ []) H .non := fun H1 _ Q q E => ⟨x, rfl, h0, h1, q⟩
theorem ok_check_guests (T : Tx K mg) : FnOk P w K mg base CX0 3 T.f_check_guests T.d_check_guests ["guests"] (sp_check1 1 20) := by
  refine T.F_check_guests.ok sc_check_guests (fun vs H Q E h => ?_) (fun cdv A outer s H vs Q E hr h => ?_)
  · obtain ⟨x, rfl, _⟩ := h
    rfl
  · obtain ⟨x, rfl, h0, h1, k⟩ := h
    refine ⟨_, (pss_one (ps_if (pt_not (pt_val (pe_call (ok_is_within T) (hr.mono (by decide)) (by rfl) T.g_is_within T.F_is_within.kp T.b_is_within .nil pass0 (pa_cons (pv 0) (pa_cons pe_int (pa_cons (pe_gc (by rfl) T.c_MOST_GUESTS) pa_nil)))))) (pss_one ps_never) pss_nil)), ?_⟩
    refine s_when (by walk_at "et") (fun hb H1 e1 => ?_) fun hb H1 e1 => k _ e1
    rw [decide_eq_true h0, decide_eq_true h1] at hb
    cases hb
theorem ok_check_weight (T : Tx K mg) : FnOk P w K mg base CX0 3 T.f_check_weight T.d_check_weight ["weight"] (sp_check1 1 1000000000000) := by
  refine T.F_check_weight.ok sc_check_weight (fun vs H Q E h => ?_) (fun cdv A outer s H vs Q E hr h => ?_)
  · obtain ⟨x, rfl, _⟩ := h
    rfl
  · obtain ⟨x, rfl, h0, h1, k⟩ := h
    refine ⟨_, (pss_one (ps_if (pt_not (pt_val (pe_call (ok_is_within T) (hr.mono (by decide)) (by rfl) T.g_is_within T.F_is_within.kp T.b_is_within .nil pass0 (pa_cons (pv 0) (pa_cons pe_int (pa_cons (pe_gc (by rfl) T.c_MOST_WEIGHT) pa_nil)))))) (pss_one ps_never) pss_nil)), ?_⟩
    refine s_when (by walk_at "et") (fun hb H1 e1 => ?_) fun hb H1 e1 => k _ e1
    rw [decide_eq_true h0, decide_eq_true h1] at hb
    cases hb
def sp_check_number : Sp := fun vs H Q _ => ∃ x lo hi : Int, vs = [.int x, .int lo, .int hi] ∧ lo ≤ x ∧ x ≤ hi ∧ RetV .non H Q
theorem sv_check_number {H : Hp} {lo hi x : Int} (h0 : lo ≤ x) (h1 : x ≤ hi) : SpV sp_check_number ([.int x, .int lo, .int hi] ++ []) H .non := fun H1 _ Q q E => ⟨x, lo, hi, rfl, h0, h1, q⟩
theorem ok_check_number (T : Tx K mg) : FnOk P w K mg base CX0 3 T.f_check_number T.d_check_number ["number", "least", "most"] sp_check_number := by
  refine T.F_check_number.ok sc_check_number (fun vs H Q E h => ?_) (fun cdv A outer s H vs Q E hr h => ?_)
  · obtain ⟨x, lo, hi, rfl, _⟩ := h
    rfl
  · obtain ⟨x, lo, hi, rfl, h0, h1, k⟩ := h
    refine ⟨_, (pss_one (ps_if (pt_not (pt_val (pe_call (ok_is_within T) (hr.mono (by decide)) (by rfl) T.g_is_within T.F_is_within.kp T.b_is_within .nil pass0 (pa_cons (pv 0) (pa_cons (pv 1) (pa_cons (pv 2) pa_nil)))))) (pss_one ps_never) pss_nil)), ?_⟩
    refine s_when (by walk_at "et") (fun hb H1 e1 => ?_) fun hb H1 e1 => k _ e1
    rw [decide_eq_true h0, decide_eq_true h1] at hb
    cases hb
local macro_rules | `(tactic| walk_at "call") => `(tactic| ((with_reducible refine' sv_check1 ?c1 ?c2); (case c1 => walk_at "side"); (case c2 => walk_at "side")))
local macro_rules | `(tactic| walk_at "call") => `(tactic| ((with_reducible refine' sv_check_number ?c1 ?c2); (case c1 => walk_at "side"); (case c2 => walk_at "side")))
/-! ### fraction -/
def cd (a b : Int) : Int := ((Nat.gcd a.natAbs b.natAbs : Nat) : Int)
theorem cd_pos {a b : Int} (h : 0 < b) : 0 < cd a b := by
  unfold cd
  have := Nat.gcd_pos_of_pos_right a.natAbs (show 0 < b.natAbs by omega)
  omega
theorem cd_le {a b : Int} (h : 0 < b) : cd a b ≤ b := by
  unfold cd
  have := Nat.le_of_dvd (show 0 < b.natAbs by omega) (Nat.gcd_dvd_right a.natAbs b.natAbs)
  omega
theorem cd_dvd1 {a b : Int} : cd a b ∣ a := Int.ofNat_dvd_left.mpr (Nat.gcd_dvd_left a.natAbs b.natAbs)
theorem cd_dvd2 {a b : Int} : cd a b ∣ b := Int.ofNat_dvd_left.mpr (Nat.gcd_dvd_right a.natAbs b.natAbs)
def sp_fraction : Sp := fun vs H Q _ => ∃ a b : Int, vs = [.int a, .int b] ∧ 0 < b ∧ b.natAbs < 2 ^ 8000 ∧ RetU [.int (a / cd a b), .int (b / cd a b)] H Q
theorem su_fraction {H : Hp} {a b : Int} (h0 : 0 < b) (h1 : b.natAbs < 2 ^ 8000) : SpU sp_fraction ([.int a, .int b] ++ []) H [.int (a / cd a b), .int (b / cd a b)] := fun H1 _ Q q E => ⟨a, b, rfl, h0, h1, q⟩
theorem ok_fraction (T : Tx K mg) : FnOk P w K mg base CX0 1 T.f_fraction T.d_fraction ["top", "bottom"] sp_fraction := by
  refine T.F_fraction.ok sc_fraction (fun vs H Q E h => ?_) (fun cdv A outer s H vs Q E hr h => ?_)
  · obtain ⟨a, b, rfl, _⟩ := h
    rfl
  · obtain ⟨a, b, rfl, h0, h1, k⟩ := h
    refine ⟨_, (pss_cons (ps_set (i := 2) sc_fraction.nd rfl (Or.inl rfl) (pe_callBfun cr_gcd (by rfl) T.i_gcd (pa_cons (pv 0) (pa_cons (pv 1) pa_nil))))
      (pss_one (ps_ret (pe_tup (pa_cons (pe_op op_fdivW (pv 0) (pv 2)) (pa_cons (pe_op op_fdivW (pv 1) (pv 2)) pa_nil)))))), ?_⟩
    refine q_asg (by walk_at "ev") fun H1 e1 => ?_
    have hd : ∀ x : Int, CDivW x (cd a b) := fun x => wide_div (cd_pos h0) (Nat.lt_of_le_of_lt (by have := cd_le (a := a) h0; have := cd_pos (a := a) h0; omega) h1) (by decide) (by decide)
    have hd1 := hd a
    have hd2 := hd b
    refine s_retU (by walk_at "eu") fun p H2 hp e2 h2 => k p H2 (fresh_back e1 hp) (e1.trans e2) h2
local macro_rules | `(tactic| walk_at "callU") => `(tactic| ((with_reducible refine' su_fraction ?c1 ?c2); (case c1 => walk_at "side"); (case c2 => walk_at "side")))

end
local macro_rules | `(tactic| walk_at "call") => `(tactic| (with_reducible exact sv_whole))
local macro_rules | `(tactic| walk_at "call") => `(tactic| (with_reducible exact sv_between))
local macro_rules | `(tactic| walk_at "call") => `(tactic| ((with_reducible refine' sv_check1 ?c1 ?c2); (case c1 => walk_at "side"); (case c2 => walk_at "side")))
local macro_rules | `(tactic| walk_at "call") => `(tactic| ((with_reducible refine' sv_check_number ?c1 ?c2); (case c1 => walk_at "side"); (case c2 => walk_at "side")))
local macro_rules | `(tactic| walk_at "callU") => `(tactic| ((with_reducible refine' su_fraction ?c1 ?c2); (case c1 => walk_at "side"); (case c2 => walk_at "side")))

section
variable {P : Program} {w : World} {K : PySem.W.Frag} {mg : Str → Option Value} {base : Heap}
/-! ### best_weights -/
def sp_best_weights : Sp := fun vs H Q _ => ∃ n t : Nat, vs = [.int n, .int t] ∧ n ≤ 20 ∧ 1 ≤ t ∧ t ≤ n ∧ (t = n → RetV .non H Q) ∧ (t < n → ∀ lo, Low n t lo → lo ≤ 200 → RetU [.int lo, .int (high n t lo)] H Q)
theorem ok_best_weights (T : Tx K mg) : FnOk P w K mg base CX0 4 T.f_best_weights T.d_best_weights ["guests", "number"] sp_best_weights := by
  refine T.F_best_weights.ok sc_best_weights (fun vs H Q E h => ?_) (fun cdv A outer s H vs Q E hr h => ?_)
  · obtain ⟨n, t, rfl, _⟩ := h
    rfl
  · obtain ⟨n, t, rfl, hn, ht, htn, kN, kU⟩ := h
    refine ⟨_, (pss_cons (ps_expr (pe_call (ok_check_guests T) (hr.mono (by decide)) (by rfl) T.g_check_guests T.F_check_guests.kp T.b_check_guests .nil pass0 (pa_cons (pv 0) pa_nil)))
      (pss_cons (ps_expr (pe_call (ok_check_number T) (hr.mono (by decide)) (by rfl) T.g_check_number T.F_check_number.kp T.b_check_number .nil pass0 (pa_cons (pv 1) (pa_cons pe_int (pa_cons (pv 0) pa_nil)))))
      (pss_cons (ps_if (pt_cmpR op_eq (pv 1) (pv 0) (nomark _)) (pss_one (ps_ret pe_non)) pss_nil)
      (pss_cons (ps_set (i := 2) sc_best_weights.nd rfl (Or.inl rfl) pe_int)
      (pss_cons (ps_while PassesOwn.never (pt_cmpR op_gt (pe_call (ok_gain_behind T) (hr.mono (by decide)) (by rfl) T.g_gain_behind T.F_gain_behind.kp T.b_gain_behind .nil pass0 (pa_cons (pv 0) (pa_cons (pv 1) (pa_cons (pv 2) pa_nil)))) pe_int (nomark _)) (pss_one (ps_aug (i := 2) sc_best_weights.nd rfl (Or.inl rfl) pe_int ip_add)))
      (pss_cons (ps_if (pt_cmpR op_eq (pe_call (ok_gain_behind T) (hr.mono (by decide)) (by rfl) T.g_gain_behind T.F_gain_behind.kp T.b_gain_behind .nil pass0 (pa_cons (pv 0) (pa_cons (pv 1) (pa_cons (pv 2) pa_nil)))) pe_int (nomark _)) (pss_one (ps_ret (pe_tup (pa_cons (pv 2) (pa_cons (pe_op op_add (pv 2) pe_int) pa_nil))))) pss_nil)
      (pss_one (ps_ret (pe_tup (pa_cons (pv 2) (pa_cons (pv 2) pa_nil))))))))))), ?_⟩
    refine q_drop (by walk_at "ev") fun H1 e1 => ?_
    refine q_drop (by walk_at "ev") fun H2 e2 => ?_
    refine q_when (by walk_at "et") (fun hb H3 e3 => ?_) (fun hb H3 e3 => ?_)
    · have hb : (V.int t) = V.int n := of_decide_eq_true hb
      have hb : t = n := by
        injection hb with hb
        omega
      exact s_ret ev_c fun H4 e4 => kN hb _ (e1.trans (e2.trans (e3.trans e4)))
    · have hb : ¬ (V.int t) = V.int n := of_decide_eq_false hb
      have hlt : t < n := by
        rcases Nat.lt_or_ge t n with h | h
        · exact h
        · exact absurd (congrArg V.int (show (t : Int) = n by omega)) hb
      refine q_asg ev_c fun H4 e4 => ?_
      refine q_while (fun m σ' H' => ∃ w : Int, σ' = [some (.int n), some (.int t), some (.int w)] ∧ Ex H H' ∧ 1 ≤ w ∧ w ≤ 200 ∧ (∀ v, 1 ≤ v → v < w → 0 < gain n t v) ∧ m = (200 - w).toNat) 199
        ⟨1, rfl, e1.trans (e2.trans (e3.trans e4)), by decide, by decide, fun v h1 h2 => by omega, by decide⟩ ?_
      rintro m σ' H' ⟨w, rfl, e, hw1, hw2, hup, rfl⟩
      refine ⟨decide (0 < gain n t w), by walk_at "et", fun hb H5 e5 => ?_, fun hb H5 e5 => ?_⟩
      · have hb := of_decide_eq_true hb
        have hw3 : w < 200 := by
          rcases Int.lt_or_le w 200 with h | h
          · exact h
          · have := gain_high ht hlt hn h
            omega
        refine ⟨fun σ2 H2 => ∃ w' : Int, σ2 = [some (.int n), some (.int t), some (.int w')] ∧ Ex H H2 ∧ w' = w + 1, fun σ2 H2 ⟨w', h1, h2, h3⟩ => ⟨(200 - w').toNat, by omega, w', h1, h2, by omega, by omega, fun v hv1 hv2 => ?_, rfl⟩, ?_⟩
        · by_cases hv : v = w
          · rw [hv]
            exact hb
          · exact hup v hv1 (by omega)
        · exact s_aug rfl ev_c fun H6 e6 => ⟨w + 1, rfl, e.trans (e5.trans e6), rfl⟩
      · have hb := of_decide_eq_false hb
        have L : Low n t w := ⟨hw1, hup, by omega⟩
        have kU := kU hlt w L hw2
        refine q_when (b := decide (gain n t w = 0)) ?_ (fun hz H6 e6 => ?_) (fun hz H6 e6 => ?_)
        · refine et_is (a := decide (V.int (gain n t w) = V.int 0)) (by walk_at "et") ?_
          rw [dec_int]
          by_cases h : gain n t w = 0 <;> simp [h]
        · have hz := of_decide_eq_true hz
          have hh : high n t w = w + 1 := if_pos hz
          rw [hh] at kU
          exact s_retU (by walk_at "eu") fun p H7 hp e7 h7 => kU p H7 (fresh_back (e.trans (e5.trans e6)) hp) (e.trans (e5.trans (e6.trans e7))) h7
        · have hz := of_decide_eq_false hz
          have hh : high n t w = w := if_neg hz
          rw [hh] at kU
          exact s_retU (by walk_at "eu") fun p H7 hp e7 h7 => kU p H7 (fresh_back (e.trans (e5.trans e6)) hp) (e.trans (e5.trans (e6.trans e7))) h7

end
def sums (w : Int) : Nat → List Int
  | 0 => [1]
  | n + 1 => List.zipWith (· + ·) ((sums w n).map (· * (n : Int)) ++ [0]) (0 :: (sums w n).map (· * w))
theorem sums_len (w : Int) : ∀ n, (sums w n).length = n + 1
  | 0 => rfl
  | n + 1 => by
    show (List.zipWith (· + ·) ((sums w n).map (· * (n : Int)) ++ [0]) (0 :: (sums w n).map (· * w))).length = _
    have ih := sums_len w n
    simp [ih]
/-- how many seatings of n guests have t tables -/
def stir : Nat → Nat → Nat
  | 0, 0 => 1
  | 0, _ + 1 => 0
  | n + 1, 0 => n * stir n 0
  | n + 1, t + 1 => n * stir n (t + 1) + stir n t
theorem stir_big : ∀ n t, n < t → stir n t = 0
  | 0, t + 1, _ => rfl
  | n + 1, t + 1, h => by
    show n * stir n (t + 1) + stir n t = 0
    rw [stir_big n (t + 1) (by omega), stir_big n t (by omega)]
    simp
theorem sums_get (w : Int) : ∀ n t, t ≤ n → (sums w n)[t]? = some ((stir n t : Int) * w ^ t)
  | 0, 0, _ => by
    show some (1 : Int) = some (((1 : Nat) : Int) * w ^ 0)
    rw [Int.pow_zero]
    rfl
  | n + 1, 0, _ => by
    have ih := sums_get w n 0 (by omega)
    have hl := sums_len w n
    show (List.zipWith (· + ·) ((sums w n).map (· * (n : Int)) ++ [0]) (0 :: (sums w n).map (· * w)))[0]? = some (((n * stir n 0 : Nat) : Int) * w ^ 0)
    rw [List.getElem?_zipWith, List.getElem?_append_left (by rw [List.length_map]; omega), List.getElem?_map, ih]
    simp
    grind
  | n + 1, t + 1, h => by
    have hl := sums_len w n
    have ih := sums_get w n t (by omega)
    show (List.zipWith (· + ·) ((sums w n).map (· * (n : Int)) ++ [0]) (0 :: (sums w n).map (· * w)))[t + 1]? = some (((n * stir n (t + 1) + stir n t : Nat) : Int) * w ^ (t + 1))
    rw [List.getElem?_zipWith, List.getElem?_cons_succ, List.getElem?_map, ih]
    by_cases ht : t + 1 ≤ n
    · have ih2 := sums_get w n (t + 1) ht
      rw [List.getElem?_append_left (by rw [List.length_map]; omega), List.getElem?_map, ih2]
      simp
      rw [Int.pow_succ]
      grind
    · have e : t = n := by omega
      subst e
      rw [List.getElem?_append_right (by rw [List.length_map]; omega), List.length_map, hl, stir_big t (t + 1) (by omega)]
      simp
      rw [Int.pow_succ]
      grind
theorem sums_small {w : Int} (h0 : 0 ≤ w) (h1 : w ≤ 2 ^ 42) : ∀ n, n ≤ 20 → ∀ x ∈ sums w n, 0 ≤ x ∧ x ≤ 2 ^ (43 * n)
  | 0, _, x, hx => by
    have e : x = 1 := by simpa [sums] using hx
    subst e
    decide
  | n + 1, hn, x, hx => by
    have ih := sums_small h0 h1 n (by omega)
    have hp : (0 : Int) ≤ 2 ^ (43 * n) := Int.pow_nonneg (by decide)
    have e43 : (2 : Int) ^ (43 * (n + 1)) = 2 ^ (43 * n) * 2 ^ 43 := by rw [Nat.mul_succ, Int.pow_add]
    rw [e43]
    have hx : x ∈ List.zipWith (· + ·) ((sums w n).map (· * (n : Int)) ++ [0]) (0 :: (sums w n).map (· * w)) := hx
    obtain ⟨i, hi⟩ := List.mem_iff_getElem?.mp hx
    rw [List.getElem?_zipWith] at hi
    have one : ∀ a, ((sums w n).map (· * (n : Int)) ++ [0])[i]? = some a → 0 ≤ a ∧ a ≤ 2 ^ (43 * n) * 20 := fun a ha => by
      rcases List.mem_append.mp (List.mem_iff_getElem?.mpr ⟨i, ha⟩) with h | h
      · obtain ⟨y, hy, rfl⟩ := List.mem_map.mp h
        obtain ⟨y0, y1⟩ := ih y hy
        exact ⟨Int.mul_nonneg y0 (by omega), Int.mul_le_mul y1 (by omega) (by omega) hp⟩
      · have : a = 0 := by simpa using h
        omega
    have two : ∀ b, (0 :: (sums w n).map (· * w))[i]? = some b → 0 ≤ b ∧ b ≤ 2 ^ (43 * n) * 2 ^ 42 := fun b hb => by
      rcases List.mem_cons.mp (List.mem_iff_getElem?.mpr ⟨i, hb⟩) with h | h
      · omega
      · obtain ⟨y, hy, rfl⟩ := List.mem_map.mp h
        obtain ⟨y0, y1⟩ := ih y hy
        exact ⟨Int.mul_nonneg y0 h0, Int.mul_le_mul y1 h1 h0 hp⟩
    cases ha : ((sums w n).map (· * (n : Int)) ++ [0])[i]? with
    | none =>
      rw [ha] at hi
      cases hi
    | some a =>
      cases hb : (0 :: (sums w n).map (· * w))[i]? with
      | none =>
        rw [ha, hb] at hi
        cases hi
      | some b =>
        rw [ha, hb] at hi
        have e : a + b = x := Option.some.inj hi
        have A := one a ha
        have B := two b hb
        omega

section
variable {P : Program} {w : World} {K : PySem.W.Frag} {mg : Str → Option Value} {base : Heap}
/-- the product of all (f.1 * x + f.2) -/
def sstep (ns : List Int) (f : Int × Int) : List Int := List.zipWith (· + ·) (ns.map (· * f.2) ++ [0]) (0 :: ns.map (· * f.1))
def sumsF (fs : List (Int × Int)) : List Int := fs.foldl sstep [1]
theorem sumsF_take {fs : List (Int × Int)} {i : Nat} {f : Int × Int} (h : fs[i]? = some f) : sumsF (fs.take (i + 1)) = sstep (sumsF (fs.take i)) f := by
  unfold sumsF
  rw [List.take_add_one, h, List.foldl_append]
  rfl
theorem sstep_len (ns : List Int) (f : Int × Int) : (sstep ns f).length = ns.length + 1 := by
  simp [sstep]
theorem foldS_len : ∀ (fs : List (Int × Int)) (ns : List Int), (fs.foldl sstep ns).length = ns.length + fs.length
  | [], _ => rfl
  | f :: r, ns => by
    rw [List.foldl_cons, foldS_len r, sstep_len, List.length_cons]
    omega
theorem sumsF_len (fs : List (Int × Int)) : (sumsF fs).length = fs.length + 1 := by
  unfold sumsF
  rw [foldS_len, List.length_singleton]
  omega
def FOk (fs : List (Int × Int)) : Prop := fs.length ≤ 40 ∧ ∀ f ∈ fs, 0 ≤ f.1 ∧ f.1 ≤ 2 ^ 42 ∧ 0 ≤ f.2 ∧ f.2 ≤ 2 ^ 42
theorem sstep_small {ns : List Int} {f : Int × Int} {B : Int} (hB : 0 ≤ B) (h : ∀ x ∈ ns, 0 ≤ x ∧ x ≤ B) (h0 : 0 ≤ f.1) (h1 : f.1 ≤ 2 ^ 42) (h2 : 0 ≤ f.2) (h3 : f.2 ≤ 2 ^ 42) : ∀ x ∈ sstep ns f, 0 ≤ x ∧ x ≤ B * 2 ^ 43 := fun x hx => by
  obtain ⟨i, hi⟩ := List.mem_iff_getElem?.mp hx
  unfold sstep at hi
  rw [List.getElem?_zipWith] at hi
  have two : ∀ (g : Int), 0 ≤ g → g ≤ 2 ^ 42 → ∀ y ∈ ns.map (· * g), 0 ≤ y ∧ y ≤ B * 2 ^ 42 := fun g g0 g1 y hy => by
    obtain ⟨z, hz, rfl⟩ := List.mem_map.mp hy
    obtain ⟨z0, z1⟩ := h z hz
    exact ⟨Int.mul_nonneg z0 g0, Int.mul_le_mul z1 g1 g0 hB⟩
  have A : ∀ a, (ns.map (· * f.2) ++ [0])[i]? = some a → 0 ≤ a ∧ a ≤ B * 2 ^ 42 := fun a ha => by
    rcases List.mem_append.mp (List.mem_iff_getElem?.mpr ⟨i, ha⟩) with h | h
    · exact two _ h2 h3 a h
    · have : a = 0 := by simpa using h
      subst this
      exact ⟨Int.le_refl _, Int.mul_nonneg hB (by decide)⟩
  have C : ∀ b, (0 :: ns.map (· * f.1))[i]? = some b → 0 ≤ b ∧ b ≤ B * 2 ^ 42 := fun b hb => by
    rcases List.mem_cons.mp (List.mem_iff_getElem?.mpr ⟨i, hb⟩) with h | h
    · subst h
      exact ⟨Int.le_refl _, Int.mul_nonneg hB (by decide)⟩
    · exact two _ h0 h1 b h
  cases ha : (ns.map (· * f.2) ++ [0])[i]? with
  | none =>
    rw [ha] at hi
    cases hi
  | some a =>
    cases hb : (0 :: ns.map (· * f.1))[i]? with
    | none =>
      rw [ha, hb] at hi
      cases hi
    | some b =>
      rw [ha, hb] at hi
      have e : a + b = x := Option.some.inj hi
      have p := A a ha
      have q := C b hb
      omega
theorem foldS_small : ∀ (fs : List (Int × Int)), (∀ f ∈ fs, 0 ≤ f.1 ∧ f.1 ≤ 2 ^ 42 ∧ 0 ≤ f.2 ∧ f.2 ≤ 2 ^ 42) → ∀ (ns : List Int) (k : Nat), (∀ x ∈ ns, 0 ≤ x ∧ x ≤ 2 ^ (43 * k)) → ∀ x ∈ fs.foldl sstep ns, 0 ≤ x ∧ x ≤ 2 ^ (43 * (k + fs.length))
  | [], _, ns, k, h => h
  | f :: r, hf, ns, k, h => by
    obtain ⟨a, b, c, d⟩ := hf f List.mem_cons_self
    have e43 : (2 : Int) ^ (43 * (k + 1)) = 2 ^ (43 * k) * 2 ^ 43 := by rw [Nat.mul_succ, Int.pow_add]
    have ih := foldS_small r (fun g hg => hf g (List.mem_cons_of_mem _ hg)) (sstep ns f) (k + 1) (fun x hx => by
      rw [e43]
      exact sstep_small (Int.pow_nonneg (by decide)) h a b c d x hx)
    rw [show k + (f :: r).length = k + 1 + r.length by rw [List.length_cons]; omega]
    exact ih
theorem sumsF_small {fs : List (Int × Int)} (h : FOk fs) : ∀ x ∈ sumsF fs, 0 ≤ x ∧ x ≤ 2 ^ (43 * fs.length) := by
  have q := foldS_small fs h.2 [1] 0 (fun x hx => by
    have e : x = 1 := by simpa using hx
    subst e
    decide)
  rw [Nat.zero_add] at q
  exact q
theorem FOk.take {fs : List (Int × Int)} (h : FOk fs) (i : Nat) : FOk (fs.take i) := ⟨by
  have := h.1
  rw [List.length_take]
  omega, fun f hf => h.2 f (List.mem_of_mem_take hf)⟩
def twoV (f : Int × Int) : List V := [.int f.1, .int f.2]
def sp_sums_by_tables : Sp := fun vs H Q _ => ∃ (a : Addr) (ws : List V) (fs : List (Int × Int)), vs = [.ref a] ∧ H a = some (.lst ws) ∧ TL H ws (fs.map twoV) ∧ FOk fs ∧ RetL ((sumsF fs).map V.int) H Q
def mulV (g : Int) : V → V
  | .int x => .int (x * g)
  | v => v
def addV : V → V → V
  | .int x, .int y => .int (x + y)
  | v, _ => v
theorem map_mulV (g : Int) (ns : List Int) : (ns.map V.int).map (mulV g) = (ns.map (· * g)).map V.int := by
  rw [List.map_map, List.map_map]
  rfl
theorem zip_addV : ∀ ns ms : List Int, List.zipWith addV (ns.map V.int) (ms.map V.int) = (List.zipWith (· + ·) ns ms).map V.int
  | [], _ => rfl
  | _ :: _, [] => rfl
  | x :: r, y :: s => congrArg (V.int (x + y) :: ·) (zip_addV r s)
theorem ok_sums_by_tables (T : Tx K mg) : FnOk P w K mg base CX0 1 T.f_sums_by_tables T.d_sums_by_tables ["factors"] sp_sums_by_tables := by
  refine T.F_sums_by_tables.ok sc_sums_by_tables (fun vs H Q E h => ?_) (fun cdv A outer s H vs Q E hr h => ?_)
  · obtain ⟨a, ws, fs, rfl, _⟩ := h
    rfl
  · obtain ⟨a, ws, fs, rfl, ha, ht, hf, k⟩ := h
    refine ⟨_, (pss_cons (ps_set (i := 1) sc_sums_by_tables.nd rfl (Or.inl rfl) (pe_lst (pa_cons pe_int pa_nil)))
      (pss_cons (ps_for PassesOwn.never rfl (pi_list (pv 0)) (pg_tup rfl (pgs_cons (pg_name (i := 2) sc_sums_by_tables.nd rfl (Or.inr rfl)) (pgs_cons (pg_name (i := 3) sc_sums_by_tables.nd rfl (Or.inr rfl)) pgs_nil))) (pss_cons (ps_set (i := 5) sc_sums_by_tables.nd rfl (Or.inl rfl) (pe_op op_cat (pe_lc (own := [("part", 4)]) (g := (gName 4)) (tt := tYes) rfl sc_sums_by_tables.nd (pi_list (pv 1)) (blkOk_by (own := [("part", 4)]) (N := n_sums_by_tables) (sc := defScope s_sums_by_tables) (by decide +kernel)) (fun _ _ _ _ _ => (pg_name (i := 4) sc_sums_by_tables.nd rfl (Or.inl rfl))) (fun _ _ _ _ _ => pts_nil) (fun _ _ _ _ _ => (pe_op op_mulX (pv 4) (pv 3)))) (pe_lst (pa_cons pe_int pa_nil))))
      (pss_cons (ps_set (i := 6) sc_sums_by_tables.nd rfl (Or.inl rfl) (pe_op op_cat (pe_lst (pa_cons pe_int pa_nil)) (pe_lc (own := [("part", 4)]) (g := (gName 4)) (tt := tYes) rfl sc_sums_by_tables.nd (pi_list (pv 1)) (blkOk_by (own := [("part", 4)]) (N := n_sums_by_tables) (sc := defScope s_sums_by_tables) (by decide +kernel)) (fun _ _ _ _ _ => (pg_name (i := 4) sc_sums_by_tables.nd rfl (Or.inl rfl))) (fun _ _ _ _ _ => pts_nil) (fun _ _ _ _ _ => (pe_op op_mulX (pv 4) (pv 2))))))
      (pss_one (ps_setLc (i := 1) (own := [("one", 7), ("other", 8)]) (g := (gTup _ 2 (gCons (gName 7) (gCons (gName 8) gNil)))) (tt := tYes) rfl sc_sums_by_tables.nd rfl rfl (sw_true rfl rfl rfl (by decide +kernel)) (pi_zip (by rfl) T.m_zip (pa_cons (pv 5) (pa_cons (pv 6) pa_nil))) (blkOk_by (own := [("one", 7), ("other", 8)]) (N := n_sums_by_tables) (sc := defScope s_sums_by_tables) (by decide +kernel)) (fun _ _ _ _ _ => (pg_tup rfl (pgs_cons (pg_name (i := 7) sc_sums_by_tables.nd rfl (Or.inl rfl)) (pgs_cons (pg_name (i := 8) sc_sums_by_tables.nd rfl (Or.inl rfl)) pgs_nil)))) (fun _ _ _ _ _ => pts_nil) (fun _ _ _ _ _ => (pe_op op_add (pv 7) (pv 8))))))))
      (pss_one (ps_ret (pv 1))))), ?_⟩
    have hwl : ws.length = fs.length := by rw [ht.len, List.length_map]
    have hfl := hf.1
    refine q_asgL (by walk_at "el") fun p H1 hp e1 h1 => ?_
    refine q_forL (ev_var rfl) (sq_of (e1 a _ ha))
      (fun i σ' H' => ∃ q y2 y3 y5 y6, σ' = [some (.ref a), some (.ref q), y2, y3, none, y5, y6, none, none] ∧ H q = none ∧ Ex H H' ∧ H' q = some (.lst ((sumsF (fs.take i)).map V.int)))
      (fun H2 e2 => ⟨p, none, none, none, none, rfl, hp, e1.trans e2, e2 p _ h1⟩) (fun i σ' H' _ ⟨q, y2, y3, y5, y6, _, _, e, _⟩ => sq_of (e a _ ha)) ?_ ?_
    · rintro i x σ' H' hx ⟨q, y2, y3, y5, y6, rfl, hq, e, hl⟩
      obtain ⟨b, r, rfl, hb, hr2⟩ := ht.get hx
      obtain ⟨f, hfi, rfl⟩ : ∃ f, fs[i]? = some f ∧ twoV f = r := by
        rw [List.getElem?_map] at hr2
        exact Option.map_eq_some_iff.mp hr2
      have him : i < fs.length := (List.getElem?_eq_some_iff.mp hfi).1
      obtain ⟨fa, fb, fc, fd⟩ := hf.2 f (List.mem_iff_getElem?.mpr ⟨i, hfi⟩)
      have hsm := sumsF_small (hf.take i)
      have hlen := sumsF_len (fs.take i)
      have hti : (fs.take i).length = i := by
        rw [List.length_take]
        omega
      rw [hti] at hsm hlen
      have cm : ∀ (g : Int), g.natAbs < 2 ^ 64 → ∀ (j : Nat) (y : V), ((sumsF (fs.take i)).map V.int)[j]? = some y → ∃ z, y = .int z ∧ CMulX z g := fun g hg j y hy => by
        rw [List.getElem?_map] at hy
        cases hz : (sumsF (fs.take i))[j]? with
        | none =>
          rw [hz] at hy
          cases hy
        | some z =>
          rw [hz] at hy
          obtain ⟨z0, z1⟩ := hsm z (List.mem_iff_getElem?.mpr ⟨j, hz⟩)
          have hp2 : (2 : Int) ^ (43 * i) = ((2 ^ (43 * i) : Nat) : Int) := by simp
          rw [hp2] at z1
          exact ⟨z, (Option.some.inj hy).symm, mulx_ok (lt_of_le2 (k := 43 * i) (by omega)) hg (by omega)⟩
      refine ⟨b, [.int f.1, .int f.2], rfl, st_of (e b _ hb), rfl, .int f.1, [.int f.2], rfl, .int f.2, [], rfl, rfl, ?_⟩
      refine q_asgL (el_cat (el_map (mulV f.2) (ev_var rfl) (sq_of hl) (by rw [List.length_map]; omega) (fun _ => rfl) fun j y H2 e2 hy => ?_) (by walk_at "el") (by simp; omega)) fun p5 H2 hp5 e2 h2 => ?_
      · obtain ⟨z, rfl, hc⟩ := cm f.2 (by omega) j y hy
        exact ev_op (ev_var rfl) (ev_var rfl) (rv_I hc)
      have hl2 := e2 q _ hl
      refine q_asgL (el_cat (by walk_at "el") (el_map (mulV f.1) (ev_var rfl) (sq_of hl2) (by rw [List.length_map]; omega) (fun _ => rfl) fun j y H3 e3 hy => ?_) (by simp; omega)) fun p6 H3 hp6 e3 h3 => ?_
      · obtain ⟨z, rfl, hc⟩ := cm f.1 (by omega) j y hy
        exact ev_op (ev_var rfl) (ev_var rfl) (rv_I hc)
      rw [map_mulV] at h2 h3
      have g2 : H3 p5 = some (.lst (((sumsF (fs.take i)).map (· * f.2) ++ [0]).map V.int)) := by
        rw [List.map_append]
        exact e3 p5 _ h2
      have g3 : H3 p6 = some (.lst ((0 :: (sumsF (fs.take i)).map (· * f.1)).map V.int)) := h3
      refine s_asgL (el_zip addV (by walk_at "ea") (sq_of g2) (sq_of g3) (by simp) (by simp; omega) (fun _ _ => rfl) fun j a b H4 e4 ha hb => ?_) fun p2 H4 hp2 e4 h4 => ?_
      · rw [List.getElem?_map] at ha hb
        obtain ⟨a', _, rfl⟩ := Option.map_eq_some_iff.mp ha
        obtain ⟨b', _, rfl⟩ := Option.map_eq_some_iff.mp hb
        exact ev_op (ev_var rfl) (ev_var rfl) rv_I0
      · rw [zip_addV] at h4
        exact ⟨p2, _, _, _, _, rfl, fresh_back (e.trans (e2.trans e3)) hp2, e.trans (e2.trans (e3.trans e4)), by rw [sumsF_take hfi]; exact h4⟩
    · rintro σ' H' ⟨q, y2, y3, y5, y6, rfl, hq, e, hl⟩
      rw [hwl, List.take_length] at hl
      refine s_ret (ev_var rfl) fun H2 e2 => k q H2 hq (e.trans e2) (e2 q _ hl)

theorem el_call1LT {σ : L2.St} {H : Hp} {te : TE} {sp : Sp} {dvs ys : List V} {xs : List (List V)} {E : XK} (h : EvLT te σ H xs) (hs : ∀ p ws H1, Ex H H1 → H1 p = some (.lst ws) → TL H1 ws xs → SpL sp ([.ref p] ++ dvs) H1 ys) : EvL (tCall sp dvs E (tCons te tNil)) σ H ys := fun H1 e Q q =>
  h H1 e _ fun p ws H2 _ e2 h2 hw => hs p ws H2 (e.trans e2) h2 hw H2 (Ex.refl _) Q (fun l H3 hl e3 h3 => q l H3 (fresh_back e2 hl) (e2.trans e3) h3) E
theorem sl_sums {H : Hp} {a : Addr} {ws : List V} {fs : List (Int × Int)} (ha : H a = some (.lst ws)) (ht : TL H ws (fs.map twoV)) (hf : FOk fs) : SpL sp_sums_by_tables ([.ref a] ++ []) H ((sumsF fs).map V.int) := fun H1 e Q q E => ⟨a, ws, fs, rfl, e a _ ha, ht.ex e, hf, q⟩
/-- the factors of weights_by_tables -/
def facs (w : Int) (n : Nat) : List (Int × Int) := (List.range n).map fun i : Nat => (w, (i : Int))
theorem fok_facs {w : Int} {n : Nat} (hn : n ≤ 20) (h0 : 0 ≤ w) (h1 : w ≤ 2 ^ 42) : FOk (facs w n) := ⟨by
  unfold facs
  rw [List.length_map, List.length_range]
  omega, fun f hf => by
  obtain ⟨i, hi, rfl⟩ := List.mem_map.mp hf
  have := List.mem_range.mp hi
  exact ⟨h0, h1, by show (0 : Int) ≤ (i : Int); omega, by show (i : Int) ≤ 2 ^ 42; omega⟩⟩

theorem sumsF_facs (w : Int) : ∀ n, sumsF (facs w n) = sums w n
  | 0 => rfl
  | n + 1 => by
    have ih := sumsF_facs w n
    unfold sumsF facs at ih ⊢
    rw [List.range_succ, List.map_append, List.foldl_append, ih]
    rfl
def sp_weights_by_tables : Sp := fun vs H Q _ => ∃ (n : Nat) (w : Int), vs = [.int n, .int w] ∧ n ≤ 20 ∧ 0 ≤ w ∧ w ≤ 2 ^ 42 ∧ RetL ((sums w n).map V.int) H Q
theorem sl_wbt {H : Hp} {n : Nat} {w : Int} (h0 : n ≤ 20) (h1 : 0 ≤ w) (h2 : w ≤ 2 ^ 42) : SpL sp_weights_by_tables ([.int (n : Int), .int w] ++ []) H ((sums w n).map V.int) := fun H1 _ Q q E => ⟨n, w, rfl, h0, h1, h2, q⟩
theorem ok_weights_by_tables (T : Tx K mg) : FnOk P w K mg base CX0 2 T.f_weights_by_tables T.d_weights_by_tables ["guests", "weight"] sp_weights_by_tables := by
  refine T.F_weights_by_tables.ok sc_weights_by_tables (fun vs H Q E h => ?_) (fun cdv A outer s H vs Q E hr h => ?_)
  · obtain ⟨n, x, rfl, _⟩ := h
    rfl
  · obtain ⟨n, x, rfl, hn, hx0, hx1, k⟩ := h
    refine ⟨_, (pss_one (ps_ret (pe_call (ok_sums_by_tables T) (hr.mono (by decide)) (by rfl) T.g_sums_by_tables T.F_sums_by_tables.kp T.b_sums_by_tables .nil pass0 (pa_cons (pe_lc (own := [("guest", 2)]) (g := (gName 2)) (tt := tYes) rfl sc_weights_by_tables.nd (pi_range1 (by rfl) T.m_range (pa_cons (pv 0) pa_nil)) (blkOk_by (own := [("guest", 2)]) (N := n_weights_by_tables) (sc := defScope s_weights_by_tables) (by decide +kernel)) (fun _ _ _ _ _ => (pg_name (i := 2) sc_weights_by_tables.nd rfl (Or.inl rfl))) (fun _ _ _ _ _ => pts_nil) (fun _ _ _ _ _ => (pe_tup (pa_cons (pv 1) (pa_cons (pv 2) pa_nil))))) pa_nil)))), ?_⟩
    have lt := elt_R1 (te := tTup (tCons (tVar 1) (tCons (tVar 2) tNil))) (ta := tCons (tVar 0) tNil) (j := 2) (vs := [2]) (H := H) (σ := start n_weights_by_tables [.int (n : Int), .int x]) (n := (n : Int)) (fun i : Nat => twoV (x, (i : Int))) (ea_cons (ev_var (i := 0) rfl) ea_nil) ⟨by omega, by omega⟩ (fun _ => rfl) (fun i H1 e hi => eu_tup (ea_cons (ev_var rfl) (ea_cons (ev_var rfl) ea_nil)) (Nat.le_of_ble_eq_true rfl))
    have e : (List.range (n : Int).toNat).map (fun i : Nat => twoV (x, (i : Int))) = (facs x n).map twoV := by
      unfold facs
      rw [List.map_map]
      rfl
    rw [e] at lt
    refine s_retL (el_call1LT lt fun p ws H1 e1 h1 hw => sl_sums h1 hw (fok_facs hn hx0 hx1)) fun p H1 hp e1 h1 => k p H1 hp e1 ?_
    rw [sumsF_facs] at h1
    exact h1

local macro_rules | `(tactic| walk_at "callL") => `(tactic| ((with_reducible refine' sl_wbt ?c1 ?c2 ?c3); (case c1 => walk_at "side"); (case c2 => walk_at "side"); (case c3 => walk_at "side")))
/-- what tables_share gives -/
def shareT (n t : Nat) (w : Int) : List V := [.int ((stir n t : Int) * w ^ t / cd ((stir n t : Int) * w ^ t) (rise w n)), .int (rise w n / cd ((stir n t : Int) * w ^ t) (rise w n))]
def sp_tables_share : Sp := fun vs H Q _ => ∃ (n t : Nat) (w : Int), vs = [.int n, .int w, .int t] ∧ 1 ≤ n ∧ n ≤ 20 ∧ t ≤ n ∧ 1 ≤ w ∧ w ≤ 1000000000000 ∧ RetU (shareT n t w) H Q
theorem su_share {H : Hp} {n t : Nat} {w : Int} (h0 : 1 ≤ n) (h1 : n ≤ 20) (h2 : t ≤ n) (h3 : 1 ≤ w) (h4 : w ≤ 1000000000000) : SpU sp_tables_share ([.int (n : Int), .int w, .int (t : Int)] ++ []) H (shareT n t w) := fun H1 _ Q q E => ⟨n, t, w, rfl, h0, h1, h2, h3, h4, q⟩
theorem ok_tables_share (T : Tx K mg) : FnOk P w K mg base CX0 4 T.f_tables_share T.d_tables_share ["guests", "weight", "number"] sp_tables_share := by
  refine T.F_tables_share.ok sc_tables_share (fun vs H Q E h => ?_) (fun cdv A outer s H vs Q E hr h => ?_)
  · obtain ⟨n, t, x, rfl, _⟩ := h
    rfl
  · obtain ⟨n, t, x, rfl, hn0, hn, ht, hx0, hx1, k⟩ := h
    refine ⟨_, (pss_cons (ps_expr (pe_call (ok_check_guests T) (hr.mono (by decide)) (by rfl) T.g_check_guests T.F_check_guests.kp T.b_check_guests .nil pass0 (pa_cons (pv 0) pa_nil)))
      (pss_cons (ps_expr (pe_call (ok_check_weight T) (hr.mono (by decide)) (by rfl) T.g_check_weight T.F_check_weight.kp T.b_check_weight .nil pass0 (pa_cons (pv 1) pa_nil)))
      (pss_cons (ps_expr (pe_call (ok_check_number T) (hr.mono (by decide)) (by rfl) T.g_check_number T.F_check_number.kp T.b_check_number .nil pass0 (pa_cons (pv 2) (pa_cons pe_int (pa_cons (pv 0) pa_nil)))))
      (pss_one (ps_ret (pe_call (ok_fraction T) (hr.mono (by decide)) (by rfl) T.g_fraction T.F_fraction.kp T.b_fraction .nil pass0 (pa_cons (pe_ix ix_list (pe_call (ok_weights_by_tables T) (hr.mono (by decide)) (by rfl) T.g_weights_by_tables T.F_weights_by_tables.kp T.b_weights_by_tables .nil pass0 (pa_cons (pv 0) (pa_cons (pv 1) pa_nil))) (pv 2) (fun _ _ => rfl)) (pa_cons (pe_call (ok_rising T) (hr.mono (by decide)) (by rfl) T.g_rising T.F_rising.kp T.b_rising .nil pass0 (pa_cons (pv 1) (pa_cons (pv 0) pa_nil))) pa_nil)))))))), ?_⟩
    refine q_drop (by walk_at "ev") fun H1 e1 => ?_
    refine q_drop (by walk_at "ev") fun H2 e2 => ?_
    refine q_drop (by walk_at "ev") fun H3 e3 => ?_
    have hr0 := rise_pos hx0 n
    have hr1 : (rise x n).natAbs < 2 ^ 8000 := lt2_mono (lt_of_le2 (rise_le (by omega) n (by omega))) (by omega)
    have hg : ((sums x n).map V.int)[t]? = some (.int ((stir n t : Int) * x ^ t)) := by
      rw [List.getElem?_map, sums_get x n t ht]
      rfl
    have ev1 : Ev (tOp (rIxL K) (tCall sp_weights_by_tables [] E0 (tCons (tVar 0) (tCons (tVar 1) tNil))) (tVar 2)) [some (V.int n), some (.int x), some (.int t)] H3 (.int ((stir n t : Int) * x ^ t)) :=
      ev_opL1 (el_call (by walk_at "ea") (sl_wbt hn (by omega) (by omega))) (fun H4 e4 => ev_var rfl) fun p H4 hp e4 => rv_ixL (sq_of hp) (atI_nat hg)
    refine s_retU (eu_call (ea_cons ev1 (ea_cons (by walk_at "ev") ea_nil)) (su_fraction hr0 hr1)) fun p H4 hp e4 h4 => k p H4 (fresh_back (e1.trans (e2.trans e3)) hp) (e1.trans (e2.trans (e3.trans e4))) h4

end
local macro_rules | `(tactic| walk_at "callL") => `(tactic| ((with_reducible refine' sl_wbt ?c1 ?c2 ?c3); (case c1 => walk_at "side"); (case c2 => walk_at "side"); (case c3 => walk_at "side")))
local macro_rules | `(tactic| walk_at "callU") => `(tactic| ((with_reducible refine' su_share ?c1 ?c2 ?c3 ?c4 ?c5); (case c1 => walk_at "side"); (case c2 => walk_at "side"); (case c3 => walk_at "side"); (case c4 => walk_at "side"); (case c5 => walk_at "side")))

/-! ### expressions that draw -/
theorem hm_trans {p : Addr} {H H1 H2 : Hp} (a : Ex (Hm p H) H1) (b : Ex (Hm p H1) H2) : Ex (Hm p H) H2 := fun x o h => by
  have ne : x ≠ p := fun z => by
    subst z
    rw [hm_p] at h
    cases h
  have h1 := a x o h
  refine b x o ?_
  unfold Hm
  rw [if_neg ne]
  exact h1
theorem hm_next {p : Addr} {H0 H H1 : Hp} (h0 : H0 p = none) (e : Ex H0 H) (s : Ex (Hm p H) H1) : Ex H0 H1 := (ex_hm e h0).trans s
theorem hm_of {p : Addr} {H H1 : Hp} (e : Ex H H1) : Ex (Hm p H) H1 := hm_sub.trans e
theorem hm_at {p a : Addr} {H H1 : Hp} {o : HO} (s : Ex (Hm p H) H1) (ne : a ≠ p) (h : H a = some o) : H1 a = some o := s a o (by
  unfold Hm
  rw [if_neg ne]
  exact h)
theorem Po.ne {p l : Addr} {n : Nat} {H : Hp} (h : Po p n H) (hl : H l = none) : l ≠ p := fun z => by
  subst z
  obtain ⟨_, _, _, h1, _⟩ := h
  rw [hl] at h1
  cases h1
def EvP (p : Addr) (k : Nat) (te : TE) (σ : L2.St) (H0 : Hp) (R : V → Hp → Prop) : Prop := ∀ n H1, Ex H0 H1 → Po p n H1 → n + k ≤ 1000000000 →
  ∀ Q : VK, (∀ v H2, R v H2 → Po p (n + k) H2 → Ex (Hm p H1) H2 → Q v H2) → te σ H1 Q
def Stb (p : Addr) (R : V → Hp → Prop) : Prop := ∀ v H H', R v H → Ex (Hm p H) H' → R v H'
section
variable {K : PySem.W.Frag} {σ : L2.St} {H0 H : Hp} {p : Addr} {k k1 k2 : Nat} {te ta tb : TE} {R Ra Rb : V → Hp → Prop}
theorem ep_ev {v : V} (h : Ev te σ H0 v) : EvP p 0 te σ H0 (fun x _ => x = v) := fun n H1 e hp _ Q q => h H1 e Q fun H2 e2 => q v H2 rfl (hp.ex e2) (hm_of e2)
theorem ep_L {xs : List V} (h : EvL te σ H0 xs) : EvP p 0 te σ H0 (fun x H => ∃ l, l ≠ p ∧ x = .ref l ∧ H l = some (.lst xs)) := fun n H1 e hp _ Q q => h H1 e Q fun l H2 hl e2 h2 => q _ H2 ⟨l, hp.ne hl, rfl, h2⟩ (hp.ex e2) (hm_of e2)
theorem stb_L {xs : List V} : Stb p (fun x H => ∃ l, l ≠ p ∧ x = .ref l ∧ H l = some (.lst xs)) := fun v H H' ⟨l, ne, e, h⟩ s => ⟨l, ne, e, hm_at s ne h⟩
theorem stb_c {C : V → Prop} : Stb p (fun x _ => C x) := fun _ _ _ h _ => h
theorem ep_op {r : R2} (h0 : H0 p = none) (ha : EvP p k1 ta σ H0 Ra) (hb : EvP p k2 tb σ H0 Rb) (s1 : Stb p Ra) (s : Stb p R) (hr : ∀ x y H, Ra x H → Rb y H → ∃ z, R z H ∧ RV r x y H z) : EvP p (k1 + k2) (tOp r ta tb) σ H0 R :=
  fun n H1 e hp hn Q q => ha n H1 e hp (by omega) _ fun x H2 hx p2 e2 => hb (n + k1) H2 (hm_next h0 e e2) p2 (by omega) _ fun y H3 hy p3 e3 => by
    obtain ⟨z, hz, hv⟩ := hr x y H3 (s1 x H2 H3 hx e3) hy
    refine hv H3 (Ex.refl H3) Q fun H4 e4 => q z H4 (s z H3 H4 hz (hm_of e4)) ?_ (hm_trans (hm_trans e2 e3) (hm_of e4))
    rw [← Nat.add_assoc]
    exact p3.ex e4
theorem ep_dip {tw : TE} {E : XK} {C : Int → Prop} (h0 : H0 p = none) (hp : Ev ta σ H0 (.ref p)) (hw : EvP p k tw σ H0 (fun v _ => ∃ w, v = .int w ∧ 0 < w ∧ w < 2 ^ 200 ∧ C w)) :
    EvP p (k + 1) (tCall sp_law_dip [] E (tCons ta (tCons tw tNil))) σ H0 (fun v _ => ∃ r w, v = .int r ∧ 0 ≤ r ∧ r < w ∧ C w) :=
  fun n H1 e hpo hn Q q => hp H1 e _ fun H2 e2 => hw n H2 (e.trans e2) (hpo.ex e2) (by omega) _ fun y H3 hy p3 e3 => by
    obtain ⟨w, rfl, w0, w1, c⟩ := hy
    exact ⟨p, n + k, w, rfl, p3, by omega, w0, w1, fun r H' r0 r1 p4 e4 => q _ H' ⟨r, w, rfl, r0, r1, c⟩ p4 (hm_trans (hm_trans (hm_of e2) e3) e4)⟩
theorem ep_is {R' : V → Hp → Prop} (h : EvP p k te σ H0 R) (e : ∀ v H, R v H → R' v H) : EvP p k te σ H0 R' := fun n H1 a b c Q q => h n H1 a b c Q fun v H2 hv => q v H2 (e v H2 hv)
/-- the width is a pure int -/
theorem ep_dipI {tw : TE} {E : XK} {w : Int} (h0 : H0 p = none) (hp : Ev ta σ H0 (.ref p)) (hw : Ev tw σ H0 (.int w)) (w0 : 0 < w) (w1 : w < 2 ^ 200) :
    EvP p 1 (tCall sp_law_dip [] E (tCons ta (tCons tw tNil))) σ H0 (fun v _ => ∃ r, v = .int r ∧ 0 ≤ r ∧ r < w) :=
  ep_is (ep_dip (k := 0) (C := fun z => z = w) h0 hp (ep_is (ep_ev hw) fun v H e => ⟨w, e, w0, w1, rfl⟩)) fun v H ⟨r, z, e, r0, r1, e2⟩ => ⟨r, e, r0, e2 ▸ r1⟩
/-- a + b, b drawn -/
theorem ep_add {a : Int} {C : Int → Prop} (h0 : H0 p = none) (ha : Ev ta σ H0 (.int a)) (hb : EvP p k tb σ H0 (fun v _ => ∃ r, v = .int r ∧ C r)) : EvP p (0 + k) (tOp (rI0 fun i j => .int (i + j)) ta tb) σ H0 (fun v _ => ∃ r, v = .int (a + r) ∧ C r) :=
  ep_op h0 (ep_ev ha) hb stb_c stb_c fun x y H e ⟨r, e2, c⟩ => ⟨.int (a + r), ⟨r, rfl, c⟩, by
    subst e
    subst e2
    exact rv_I0⟩
theorem p_asg {i n : Nat} {D : Ends} (h : EvP p k te σ H0 R) (e : Ex H0 H) (hp : Po p n H) (hn : n + k ≤ 1000000000) (q : ∀ v H2, R v H2 → Po p (n + k) H2 → Ex (Hm p H) H2 → D.nx (σ.set i (some v)) H2) : tAsg te (gName i) D σ H := h n H e hp hn _ q
theorem pq_asg {i n : Nat} {D : Ends} {tz : TS} (h : EvP p k te σ H0 R) (e : Ex H0 H) (hp : Po p n H) (hn : n + k ≤ 1000000000) (q : ∀ v H2, R v H2 → Po p (n + k) H2 → Ex (Hm p H) H2 → tz D (σ.set i (some v)) H2) : tSeq (tAsg te (gName i)) tz D σ H := h n H e hp hn _ q
/-- tests that draw -/
def EtP (p : Addr) (k : Nat) (t : TT) (σ : L2.St) (H0 : Hp) (b : Bool) : Prop := ∀ n H1, Ex H0 H1 → Po p n H1 → n + k ≤ 1000000000 →
  ∀ Q : Bool → Hp → Prop, (∀ H2, Po p (n + k) H2 → Ex (Hm p H1) H2 → Q b H2) → t σ H1 Q
variable {t u : TT} {b c : Bool}
theorem tp_B (h : EvP p k te σ H0 (fun v _ => v = .bl b)) : EtP p k (tB te) σ H0 b := fun n H1 e hp hn Q q => h n H1 e hp hn _ fun v H2 hv p2 e2 => ⟨b, hv, q H2 p2 e2⟩
theorem tp_not (h : EtP p k t σ H0 b) : EtP p k (tNot t) σ H0 (!b) := fun n H1 e hp hn Q q => h n H1 e hp hn _ fun H2 p2 e2 => q H2 p2 e2
theorem tp_is (h : EtP p k t σ H0 b) (e : b = c) : EtP p k t σ H0 c := e ▸ h
theorem tp_or (h0 : H0 p = none) (h : EtP p k1 t σ H0 false) (h' : EtP p k2 u σ H0 b) : EtP p (k1 + k2) (tOr t u) σ H0 b := fun n H1 e hp hn Q q => h n H1 e hp (by omega) _ fun H2 p2 e2 => by
  show u σ H2 Q
  refine h' (n + k1) H2 (hm_next h0 e e2) p2 (by omega) Q fun H3 p3 e3 => q H3 ?_ (hm_trans e2 e3)
  rw [← Nat.add_assoc]
  exact p3
theorem tp_et (h : EvT t σ H0 b) : EtP p 0 t σ H0 b := fun n H1 e hp _ Q q => h H1 e Q fun H2 e2 => q H2 (hp.ex e2) (hm_of e2)
/-- a test that is false: what follows -/
theorem pq_no {n : Nat} {D : Ends} {tu tz : TS} (h : EtP p k t σ H0 false) (e : Ex H0 H) (hp : Po p n H) (hn : n + k ≤ 1000000000) (q : ∀ H2, Po p (n + k) H2 → Ex (Hm p H) H2 → tz D σ H2) : tSeq (tIfS t tu tNext) tz D σ H := h n H e hp hn _ q
theorem ps_no {n : Nat} {D : Ends} {tu : TS} (h : EtP p k t σ H0 false) (e : Ex H0 H) (hp : Po p n H) (hn : n + k ≤ 1000000000) (q : ∀ H2, Po p (n + k) H2 → Ex (Hm p H) H2 → D.nx σ H2) : tIfS t tu tNext D σ H := h n H e hp hn _ q
/-- pouch = _law_pouch(script, at) -/
theorem pq_pouch {ta : TA} {E : XK} {D : Ends} {tz : TS} {j i : Nat} {s : Addr} {ns : List Int} (h : EvA ta σ H [.ref s, .int (i : Int)]) (hs : SqL K H s (ns.map V.int)) (hi : i ≤ 100) (q : ∀ p H2, H p = none → Ex H H2 → Po p 0 H2 → tz D (σ.set j (some (.ref p))) H2) :
    tSeq (tAsg (tCall (sp_law_pouch K) [] E ta) (gName j)) tz D σ H := h H (Ex.refl H) _ fun H1 e1 => ⟨s, ns, i, rfl, ex_l e1 hs, hi, fun p H2 hp e2 hpo => q p H2 (fresh_back e1 hp) (e1.trans e2) hpo⟩
end

theorem Low.uniq {n t : Nat} {a b : Int} (A : Low n t a) (B : Low n t b) : a = b := by
  rcases Int.lt_trichotomy a b with h | h | h
  · have := B.up a A.pos h
    have := A.top
    omega
  · exact h
  · have := A.up b B.pos h
    have := B.top
    omega
theorem low_upto (n t : Nat) : ∀ k : Nat, (∃ lo, Low n t lo ∧ lo ≤ k) ∨ ∀ w : Int, 1 ≤ w → w ≤ k → 0 < gain n t w
  | 0 => .inr fun w h1 h2 => by omega
  | k + 1 => by
    rcases low_upto n t k with ⟨lo, L, h⟩ | h
    · exact .inl ⟨lo, L, by omega⟩
    · by_cases g : gain n t ((k : Int) + 1) ≤ 0
      · exact .inl ⟨(k : Int) + 1, ⟨by omega, fun w h1 h2 => h w h1 (by omega), g⟩, by omega⟩
      · refine .inr fun w h1 h2 => ?_
        by_cases e : w = (k : Int) + 1
        · subst e
          omega
        · exact h w h1 (by omega)
theorem low_ex {n t : Nat} (hn : n ≤ 20) (ht : 1 ≤ t) (htn : t < n) : ∃ lo, Low n t lo ∧ lo ≤ 200 := by
  rcases low_upto n t 200 with h | h
  · exact h
  · have := h 200 (by omega) (by omega)
    have := gain_200 ht htn hn
    omega
theorem su_best {H : Hp} {n t : Nat} {lo : Int} (hn : n ≤ 20) (ht : 1 ≤ t) (htn : t < n) (L : Low n t lo) : SpU sp_best_weights ([.int (n : Int), .int (t : Int)] ++ []) H [.int lo, .int (high n t lo)] := fun H1 _ Q q E =>
  ⟨n, t, rfl, hn, ht, by omega, fun h => by omega, fun _ lo' L' _ => by
    rw [L'.uniq L]
    exact q⟩
theorem sv_bestN {H : Hp} {n : Nat} (h0 : 1 ≤ n) (hn : n ≤ 20) : SpV sp_best_weights ([.int (n : Int), .int (n : Int)] ++ []) H .non := fun H1 _ Q q E => ⟨n, n, rfl, hn, h0, by omega, fun _ => q, fun h => by omega⟩
theorem shaped_pair {a b : Int} : SeqAt.shaped (.tuple [.int a, .int b]) = true := by simp [SeqAt.shaped, PyData.canLay0, PyData.canLayAll0, PyData.depth, PyData.depthAll]
theorem dpa_pair {K : PySem.W.Frag} {H : Hp} {a b : Int} : DpAll K H [.int a, .int b] [.int a, .int b] := .cons (.int a) (.cons (.int b) .nil)
theorem kit_tt {K : PySem.W.Frag} : PySem.W.kitOne K (.type "tuple") (.type "tuple") = some true := kit_ty (by decide +kernel)
section
variable {P : Program} {w : World} {K : PySem.W.Frag} {mg : Str → Option Value} {base : Heap}
def sp_law_right : Sp := fun vs H Q _ => ∃ n t : Nat, vs = [.int n, .int t] ∧ n ≤ 20 ∧ 1 ≤ t ∧ t < n ∧ RetV (.bl true) H Q
theorem sv_right {H : Hp} {n t : Nat} (h0 : n ≤ 20) (h1 : 1 ≤ t) (h2 : t < n) : SpV sp_law_right ([.int (n : Int), .int (t : Int)] ++ []) H (.bl true) := fun H1 _ Q q E => ⟨n, t, rfl, h0, h1, h2, q⟩
theorem ok_law_right (T : Tx K mg) : FnOk P w K mg base CX0 5 T.f_law_right T.d_law_right ["many", "width"] sp_law_right := by
  refine T.F_law_right.ok sc_law_right (fun vs H Q E h => ?_) (fun cdv A outer s H vs Q E hr h => ?_)
  · obtain ⟨n, t, rfl, _⟩ := h
    rfl
  · obtain ⟨n, t, rfl, hn, ht, htn, k⟩ := h
    refine ⟨_, (pss_cons (ps_set (i := 2) sc_law_right.nd rfl (Or.inl rfl) (pe_call (ok_best_weights T) (hr.mono (by decide)) (by rfl) T.g_best_weights T.F_best_weights.kp T.b_best_weights .nil pass0 (pa_cons (pv 0) (pa_cons (pv 1) pa_nil))))
      (pss_cons (ps_if (PW.pt (pw_or (pt_not (pt_val (pe_callB call_isi (by rfl) T.m_isinstance (by decide +kernel) (pa_cons (pv 2) (pa_cons (pe_bltn (v := .ty "tuple") (by rfl) T.m_tuple (by decide +kernel) rfl) pa_nil))))) (pw_or1 (pt_cmpR op_ne (pe_callB call_lenR (by rfl) T.m_len (by decide +kernel) (pa_cons (pv 2) pa_nil)) pe_int (nomark _))))) (pss_one (ps_ret pe_bl)) pss_nil)
      (pss_cons (ps_asg (pv 2) (pg_tup rfl (pgs_cons (pg_name (i := 3) sc_law_right.nd rfl (Or.inl rfl)) (pgs_cons (pg_name (i := 4) sc_law_right.nd rfl (Or.inl rfl)) pgs_nil))))
      (pss_cons (ps_if (PW.pt (pw_or (pt_not (pt_chain3 op_le op_le op_le pe_int (pv 3) (pv 4) (pe_op op_add (pv 3) pe_int))) (pw_or1 (pt_cmpR op_ne (pe_call (ok_law_beats T) (hr.mono (by decide)) (by rfl) T.g_law_beats T.F_law_beats.kp T.b_law_beats .nil pass0 (pa_cons (pv 0) (pa_cons (pv 1) (pa_cons (pv 3) (pa_cons (pv 4) pa_nil))))) pe_int (nomark _))))) (pss_one (ps_ret pe_bl)) pss_nil)
      (pss_cons (ps_if (PW.pt (pw_and (pt_cmpR op_gt (pv 3) pe_int (nomark _)) (pw_and1 (pt_cmpR op_le (pe_call (ok_law_beats T) (hr.mono (by decide)) (by rfl) T.g_law_beats T.F_law_beats.kp T.b_law_beats .nil pass0 (pa_cons (pv 0) (pa_cons (pv 1) (pa_cons (pv 3) (pa_cons (pe_op op_sub (pv 3) pe_int) pa_nil))))) pe_int (nomark _))))) (pss_one (ps_ret pe_bl)) pss_nil)
      (pss_one (ps_ret (pe_and (pe_cmpR op_gt (pe_call (ok_law_beats T) (hr.mono (by decide)) (by rfl) T.g_law_beats T.F_law_beats.kp T.b_law_beats .nil pass0 (pa_cons (pv 0) (pa_cons (pv 1) (pa_cons (pv 4) (pa_cons (pe_op op_add (pv 4) pe_int) pa_nil))))) pe_int (nomark _)) (pe_one (pe_cmpR (op_eqD hr.units) (pe_callK0 (ok_best_weights T) (hr.mono (by decide)) (by rfl) T.g_best_weights T.F_best_weights.kp T.kb_best_weights_0_number_guests pass0 (pk_cons (pv 1) (pk_cons (pv 0) pk_nil))) (pv 2) (nomark _))))))))))), ?_⟩
    obtain ⟨lo, L, hlo⟩ := low_ex hn ht htn
    have hp := L.pos
    have hh := high_or (n := n) (t := t) (lo := lo)
    have b1 := L.high_beats ht htn
    have b2 := L.high_next ht htn
    have b3 := L.low_prev ht htn
    have su : ∀ H, SpU sp_best_weights (v_K10_kb_best_weights_0_number_guests [] [.int (t : Int), .int (n : Int)]) H [.int lo, .int (high n t lo)] := fun H => su_best (H := H) hn ht htn L
    refine q_asgU (eu_call (by walk_at "ea") (su_best hn ht htn L)) fun p H1 hp1 e1 h1 => ?_
    generalize high n t lo = hi at *
    refine q_when (b := false) (et_is (et_or (et_not (et_B (ev_isT (ev_var rfl) h1 kit_tt))) fun _ => et_test (ev_op (ev_lenT (ev_var rfl) (st_of h1)) ev_c (rv_ne rfl))) (by simp)) (fun hb => Bool.noConfusion hb) fun _ H2 e2 => ?_
    refine q_tup2 (ev_var rfl) (st_of (e2 p _ h1)) fun H3 e3 => ?_
    have x1 : (decide (1 ≤ lo) && (decide (lo ≤ hi) && decide (hi ≤ lo + 1))) = true := by
      simp
      omega
    refine q_when (b := false) (et_is (et_or (by walk_at "et") fun _ => by walk_at "et") (by rw [x1, b1]; simp)) (fun hb => Bool.noConfusion hb) fun _ H4 e4 => ?_
    refine q_when (b := false) (et_is (et_and (by walk_at "et") fun _ => by walk_at "et") ?_) (fun hb => Bool.noConfusion hb) fun _ H5 e5 => ?_
    · by_cases h : 1 < lo
      · have := b3 h
        simp
        omega
      · simp [h]
    · have h5 := e5 p _ (e4 p _ (e3 p _ (e2 p _ h1)))
      refine s_ret (v := .bl true) (ev_is (ev_andV (by walk_at "ev") fun _ => ev_eqD (ed_ofU (eu_callK ea_nil (by walk_at "ea") (su _)) dpa_pair) (ed_of (ev_var rfl) (.tup (st_of h5) dpa_pair)) shaped_pair shaped_pair) ?_) fun H6 e6 => ?_
      · rw [eqv_same shaped_pair, decide_eq_true b2]
        rfl
      · exact k _ (e1.trans (e2.trans (e3.trans (e4.trans (e5.trans e6)))))
end

section
variable {P : Program} {w : World} {K : PySem.W.Frag} {mg : Str → Option Value} {base : Heap}
/-! _law_small_right -/
theorem one_at : ∀ a : _root_.Fin 200, (List.range 300).filter (fun i => decide (a.val ≤ i) && decide (i ≤ a.val)) = [a.val] ∧ (List.range 300).filter (fun i => decide (a.val ≤ i) && decide (i ≤ a.val + 1)) = [a.val, a.val + 1] := by decide +kernel
theorem same_ints {lo hi : Int} (h1 : 1 ≤ lo) (h2 : lo ≤ 200) (hh : hi = lo ∨ hi = lo + 1) :
    given 300 (fun i => decide (lo ≤ 1 + (i : Int)) && decide (1 + (i : Int) ≤ hi)) (fun i => .int (1 + (i : Int))) = rgV lo (hi + 1) := by
  obtain ⟨a, ha⟩ : ∃ a : Nat, lo = (a : Int) + 1 := ⟨(lo - 1).toNat, by omega⟩
  have ha2 : a < 200 := by omega
  unfold given rgV
  have := one_at ⟨a, ha2⟩
  rcases hh with hh | hh
  · have e : (fun i : Nat => decide (lo ≤ 1 + (i : Int)) && decide (1 + (i : Int) ≤ hi)) = fun i => decide (a ≤ i) && decide (i ≤ a) := by
      funext i
      rw [show decide (lo ≤ 1 + (i : Int)) = decide (a ≤ i) from decide_eq_decide.mpr (by omega), show decide (1 + (i : Int) ≤ hi) = decide (i ≤ a) from decide_eq_decide.mpr (by omega)]
    rw [e, this.1, show (hi + 1 - lo).toNat = 1 by omega]
    show [V.int (1 + (a : Int))] = [V.int (lo + ((0 : Nat) : Int))]
    rw [show (1 : Int) + a = lo + ((0 : Nat) : Int) by omega]
  · have e : (fun i : Nat => decide (lo ≤ 1 + (i : Int)) && decide (1 + (i : Int) ≤ hi)) = fun i => decide (a ≤ i) && decide (i ≤ a + 1) := by
      funext i
      rw [show decide (lo ≤ 1 + (i : Int)) = decide (a ≤ i) from decide_eq_decide.mpr (by omega), show decide (1 + (i : Int) ≤ hi) = decide (i ≤ a + 1) from decide_eq_decide.mpr (by omega)]
    rw [e, this.2, show (hi + 1 - lo).toNat = 2 by omega]
    show [V.int (1 + (a : Int)), V.int (1 + ((a + 1 : Nat) : Int))] = [V.int (lo + ((0 : Nat) : Int)), V.int (lo + ((1 : Nat) : Int))]
    rw [show (1 : Int) + a = lo + ((0 : Nat) : Int) by omega, show (1 : Int) + ((a + 1 : Nat) : Int) = lo + ((1 : Nat) : Int) by omega]
theorem rgV_ints (a b : Int) : rgV a b = ((List.range (b - a).toNat).map fun i : Nat => a + (i : Int)).map V.int := by
  unfold rgV
  rw [List.map_map]
  rfl
def sp_law_small_right : Sp := fun vs H Q _ => ∃ n t : Nat, vs = [.int n, .int t] ∧ n ≤ 20 ∧ 1 ≤ t ∧ t < n ∧ RetV (.bl true) H Q
theorem sv_small {H : Hp} {n t : Nat} (h0 : n ≤ 20) (h1 : 1 ≤ t) (h2 : t < n) : SpV sp_law_small_right ([.int (n : Int), .int (t : Int)] ++ []) H (.bl true) := fun H1 _ Q q E => ⟨n, t, rfl, h0, h1, h2, q⟩
theorem ok_law_small_right (T : Tx K mg) : FnOk P w K mg base CX0 5 T.f_law_small_right T.d_law_small_right ["many", "width"] sp_law_small_right := by
  refine T.F_law_small_right.ok sc_law_small_right (fun vs H Q E h => ?_) (fun cdv A outer s H vs Q E hr h => ?_)
  · obtain ⟨n, t, rfl, _⟩ := h
    rfl
  · obtain ⟨n, t, rfl, hn, ht, htn, k⟩ := h
    refine ⟨_, (pss_cons (ps_asg (pe_call (ok_best_weights T) (hr.mono (by decide)) (by rfl) T.g_best_weights T.F_best_weights.kp T.b_best_weights .nil pass0 (pa_cons (pv 0) (pa_cons (pv 1) pa_nil))) (pg_tup rfl (pgs_cons (pg_name (i := 2) sc_law_small_right.nd rfl (Or.inr rfl)) (pgs_cons (pg_name (i := 3) sc_law_small_right.nd rfl (Or.inl rfl)) pgs_nil))))
      (pss_cons (ps_setLc (i := 5) (own := [("one", 4)]) (g := (gName 4)) rfl sc_law_small_right.nd rfl rfl (sw_true rfl rfl rfl (by decide +kernel)) (pi_range2 (by rfl) T.m_range (pa_cons pe_int (pa_cons pe_int pa_nil))) (blkOk_by (own := [("one", 4)]) (N := n_law_small_right) (sc := defScope s_law_small_right) (by decide +kernel)) (fun _ _ _ _ _ => (pg_name (i := 4) sc_law_small_right.nd rfl (Or.inl rfl))) (fun _ _ _ _ _ => (pts_one (pt_cmpR op_gt (pe_call (ok_law_beats T) (hr.mono (by decide)) (by rfl) T.g_law_beats T.F_law_beats.kp T.b_law_beats .nil pass0 (pa_cons (pv 0) (pa_cons (pv 1) (pa_cons (pv 4) (pa_cons (pv 2) pa_nil))))) pe_int (nomark _)))) (fun _ _ _ _ _ => (pv 4)))
      (pss_cons (ps_setLc (i := 6) (own := [("one", 4)]) (g := (gName 4)) rfl sc_law_small_right.nd rfl rfl (sw_true rfl rfl rfl (by decide +kernel)) (pi_range2 (by rfl) T.m_range (pa_cons pe_int (pa_cons pe_int pa_nil))) (blkOk_by (own := [("one", 4)]) (N := n_law_small_right) (sc := defScope s_law_small_right) (by decide +kernel)) (fun _ _ _ _ _ => (pg_name (i := 4) sc_law_small_right.nd rfl (Or.inl rfl))) (fun _ _ _ _ _ => (pts_one (pt_cmpR op_eq (pe_call (ok_law_beats T) (hr.mono (by decide)) (by rfl) T.g_law_beats T.F_law_beats.kp T.b_law_beats .nil pass0 (pa_cons (pv 0) (pa_cons (pv 1) (pa_cons (pv 4) (pa_cons (pv 2) pa_nil))))) pe_int (nomark _)))) (fun _ _ _ _ _ => (pv 4)))
      (pss_one (ps_ret (pe_and (pe_cmpR (op_eqD hr.units) (pv 5) (pe_lst pa_nil) (nomark _)) (pe_one (pe_cmpR (op_eqD hr.units) (pv 6) (pe_listRg rfl (by rfl) T.m_list (prg_2 (by rfl) T.m_range (pv 2) (pe_op op_add (pv 3) pe_int))) (nomark _))))))))), ?_⟩
    obtain ⟨lo, L, hlo⟩ := low_ex hn ht htn
    have hp := L.pos
    have hh := high_or (n := n) (t := t) (lo := lo)
    have best := fun x : Int => fun h : 1 ≤ x => L.best ht htn (x := x) h
    refine q_tup2U (eu_call (by walk_at "ea") (su_best hn ht htn L)) fun H1 e1 => ?_
    generalize high n t lo = hi at *
    refine q_asgL (xs := []) ?_ fun p5 H2 hp5 e2 h2 => ?_
    · have g := el_lcR2 (σ := [some (V.int n), some (.int t), some (.int lo), some (.int hi), none, none, none]) (H := H1) (te := tVar 4) (j := 4) (vs := [4]) (t := tTest (tOp (rI0 fun i j => V.bl (decide (j < i))) (tCall sp_law_beats [] E0 (tCons (tVar 0) (tCons (tVar 1) (tCons (tVar 4) (tCons (tVar 2) tNil))))) (tC (.int 0))))
        (ta := tCons (tC (.int 1)) (tCons (tC (.int 301)) tNil)) (lo := 1) (n := 301) (fun _ => false) (fun i => .int (1 + (i : Int))) (by walk_at "ea") (by decide) (fun _ => rfl)
        (fun i H3 e3 hi' => et_is (by walk_at "et") (by
          have b := (best (1 + (i : Int)) (by omega)).1
          rw [beats_swap] at b
          simp
          omega)) (fun i H3 e3 hi' hf => Bool.noConfusion hf)
      rw [given_none (fun _ _ => rfl)] at g
      exact g
    refine q_asgL (el_lcR2 (lo := 1) (n := 301) (fun i => decide (lo ≤ 1 + (i : Int)) && decide (1 + (i : Int) ≤ hi)) (fun i => .int (1 + (i : Int))) (by walk_at "ea") (by decide) (fun _ => rfl)
        (fun i H3 e3 hi' => et_is (a := decide (V.int (beats n t (1 + (i : Int)) lo) = V.int 0)) (by walk_at "et") ?_) (fun i H3 e3 hi' hf => ev_var rfl)) fun p6 H3 hp6 e3 h3 => ?_
    · have b := (best (1 + (i : Int)) (by omega)).2
      have sw := beats_swap (n := n) (t := t) (x := lo) (y := 1 + (i : Int))
      rw [dec_int, Bool.eq_iff_iff]
      simp
      omega
    · rw [show ((301 : Int) - 1).toNat = 300 by decide, same_ints hp hlo hh, rgV_ints] at h3
      have k5 := e3 p5 _ h2
      refine s_ret (v := .bl true) (ev_is (ev_andV (ev_eqD (ed_of (ev_var rfl) (.lst (sq_of k5) .nil)) (ed_lst eda_nil (by decide)) rfl rfl) fun _ => ev_eqD (ed_of (ev_var rfl) (.lst (sq_of h3) (dpa_ints _)))
        (ed_ofL (el_rg2 (by walk_at "ev") (by walk_at "ev") (RgOk.of_le (by omega) (by omega) (by omega) (by omega))) (by rw [rgV_ints]; exact dpa_ints _)) (shaped_ints _) (shaped_ints _)) ?_) fun H4 e4 => ?_
      · rw [eqv_same (shaped_ints _), eqv_same (d := .list []) rfl]
        rfl
      · exact k _ (e1.trans (e2.trans (e3.trans e4)))
end

/-! ### shares of a best weight and of another one -/
theorem share_le {n t : Nat} {x y : Int} (hx : 1 ≤ x) (hy : 1 ≤ y) (h : 0 ≤ beats n t x y) :
    (stir n t : Int) * y ^ t / cd ((stir n t : Int) * y ^ t) (rise y n) * (rise x n / cd ((stir n t : Int) * x ^ t) (rise x n)) ≤
    (stir n t : Int) * x ^ t / cd ((stir n t : Int) * x ^ t) (rise x n) * (rise y n / cd ((stir n t : Int) * y ^ t) (rise y n)) := by
  have dx := rise_pos hx n
  have dy := rise_pos hy n
  have hc : (0 : Int) ≤ (stir n t : Int) := by omega
  unfold beats at h
  have k := Int.mul_nonneg hc h
  generalize (stir n t : Int) = c at *
  have e1 := Int.mul_ediv_cancel' (cd_dvd1 (a := c * x ^ t) (b := rise x n))
  have e2 := Int.mul_ediv_cancel' (cd_dvd2 (a := c * x ^ t) (b := rise x n))
  have e3 := Int.mul_ediv_cancel' (cd_dvd1 (a := c * y ^ t) (b := rise y n))
  have e4 := Int.mul_ediv_cancel' (cd_dvd2 (a := c * y ^ t) (b := rise y n))
  have g1 := cd_pos (a := c * x ^ t) dx
  have g2 := cd_pos (a := c * y ^ t) dy
  generalize cd (c * x ^ t) (rise x n) = g at *
  generalize cd (c * y ^ t) (rise y n) = g' at *
  generalize c * x ^ t / g = a1 at *
  generalize rise x n / g = a2 at *
  generalize c * y ^ t / g' = a3 at *
  generalize rise y n / g' = a4 at *
  have m : 0 ≤ (a1 * a4 - a3 * a2) * (g * g') := by
    have e : (a1 * a4 - a3 * a2) * (g * g') = c * (x ^ t * rise y n - y ^ t * rise x n) := by
      rw [← e2, ← e4]
      grind
    rw [e]
    exact k
  have pg := Int.mul_pos g1 g2
  have z : 0 ≤ a1 * a4 - a3 * a2 := Int.nonneg_of_mul_nonneg_left m pg
  omega
theorem div_small {a g : Int} {k : Nat} (h : a.natAbs < 2 ^ k) : (a / g).natAbs < 2 ^ k := Nat.lt_of_le_of_lt (Int.natAbs_ediv_le_natAbs a g) h
theorem top_small {n t : Nat} {x : Int} (h0 : 0 ≤ x) (h1 : x ≤ 2 ^ 42) (hn : n ≤ 20) (ht : t ≤ n) : ((stir n t : Int) * x ^ t).natAbs < 2 ^ 1000 := by
  obtain ⟨a, b⟩ := sums_small h0 h1 n hn _ (List.mem_iff_getElem?.mpr ⟨t, sums_get x n t ht⟩)
  have hp2 : (2 : Int) ^ (43 * n) = ((2 ^ (43 * n) : Nat) : Int) := by simp
  rw [hp2] at b
  exact lt2_mono (lt_of_le2 (k := 43 * n) (by omega)) (by omega)
section
variable {P : Program} {w : World} {K : PySem.W.Frag} {mg : Str → Option Value} {base : Heap}
def sp_law_far_right : Sp := fun vs H Q _ => ∃ (p : Addr) (c n t : Nat), vs = [.ref p, .int n, .int t] ∧ Po p c H ∧ c + 12 ≤ 1000000000 ∧ n ≤ 20 ∧ 1 ≤ t ∧ t < n ∧ ∀ H', Po p (c + 12) H' → Ex (Hm p H) H' → Q (.bl true) H'
theorem ok_law_far_right (T : Tx K mg) : FnOk P w K mg base CX0 5 T.f_law_far_right T.d_law_far_right ["pouch", "many", "width"] sp_law_far_right := by
  refine T.F_law_far_right.ok sc_law_far_right (fun vs H Q E h => ?_) (fun cdv A outer s H vs Q E hr h => ?_)
  · obtain ⟨p, c, n, t, rfl, _⟩ := h
    rfl
  · obtain ⟨p, c, n, t, rfl, hpo, hc, hn, ht, htn, k⟩ := h
    refine ⟨_, (pss_cons (ps_asg (pe_call (ok_best_weights T) (hr.mono (by decide)) (by rfl) T.g_best_weights T.F_best_weights.kp T.b_best_weights .nil pass0 (pa_cons (pv 1) (pa_cons (pv 2) pa_nil))) (pg_tup rfl (pgs_cons (pg_name (i := 3) sc_law_far_right.nd rfl (Or.inl rfl)) (pgs_cons (pg_name (i := 4) sc_law_far_right.nd rfl (Or.inl rfl)) pgs_nil))))
      (pss_cons (ps_for PassesOwn.never rfl (pi_range1 (by rfl) T.m_range (pa_cons pe_int pa_nil)) (pg_name (i := 5) sc_law_far_right.nd rfl (Or.inl rfl)) (pss_cons (ps_set (i := 6) sc_law_far_right.nd rfl (Or.inl rfl) (pe_op op_add pe_int (pe_call (ok_law_dip T) (hr.mono (by decide)) (by rfl) T.g_law_dip T.F_law_dip.kp T.b_law_dip .nil pass0 (pa_cons (pv 0) (pa_cons (pe_ix ix_list (pe_lst (pa_cons pe_int (pa_cons pe_int (pa_cons (pe_op op_powX pe_int pe_int) (pa_cons (pe_op op_powX pe_int pe_int) pa_nil))))) (pe_call (ok_law_dip T) (hr.mono (by decide)) (by rfl) T.g_law_dip T.F_law_dip.kp T.b_law_dip .nil pass0 (pa_cons (pv 0) (pa_cons pe_int pa_nil))) (fun _ _ => rfl)) pa_nil)))))
      (pss_one (ps_if (PW.pt (pw_or (pt_cmpR op_lt (pe_call (ok_law_beats T) (hr.mono (by decide)) (by rfl) T.g_law_beats T.F_law_beats.kp T.b_law_beats .nil pass0 (pa_cons (pv 1) (pa_cons (pv 2) (pa_cons (pv 3) (pa_cons (pv 6) pa_nil))))) pe_int (nomark _)) (pw_or1 (pt_cmpR op_ne (pe_cmpR op_eq (pe_call (ok_law_beats T) (hr.mono (by decide)) (by rfl) T.g_law_beats T.F_law_beats.kp T.b_law_beats .nil pass0 (pa_cons (pv 1) (pa_cons (pv 2) (pa_cons (pv 3) (pa_cons (pv 6) pa_nil))))) pe_int (nomark _)) (pe_chain op_le op_le (pv 3) (pv 6) (pv 4)) (nomark _))))) (pss_one (ps_ret pe_bl)) pss_nil))))
      (pss_cons (ps_asg (pe_call (ok_tables_share T) (hr.mono (by decide)) (by rfl) T.g_tables_share T.F_tables_share.kp T.b_tables_share .nil pass0 (pa_cons (pv 1) (pa_cons (pv 3) (pa_cons (pv 2) pa_nil)))) (pg_tup rfl (pgs_cons (pg_name (i := 7) sc_law_far_right.nd rfl (Or.inl rfl)) (pgs_cons (pg_name (i := 8) sc_law_far_right.nd rfl (Or.inl rfl)) pgs_nil))))
      (pss_cons (ps_for PassesOwn.never rfl (pi_tup (pe_tup (pa_cons (pe_callB (call_maxR rfl) (by rfl) T.m_max (by decide +kernel) (pa_cons pe_int (pa_cons (pe_op op_sub (pv 3) pe_int) pa_nil))) (pa_cons (pe_op op_add (pv 4) pe_int) pa_nil)))) (pg_name (i := 6) sc_law_far_right.nd rfl (Or.inl rfl)) (pss_cons (ps_asg (pe_call (ok_tables_share T) (hr.mono (by decide)) (by rfl) T.g_tables_share T.F_tables_share.kp T.b_tables_share .nil pass0 (pa_cons (pv 1) (pa_cons (pv 6) (pa_cons (pv 2) pa_nil)))) (pg_tup rfl (pgs_cons (pg_name (i := 9) sc_law_far_right.nd rfl (Or.inl rfl)) (pgs_cons (pg_name (i := 10) sc_law_far_right.nd rfl (Or.inl rfl)) pgs_nil))))
      (pss_one (ps_if (pt_cmpR op_gt (pe_op op_mulX (pv 9) (pv 8)) (pe_op op_mulX (pv 7) (pv 10)) (nomark _)) (pss_one (ps_ret pe_bl)) pss_nil))))
      (pss_one (ps_ret pe_bl)))))), ?_⟩
    obtain ⟨lo, L, hlo⟩ := low_ex hn ht htn
    have hp := L.pos
    have hh := high_or (n := n) (t := t) (lo := lo)
    have best := fun x : Int => fun h : 1 ≤ x => L.best ht htn (x := x) h
    have hp0 : Hm p H p = none := hm_p
    refine q_tup2U (eu_call (by walk_at "ea") (su_best hn ht htn L)) fun H1 e1 => ?_
    generalize high n t lo = hi at *
    refine q_forR1 (n := 6) (by walk_at "ea") (by decide) (fun i σ' H' => ∃ y5 y6, σ' = [some (.ref p), some (.int n), some (.int t), some (.int lo), some (.int hi), y5, y6, none, none, none, none] ∧ Po p (c + 2 * i) H' ∧ Ex (Hm p H) H')
      (fun H2 e2 => ⟨none, none, rfl, hpo.ex (e1.trans e2), hm_of (e1.trans e2)⟩) ?_ ?_
    · rintro i σ' H' hi6 ⟨y5, y6, rfl, hq, e⟩
      have w6 : CPowX 10 6 := ⟨by decide, by decide +kernel⟩
      have w30 : CPowX 10 30 := ⟨by decide, by decide +kernel⟩
      refine pq_asg (p := p) (k := 0 + (0 + 1 + 1)) (H0 := Hm p H) (R := fun v _ => ∃ r, v = .int (1 + r) ∧ 0 ≤ r ∧ r < 2 ^ 100) (ep_add hp0 ev_c (ep_is (ep_dip (C := fun w => w < 2 ^ 100) hp0 (ev_var rfl)
        (ep_op hp0 (ep_L (by walk_at "el")) (ep_dipI hp0 (ev_var rfl) ev_c (by decide) (by decide)) stb_L stb_c ?_)) fun v H2 ⟨r, w, e1, e2, e3, e4⟩ => ⟨r, e1, e2, by omega⟩)) e hq (by omega) ?_
      · rintro x y Hh ⟨l, ne, rfl, hl⟩ ⟨r, rfl, r0, r1⟩
        have hr4 : r = 0 ∨ r = 1 ∨ r = 2 ∨ r = 3 := by omega
        rcases hr4 with rfl | rfl | rfl | rfl
        · exact ⟨_, ⟨_, rfl, by decide, by decide, by decide⟩, rv_ixL (sq_of hl) rfl⟩
        · exact ⟨_, ⟨_, rfl, by decide, by decide, by decide⟩, rv_ixL (sq_of hl) rfl⟩
        · exact ⟨_, ⟨_, rfl, by decide, by decide, by decide⟩, rv_ixL (sq_of hl) rfl⟩
        · exact ⟨_, ⟨_, rfl, by decide, by decide, by decide⟩, rv_ixL (sq_of hl) rfl⟩
      · rintro v H2 ⟨r, rfl, r0, r1⟩ hq2 e2
        have b := best (1 + r) (by omega)
        have cond : (decide (beats n t lo (1 + r) < 0) || !decide (V.bl (decide (V.int (beats n t lo (1 + r)) = V.int 0)) = V.bl (decide (lo ≤ 1 + r) && decide (1 + r ≤ hi)))) = false := by
          have q : decide (V.int (beats n t lo (1 + r)) = V.int 0) = (decide (lo ≤ 1 + r) && decide (1 + r ≤ hi)) := by
            rw [dec_int, Bool.eq_iff_iff]
            simp
            omega
          rw [q]
          simp
          omega
        refine s_when (b := false) (et_is (et_or (by walk_at "et") fun _ => et_test (ev_op (by walk_at "ev") (by walk_at "ev") (rv_ne rfl))) cond) (fun hb => Bool.noConfusion hb) fun _ H3 e3 => ?_
        exact ⟨_, _, rfl, (hq2.ex e3).mono (by omega), hm_trans e (hm_trans e2 (hm_of e3))⟩
    · rintro σ' H' ⟨y5, y6, rfl, hq, e⟩
      have l1 : lo ≤ 1000000000000 := by omega
      refine q_tup2U (eu_call (by walk_at "ea") (su_share (by omega) hn (by omega) hp l1)) fun H2 e2 => ?_
      have en : ∀ x : Int, 1 ≤ x → x ≤ 1000 → (rise x n).natAbs < 2 ^ 3000 := fun x h1 h2 => lt2_mono (lt_of_le2 (rise_le (by omega) n (by omega))) (by omega)
      have tn : ∀ x : Int, 1 ≤ x → x ≤ 1000 → ((stir n t : Int) * x ^ t).natAbs < 2 ^ 1000 := fun x h1 h2 => top_small (by omega) (by omega) hn (by omega)
      have step : ∀ (x : Int), 1 ≤ x → x ≤ 1000 → ∀ (Nx : L2.St → Hp → Prop) (D : Ends) (y5 y6 y9 y10 : Option V) (H3 : Hp), Ex H2 H3 →
          (∀ a b H4, Ex H3 H4 → D.nx [some (.ref p), some (.int n), some (.int t), some (.int lo), some (.int hi), y5, some (.int x), some (.int ((stir n t : Int) * lo ^ t / cd ((stir n t : Int) * lo ^ t) (rise lo n))), some (.int (rise lo n / cd ((stir n t : Int) * lo ^ t) (rise lo n))), a, b] H4) →
          True := fun _ _ _ _ _ _ _ _ _ _ _ _ => trivial
      clear step
      generalize hS : (stir n t : Int) * lo ^ t / cd ((stir n t : Int) * lo ^ t) (rise lo n) = top
      generalize hD : rise lo n / cd ((stir n t : Int) * lo ^ t) (rise lo n) = bot
      have hpq := hq.ex e2
      have hes := hm_trans e (hm_of e2)
      refine q_forNU (xs := [.int (if lo - 1 > 1 then lo - 1 else 1), .int (hi + 1)]) (by walk_at "eu")
        (fun a i σ' H' => ∃ y5 y6 y9 y10, σ' = [some (.ref p), some (.int n), some (.int t), some (.int lo), some (.int hi), y5, y6, some (.int top), some (.int bot), y9, y10] ∧ Ex H2 H' ∧ H' a = some (.tup [.int (if lo - 1 > 1 then lo - 1 else 1), .int (hi + 1)]))
        (fun a H3 ha e3 h3 => ⟨y5, y6, none, none, rfl, e3, h3⟩) (fun a i σ' H' _ ⟨_, _, _, _, _, _, h3⟩ => st_of h3) ?_ ?_
      · rintro a i x σ' H3 hx ⟨y5, y6, y9, y10, rfl, e3, h3⟩
        obtain ⟨z, rfl, z1, z2⟩ : ∃ z, x = .int z ∧ 1 ≤ z ∧ z ≤ 1000 := by
          match i, hx with
          | 0, hx =>
            refine ⟨_, (Option.some.inj hx).symm, ?_, ?_⟩
            · split <;> omega
            · split <;> omega
          | 1, hx => exact ⟨_, (Option.some.inj hx).symm, by omega, by omega⟩
          | i + 2, hx => cases hx
        show tSeq _ _ _ _ _
        refine q_tup2U (eu_call (by walk_at "ea") (su_share (by omega) hn (by omega) z1 (by omega))) fun H4 e4 => ?_
        have m1 : CMulX ((stir n t : Int) * z ^ t / cd ((stir n t : Int) * z ^ t) (rise z n)) bot := by
          rw [← hD]
          exact mulx_ok (div_small (tn z z1 z2)) (div_small (en lo hp (by omega))) (by decide)
        have m2 : CMulX top (rise z n / cd ((stir n t : Int) * z ^ t) (rise z n)) := by
          rw [← hS]
          exact mulx_ok (div_small (tn lo hp (by omega))) (div_small (en z z1 z2)) (by decide)
        have le := share_le hp z1 (best z z1).1
        rw [hS, hD] at le
        refine s_when (b := false) (et_is (by walk_at "et") (decide_eq_false (by omega))) (fun hb => Bool.noConfusion hb) fun _ H5 e5 => ?_
        exact ⟨_, _, _, _, rfl, e3.trans (e4.trans e5), e5 a _ (e4 a _ h3)⟩
      · rintro a σ' H3 ⟨y5, y6, y9, y10, rfl, e3, h3⟩
        exact s_ret ev_c fun H4 e4 => k H4 (hpq.ex (e3.trans e4)) (hm_trans hes (hm_of (e3.trans e4)))
end

section
variable {P : Program} {w : World} {K : PySem.W.Frag} {mg : Str → Option Value} {base : Heap}
/-- the answer of far_right in a test, its last argument drawn -/
theorem ep_far {σ : L2.St} {H0 : Hp} {p : Addr} {k n : Nat} {tp tn tt : TE} {E : XK} (h0 : H0 p = none) (hp : Ev tp σ H0 (.ref p)) (hn : Ev tn σ H0 (.int (n : Int))) (ht : EvP p k tt σ H0 (fun v _ => ∃ t : Nat, v = .int t ∧ 1 ≤ t ∧ t < n)) (h20 : n ≤ 20) :
    ∀ m H1, Ex H0 H1 → Po p m H1 → m + (k + 12) ≤ 1000000000 → ∀ Q : VK, (∀ H2, Po p (m + (k + 12)) H2 → Ex (Hm p H1) H2 → Q (.bl true) H2) → tCall sp_law_far_right [] E (tCons tp (tCons tn (tCons tt tNil))) σ H1 Q :=
  fun m H1 e hpo hm Q q => hp H1 e _ fun H2 e2 => hn H2 (e.trans e2) _ fun H3 e3 => ht m H3 ((e.trans e2).trans e3) (hpo.ex (e2.trans e3)) (by omega) _ fun v H4 hv p4 e4 => by
    obtain ⟨t, rfl, t1, t2⟩ := hv
    refine ⟨p, m + k, n, t, rfl, p4, by omega, h20, t1, t2, fun H5 p5 e5 => q H5 (p5.mono (by omega)) (hm_trans (hm_trans (hm_of (e2.trans e3)) e4) e5)⟩
def sp_law (K : PySem.W.Frag) : Sp := fun vs H Q _ => ∃ (a : Addr) (ns : List Int), vs = [.ref a] ∧ SqL K H a (ns.map V.int) ∧ ns.length ≤ 63 ∧ ∀ H', Q (.bl true) H'
theorem max_min {m : Int} (h0 : 0 ≤ m) : 0 ≤ (if (if m < 3 then m else 3) > 1 then (if m < 3 then m else 3) else 1) ∧ (if (if m < 3 then m else 3) > 1 then (if m < 3 then m else 3) else 1) ≤ (3 : Int) := by
  split <;> split <;> omega
theorem low_at {n t : Nat} {lo hi : Int} (h1 : 1 ≤ lo) (h2 : lo ≤ 1) (h3 : gain n t lo ≤ 0) (e : high n t lo = hi) : Low n t lo ∧ high n t lo = hi := ⟨⟨h1, fun w a b => by omega, h3⟩, e⟩
theorem ok_law (T : Tx K mg) : FnOk P w K mg base CX0 6 T.f_law T.d_law ["script"] (sp_law K) := by
  refine T.F_law.ok sc_law (fun vs H Q E h => ?_) (fun cdv A outer s H vs Q E hr h => ?_)
  · obtain ⟨a, ns, rfl, _⟩ := h
    rfl
  · obtain ⟨a, ns, rfl, hs, hl, k⟩ := h
    refine ⟨_, (pss_cons (ps_for PassesOwn.never rfl (pi_range1 (by rfl) T.m_range (pa_cons (pe_callB (call_maxR rfl) (by rfl) T.m_max (by decide +kernel) (pa_cons pe_int (pa_cons (pe_callB (call_minR rfl) (by rfl) T.m_min (by decide +kernel) (pa_cons pe_int (pa_cons (pe_callB call_lenR (by rfl) T.m_len (by decide +kernel) (pa_cons (pv 0) pa_nil)) pa_nil))) pa_nil))) pa_nil)) (pg_name (i := 1) sc_law.nd rfl (Or.inl rfl)) (pss_cons (ps_set (i := 2) sc_law.nd rfl (Or.inl rfl) (pe_call (ok_law_pouch T) (hr.mono (by decide)) (by rfl) T.g_law_pouch T.F_law_pouch.kp T.b_law_pouch .nil pass0 (pa_cons (pv 0) (pa_cons (pv 1) pa_nil))))
      (pss_cons (ps_set (i := 3) sc_law.nd rfl (Or.inr rfl) (pe_op op_add pe_int (pe_call (ok_law_dip T) (hr.mono (by decide)) (by rfl) T.g_law_dip T.F_law_dip.kp T.b_law_dip .nil pass0 (pa_cons (pv 2) (pa_cons pe_int pa_nil)))))
      (pss_one (ps_if (PW.pt (pw_or (pt_not (pt_val (pe_call (ok_law_far_right T) (hr.mono (by decide)) (by rfl) T.g_law_far_right T.F_law_far_right.kp T.b_law_far_right .nil pass0 (pa_cons (pv 2) (pa_cons (pv 3) (pa_cons (pe_op op_add pe_int (pe_call (ok_law_dip T) (hr.mono (by decide)) (by rfl) T.g_law_dip T.F_law_dip.kp T.b_law_dip .nil pass0 (pa_cons (pv 2) (pa_cons (pe_op op_sub (pv 3) pe_int) pa_nil)))) pa_nil)))))) (pw_or1 (pt_not (pt_val (pe_call (ok_law_far_right T) (hr.mono (by decide)) (by rfl) T.g_law_far_right T.F_law_far_right.kp T.b_law_far_right .nil pass0 (pa_cons (pv 2) (pa_cons pe_int (pa_cons pe_int pa_nil))))))))) (pss_one (ps_ret pe_bl)) pss_nil)))))
      (pss_cons (ps_for PassesOwn.never rfl (pi_range2 (by rfl) T.m_range (pa_cons pe_int (pa_cons pe_int pa_nil))) (pg_name (i := 3) sc_law.nd rfl (Or.inr rfl)) (pss_cons (ps_if (pt_cmpR (op_neD hr.units) (pe_lc (own := [("width", 4)]) (g := (gName 4)) rfl sc_law.nd (pi_range2 (by rfl) T.m_range (pa_cons pe_int (pa_cons (pv 3) pa_nil))) (blkOk_by (own := [("width", 4)]) (N := n_law) (sc := defScope s_law) (by decide +kernel)) (fun _ _ _ _ _ => (pg_name (i := 4) sc_law.nd rfl (Or.inl rfl))) (fun _ _ _ _ _ => (pts_one (pt_not (pt_val (pe_call (ok_law_right T) (hr.mono (by decide)) (by rfl) T.g_law_right T.F_law_right.kp T.b_law_right .nil pass0 (pa_cons (pv 3) (pa_cons (pv 4) pa_nil))))))) (fun _ _ _ _ _ => (pv 4))) (pe_lst pa_nil) (nomark _)) (pss_one (ps_ret pe_bl)) pss_nil)
      (pss_one (ps_if (pt_cmpR op_notNR (pe_call (ok_best_weights T) (hr.mono (by decide)) (by rfl) T.g_best_weights T.F_best_weights.kp T.b_best_weights .nil pass0 (pa_cons (pv 3) (pa_cons (pv 3) pa_nil))) pe_non (nomark _)) (pss_one (ps_ret pe_bl)) pss_nil))))
      (pss_cons (ps_for PassesOwn.never rfl (pi_range2 (by rfl) T.m_range (pa_cons pe_int (pa_cons pe_int pa_nil))) (pg_name (i := 3) sc_law.nd rfl (Or.inr rfl)) (pss_one (ps_if (pt_cmpR (op_neD hr.units) (pe_lc (own := [("width", 4)]) (g := (gName 4)) rfl sc_law.nd (pi_range2 (by rfl) T.m_range (pa_cons pe_int (pa_cons (pv 3) pa_nil))) (blkOk_by (own := [("width", 4)]) (N := n_law) (sc := defScope s_law) (by decide +kernel)) (fun _ _ _ _ _ => (pg_name (i := 4) sc_law.nd rfl (Or.inl rfl))) (fun _ _ _ _ _ => (pts_one (pt_not (pt_val (pe_call (ok_law_small_right T) (hr.mono (by decide)) (by rfl) T.g_law_small_right T.F_law_small_right.kp T.b_law_small_right .nil pass0 (pa_cons (pv 3) (pa_cons (pv 4) pa_nil))))))) (fun _ _ _ _ _ => (pv 4))) (pe_lst pa_nil) (nomark _)) (pss_one (ps_ret pe_bl)) pss_nil)))
      (pss_cons (ps_set (i := 5) sc_law.nd rfl (Or.inl rfl) (pe_lst (pa_cons (pe_call (ok_best_weights T) (hr.mono (by decide)) (by rfl) T.g_best_weights T.F_best_weights.kp T.b_best_weights .nil pass0 (pa_cons pe_int (pa_cons pe_int pa_nil))) (pa_cons (pe_call (ok_best_weights T) (hr.mono (by decide)) (by rfl) T.g_best_weights T.F_best_weights.kp T.b_best_weights .nil pass0 (pa_cons pe_int (pa_cons pe_int pa_nil))) (pa_cons (pe_call (ok_best_weights T) (hr.mono (by decide)) (by rfl) T.g_best_weights T.F_best_weights.kp T.b_best_weights .nil pass0 (pa_cons pe_int (pa_cons pe_int pa_nil))) (pa_cons (pe_call (ok_best_weights T) (hr.mono (by decide)) (by rfl) T.g_best_weights T.F_best_weights.kp T.b_best_weights .nil pass0 (pa_cons pe_int (pa_cons pe_int pa_nil))) (pa_cons (pe_call (ok_best_weights T) (hr.mono (by decide)) (by rfl) T.g_best_weights T.F_best_weights.kp T.b_best_weights .nil pass0 (pa_cons pe_int (pa_cons pe_int pa_nil))) pa_nil)))))))
      (pss_one (ps_ret (pe_cmpR (op_eqD hr.units) (pv 5) (pe_lst (pa_cons (pe_tup (pa_cons pe_int (pa_cons pe_int pa_nil))) (pa_cons (pe_tup (pa_cons pe_int (pa_cons pe_int pa_nil))) (pa_cons (pe_tup (pa_cons pe_int (pa_cons pe_int pa_nil))) (pa_cons (pe_tup (pa_cons pe_int (pa_cons pe_int pa_nil))) (pa_cons pe_non pa_nil)))))) (nomark _)))))))), ?_⟩
    have mm := max_min (m := ((ns.map V.int).length : Int)) (by omega)
    refine q_forR1 (by walk_at "ea") ⟨mm.1, Int.le_trans mm.2 (by decide)⟩ (fun i σ' H' => ∃ y1 y2 y3, σ' = [some (.ref a), y1, y2, y3, none, none] ∧ Ex H H') (fun H1 e1 => ⟨none, none, none, rfl, e1⟩) ?_ ?_
    · rintro i σ' H' hi ⟨y1, y2, y3, rfl, e⟩
      have hi3 : (i : Int) < 3 := Int.lt_of_lt_of_le hi mm.2
      refine pq_pouch (by walk_at "ea") (ex_l e hs) (by omega) fun p H1 hp e1 hpo => ?_
      refine pq_asg (p := p) (H0 := H') (ep_add hp ev_c (ep_dipI hp (ev_var rfl) ev_c (by decide) (by decide))) e1 hpo (by decide) ?_
      rintro v H2 ⟨r, rfl, r0, r1⟩ p2 e2
      obtain ⟨n, hn⟩ : ∃ n : Nat, (2 : Int) + r = n := ⟨(2 + r).toNat, by omega⟩
      rw [hn]
      have hn2 : 2 ≤ n := by omega
      have hn20 : n ≤ 20 := by omega
      have ex2 : Ex H' H2 := hm_next hp e1 e2
      refine ps_no (p := p) (k := (0 + 1 + 12) + (0 + 12)) (H0 := H') (tp_or (b := false) hp ?_ ?_) ex2 p2 (by decide) fun H3 p3 e3 => ?_
      · refine tp_is (b := !true) (tp_not (tp_B ?_)) rfl
        intro m H3 e3 p3 hm Q' q'
        refine ep_far (n := n) (k := 0 + 1) hp (ev_var rfl) (ev_var rfl) (ep_is (ep_add hp ev_c (ep_dipI (w := (n : Int) - 1) hp (ev_var rfl) (by walk_at "ev") (by omega) (by omega))) fun v H4 ⟨r', e', r0', r1'⟩ => ⟨(1 + r').toNat, by rw [e']; exact congrArg V.int (by omega), by omega, by omega⟩) hn20 m H3 e3 p3 (by omega) Q' fun H4 p4 e4 => q' _ H4 rfl p4 e4
      · refine tp_is (b := !true) (tp_not (tp_B ?_)) rfl
        intro m H3 e3 p3 hm Q' q'
        refine ep_far (n := 20) (k := 0) hp (ev_var rfl) ev_c (ep_is (ep_ev ev_c) fun v H4 e' => ⟨19, e', by decide, by decide⟩) (by decide) m H3 e3 p3 (by omega) Q' fun H4 p4 e4 => q' _ H4 rfl p4 e4
      · exact ⟨_, _, _, rfl, e.trans (hm_next hp ex2 e3)⟩
    · rintro σ' H' ⟨y1, y2, y3, rfl, e⟩
      refine q_forR2 (lo := 2) (n := 21) (by walk_at "ea") (by decide) (fun i σ' H' => ∃ y1 y2 y3, σ' = [some (.ref a), y1, y2, y3, none, none] ∧ Ex H H') (fun H1 e1 => ⟨y1, y2, y3, rfl, e.trans e1⟩) ?_ ?_
      · rintro i σ' H' hi ⟨y1, y2, y3, rfl, e⟩
        obtain ⟨n, hn⟩ : ∃ n : Nat, (2 : Int) + i = n := ⟨2 + i, by omega⟩
        rw [hn]
        have hn2 : 2 ≤ n := by omega
        have hn20 : n ≤ 20 := by omega
        refine q_when (b := false) (et_is (et_test (ev_neD (ed_ofL (el_noneR2 (lo := 1) (n := n) (by walk_at "ea") (by omega) (fun _ => rfl) fun j H1 e1 hj => ?_) .nil) (ed_lst eda_nil (by decide)) rfl rfl)) rfl) (fun hb => Bool.noConfusion hb) fun _ H2 e2 => ?_
        · obtain ⟨t, ht⟩ : ∃ t : Nat, (1 : Int) + j = t := ⟨1 + j, by omega⟩
          rw [ht]
          exact et_is (et_not (et_B (ev_call (by walk_at "ea") (sv_right (n := n) (t := t) hn20 (by omega) (by omega))))) rfl
        · refine s_when (b := false) (et_is (et_test (ev_op (ev_call (by walk_at "ea") (sv_bestN (n := n) (by omega) hn20)) ev_c rv_notN)) rfl) (fun hb => Bool.noConfusion hb) fun _ H3 e3 => ?_
          exact ⟨_, _, _, rfl, e.trans (e2.trans e3)⟩
      · rintro σ' H' ⟨y1, y2, y3, rfl, e⟩
        refine q_forR2 (lo := 2) (n := 6) (by walk_at "ea") (by decide) (fun i σ' H' => ∃ y1 y2 y3, σ' = [some (.ref a), y1, y2, y3, none, none] ∧ Ex H H') (fun H1 e1 => ⟨y1, y2, y3, rfl, e.trans e1⟩) ?_ ?_
        · rintro i σ' H' hi ⟨y1, y2, y3, rfl, e⟩
          obtain ⟨n, hn⟩ : ∃ n : Nat, (2 : Int) + i = n := ⟨2 + i, by omega⟩
          rw [hn]
          have hn2 : 2 ≤ n := by omega
          have hn20 : n ≤ 20 := by omega
          refine s_when (b := false) (et_is (et_test (ev_neD (ed_ofL (el_noneR2 (lo := 1) (n := n) (by walk_at "ea") (by omega) (fun _ => rfl) fun j H1 e1 hj => ?_) .nil) (ed_lst eda_nil (by decide)) rfl rfl)) rfl) (fun hb => Bool.noConfusion hb) fun _ H2 e2 => ?_
          · obtain ⟨t, ht⟩ : ∃ t : Nat, (1 : Int) + j = t := ⟨1 + j, by omega⟩
            rw [ht]
            exact et_is (et_not (et_B (ev_call (by walk_at "ea") (sv_small (n := n) (t := t) hn20 (by omega) (by omega))))) rfl
          · exact ⟨_, _, _, rfl, e.trans e2⟩
        · rintro σ' H' ⟨y1, y2, y3, rfl, e⟩
          have one : ∀ (n t : Nat) (lo hi : Int) (σ : L2.St) (H : Hp) (E : XK), n ≤ 20 → 1 ≤ t → t < n → Low n t lo ∧ high n t lo = hi → EvD K (tCall sp_best_weights [] E (tCons (tC (.int n)) (tCons (tC (.int t)) tNil))) σ H (.tuple [.int lo, .int hi]) := fun n t lo hi σ H E hn ht htn h => by
            obtain ⟨L, rfl⟩ := h
            exact ed_ofU (eu_call (ea_cons ev_c (ea_cons ev_c ea_nil)) (su_best hn ht htn L)) dpa_pair
          refine q_asgD (d := .list [.tuple [.int 1, .int 1], .tuple [.int 1, .int 2], .tuple [.int 1, .int 1], .tuple [.int 1, .int 1], .none]) (ed_lst (eda_cons (one 2 1 1 1 _ _ _ (by decide) (by decide) (by decide) (low_at (by decide) (by decide) (by decide) (by decide)))
            (eda_cons (one 3 2 1 2 _ _ _ (by decide) (by decide) (by decide) (low_at (by decide) (by decide) (by decide) (by decide)))
            (eda_cons (one 4 2 1 1 _ _ _ (by decide) (by decide) (by decide) (low_at (by decide) (by decide) (by decide) (by decide)))
            (eda_cons (one 20 1 1 1 _ _ _ (by decide) (by decide) (by decide) (low_at (by decide) (by decide) (by decide) (by decide)))
            (eda_cons (ed_non (ev_call (ea_cons ev_c (ea_cons ev_c ea_nil)) (sv_bestN (n := 1) (by decide) (by decide)))) eda_nil))))) (by decide)) fun v H1 e1 hv => ?_
          have pr : ∀ (x y : Int) (σ : L2.St) (H : Hp), EvD K (tTup (tCons (tC (.int x)) (tCons (tC (.int y)) tNil))) σ H (.tuple [.int x, .int y]) := fun x y σ H => ed_tup (eda_cons (ed_int ev_c) (eda_cons (ed_int ev_c) eda_nil)) (by show 2 ≤ 100000; decide)
          refine s_ret (v := .bl true) (ev_is (ev_eqD (ed_of (ev_var rfl) hv) (ed_lst (eda_cons (pr _ _ _ _) (eda_cons (pr _ _ _ _) (eda_cons (pr _ _ _ _) (eda_cons (pr _ _ _ _) (eda_cons (ed_non ev_c) eda_nil))))) (by decide)) (by decide) (by decide)) (by decide)) fun H2 e2 => k H2
end

theorem all_mk {l : PySem.W.OpenLaw} {w : World} {K : PySem.W.Frag} {h : Heap} {mg : Str → Option Value} {fa : Addr} (X : K.In h) (G : h.Ns mainGlobals mg) (hfa : mg "law" = some (.ref fa))
    {f1 : Addr} {od1 an1 : Option Addr} {sl1 : Array (Option Value)} {oc1 kV1 dc1 pm1 cd1 ct1 : Value}
    {f2 : Addr} {od2 an2 : Option Addr} {sl2 : Array (Option Value)} {oc2 kV2 dc2 pm2 cd2 ct2 : Value}
    {f3 : Addr} {od3 an3 : Option Addr} {sl3 : Array (Option Value)} {oc3 kV3 dc3 pm3 cd3 ct3 : Value}
    {f4 : Addr} {od4 an4 : Option Addr} {sl4 : Array (Option Value)} {oc4 kV4 dc4 pm4 cd4 ct4 : Value}
    {f5 : Addr} {od5 an5 : Option Addr} {sl5 : Array (Option Value)} {oc5 kV5 dc5 pm5 cd5 ct5 : Value}
    {f6 : Addr} {od6 an6 : Option Addr} {sl6 : Array (Option Value)} {oc6 kV6 dc6 pm6 cd6 ct6 : Value}
    {f7 : Addr} {od7 an7 : Option Addr} {sl7 : Array (Option Value)} {oc7 kV7 dc7 pm7 cd7 ct7 : Value}
    {f8 : Addr} {od8 an8 : Option Addr} {sl8 : Array (Option Value)} {oc8 kV8 dc8 pm8 cd8 ct8 : Value}
    {f9 : Addr} {od9 an9 : Option Addr} {sl9 : Array (Option Value)} {oc9 kV9 dc9 pm9 cd9 ct9 : Value}
    {f10 : Addr} {od10 an10 : Option Addr} {sl10 : Array (Option Value)} {oc10 kV10 dc10 pm10 cd10 ct10 : Value}
    {f11 : Addr} {od11 an11 : Option Addr} {sl11 : Array (Option Value)} {oc11 kV11 dc11 pm11 cd11 ct11 : Value}
    {f12 : Addr} {od12 an12 : Option Addr} {sl12 : Array (Option Value)} {oc12 kV12 dc12 pm12 cd12 ct12 : Value}
    {f13 : Addr} {od13 an13 : Option Addr} {sl13 : Array (Option Value)} {oc13 kV13 dc13 pm13 cd13 ct13 : Value}
    {f14 : Addr} {od14 an14 : Option Addr} {sl14 : Array (Option Value)} {oc14 kV14 dc14 pm14 cd14 ct14 : Value}
    {f15 : Addr} {od15 an15 : Option Addr} {sl15 : Array (Option Value)} {oc15 kV15 dc15 pm15 cd15 ct15 : Value}
    {f16 : Addr} {od16 an16 : Option Addr} {sl16 : Array (Option Value)} {oc16 kV16 dc16 pm16 cd16 ct16 : Value}
    {f17 : Addr} {od17 an17 : Option Addr} {sl17 : Array (Option Value)} {oc17 kV17 dc17 pm17 cd17 ct17 : Value}
    {f18 : Addr} {od18 an18 : Option Addr} {sl18 : Array (Option Value)} {oc18 kV18 dc18 pm18 cd18 ct18 : Value}
    {f19 : Addr} {od19 an19 : Option Addr} {sl19 : Array (Option Value)} {oc19 kV19 dc19 pm19 cd19 ct19 : Value}
    {f20 : Addr} {od20 an20 : Option Addr} {sl20 : Array (Option Value)} {oc20 kV20 dc20 pm20 cd20 ct20 : Value}
    {f21 : Addr} {od21 an21 : Option Addr} {sl21 : Array (Option Value)} {oc21 kV21 dc21 pm21 cd21 ct21 : Value}
    {f22 : Addr} {od22 an22 : Option Addr} {sl22 : Array (Option Value)} {oc22 kV22 dc22 pm22 cd22 ct22 : Value}
    {t_MOST_GUESTS : Tok}
    {t_MOST_WEIGHT : Tok}
    (a1 : PySem.W.nsIn K mainGlobals "is_whole" = some (some (.ref f1))) (l1 : K.lookup f1 = some ⟨oc1, od1, .func (PySem.W.fnOf "is_whole" "is_whole" (defArgs s_is_whole) (defBody s_is_whole) (defScope s_is_whole) .none kV1 dc1 pm1 an1 cd1 ct1), sl1⟩) (c1 : PySem.W.codeIn K cd1 "is_whole" = true) (k1 : PySem.W.keepIn K (.ref f1) = true)
    (a2 : PySem.W.nsIn K mainGlobals "is_within" = some (some (.ref f2))) (l2 : K.lookup f2 = some ⟨oc2, od2, .func (PySem.W.fnOf "is_within" "is_within" (defArgs s_is_within) (defBody s_is_within) (defScope s_is_within) .none kV2 dc2 pm2 an2 cd2 ct2), sl2⟩) (c2 : PySem.W.codeIn K cd2 "is_within" = true) (k2 : PySem.W.keepIn K (.ref f2) = true)
    (a3 : PySem.W.nsIn K mainGlobals "check_guests" = some (some (.ref f3))) (l3 : K.lookup f3 = some ⟨oc3, od3, .func (PySem.W.fnOf "check_guests" "check_guests" (defArgs s_check_guests) (defBody s_check_guests) (defScope s_check_guests) .none kV3 dc3 pm3 an3 cd3 ct3), sl3⟩) (c3 : PySem.W.codeIn K cd3 "check_guests" = true) (k3 : PySem.W.keepIn K (.ref f3) = true)
    (a4 : PySem.W.nsIn K mainGlobals "check_weight" = some (some (.ref f4))) (l4 : K.lookup f4 = some ⟨oc4, od4, .func (PySem.W.fnOf "check_weight" "check_weight" (defArgs s_check_weight) (defBody s_check_weight) (defScope s_check_weight) .none kV4 dc4 pm4 an4 cd4 ct4), sl4⟩) (c4 : PySem.W.codeIn K cd4 "check_weight" = true) (k4 : PySem.W.keepIn K (.ref f4) = true)
    (a5 : PySem.W.nsIn K mainGlobals "check_number" = some (some (.ref f5))) (l5 : K.lookup f5 = some ⟨oc5, od5, .func (PySem.W.fnOf "check_number" "check_number" (defArgs s_check_number) (defBody s_check_number) (defScope s_check_number) .none kV5 dc5 pm5 an5 cd5 ct5), sl5⟩) (c5 : PySem.W.codeIn K cd5 "check_number" = true) (k5 : PySem.W.keepIn K (.ref f5) = true)
    (a6 : PySem.W.nsIn K mainGlobals "raised" = some (some (.ref f6))) (l6 : K.lookup f6 = some ⟨oc6, od6, .func (PySem.W.fnOf "raised" "raised" (defArgs s_raised) (defBody s_raised) (defScope s_raised) .none kV6 dc6 pm6 an6 cd6 ct6), sl6⟩) (c6 : PySem.W.codeIn K cd6 "raised" = true) (k6 : PySem.W.keepIn K (.ref f6) = true)
    (a7 : PySem.W.nsIn K mainGlobals "rising" = some (some (.ref f7))) (l7 : K.lookup f7 = some ⟨oc7, od7, .func (PySem.W.fnOf "rising" "rising" (defArgs s_rising) (defBody s_rising) (defScope s_rising) .none kV7 dc7 pm7 an7 cd7 ct7), sl7⟩) (c7 : PySem.W.codeIn K cd7 "rising" = true) (k7 : PySem.W.keepIn K (.ref f7) = true)
    (a8 : PySem.W.nsIn K mainGlobals "sums_by_tables" = some (some (.ref f8))) (l8 : K.lookup f8 = some ⟨oc8, od8, .func (PySem.W.fnOf "sums_by_tables" "sums_by_tables" (defArgs s_sums_by_tables) (defBody s_sums_by_tables) (defScope s_sums_by_tables) .none kV8 dc8 pm8 an8 cd8 ct8), sl8⟩) (c8 : PySem.W.codeIn K cd8 "sums_by_tables" = true) (k8 : PySem.W.keepIn K (.ref f8) = true)
    (a9 : PySem.W.nsIn K mainGlobals "fraction" = some (some (.ref f9))) (l9 : K.lookup f9 = some ⟨oc9, od9, .func (PySem.W.fnOf "fraction" "fraction" (defArgs s_fraction) (defBody s_fraction) (defScope s_fraction) .none kV9 dc9 pm9 an9 cd9 ct9), sl9⟩) (c9 : PySem.W.codeIn K cd9 "fraction" = true) (k9 : PySem.W.keepIn K (.ref f9) = true)
    (a10 : PySem.W.nsIn K mainGlobals "tables_share" = some (some (.ref f10))) (l10 : K.lookup f10 = some ⟨oc10, od10, .func (PySem.W.fnOf "tables_share" "tables_share" (defArgs s_tables_share) (defBody s_tables_share) (defScope s_tables_share) .none kV10 dc10 pm10 an10 cd10 ct10), sl10⟩) (c10 : PySem.W.codeIn K cd10 "tables_share" = true) (k10 : PySem.W.keepIn K (.ref f10) = true)
    (a11 : PySem.W.nsIn K mainGlobals "best_weights" = some (some (.ref f11))) (l11 : K.lookup f11 = some ⟨oc11, od11, .func (PySem.W.fnOf "best_weights" "best_weights" (defArgs s_best_weights) (defBody s_best_weights) (defScope s_best_weights) .none kV11 dc11 pm11 an11 cd11 ct11), sl11⟩) (c11 : PySem.W.codeIn K cd11 "best_weights" = true) (k11 : PySem.W.keepIn K (.ref f11) = true)
    (a12 : PySem.W.nsIn K mainGlobals "weights_by_tables" = some (some (.ref f12))) (l12 : K.lookup f12 = some ⟨oc12, od12, .func (PySem.W.fnOf "weights_by_tables" "weights_by_tables" (defArgs s_weights_by_tables) (defBody s_weights_by_tables) (defScope s_weights_by_tables) .none kV12 dc12 pm12 an12 cd12 ct12), sl12⟩) (c12 : PySem.W.codeIn K cd12 "weights_by_tables" = true) (k12 : PySem.W.keepIn K (.ref f12) = true)
    (a13 : PySem.W.nsIn K mainGlobals "gain_behind" = some (some (.ref f13))) (l13 : K.lookup f13 = some ⟨oc13, od13, .func (PySem.W.fnOf "gain_behind" "gain_behind" (defArgs s_gain_behind) (defBody s_gain_behind) (defScope s_gain_behind) .none kV13 dc13 pm13 an13 cd13 ct13), sl13⟩) (c13 : PySem.W.codeIn K cd13 "gain_behind" = true) (k13 : PySem.W.keepIn K (.ref f13) = true)
    (a14 : PySem.W.nsIn K mainGlobals "_law_pouch" = some (some (.ref f14))) (l14 : K.lookup f14 = some ⟨oc14, od14, .func (PySem.W.fnOf "_law_pouch" "_law_pouch" (defArgs s_law_pouch) (defBody s_law_pouch) (defScope s_law_pouch) .none kV14 dc14 pm14 an14 cd14 ct14), sl14⟩) (c14 : PySem.W.codeIn K cd14 "_law_pouch" = true) (k14 : PySem.W.keepIn K (.ref f14) = true)
    (a15 : PySem.W.nsIn K mainGlobals "_law_dip" = some (some (.ref f15))) (l15 : K.lookup f15 = some ⟨oc15, od15, .func (PySem.W.fnOf "_law_dip" "_law_dip" (defArgs s_law_dip) (defBody s_law_dip) (defScope s_law_dip) .none kV15 dc15 pm15 an15 cd15 ct15), sl15⟩) (c15 : PySem.W.codeIn K cd15 "_law_dip" = true) (k15 : PySem.W.keepIn K (.ref f15) = true)
    (a16 : PySem.W.nsIn K mainGlobals "_law_weigh" = some (some (.ref f16))) (l16 : K.lookup f16 = some ⟨oc16, od16, .func (PySem.W.fnOf "_law_weigh" "_law_weigh" (defArgs s_law_weigh) (defBody s_law_weigh) (defScope s_law_weigh) .none kV16 dc16 pm16 an16 cd16 ct16), sl16⟩) (c16 : PySem.W.codeIn K cd16 "_law_weigh" = true) (k16 : PySem.W.keepIn K (.ref f16) = true)
    (a17 : PySem.W.nsIn K mainGlobals "_law_rise" = some (some (.ref f17))) (l17 : K.lookup f17 = some ⟨oc17, od17, .func (PySem.W.fnOf "_law_rise" "_law_rise" (defArgs s_law_rise) (defBody s_law_rise) (defScope s_law_rise) .none kV17 dc17 pm17 an17 cd17 ct17), sl17⟩) (c17 : PySem.W.codeIn K cd17 "_law_rise" = true) (k17 : PySem.W.keepIn K (.ref f17) = true)
    (a18 : PySem.W.nsIn K mainGlobals "_law_beats" = some (some (.ref f18))) (l18 : K.lookup f18 = some ⟨oc18, od18, .func (PySem.W.fnOf "_law_beats" "_law_beats" (defArgs s_law_beats) (defBody s_law_beats) (defScope s_law_beats) .none kV18 dc18 pm18 an18 cd18 ct18), sl18⟩) (c18 : PySem.W.codeIn K cd18 "_law_beats" = true) (k18 : PySem.W.keepIn K (.ref f18) = true)
    (a19 : PySem.W.nsIn K mainGlobals "_law_right" = some (some (.ref f19))) (l19 : K.lookup f19 = some ⟨oc19, od19, .func (PySem.W.fnOf "_law_right" "_law_right" (defArgs s_law_right) (defBody s_law_right) (defScope s_law_right) .none kV19 dc19 pm19 an19 cd19 ct19), sl19⟩) (c19 : PySem.W.codeIn K cd19 "_law_right" = true) (k19 : PySem.W.keepIn K (.ref f19) = true)
    (a20 : PySem.W.nsIn K mainGlobals "_law_small_right" = some (some (.ref f20))) (l20 : K.lookup f20 = some ⟨oc20, od20, .func (PySem.W.fnOf "_law_small_right" "_law_small_right" (defArgs s_law_small_right) (defBody s_law_small_right) (defScope s_law_small_right) .none kV20 dc20 pm20 an20 cd20 ct20), sl20⟩) (c20 : PySem.W.codeIn K cd20 "_law_small_right" = true) (k20 : PySem.W.keepIn K (.ref f20) = true)
    (a21 : PySem.W.nsIn K mainGlobals "_law_far_right" = some (some (.ref f21))) (l21 : K.lookup f21 = some ⟨oc21, od21, .func (PySem.W.fnOf "_law_far_right" "_law_far_right" (defArgs s_law_far_right) (defBody s_law_far_right) (defScope s_law_far_right) .none kV21 dc21 pm21 an21 cd21 ct21), sl21⟩) (c21 : PySem.W.codeIn K cd21 "_law_far_right" = true) (k21 : PySem.W.keepIn K (.ref f21) = true)
    (a22 : PySem.W.nsIn K mainGlobals "law" = some (some (.ref f22))) (l22 : K.lookup f22 = some ⟨oc22, od22, .func (PySem.W.fnOf "law" "law" (defArgs s_law) (defBody s_law) (defScope s_law) .none kV22 dc22 pm22 an22 cd22 ct22), sl22⟩) (c22 : PySem.W.codeIn K cd22 "law" = true) (k22 : PySem.W.keepIn K (.ref f22) = true)
    (z_abs : PySem.W.nsIn K mainGlobals "abs" = some none)
    (z_int : PySem.W.nsIn K mainGlobals "int" = some none)
    (z_isinstance : PySem.W.nsIn K mainGlobals "isinstance" = some none)
    (z_len : PySem.W.nsIn K mainGlobals "len" = some none)
    (z_list : PySem.W.nsIn K mainGlobals "list" = some none)
    (z_max : PySem.W.nsIn K mainGlobals "max" = some none)
    (z_min : PySem.W.nsIn K mainGlobals "min" = some none)
    (z_range : PySem.W.nsIn K mainGlobals "range" = some none)
    (z_tuple : PySem.W.nsIn K mainGlobals "tuple" = some none)
    (z_type : PySem.W.nsIn K mainGlobals "type" = some none)
    (z_zip : PySem.W.nsIn K mainGlobals "zip" = some none)
    (y_MOST_GUESTS : PySem.W.nsIn K mainGlobals "MOST_GUESTS" = some (some (.int 20 t_MOST_GUESTS)))
    (y_MOST_WEIGHT : PySem.W.nsIn K mainGlobals "MOST_WEIGHT" = some (some (.int 1000000000000 t_MOST_WEIGHT)))
    (x_gcd : PySem.W.nsIn K mainGlobals "gcd" = some (some (.builtin "math.gcd")))
    : ∃ fd : FuncData, (∀ (s : Shared) (v : Value), BindsTo s fd ⟨[v], []⟩ [("script", v)]) ∧ ∀ base : Heap, K.In base → base.Ns mainGlobals mg → FnOk l.prog w K mg base CX0 6 fa fd ["script"] (sp_law K) := by
  have e := hfa.symm.trans (PySem.W.mg_of X G a22)
  cases e
  have F1 := fun_mk (st := s_is_whole) l1 c1 k1
  have F2 := fun_mk (st := s_is_within) l2 c2 k2
  have F3 := fun_mk (st := s_check_guests) l3 c3 k3
  have F4 := fun_mk (st := s_check_weight) l4 c4 k4
  have F5 := fun_mk (st := s_check_number) l5 c5 k5
  have F6 := fun_mk (st := s_raised) l6 c6 k6
  have F7 := fun_mk (st := s_rising) l7 c7 k7
  have F8 := fun_mk (st := s_sums_by_tables) l8 c8 k8
  have F9 := fun_mk (st := s_fraction) l9 c9 k9
  have F10 := fun_mk (st := s_tables_share) l10 c10 k10
  have F11 := fun_mk (st := s_best_weights) l11 c11 k11
  have F12 := fun_mk (st := s_weights_by_tables) l12 c12 k12
  have F13 := fun_mk (st := s_gain_behind) l13 c13 k13
  have F14 := fun_mk (st := s_law_pouch) l14 c14 k14
  have F15 := fun_mk (st := s_law_dip) l15 c15 k15
  have F16 := fun_mk (st := s_law_weigh) l16 c16 k16
  have F17 := fun_mk (st := s_law_rise) l17 c17 k17
  have F18 := fun_mk (st := s_law_beats) l18 c18 k18
  have F19 := fun_mk (st := s_law_right) l19 c19 k19
  have F20 := fun_mk (st := s_law_small_right) l20 c20 k20
  have F21 := fun_mk (st := s_law_far_right) l21 c21 k21
  have F22 := fun_mk (st := s_law) l22 c22 k22
  let T : Tx K mg :=
    { f_is_whole := f1, d_is_whole := _, F_is_whole := F1, g_is_whole := PySem.W.mg_of X G a1, b_is_whole := F1.binds (ps := ["thing"]) fun _ _ _ _ _ _ us hl => match us, hl with | [_], _ => rfl,
      f_is_within := f2, d_is_within := _, F_is_within := F2, g_is_within := PySem.W.mg_of X G a2, b_is_within := F2.binds (ps := ["thing", "least", "most"]) fun _ _ _ _ _ _ us hl => match us, hl with | [_, _, _], _ => rfl,
      f_check_guests := f3, d_check_guests := _, F_check_guests := F3, g_check_guests := PySem.W.mg_of X G a3, b_check_guests := F3.binds (ps := ["guests"]) fun _ _ _ _ _ _ us hl => match us, hl with | [_], _ => rfl,
      f_check_weight := f4, d_check_weight := _, F_check_weight := F4, g_check_weight := PySem.W.mg_of X G a4, b_check_weight := F4.binds (ps := ["weight"]) fun _ _ _ _ _ _ us hl => match us, hl with | [_], _ => rfl,
      f_check_number := f5, d_check_number := _, F_check_number := F5, g_check_number := PySem.W.mg_of X G a5, b_check_number := F5.binds (ps := ["number", "least", "most"]) fun _ _ _ _ _ _ us hl => match us, hl with | [_, _, _], _ => rfl,
      f_raised := f6, d_raised := _, F_raised := F6, g_raised := PySem.W.mg_of X G a6, b_raised := F6.binds (ps := ["base", "times"]) fun _ _ _ _ _ _ us hl => match us, hl with | [_, _], _ => rfl,
      f_rising := f7, d_rising := _, F_rising := F7, g_rising := PySem.W.mg_of X G a7, b_rising := F7.binds (ps := ["weight", "guests"]) fun _ _ _ _ _ _ us hl => match us, hl with | [_, _], _ => rfl,
      f_sums_by_tables := f8, d_sums_by_tables := _, F_sums_by_tables := F8, g_sums_by_tables := PySem.W.mg_of X G a8, b_sums_by_tables := F8.binds (ps := ["factors"]) fun _ _ _ _ _ _ us hl => match us, hl with | [_], _ => rfl,
      f_fraction := f9, d_fraction := _, F_fraction := F9, g_fraction := PySem.W.mg_of X G a9, b_fraction := F9.binds (ps := ["top", "bottom"]) fun _ _ _ _ _ _ us hl => match us, hl with | [_, _], _ => rfl,
      f_tables_share := f10, d_tables_share := _, F_tables_share := F10, g_tables_share := PySem.W.mg_of X G a10, b_tables_share := F10.binds (ps := ["guests", "weight", "number"]) fun _ _ _ _ _ _ us hl => match us, hl with | [_, _, _], _ => rfl,
      f_best_weights := f11, d_best_weights := _, F_best_weights := F11, g_best_weights := PySem.W.mg_of X G a11, b_best_weights := F11.binds (ps := ["guests", "number"]) fun _ _ _ _ _ _ us hl => match us, hl with | [_, _], _ => rfl,
      f_weights_by_tables := f12, d_weights_by_tables := _, F_weights_by_tables := F12, g_weights_by_tables := PySem.W.mg_of X G a12, b_weights_by_tables := F12.binds (ps := ["guests", "weight"]) fun _ _ _ _ _ _ us hl => match us, hl with | [_, _], _ => rfl,
      f_gain_behind := f13, d_gain_behind := _, F_gain_behind := F13, g_gain_behind := PySem.W.mg_of X G a13, b_gain_behind := F13.binds (ps := ["guests", "number", "weight"]) fun _ _ _ _ _ _ us hl => match us, hl with | [_, _, _], _ => rfl,
      f_law_pouch := f14, d_law_pouch := _, F_law_pouch := F14, g_law_pouch := PySem.W.mg_of X G a14, b_law_pouch := F14.binds (ps := ["script", "at"]) fun _ _ _ _ _ _ us hl => match us, hl with | [_, _], _ => rfl,
      f_law_dip := f15, d_law_dip := _, F_law_dip := F15, g_law_dip := PySem.W.mg_of X G a15, b_law_dip := F15.binds (ps := ["pouch", "wide"]) fun _ _ _ _ _ _ us hl => match us, hl with | [_, _], _ => rfl,
      f_law_weigh := f16, d_law_weigh := _, F_law_weigh := F16, g_law_weigh := PySem.W.mg_of X G a16, b_law_weigh := F16.binds (ps := ["heavy", "many"]) fun _ _ _ _ _ _ us hl => match us, hl with | [_, _], _ => rfl,
      f_law_rise := f17, d_law_rise := _, F_law_rise := F17, g_law_rise := PySem.W.mg_of X G a17, b_law_rise := F17.binds (ps := ["heavy", "many"]) fun _ _ _ _ _ _ us hl => match us, hl with | [_, _], _ => rfl,
      f_law_beats := f18, d_law_beats := _, F_law_beats := F18, g_law_beats := PySem.W.mg_of X G a18, b_law_beats := F18.binds (ps := ["many", "width", "one", "other"]) fun _ _ _ _ _ _ us hl => match us, hl with | [_, _, _, _], _ => rfl,
      f_law_right := f19, d_law_right := _, F_law_right := F19, g_law_right := PySem.W.mg_of X G a19, b_law_right := F19.binds (ps := ["many", "width"]) fun _ _ _ _ _ _ us hl => match us, hl with | [_, _], _ => rfl,
      f_law_small_right := f20, d_law_small_right := _, F_law_small_right := F20, g_law_small_right := PySem.W.mg_of X G a20, b_law_small_right := F20.binds (ps := ["many", "width"]) fun _ _ _ _ _ _ us hl => match us, hl with | [_, _], _ => rfl,
      f_law_far_right := f21, d_law_far_right := _, F_law_far_right := F21, g_law_far_right := PySem.W.mg_of X G a21, b_law_far_right := F21.binds (ps := ["pouch", "many", "width"]) fun _ _ _ _ _ _ us hl => match us, hl with | [_, _, _], _ => rfl,
      f_law := fa, d_law := _, F_law := F22, g_law := PySem.W.mg_of X G a22, b_law := F22.binds (ps := ["script"]) fun _ _ _ _ _ _ us hl => match us, hl with | [_], _ => rfl,
      m_abs := PySem.W.mg_none_of X G z_abs,
      m_int := PySem.W.mg_none_of X G z_int,
      m_isinstance := PySem.W.mg_none_of X G z_isinstance,
      m_len := PySem.W.mg_none_of X G z_len,
      m_list := PySem.W.mg_none_of X G z_list,
      m_max := PySem.W.mg_none_of X G z_max,
      m_min := PySem.W.mg_none_of X G z_min,
      m_range := PySem.W.mg_none_of X G z_range,
      m_tuple := PySem.W.mg_none_of X G z_tuple,
      m_type := PySem.W.mg_none_of X G z_type,
      m_zip := PySem.W.mg_none_of X G z_zip,
      c_MOST_GUESTS := ⟨_, PySem.W.mg_of X G y_MOST_GUESTS, ⟨_, rfl⟩⟩,
      c_MOST_WEIGHT := ⟨_, PySem.W.mg_of X G y_MOST_WEIGHT, ⟨_, rfl⟩⟩,
      i_gcd := PySem.W.mg_of X G x_gcd,
      kb_best_weights_0_number_guests := ⟨(fun s us ws _ hl => match us, ws, hl with | [], [_, _], _ => .of_eq rfl | (_ :: _), _, hl => absurd (show (0 : Nat) = 2 from hl) (by decide) | [], [], hl => absurd (show (0 : Nat) = 2 from hl) (by decide) | [], (_ :: []), hl => absurd (show (0 : Nat) = 2 from hl) (by decide) | [], (_ :: (_ :: (_ :: _))), hl => absurd (show (0 : Nat) = 2 from hl) (by decide)), (fun {vs us zs ws} r z => match r, z with | .nil, (.cons b0 (.cons b1 .nil)) => (.cons b1 (.cons b0 .nil)) | (.cons _ _), _ => .nil | .nil, .nil => .nil | .nil, (.cons _ .nil) => .nil | .nil, (.cons _ (.cons _ (.cons _ _))) => .nil)⟩ }
  exact ⟨PySem.W.fnOf "law" "law" (defArgs s_law) (defBody s_law) (defScope s_law) .none kV22 dc22 pm22 an22 cd22 ct22, fun s v => .of_eq rfl, fun base _ _ => ok_law T⟩
end K10
open PySem PySem.W PyProof.Rows
set_option maxRecDepth 100000 in
set_option maxHeartbeats 0 in
theorem PySem.Challenge.cw_newtables_k10_best_weights_holds : PySem.Challenge.rw_newtables_k10_best_weights.Holds := by
  w_on; o_law; k_head; (case hw => w_witness2)
  k_fill
  refine L2.walk_of (l := PySem.Challenge.rw_newtables_k10_best_weights) (n := 63) (k := 6) (x := "script") (CX := fun _ => L2.CX0) (sp := fun w => K10.sp_law _) rfl (by decide) rfl ⟨rfl, by decide, by decide⟩ (fun w h Y => PySem.W.kIn_of Y) ?F (fun _ _ a ns hl _ hS => ⟨a, ns, rfl, hS, hl, fun _ => rfl⟩) (fun _ _ _ _ _ h => h)
  case F =>
    intro w mg fa h KX G hmg
    refine' K10.all_mk KX G hmg ?a1 ?l1 ?c1 ?k1 ?a2 ?l2 ?c2 ?k2 ?a3 ?l3 ?c3 ?k3 ?a4 ?l4 ?c4 ?k4 ?a5 ?l5 ?c5 ?k5 ?a6 ?l6 ?c6 ?k6 ?a7 ?l7 ?c7 ?k7 ?a8 ?l8 ?c8 ?k8 ?a9 ?l9 ?c9 ?k9 ?a10 ?l10 ?c10 ?k10 ?a11 ?l11 ?c11 ?k11 ?a12 ?l12 ?c12 ?k12 ?a13 ?l13 ?c13 ?k13 ?a14 ?l14 ?c14 ?k14 ?a15 ?l15 ?c15 ?k15 ?a16 ?l16 ?c16 ?k16 ?a17 ?l17 ?c17 ?k17 ?a18 ?l18 ?c18 ?k18 ?a19 ?l19 ?c19 ?k19 ?a20 ?l20 ?c20 ?k20 ?a21 ?l21 ?c21 ?k21 ?a22 ?l22 ?c22 ?k22 ?z_abs ?z_int ?z_isinstance ?z_len ?z_list ?z_max ?z_min ?z_range ?z_tuple ?z_type ?z_zip ?y_MOST_GUESTS ?y_MOST_WEIGHT ?x_gcd
    (case a1 => k_is); (case l1 => k_is); (case c1 => k_is); (case k1 => k_is); (case a2 => k_is); (case l2 => k_is)
    (case c2 => k_is); (case k2 => k_is); (case a3 => k_is); (case l3 => k_is); (case c3 => k_is); (case k3 => k_is)
    (case a4 => k_is); (case l4 => k_is); (case c4 => k_is); (case k4 => k_is); (case a5 => k_is); (case l5 => k_is)
    (case c5 => k_is); (case k5 => k_is); (case a6 => k_is); (case l6 => k_is); (case c6 => k_is); (case k6 => k_is)
    (case a7 => k_is); (case l7 => k_is); (case c7 => k_is); (case k7 => k_is); (case a8 => k_is); (case l8 => k_is)
    (case c8 => k_is); (case k8 => k_is); (case a9 => k_is); (case l9 => k_is); (case c9 => k_is); (case k9 => k_is)
    (case a10 => k_is); (case l10 => k_is); (case c10 => k_is); (case k10 => k_is); (case a11 => k_is); (case l11 => k_is)
    (case c11 => k_is); (case k11 => k_is); (case a12 => k_is); (case l12 => k_is); (case c12 => k_is); (case k12 => k_is)
    (case a13 => k_is); (case l13 => k_is); (case c13 => k_is); (case k13 => k_is); (case a14 => k_is); (case l14 => k_is)
    (case c14 => k_is); (case k14 => k_is); (case a15 => k_is); (case l15 => k_is); (case c15 => k_is); (case k15 => k_is)
    (case a16 => k_is); (case l16 => k_is); (case c16 => k_is); (case k16 => k_is); (case a17 => k_is); (case l17 => k_is)
    (case c17 => k_is); (case k17 => k_is); (case a18 => k_is); (case l18 => k_is); (case c18 => k_is); (case k18 => k_is)
    (case a19 => k_is); (case l19 => k_is); (case c19 => k_is); (case k19 => k_is); (case a20 => k_is); (case l20 => k_is)
    (case c20 => k_is); (case k20 => k_is); (case a21 => k_is); (case l21 => k_is); (case c21 => k_is); (case k21 => k_is)
    (case a22 => k_is); (case l22 => k_is); (case c22 => k_is); (case k22 => k_is); (case z_abs => k_is); (case z_int => k_is)
    (case z_isinstance => k_is); (case z_len => k_is); (case z_list => k_is); (case z_max => k_is); (case z_min => k_is); (case z_range => k_is)
    (case z_tuple => k_is); (case z_type => k_is); (case z_zip => k_is); (case y_MOST_GUESTS => k_is); (case y_MOST_WEIGHT => k_is); (case x_gcd => k_is)
