import PyProof.Rows.All
import Wide.All
import OpenK.AllK
import Wide.FinOn
import PyProof.TypeEq
import HandS.ForMost
import HandS.Evl
import HandS.Wide
import HandS.WideBits
import HandS.Gcd
import HandS.Codes
import HandS.Conv
import HandS.IsInst
import HandS.More
import HandS.Walk
import HandS.Style
import PyProof.InstEq
import HandS.Sort
import KE.DataMinMax
import KE.GoesEnum
import KE.GoesMore
import HandS.Iter
import HandS.WordsDict
import HandS.Exc
import HandS.ExcOwn
import HandS.ExcCtx
import HandS.HotCalls
import HandS.ExcIs
import HandS.FStr
import HandS.RaiseMore
import PyProof.ReprLen
import PyProof.Rows.RegStrFacts
import KE.KMathGC
import HandS.RevRange
import HandS.Deep
import PySem.Challenge.RW_newtables_k02_errors_of_seatings
set_option Elab.async false
set_option linter.all false
set_option maxRecDepth 100000
set_option maxHeartbeats 4000000
namespace Kit
open PySem PySem.Spec PyProof.Rows L2 Evl
/-! rules that the layer lacks -/
section
variable {X : Cx} {a b c d : Expr} {ta tb tc td : TE} {pos : Pos}
def CPowX (i j : Int) : Prop := 0 ≤ j ∧ (Builtin.Int.intBits i : Int) * j ≤ 2 ^ 27
theorem op_powX : OpR X (binaryOp .Pow) (rI CPowX fun i j => .int (i ^ j.toNat)) := opI fun _ _ _ _ _ _ _ hc q => pow_int hc.1 hc.2 q
/-- the types that are compared by == -/
def Meta (n : String) : Prop := ∀ s : Shared, s.TypeIs (.type n) "type"
def rEqTy : R2 := fun x y H Q => ∃ m n, x = .ty m ∧ y = .ty n ∧ Meta m ∧ Meta n ∧ Q (.bl (decide (m = n))) H
theorem op_eqTy : OpR X (compareOp .Eq) rEqTy := by
  intro pins s σ H x y v u Q I rx ry h
  obtain ⟨m, n, rfl, rfl, hm, hn, q⟩ := h
  cases (show v = Value.type m from rx)
  cases (show u = Value.type n from ry)
  by_cases e : m = n
  · subst e
    exact PySem.TypeEq.eq_type_same hm ⟨.bl true, H, I, rfl, by simpa using q⟩
  · exact PySem.TypeEq.eq_type_other hm hn (by rw [beq_eq_false_iff_ne]; exact fun z => e (Value.type.inj z)) ⟨.bl false, H, I, rfl, by simpa [e] using q⟩
/-- a op b op c op d -/
def tChain3 (r r' r'' : R2) (ta tb tc td : TE) : TE := fun σ H Q => ta σ H fun x H1 => tb σ H1 fun y H2 => r x y H2 fun z H3 => ∃ k, z = .bl k ∧
  (if k = true then tc σ H3 fun w' H4 => r' y w' H4 fun z' H5 => ∃ k', z' = .bl k' ∧ (if k' = true then td σ H5 fun w'' H6 => r'' w' w'' H6 Q else Q (.bl false) H5) else Q (.bl false) H3)
theorem pe_chain3 {op op' op'' : CmpOp} {r r' r'' : R2} (ho : OpR X (compareOp op) r) (ho' : OpR X (compareOp op') r') (ho'' : OpR X (compareOp op'') r'') (ha : PE X a ta) (hb : PE X b tb) (hc : PE X c tc) (hd : PE X d td)
    (hm : lastMarks [op, op', op''] [b, c, d] = false := by with_unfolding_all rfl) : PE X (.Compare a [op, op', op''] [b, c, d] pos) (tChain3 r r' r'' ta tb tc td) := by
  refine ⟨fun pins s σ H Q I h => ?_⟩
  refine Compare_chain (thn (ha.run pins s σ H _ I h) fun v s1 ⟨x, H1, I1, r1, q1⟩ => chain_link (thn (hb.run pins s1 σ H1 _ I1 q1) fun u s2 ⟨y, H2, I2, r2, q2⟩ =>
    thn (ho pins s2 σ H2 x y v u _ I2 r1 r2 q2) fun d s3 ⟨z, H3, I3, r3, k, e, q3⟩ => ?_)) hm
  subst e
  cases r3
  refine wpAny_truthy_bool ?_
  cases k with
  | false => exact ite_ff ⟨.bl false, H3, I3, rfl, q3⟩
  | true =>
    refine ite_tt (chain_link (thn (hc.run pins s3 σ H3 _ I3 q3) fun w' s4 ⟨z', H4, I4, r4, q4⟩ => thn (ho' pins s4 σ H4 y z' u w' _ I4 r2 r4 q4) fun d' s5 ⟨z5, H5, I5, r5, k5, e5, q5⟩ => ?_))
    subst e5
    cases r5
    refine wpAny_truthy_bool ?_
    cases k5 with
    | false => exact ite_ff ⟨.bl false, H5, I5, rfl, q5⟩
    | true => exact ite_tt (chain_last (thn (hd.run pins s5 σ H5 _ I5 q5) fun w6 s6 ⟨z6, H6, I6, r6, q6⟩ => ho'' pins s6 σ H6 z' z6 w' w6 Q I6 r4 r6 q6))
theorem pt_chain3 {op op' op'' : CmpOp} {r r' r'' : R2} (ho : OpR X (compareOp op) r) (ho' : OpR X (compareOp op') r') (ho'' : OpR X (compareOp op'') r'') (ha : PE X a ta) (hb : PE X b tb) (hc : PE X c tc) (hd : PE X d td)
    (hm : lastMarks [op, op', op''] [b, c, d] = false := by with_unfolding_all rfl) : PT X (.Compare a [op, op', op''] [b, c, d] pos) (tTest (tChain3 r r' r'' ta tb tc td)) := by
  refine ⟨fun pins s σ H Q I h => ?_⟩
  refine isTrue_chain (thn (ha.run pins s σ H _ I h) fun v s1 ⟨x, H1, I1, r1, q1⟩ => test_link (thn (hb.run pins s1 σ H1 _ I1 q1) fun u s2 ⟨y, H2, I2, r2, q2⟩ =>
    thn (ho pins s2 σ H2 x y v u _ I2 r1 r2 q2) fun d s3 ⟨z, H3, I3, r3, k, e, q3⟩ => ?_)) hm
  subst e
  cases r3
  refine wpAny_truthy_bool ?_
  cases k with
  | false =>
    obtain ⟨k', e', q'⟩ := q3
    cases e'
    exact ite_ff ⟨H3, I3, q'⟩
  | true =>
    refine ite_tt (test_link (thn (hc.run pins s3 σ H3 _ I3 q3) fun w' s4 ⟨z', H4, I4, r4, q4⟩ => thn (ho' pins s4 σ H4 y z' u w' _ I4 r2 r4 q4) fun d' s5 ⟨z5, H5, I5, r5, k5, e5, q5⟩ => ?_))
    subst e5
    cases r5
    refine wpAny_truthy_bool ?_
    cases k5 with
    | false =>
      obtain ⟨k', e', q'⟩ := q5
      cases e'
      exact ite_ff ⟨H5, I5, q'⟩
    | true =>
      refine ite_tt (test_last (thn (hd.run pins s5 σ H5 _ I5 q5) fun w6 s6 ⟨z6, H6, I6, r6, q6⟩ => thn (ho'' pins s6 σ H6 z' z6 w' w6 _ I6 r4 r6 q6) fun d7 s7 ⟨z7, H7, I7, r7, k7, e7, q7⟩ => ?_))
      subst e7
      cases r7
      exact wpAny_truthy_bool ⟨H7, I7, q7⟩
end
/-! f(k = v, ..): keywords alone -/
section
variable {X : Cx} {CX : CXT} {k : Nat} {f C : Addr} {fd : FuncData} {ps ks : List Str} {sp : Sp} {E : XK} {x m : Str} {p pos apos kpos : Pos} {kws : List Keyword} {tk : TA}
variable {g : List Value → List Value → List Value} {gV : List V → List V → List V}
theorem pe_callK0 (F : FnOk X.prog X.w X.K X.mg X.base CX k f fd ps sp) (hr : Room k X.A) (hg : Gl X x) (hm : X.mg x = some (.ref f)) (hk : PySem.W.keepIn X.K (.ref f) = true) (hb : KBinds X.K fd ps ks g gV) (hx : Passes CX X E)
    (hkw : PK X kws tk) (hall : (backToKw pos (keywordEach kws X.env)).all (·.1.isSome) = true := by rfl) (hks : (backToKw pos (keywordEach kws X.env)).filterMap (·.1) = ks := by rfl)
    (hdb : (x == ("__debug__" : Str)) = false := by decide)
    (hpl : ((backTo pos (starEach [] X.env)).any (·.1) || (backToKw pos (keywordEach kws X.env)).any (·.1.isNone)) = false := by rfl) :
    PE X (.Call (.Name x p) [] kws pos) (tCallK sp gV E tNil tk) := by
  refine ⟨fun pins s σ H Q I h => ?_⟩
  refine wpAny_Call_Name_kw (ld_glob I hg hm ?_ hdb)
  refine PySem.W.callWith_KW0 (h₀ := X.base) I.ok.mod.kin hk hall ?_ hpl
  refine thn (hkw.run pos pins s σ H _ I h) fun ws s2 ⟨zs, H2, I2, rz, q2⟩ => ⟨I2.kIn, ?_⟩
  rw [hks]
  exact run_fnk F hr hb hx I2 (us := []) (vs := []) .nil rz q2
end
theorem pe_gc {X : Cx} {x : Str} {pos : Pos} {v : V} (hg : Gl X x) (h : ∃ u, X.mg x = some u ∧ RelV v u) (hd : (x == ("__debug__" : Str)) = false := by decide) : PE X (.Name x pos) (tC v) := by
  obtain ⟨u, hm, r⟩ := h
  exact pe_glob hg hm r hd
/-! built-ins by name, with readings that have names -/
section
variable {X : Cx}
def rAbs : List V → Hp → VK → Prop := fun xs H Q => ∃ i, xs = [.int i] ∧ Q (.int (if i < 0 then -i else i)) H
def rMin2 : List V → Hp → VK → Prop := fun xs H Q => ∃ i j, xs = [.int i, .int j] ∧ Q (.int (if j < i then j else i)) H
def rIntI : List V → Hp → VK → Prop := fun xs H Q => ∃ i, xs = [.int i] ∧ Q (.int i) H
def rIntB : List V → Hp → VK → Prop := fun xs H Q => ∃ b, xs = [.bl b] ∧ Q (.int (if b then 1 else 0)) H
theorem call_absR : CallR X (.builtin "abs") rAbs := call_abs
theorem call_maxR (hc : X.calm = true) : CallR X (.builtin "max") rMax2 := call_max2 hc
theorem call_minR (hc : X.calm = true) : CallR X (.builtin "min") rMin2 := call_min2 hc
theorem call_intI : CallR X (.type "int") rIntI := by
  intro pins s σ H xs us Q I r h
  obtain ⟨i, e, q⟩ := h
  exact call_int1 pins s σ H xs us Q I r (.inl ⟨i, e, q⟩)
theorem call_intB : CallR X (.type "int") rIntB := by
  intro pins s σ H xs us Q I r h
  obtain ⟨i, e, q⟩ := h
  exact call_int1 pins s σ H xs us Q I r (.inr ⟨i, e, q⟩)
theorem call_lenR : CallR X (.builtin "len") (rLenS X.K) := call_len_seq
theorem call_listR : CallR X (.type "list") (rListS X.K) := call_list_of
def rTupS (K : PySem.W.Frag) : List V → Hp → VK → Prop := fun xs H Q => ∃ p ys, xs = [.ref p] ∧ SqL K H p ys ∧ ∀ l, H l = none → Q (.ref l) (upd H l (.tup ys))
theorem call_tupR : CallR X (.type "tuple") (rTupS X.K) := by
  intro pins s σ H xs us Q I r h
  obtain ⟨p, ys, e, hs, q⟩ := h
  exact call_tuple_of pins s σ H xs us Q I r ⟨p, ys, e, .inl ⟨hs, q⟩⟩
def rIsN1 : R2 := fun x y H Q => y = .non ∧ Q (.bl (decide (x = .non))) H
def rNotN1 : R2 := fun x y H Q => y = .non ∧ Q (.bl (!decide (x = .non))) H
theorem op_isNR : OpR X (compareOp .Is) rIsN1 := op_isN
theorem op_notNR : OpR X (compareOp .IsNot) rNotN1 := op_notN
end
/-! evaluations of these -/
section
variable {K : PySem.W.Frag} {σ : L2.St} {H H' : Hp} {ta tb tc td te : TE} {x y z v : V} {r : R2} {i j : Int}
theorem ev_abs (h : Ev ta σ H (.int i)) : Ev (tCB rAbs (tCons ta tNil)) σ H (.int (if i < 0 then -i else i)) := fun H1 e Q q => h H1 e _ fun H2 e2 => ⟨i, rfl, q H2 e2⟩
theorem ev_min2 (ha : Ev ta σ H (.int i)) (hb : Ev tb σ H (.int j)) : Ev (tCB rMin2 (tCons ta (tCons tb tNil))) σ H (.int (if j < i then j else i)) := fun H1 e Q q =>
  ha H1 e _ fun H2 e2 => hb H2 (e.trans e2) _ fun H3 e3 => ⟨i, j, rfl, q H3 (e2.trans e3)⟩
theorem ev_intI (h : Ev ta σ H (.int i)) : Ev (tCB rIntI (tCons ta tNil)) σ H (.int i) := fun H1 e Q q => h H1 e _ fun H2 e2 => ⟨i, rfl, q H2 e2⟩
theorem ev_intB {b : Bool} (h : Ev ta σ H (.bl b)) : Ev (tCB rIntB (tCons ta tNil)) σ H (.int (if b then 1 else 0)) := fun H1 e Q q => h H1 e _ fun H2 e2 => ⟨b, rfl, q H2 e2⟩
theorem rv_isN : RV rIsN1 x .non H (.bl (decide (x = .non))) := fun H1 _ _ q => ⟨rfl, q H1 (Ex.refl H1)⟩
theorem rv_notN : RV rNotN1 x .non H (.bl (!decide (x = .non))) := fun H1 _ _ q => ⟨rfl, q H1 (Ex.refl H1)⟩
theorem ev_chain {r r' : R2} {k : Bool} {k' : Bool} (ha : Ev ta σ H x) (hb : Ev tb σ H y) (hr : RV r x y H (.bl k)) (hc : k = true → ∃ z, Ev tc σ H z ∧ RV r' y z H (.bl k')) : Ev (tChain r r' ta tb tc) σ H (.bl (k && k')) := fun H1 e Q q =>
  ha H1 e _ fun H2 e2 => hb H2 (e.trans e2) _ fun H3 e3 => hr H3 ((e.trans e2).trans e3) _ fun H4 e4 => ⟨k, rfl, by
    cases k with
    | true =>
      obtain ⟨z, h1, h2⟩ := hc rfl
      exact h1 H4 (((e.trans e2).trans e3).trans e4) _ fun H5 e5 => h2 H5 ((((e.trans e2).trans e3).trans e4).trans e5) _ fun H6 e6 => q H6 ((((e2.trans e3).trans e4).trans e5).trans e6)
    | false => exact q H4 ((e2.trans e3).trans e4)⟩
theorem ev_chainI {C C' : Int → Int → Bool} {i j l : Int} (ha : Ev ta σ H (.int i)) (hb : Ev tb σ H (.int j)) (hc : Ev tc σ H (.int l)) :
    Ev (tChain (rI0 fun i j => .bl (C i j)) (rI0 fun i j => .bl (C' i j)) ta tb tc) σ H (.bl (C i j && C' j l)) := ev_chain ha hb rv_I0 fun _ => ⟨_, hc, rv_I0⟩
theorem ev_chain3I {C C' C'' : Int → Int → Bool} {i j l m : Int} (ha : Ev ta σ H (.int i)) (hb : Ev tb σ H (.int j)) (hc : Ev tc σ H (.int l)) (hd : Ev td σ H (.int m)) :
    Ev (tChain3 (rI0 fun i j => .bl (C i j)) (rI0 fun i j => .bl (C' i j)) (rI0 fun i j => .bl (C'' i j)) ta tb tc td) σ H (.bl (C i j && (C' j l && C'' l m))) := fun H1 e Q q =>
  ha H1 e _ fun H2 e2 => hb H2 (e.trans e2) _ fun H3 e3 => ⟨i, j, rfl, rfl, C i j, rfl, by
    have e23 := e2.trans e3
    generalize C i j = k1 at q ⊢
    cases k1 with
    | false => exact q H3 e23
    | true =>
      refine hc H3 (e.trans e23) _ fun H4 e4 => ⟨j, l, rfl, rfl, C' j l, rfl, ?_⟩
      generalize C' j l = k2 at q ⊢
      cases k2 with
      | false => exact q H4 (e23.trans e4)
      | true => exact hd H4 ((e.trans e23).trans e4) _ fun H5 e5 => ⟨l, m, rfl, rfl, q H5 ((e23.trans e4).trans e5)⟩⟩
theorem rv_eqTy {m n : String} (hm : Meta m) (hn : Meta n) : RV rEqTy (.ty m) (.ty n) H (.bl (decide (m = n))) := fun H1 _ _ q => ⟨m, n, rfl, rfl, hm, hn, q H1 (Ex.refl H1)⟩
theorem ev_typeI (h : Ev ta σ H (.int i)) : Ev (tThenZ ta kTyp) σ H (.ty "int") := fun H1 e Q q => h H1 e _ fun H2 e2 => ⟨"int", rfl, q H2 e2⟩
/-- a tuple that was made is read as two names -/
theorem s_tup2 {D : Ends} {i j : Nat} {p : Addr} (ha : Ev ta σ H (.ref p)) (hp : SqT K H p [x, y]) (k : ∀ H1, Ex H H1 → D.nx ((σ.set i (some x)).set j (some y)) H1) : tAsg ta (gTup K 2 (gCons (gName i) (gCons (gName j) gNil))) D σ H :=
  ha H (Ex.refl H) _ fun H1 e => ⟨p, [x, y], rfl, ex_t e hp, rfl, x, [y], rfl, y, [], rfl, rfl, k H1 e⟩
end
/-- a new tuple that is handed back -/
def RetU (xs : List V) (H : Hp) (Q : VK) : Prop := ∀ p H2, H p = none → Ex H H2 → H2 p = some (.tup xs) → Q (.ref p) H2
def SpU (sp : Sp) (vs : List V) (H : Hp) (xs : List V) : Prop := ∀ H1, Ex H H1 → ∀ Q : VK, (∀ p H2, H1 p = none → Ex H1 H2 → H2 p = some (.tup xs) → Q (.ref p) H2) → ∀ E : XK, sp vs H1 Q E
section
variable {K : PySem.W.Frag} {σ : L2.St} {H : Hp}
theorem eu_call {sp : Sp} {dvs vs xs : List V} {E : XK} {ta : TA} (h : EvA ta σ H vs) (hs : SpU sp (vs ++ dvs) H xs) : EvU (tCall sp dvs E ta) σ H xs := fun H1 e Q q =>
  h H1 e _ fun H2 e2 => hs H2 (e.trans e2) Q (fun p H3 hp e3 h3 => q p H3 (fresh_back e2 hp) (e2.trans e3) h3) E
/-- a, b = f(..), f's answer a new tuple -/
theorem s_tup2U {te : TE} {D : Ends} {i j : Nat} {x y : V} (ha : EvU te σ H [x, y]) (k : ∀ H1, Ex H H1 → D.nx ((σ.set i (some x)).set j (some y)) H1) : tAsg te (gTup K 2 (gCons (gName i) (gCons (gName j) gNil))) D σ H :=
  ha H (Ex.refl H) _ fun p H1 _ e h1 => ⟨p, [x, y], rfl, st_of h1, rfl, x, [y], rfl, y, [], rfl, rfl, k H1 e⟩
theorem q_tup2U {te : TE} {tz : TS} {D : Ends} {i j : Nat} {x y : V} (ha : EvU te σ H [x, y]) (k : ∀ H1, Ex H H1 → tz D ((σ.set i (some x)).set j (some y)) H1) : tSeq (tAsg te (gTup K 2 (gCons (gName i) (gCons (gName j) gNil)))) tz D σ H := s_tup2U (D := { D with nx := tz D }) ha k
theorem q_tup2 {ta : TE} {tz : TS} {D : Ends} {i j : Nat} {p : Addr} {x y : V} (ha : Ev ta σ H (.ref p)) (hp : SqT K H p [x, y]) (k : ∀ H1, Ex H H1 → tz D ((σ.set i (some x)).set j (some y)) H1) : tSeq (tAsg ta (gTup K 2 (gCons (gName i) (gCons (gName j) gNil)))) tz D σ H := s_tup2 (D := { D with nx := tz D }) ha hp k
/-- a, b = x, y -/
theorem s_par {ta : TA} {D : Ends} {i j : Nat} {x y : V} (ha : EvA ta σ H [x, y]) (k : ∀ H1, Ex H H1 → D.nx ((σ.set i (some x)).set j (some y)) H1) : tPar i j ta D σ H := ha H (Ex.refl H) _ fun H1 e => ⟨x, y, rfl, k H1 e⟩
theorem q_par {ta : TA} {tz : TS} {D : Ends} {i j : Nat} {x y : V} (ha : EvA ta σ H [x, y]) (k : ∀ H1, Ex H H1 → tz D ((σ.set i (some x)).set j (some y)) H1) : tSeq (tPar i j ta) tz D σ H := s_par (D := { D with nx := tz D }) ha k
end
theorem natAbs_pow_le {b : Int} {k : Nat} (h : b.natAbs < 2 ^ k) (n : Nat) : (b ^ n).natAbs ≤ 2 ^ (k * n) := by
  rw [Int.natAbs_pow, Nat.pow_mul]
  exact Nat.pow_le_pow_left (Nat.le_of_lt h) n
theorem lt_of_le2 {x k : Nat} (h : x ≤ 2 ^ k) : x < 2 ^ (k + 1) := Nat.lt_of_le_of_lt h (Nat.pow_lt_pow_right (by decide) (Nat.lt_succ_self k))
theorem lt2_mono {x k m : Nat} (h : x < 2 ^ k) (e : k ≤ m) : x < 2 ^ m := Nat.lt_of_lt_of_le h (Nat.pow_le_pow_right (by decide) e)
theorem natAbs_mul_lt {a b : Int} {k m : Nat} (ha : a.natAbs < 2 ^ k) (hb : b.natAbs < 2 ^ m) : (a * b).natAbs < 2 ^ (k + m) := wide_lt ha hb
/-! comprehensions -/
section
variable {K : PySem.W.Frag} {σ : L2.St} {H : Hp} {te tl : TE} {t : TT}
theorem et_yes : EvT tYes σ H true := fun H1 _ _ q => q H1 (Ex.refl H1)
theorem given_map {xs : List V} {F : V → V} : given xs.length (fun _ => true) (fun i => F (xs.getD i .non)) = xs.map F := by
  unfold given
  rw [List.filter_eq_self.mpr (fun _ _ => rfl)]
  refine List.ext_getElem (by simp) fun i h1 h2 => ?_
  simp at h1
  simp [h1]
/-- [e for x in xs] -/
theorem el_map {a : Addr} {xs : List V} {j : Nat} {vs : List Nat} (F : V → V) (h : Ev tl σ H (.ref a)) (hx : SqL K H a xs) (hz : xs.length ≤ 40000) (hw : ∀ x, wipe ((wipe σ vs).set j (some x)) vs = wipe σ vs)
    (he : ∀ (i : Nat) (x : V) H1, Ex H H1 → xs[i]? = some x → Ev te ((wipe σ vs).set j (some x)) H1 (F x)) : EvL (tLc (iList K tl) (gName j) tYes te vs) σ H (xs.map F) := by
  rw [← given_map]
  refine el_lcL _ _ h hx hz hw (fun _ _ _ _ _ => et_yes) fun i x H1 e hi _ => ?_
  have q := he i x H1 e hi
  have g : xs.getD i .non = x := by rw [List.getD_eq_getElem?_getD, hi] <;> rfl
  show Ev _ _ _ (F (xs.getD i .non))
  rw [g]
  exact q
theorem el_mapN {xs : List V} {j : Nat} {vs : List Nat} (F : V → V) (h : EvL tl σ H xs) (hz : xs.length ≤ 40000) (hw : ∀ x, wipe ((wipe σ vs).set j (some x)) vs = wipe σ vs)
    (he : ∀ (i : Nat) (x : V) H1, Ex H H1 → xs[i]? = some x → Ev te ((wipe σ vs).set j (some x)) H1 (F x)) : EvL (tLc (iList K tl) (gName j) tYes te vs) σ H (xs.map F) := by
  rw [← given_map]
  refine el_lcNL _ _ h hz hw (fun _ _ _ _ _ => et_yes) fun i x H1 e hi _ => ?_
  have q := he i x H1 e hi
  have g : xs.getD i .non = x := by rw [List.getD_eq_getElem?_getD, hi] <;> rfl
  show Ev _ _ _ (F (xs.getD i .non))
  rw [g]
  exact q
/-- [e for x in range(lo, hi) if t] -/
theorem el_lcR2 {ta : TA} {j : Nat} {vs : List Nat} {lo n : Int} (f : Nat → Bool) (v : Nat → V) (h : EvA ta σ H [.int lo, .int n]) (hn : 0 ≤ lo ∧ lo ≤ 40000 ∧ -40000 ≤ n ∧ n ≤ 40000) (hw : ∀ x, wipe ((wipe σ vs).set j (some x)) vs = wipe σ vs)
    (ht : ∀ (i : Nat) H1, Ex H H1 → lo + (i : Int) < n → EvT t ((wipe σ vs).set j (some (.int (lo + (i : Int))))) H1 (f i)) (he : ∀ (i : Nat) H1, Ex H H1 → lo + (i : Int) < n → f i = true → Ev te ((wipe σ vs).set j (some (.int (lo + (i : Int))))) H1 (v i)) :
    EvL (tLc (iRng2 ta) (gName j) t te vs) σ H (given (n - lo).toNat f v) := fun H0 e Q q => h H0 e _ fun H1 e1 => ⟨lo, n, rfl, ⟨by omega, by omega, by omega, by omega⟩, fun Dl hD =>
  lc_range (lo := lo) (n := (n - lo).toNat) (Cw H1 f v Dl) ⟨hD, Ex.new hD, upd_same⟩ (fun i H' hi p =>
    ⟨hw _, cw_turn p (by omega) (ht i H1 (e.trans e1) (by omega)) (fun hf => he i H1 (e.trans e1) (by omega) hf)⟩) (fun H' p => q Dl H' (fresh_back e1 p.1) (e1.trans p.2.1) p.2.2)⟩
theorem given_none {n : Nat} {f : Nat → Bool} {v : Nat → V} (h : ∀ i, i < n → f i = false) : given n f v = [] := by
  unfold given
  rw [List.filter_eq_nil_iff.mpr (fun i hi => by simp [h i (List.mem_range.mp hi)])]
  rfl
/-- xs + ys, both new -/
theorem el_cat {ta tb : TE} {xs ys : List V} (ha : EvL ta σ H xs) (hb : EvL tb σ H ys) (hl : xs.length + ys.length ≤ 100000) : EvL (tOp rCat ta tb) σ H (xs ++ ys) := fun H1 e Q q =>
  ha H1 e _ fun p H2 hp e2 h2 => hb H2 (e.trans e2) _ fun p' H3 hp' e3 h3 =>
    ⟨p, p', xs, ys, rfl, rfl, e3 p _ h2, h3, sz_of hl, fun l hl' => q l _ (fresh_back (e2.trans e3) hl') ((e2.trans e3).trans (Ex.new hl')) upd_same⟩
/-- [e for x, y in zip(xs, ys)] -/
theorem el_zip {ta : TA} {i j : Nat} {vs : List Nat} {a b : Addr} {xs ys : List V} (F : V → V → V) (h : EvA ta σ H [.ref a, .ref b]) (hx : SqL K H a xs) (hy : SqL K H b ys) (hl : xs.length = ys.length) (hz : xs.length ≤ 40000)
    (hw : ∀ x y, wipe (((wipe σ vs).set i (some x)).set j (some y)) vs = wipe σ vs)
    (he : ∀ (n : Nat) x y H1, Ex H H1 → xs[n]? = some x → ys[n]? = some y → Ev te (((wipe σ vs).set i (some x)).set j (some y)) H1 (F x y)) :
    EvL (tLc (iZip K ta) (gTup K 2 (gCons (gName i) (gCons (gName j) gNil))) tYes te vs) σ H (List.zipWith F xs ys) := fun H0 e Q q => h H0 e _ fun H1 e1 => ⟨a, b, xs, ys, rfl, ex_l (e.trans e1) hx, ex_l (e.trans e1) hy, fun Dl hD => by
  refine lc_it (walk_zip (n := xs.length) (by omega)) (fun n H' => Ex H1 H' ∧ H' Dl = some (.lst ((List.zipWith F xs ys).take n))) ⟨Ex.new hD, upd_same⟩ (fun n H' _ p => ⟨ex_l ((e.trans e1).trans p.1) hx, ex_l ((e.trans e1).trans p.1) hy⟩) ?_ fun H' p => ?_
  · rintro n v Hh H' hn ⟨p1, p2⟩ ⟨T, x, y, rfl, nT, rfl, g1, g2⟩
    have eT : Ex Hh (upd Hh T (.tup [x, y])) := Ex.new nT
    refine ⟨T, [x, y], rfl, st_of upd_same, rfl, x, [y], rfl, y, [], rfl, rfl, hw x y, ?_⟩
    show te _ _ _
    refine he n x y H1 (e.trans e1) g1 g2 _ (p1.trans eT) _ fun H4 e4 => ?_
    have k2 := e4 Dl _ (eT Dl _ p2)
    refine ⟨_, k2, sz_lt (by rw [List.length_take]; omega), Ex.mut (p1.trans (eT.trans e4)) hD, ?_⟩
    rw [upd_same]
    have gz : (List.zipWith F xs ys)[n]? = some (F x y) := by
      rw [List.getElem?_zipWith, show xs[n]? = some x from g1, show ys[n]? = some y from g2]
    rw [List.take_add_one, gz]
    rfl
  · obtain ⟨p1, p2⟩ := p
    rw [List.take_of_length_le (by rw [List.length_zipWith]; omega)] at p2
    exact q Dl H' (fresh_back e1 hD) (e1.trans p1) p2⟩
theorem ev_gcd {ta tb : TE} {a b : Int} (ha : Ev ta σ H (.int a)) (hb : Ev tb σ H (.int b)) : Ev (tCB rGcd (tCons ta (tCons tb tNil))) σ H (.int ((Nat.gcd a.natAbs b.natAbs : Nat) : Int)) := fun H1 e Q q =>
  ha H1 e _ fun H2 e2 => hb H2 (e.trans e2) _ fun H3 e3 => ⟨a, b, rfl, q H3 (e2.trans e3)⟩
end
/-! data, compared by == -/
section
variable {K : PySem.W.Frag} {σ : L2.St} {H H' : Hp}
mutual
theorem Dp.ex (e : Ex H H') : ∀ (d : PyData) (v : V), Dp K H v d → Dp K H' v d
  | .none, _, h => by cases h; exact .non
  | .bool _, _, h => by cases h; exact .bl _
  | .int _, _, h => by cases h; exact .int _
  | .str _, _, h => by cases h; exact .str _
  | .list ds, _, h => by
    cases h with
    | lst hs ha => exact .lst (ex_l e hs) (DpAll.ex e ds _ ha)
  | .tuple ds, _, h => by
    cases h with
    | tup hs ha => exact .tup (ex_t e hs) (DpAll.ex e ds _ ha)
  | .dict _, _, h => by cases h
theorem DpAll.ex (e : Ex H H') : ∀ (ds : List PyData) (vs : List V), DpAll K H vs ds → DpAll K H' vs ds
  | [], _, h => by cases h; exact .nil
  | d :: ds, _, h => by
    cases h with
    | cons h1 h2 => exact .cons (Dp.ex e d _ h1) (DpAll.ex e ds _ h2)
end
theorem DpAll.len : ∀ {ds : List PyData} {vs : List V}, DpAll K H vs ds → vs.length = ds.length
  | [], _, h => by cases h; rfl
  | d :: ds, _, h => by
    cases h with
    | cons h1 h2 => simp [DpAll.len h2]
def EvD (K : PySem.W.Frag) (te : TE) (σ : L2.St) (H : Hp) (d : PyData) : Prop := ∀ H1, Ex H H1 → ∀ Q : VK, (∀ v H2, Ex H1 H2 → Dp K H2 v d → Q v H2) → te σ H1 Q
def EvDA (K : PySem.W.Frag) (ta : TA) (σ : L2.St) (H : Hp) (ds : List PyData) : Prop := ∀ H1, Ex H H1 → ∀ Q : List V → Hp → Prop, (∀ vs H2, Ex H1 H2 → DpAll K H2 vs ds → Q vs H2) → ta σ H1 Q
variable {te ta tb : TE} {d e : PyData} {ds : List PyData}
theorem ed_of {v : V} (h : Ev te σ H v) (k : Dp K H v d) : EvD K te σ H d := fun H1 e1 Q q => h H1 e1 Q fun H2 e2 => q v H2 e2 (Dp.ex (e1.trans e2) d v k)
theorem ed_int {i : Int} (h : Ev te σ H (.int i)) : EvD K te σ H (.int i) := ed_of h (.int i)
theorem ed_bl {i : Bool} (h : Ev te σ H (.bl i)) : EvD K te σ H (.bool i) := ed_of h (.bl i)
theorem ed_non (h : Ev te σ H .non) : EvD K te σ H .none := ed_of h .non
theorem ed_str {i : Str} (h : Ev te σ H (.str i)) : EvD K te σ H (.str i) := ed_of h (.str i)
theorem eda_nil : EvDA K tNil σ H [] := fun H1 _ _ q => q [] H1 (Ex.refl H1) .nil
theorem eda_cons {tr : TA} (h : EvD K te σ H d) (hr : EvDA K tr σ H ds) : EvDA K (tCons te tr) σ H (d :: ds) := fun H1 e _ q =>
  h H1 e _ fun v H2 e2 dv => hr H2 (e.trans e2) _ fun vs H3 e3 dvs => q (v :: vs) H3 (e2.trans e3) (.cons (Dp.ex e3 d v dv) dvs)
theorem ed_lst {t : TA} (h : EvDA K t σ H ds) (hl : ds.length ≤ 100000) : EvD K (tLst t) σ H (.list ds) := fun H1 e _ q =>
  h H1 e _ fun vs H2 e2 dv => ⟨sz_of (by rw [DpAll.len dv]; exact hl), fun p hp => q _ _ (e2.trans (Ex.new hp)) (.lst (sq_of upd_same) (DpAll.ex (Ex.new hp) ds vs dv))⟩
theorem ed_tup {t : TA} (h : EvDA K t σ H ds) (hl : ds.length ≤ 100000) : EvD K (tTup t) σ H (.tuple ds) := fun H1 e _ q =>
  h H1 e _ fun vs H2 e2 dv => ⟨sz_of (by rw [DpAll.len dv]; exact hl), fun p hp => q _ _ (e2.trans (Ex.new hp)) (.tup (st_of upd_same) (DpAll.ex (Ex.new hp) ds vs dv))⟩
theorem ed_ofL {xs : List V} (h : EvL te σ H xs) (k : DpAll K H xs ds) : EvD K te σ H (.list ds) := fun H1 e1 Q q => h H1 e1 Q fun p H2 _ e2 h2 => q _ H2 e2 (.lst (sq_of h2) (DpAll.ex (e1.trans e2) ds xs k))
theorem ed_ofU {xs : List V} (h : EvU te σ H xs) (k : DpAll K H xs ds) : EvD K te σ H (.tuple ds) := fun H1 e1 Q q => h H1 e1 Q fun p H2 _ e2 h2 => q _ H2 e2 (.tup (st_of h2) (DpAll.ex (e1.trans e2) ds xs k))
theorem dpa_ints : ∀ ns : List Int, DpAll K H (ns.map V.int) (ns.map PyData.int)
  | [] => .nil
  | n :: r => .cons (.int n) (dpa_ints r)
theorem ev_eqD (ha : EvD K ta σ H d) (hb : EvD K tb σ H e) (sd : SeqAt.shaped d = true) (se : SeqAt.shaped e = true) : Ev (tOp (rEqD K) ta tb) σ H (.bl (PyData.eqv d e)) := fun H1 e1 Q q =>
  ha H1 e1 _ fun v H2 e2 dv => hb H2 (e1.trans e2) _ fun u H3 e3 du => ⟨d, e, Dp.ex e3 d v dv, du, sd, se, q H3 (e2.trans e3)⟩
theorem ev_neD (ha : EvD K ta σ H d) (hb : EvD K tb σ H e) (sd : SeqAt.shaped d = true) (se : SeqAt.shaped e = true) : Ev (tOp (rNeD K) ta tb) σ H (.bl (!PyData.eqv d e)) := fun H1 e1 Q q =>
  ha H1 e1 _ fun v H2 e2 dv => hb H2 (e1.trans e2) _ fun u H3 e3 du => ⟨d, e, Dp.ex e3 d v dv, du, sd, se, q H3 (e2.trans e3)⟩
theorem shaped_ints : ∀ ns : List Int, SeqAt.shaped (.list (ns.map PyData.int)) = true := fun ns => by
  have h1 : ∀ ms : List Int, PyData.canLayAll0 (ms.map PyData.int) = true := fun ms => by
    induction ms with
    | nil => rfl
    | cons m r ih => simp [PyData.canLayAll0, PyData.canLay0, ih]
  have h2 : ∀ ms : List Int, PyData.depthAll (ms.map PyData.int) = 0 := fun ms => by
    induction ms with
    | nil => rfl
    | cons m r ih => simp [PyData.depthAll, PyData.depth, ih]
  simp [SeqAt.shaped, PyData.canLay0, h1, PyData.depth, h2]
theorem eqv_same {d : PyData} (h : SeqAt.shaped d = true) : PyData.eqv d d = true := by
  have h1 : PyData.canLay0 d = true := (Bool.and_eq_true_iff.mp h).1
  first
    | exact PySem.P3.eqv_refl d h1
    | exact PyData.eqv_refl d h1
    | exact PySem.SeqAt.eqv_refl d h1
/-- f(k = v): a new tuple back -/
theorem eu_callK {sp : Sp} {gV : List V → List V → List V} {E : XK} {t tk : TA} {vs zs xs : List V} (h : EvA t σ H vs) (hk : EvA tk σ H zs) (hs : SpU sp (gV vs zs) H xs) : EvU (tCallK sp gV E t tk) σ H xs := fun H1 e Q q =>
  h H1 e _ fun H2 e2 => hk H2 (e.trans e2) _ fun H3 e3 => hs H3 ((e.trans e2).trans e3) Q (fun p H4 hp e4 h4 => q p H4 (fresh_back (e2.trans e3) hp) ((e2.trans e3).trans e4) h4) E
theorem ev_callK {sp : Sp} {gV : List V → List V → List V} {E : XK} {t tk : TA} {vs zs : List V} {z : V} (h : EvA t σ H vs) (hk : EvA tk σ H zs) (hs : SpV sp (gV vs zs) H z) : Ev (tCallK sp gV E t tk) σ H z := fun H1 e Q q =>
  h H1 e _ fun H2 e2 => hk H2 (e.trans e2) _ fun H3 e3 => hs H3 ((e.trans e2).trans e3) Q (fun H4 e4 => q H4 ((e2.trans e3).trans e4)) E
/-- isinstance(x, tuple) of a tuple; len of a tuple -/
theorem ev_isT {p : Addr} {xs : List V} {n : String} {b : Bool} (h : Ev ta σ H (.ref p)) (hp : H p = some (.tup xs)) (hk : PySem.W.kitOne K (.type "tuple") (.type n) = some b) : Ev (tCB (rIsi K) (tCons ta (tCons (tC (.ty n)) tNil))) σ H (.bl b) := fun H1 e Q q =>
  h H1 e _ fun H2 e2 => ⟨.ref p, .ty n, .type "tuple", .type n, b, rfl, .ty n, .base (.tup (e2 p _ (e p _ hp))), hk, q H2 e2⟩
theorem ev_lenT {p : Addr} {xs : List V} (ha : Ev ta σ H (.ref p)) (h : SqT K H p xs) : Ev (tCB (rLenS K) (tCons ta tNil)) σ H (.int (xs.length : Int)) := fun H1 e Q q =>
  ha H1 e _ fun H2 e2 => ⟨p, xs, rfl, Or.inr (ex_t (e.trans e2) h), q H2 e2⟩
/-- list(range(a, b)) -/
theorem el_rg2 {a b : Int} (ha : Ev ta σ H (.int a)) (hb : Ev tb σ H (.int b)) (h : RgOk a b) : EvL (tLstRg (tRg2 ta tb)) σ H (rgV a b) := fun H1 e Q q =>
  ha H1 e _ fun H2 e2 => hb H2 (e.trans e2) _ fun H3 e3 => ⟨a, b, rfl, rfl, h, fun p hp => q p _ (fresh_back (e2.trans e3) hp) ((e2.trans e3).trans (Ex.new hp)) upd_same⟩
theorem el_rg1 {b : Int} (hb : Ev tb σ H (.int b)) (h : RgOk 0 b) : EvL (tLstRg (tRg1 tb)) σ H (rgV 0 b) := fun H1 e Q q =>
  hb H1 e _ fun H3 e3 => ⟨b, rfl, h, fun p hp => q p _ (fresh_back e3 hp) (e3.trans (Ex.new hp)) upd_same⟩
end
/-! more statements -/
section
variable {K : PySem.W.Frag} {σ : L2.St} {H H' : Hp} {te tl : TE} {t : TT} {D : Ends} {tu tz : TS} {g : TG}
/-- a comprehension over range(lo, n) that keeps nothing -/
theorem el_noneR2 {ta : TA} {j : Nat} {vs : List Nat} {lo n : Int} (h : EvA ta σ H [.int lo, .int n]) (hn : 0 ≤ lo ∧ lo ≤ 40000 ∧ -40000 ≤ n ∧ n ≤ 40000) (hw : ∀ x, wipe ((wipe σ vs).set j (some x)) vs = wipe σ vs)
    (ht : ∀ (i : Nat) H1, Ex H H1 → lo + (i : Int) < n → EvT t ((wipe σ vs).set j (some (.int (lo + (i : Int))))) H1 false) : EvL (tLc (iRng2 ta) (gName j) t te vs) σ H [] := by
  have q := el_lcR2 (te := te) (fun _ => false) (fun _ => .non) h hn hw ht (fun _ _ _ _ hf => Bool.noConfusion hf)
  rw [given_none (fun _ _ => rfl)] at q
  exact q
/-- a for over a new tuple -/
theorem s_forNU {xs : List V} (h : EvU tl σ H xs) (Pv : Addr → Nat → L2.St → Hp → Prop) (h0 : ∀ p H1, H p = none → Ex H H1 → H1 p = some (.tup xs) → Pv p 0 σ H1) (hl : ∀ p i σ' H', i ≤ xs.length → Pv p i σ' H' → SqT K H' p xs)
    (hs : ∀ p i x σ' H', xs[i]? = some x → Pv p i σ' H' → g x σ' H' fun σ2 H2 => tu { D with nx := Pv p (i + 1), ct := Pv p (i + 1), bk := D.nx } σ2 H2) (hd : ∀ p σ' H', Pv p xs.length σ' H' → D.nx σ' H') : tFor (iTup K tl) g tu D σ H :=
  h H (Ex.refl H) _ fun p H1 hp e h1 => ⟨p, rfl, ⟨xs, st_of h1⟩, for_tup (Pv p) (h0 p H1 hp e h1) (hl p) (hs p) (hd p)⟩
theorem q_forNU {xs : List V} (h : EvU tl σ H xs) (Pv : Addr → Nat → L2.St → Hp → Prop) (h0 : ∀ p H1, H p = none → Ex H H1 → H1 p = some (.tup xs) → Pv p 0 σ H1) (hl : ∀ p i σ' H', i ≤ xs.length → Pv p i σ' H' → SqT K H' p xs)
    (hs : ∀ p i x σ' H', xs[i]? = some x → Pv p i σ' H' → g x σ' H' fun σ2 H2 => tu { D with nx := Pv p (i + 1), ct := Pv p (i + 1), bk := tz D } σ2 H2) (hd : ∀ p σ' H', Pv p xs.length σ' H' → tz D σ' H') : tSeq (tFor (iTup K tl) g tu) tz D σ H :=
  s_forNU (D := { D with nx := tz D }) h Pv h0 hl hs hd
theorem s_asgD {i : Nat} {d : PyData} (h : EvD K te σ H d) (k : ∀ v H1, Ex H H1 → Dp K H1 v d → D.nx (σ.set i (some v)) H1) : tAsg te (gName i) D σ H := h H (Ex.refl H) _ fun v H1 e dv => k v H1 e dv
theorem q_asgD {i : Nat} {d : PyData} (h : EvD K te σ H d) (k : ∀ v H1, Ex H H1 → Dp K H1 v d → tz D (σ.set i (some v)) H1) : tSeq (tAsg te (gName i)) tz D σ H := s_asgD (D := { D with nx := tz D }) h k
end
end Kit

set_option Elab.async false
set_option linter.all false
set_option maxRecDepth 100000
set_option maxHeartbeats 4000000
namespace Kit
open PySem PySem.Spec PyProof.Rows L2 Evl
theorem slot_type_ne : Slot "type" (cmpInfo .NotEq).2.1 "object.__ne__" :=
  .of (owner := "object") (n := "__ne__") (by rw [typeLookup_type, builtinLookup_eq_fast]; kernel_rfl) (by decide +kernel) (by decide +kernel) (by decide +kernel)
    (by first | exact .inl (by decide +kernel) | exact .inr (by decide +kernel)) (by rw [isSubtype_type]; kernel_rfl)
theorem slot_type_eqN : Slot "type" "__eq__" "object.__eq__" :=
  .of (owner := "object") (n := "__eq__") (by rw [typeLookup_type, builtinLookup_eq_fast]; kernel_rfl) (by decide +kernel) (by decide +kernel) (by decide +kernel)
    (by first | exact .inl (by decide +kernel) | exact .inr (by decide +kernel)) (by rw [isSubtype_type]; kernel_rfl)
section
variable {prog : Program} {w : World} {A : Around} {E : Value → Shared → Prop} {s : Shared} {Q : Value → Shared → Prop}
theorem ne_type_same {X : String} (hX : ∀ s' : Shared, s'.TypeIs (.type X) "type") (hu : A.units + 1 < cLine) (h : Q (.bool false) s) : wpAny (model prog w) A (compareOp .NotEq (.type X) (.type X)) Q E s := by
  show wpAny _ A (richCompare .NotEq _ _) Q E s
  refine wpAny_richCompare_same (T := "type") (hX s) (hX s) slot_type_ne ?_
  refine wpAny_call_entry slot_type_ne (hX s) PySem.F.cmpEntry_ne ?_ (PySem.F.cmpArgs_ne _ _)
  unfold Builtin.«object.__ne__»
  have key : wpAny (model prog w) A.in1 (call (.builtin "object.__eq__") [.type X, .type X]) (fun v s' => v = .bool true ∧ s' = s) E s :=
    call_gives slot_type_eqN (hX s) F.entry_object_eq (F.args_object_eq_2 _ _) (PySem.TypeEq.object_eq_same rfl (by simp)) ⟨rfl, rfl⟩
  repeat (first
    | with_reducible refine wpAny_cRoomFor (by show A.units + 1 < cLine; exact hu) ?_
    | (refine wpAny_bind (m := callSpecialIfBound? (.type X) (Str.ofString "__eq__") [.type X])
        (wpAny_callSpecialIfBound?_slot (hX _) slot_type_eqN (wpAny_mono key (fun r s' hr => by
          obtain ⟨rfl, rfl⟩ := hr
          have hq : Q (.bool false) s' := h
          repeat (first | exact ⟨_, rfl, (by intro e; cases e), hq⟩ | exact wpAny_pure ⟨_, rfl, (by intro e; cases e), hq⟩ | (refine wpAny_bind (m := truthy (.bool _)) (wpAny_truthy_bool ?_)) | wp_step)) fun _ _ e => e)))
    | wp_step)
end
end Kit

set_option Elab.async false
set_option linter.all false
set_option maxRecDepth 100000
set_option maxHeartbeats 4000000
namespace Kit
open PySem PySem.Spec PyProof.Rows L2 Evl
section
variable {X : Cx}
def rNeTyS : R2 := fun x y H Q => ∃ m, x = .ty m ∧ y = .ty m ∧ Meta m ∧ Q (.bl false) H
theorem op_neTyS (hu : X.A.units + 1 < cLine) : OpR X (compareOp .NotEq) rNeTyS := by
  intro pins s σ H x y v u Q I rx ry h
  obtain ⟨m, rfl, rfl, hm, q⟩ := h
  cases (show v = Value.type m from rx)
  cases (show u = Value.type m from ry)
  exact ne_type_same hm hu ⟨.bl false, H, I, rfl, q⟩
/-- min of a tuple of ints -/
def rMinT (K : PySem.W.Frag) : List V → Hp → VK → Prop := fun vs H Q => ∃ (a : Addr) (n : Int) (ns : List Int), vs = [V.ref a] ∧ SqT K H a ((n :: ns).map V.int) ∧ Q (.int (ns.foldl min n)) H
theorem alike_ints (ns : List Int) : PySem.W.AlikeAll (ns.map PyData.int) := by
  refine ⟨fun x hx y hy => ?_, fun x hx => ?_⟩
  · obtain ⟨a, _, rfl⟩ := List.mem_map.mp hx
    obtain ⟨b, _, rfl⟩ := List.mem_map.mp hy
    rfl
  · obtain ⟨a, _, rfl⟩ := List.mem_map.mp hx
    exact fun z => by cases z
theorem depth_ints : ∀ ms : List Int, PyData.depthAll (ms.map PyData.int) = 0
  | [] => rfl
  | m :: r => by simp [PyData.depthAll, PyData.depth, depth_ints r]
theorem cr_minT (hc : X.calm = true) (hu : X.A.units + 1 < cLine) : CallR X (.builtin "min") (rMinT X.K) := by
  intro pins s σ H vs us Q I r h
  obtain ⟨a, n, ns, rfl, hs, q⟩ := h
  obtain ⟨its, rv, hl, _⟩ := I.tuple hs
  rw [Vals.ref1 r]
  obtain ⟨as, rd⟩ := Dp.readsAll I (PyData.int n :: ns.map PyData.int) _ its (dpa_ints (n :: ns)) rv
  refine PySem.W.min_tuple_data (I.ok.hd hc) (show s.heap.IsTuple a its.toArray from hl) (by simpa using rd) (alike_ints (n :: ns)) ?_ fun i v h' tk bs hv hr hk => ?_
  · have := depth_ints (n :: ns)
    rw [List.map_cons] at this
    rw [this]
    exact hu
  · rw [PySem.W.minD_ints] at hr
    cases hr with
    | int _ t => exact ⟨.int (ns.foldl min n), H, I.kept (t' := tk) hk, ⟨_, rfl⟩, q⟩
theorem foldl_min_spec : ∀ (ns : List Int) (n : Int), ns.foldl min n ∈ n :: ns ∧ ∀ y ∈ n :: ns, ns.foldl min n ≤ y
  | [], n => ⟨by simp, by simp⟩
  | k :: r, n => by
    obtain ⟨h1, h2⟩ := foldl_min_spec r (min n k)
    refine ⟨?_, fun y hy => ?_⟩
    · rcases List.mem_cons.mp h1 with e | e
      · rw [List.foldl_cons, e]
        rcases Int.le_total n k with h | h
        · rw [Int.min_eq_left h]; simp
        · rw [Int.min_eq_right h]; simp
      · simp [List.foldl_cons, e]
    · have h3 := h2 (min n k) (by simp)
      rw [List.foldl_cons]
      rcases List.mem_cons.mp hy with e | hy
      · omega
      · rcases List.mem_cons.mp hy with e | hy
        · omega
        · exact h2 y (by simp [hy])
end
/-! readings of these -/
section
variable {K : PySem.W.Frag} {σ : L2.St} {H H' : Hp} {ta tb te tl : TE} {D : Ends} {tu tz : TS} {t : TT}
theorem ev_typeL {p : Addr} {xs : List V} (h : Ev ta σ H (.ref p)) (hp : H p = some (.lst xs)) : Ev (tThenZ ta kTyp) σ H (.ty "list") := fun H1 e Q q => h H1 e _ fun H2 e2 => ⟨"list", by
  have := e2 p _ (e p _ hp)
  simp [zTyV, this], q H2 e2⟩
theorem ev_typeT {p : Addr} {xs : List V} (h : Ev ta σ H (.ref p)) (hp : H p = some (.tup xs)) : Ev (tThenZ ta kTyp) σ H (.ty "tuple") := fun H1 e Q q => h H1 e _ fun H2 e2 => ⟨"tuple", by
  have := e2 p _ (e p _ hp)
  simp [zTyV, this], q H2 e2⟩
theorem rv_neTyS {m : String} (hm : Meta m) : RV rNeTyS (.ty m) (.ty m) H (.bl false) := fun H1 _ _ q => ⟨m, rfl, rfl, hm, q H1 (Ex.refl H1)⟩
theorem ev_sumN {ns : List Int} (h : EvL ta σ H (ns.map V.int)) : Ev (tCB (rSum K) (tCons ta tNil)) σ H (.int ns.sum) := fun H1 e Q q => h H1 e _ fun p H2 _ e2 h2 => ⟨p, ns, rfl, sq_of h2, q H2 e2⟩
theorem ev_allN {bs : List Bool} (h : EvL ta σ H (bs.map V.bl)) : Ev (tCB (rAll K) (tCons ta tNil)) σ H (.bl (bs.all id)) := fun H1 e Q q => h H1 e _ fun p H2 _ e2 h2 => ⟨p, bs, rfl, sq_of h2, q H2 e2⟩
theorem ev_minT {p : Addr} {n : Int} {ns : List Int} (h : Ev ta σ H (.ref p)) (hp : SqT K H p ((n :: ns).map V.int)) : Ev (tCB (rMinT K) (tCons ta tNil)) σ H (.int (ns.foldl min n)) := fun H1 e Q q => h H1 e _ fun H2 e2 => ⟨p, n, ns, rfl, ex_t (e.trans e2) hp, q H2 e2⟩
/-- sorted(xs), told by what it is -/
theorem ed_sorted {p : Addr} {ns ms : List Int} (h : Ev ta σ H (.ref p)) (hp : SqL K H p (ns.map V.int)) (hl : ns.length < 64) (hm : ms.Perm ns) (hs : ms.Pairwise (· ≤ ·)) : EvD K (tCB (rSorted K) (tCons ta tNil)) σ H (.list (ms.map PyData.int)) := fun H1 e Q q => h H1 e _ fun H2 e2 =>
  ⟨p, ns, rfl, ex_l (e.trans e2) hp, hl, fun ns' l pm so new => by
    have eq : ns' = ms := by
      exact List.Perm.eq_of_pairwise (le := fun a b : Int => a ≤ b) (fun a b _ _ h1 h2 => Int.le_antisymm h1 h2) so hs (pm.trans hm.symm)
    subst eq
    exact q _ _ (e2.trans (Ex.new new)) (.lst (sq_of upd_same) (dpa_ints _))⟩
/-- a new tuple of a list's items -/
theorem eu_tupOf {p : Addr} {xs : List V} (h : Ev ta σ H (.ref p)) (hp : SqL K H p xs) : EvU (tCB (rTupS K) (tCons ta tNil)) σ H xs := fun H1 e Q q => h H1 e _ fun H2 e2 =>
  ⟨p, xs, rfl, ex_l (e.trans e2) hp, fun l hl => q l _ (fresh_back e2 hl) (e2.trans (Ex.new hl)) upd_same⟩
/-- [0] * n -/
theorem el_rep {xs : List V} {k : Int} (ha : EvL ta σ H xs) (hb : Ev tb σ H (.int k)) (h0 : 0 ≤ k) (h1 : k ≤ 1000) (hx : xs.length ≤ 50) : EvL (tOp rRep ta tb) σ H (List.replicate k.toNat xs).flatten := fun H1 e Q q =>
  ha H1 e _ fun p H2 hp e2 h2 => hb H2 (e.trans e2) _ fun H3 e3 => ⟨p, k, xs, rfl, rfl, e3 p _ h2, by omega, by omega, sz_of (by
    have : xs.length * k.toNat ≤ 50 * 1000 := Nat.mul_le_mul hx (by omega)
    omega), fun l hl => q l _ (fresh_back (e2.trans e3) hl) ((e2.trans e3).trans (Ex.new hl)) upd_same⟩
/-- xs[::-1] -/
theorem el_rev {p : Addr} {xs : List V} (h : Ev ta σ H (.ref p)) (hp : SqL K H p xs) : EvL (tRevL K ta) σ H xs.reverse := fun H1 e Q q => h H1 e _ fun H2 e2 =>
  ⟨p, xs, rfl, ex_l (e.trans e2) hp, fun l hl => q l _ (fresh_back e2 hl) (e2.trans (Ex.new hl)) upd_same⟩
theorem el_revN {xs : List V} (h : EvL ta σ H xs) : EvL (tRevL K ta) σ H xs.reverse := fun H1 e Q q => h H1 e _ fun p H2 _ e2 h2 =>
  ⟨p, xs, rfl, sq_of h2, fun l hl => q l _ (fresh_back e2 hl) (e2.trans (Ex.new hl)) upd_same⟩
/-- for i, x in enumerate(xs): the pair is a new tuple -/
theorem s_forEn {ta : TA} {i j : Nat} {a : Addr} {xs : List V} (h : EvA ta σ H [.ref a]) (hx : SqL K H a xs) (Pv : Nat → L2.St → Hp → Prop) (h0 : ∀ H1, Ex H H1 → Pv 0 σ H1) (hl : ∀ n σ' H', n ≤ xs.length → Pv n σ' H' → SqL K H' a xs)
    (hs : ∀ n x σ' H' H2, xs[n]? = some x → Pv n σ' H' → Ex H' H2 → tu { D with nx := Pv (n + 1), ct := Pv (n + 1), bk := D.nx } ((σ'.set i (some (.int (n : Int)))).set j (some x)) H2) (hd : ∀ σ' H', Pv xs.length σ' H' → D.nx σ' H') :
    tFor (iEnum K ta) (gTup K 2 (gCons (gName i) (gCons (gName j) gNil))) tu D σ H := h H (Ex.refl H) _ fun H1 e => ⟨a, xs, rfl, ex_l e hx, by
  refine for_it walk_enum Pv (h0 H1 e) (fun n σ' H' hn p => hl n σ' H' hn p) ?_ hd
  rintro n v σ' Hh H2 hn p ⟨T, x, y, rfl, nT, rfl, g1, g2⟩
  have ex : V.int (n : Nat) = x := Option.some.inj g1
  subst ex
  exact ⟨T, [.int (n : Nat), y], rfl, st_of upd_same, rfl, _, [y], rfl, y, [], rfl, rfl, hs n y σ' Hh _ g2 p (Ex.new nT)⟩⟩
theorem q_forEn {ta : TA} {i j : Nat} {a : Addr} {xs : List V} (h : EvA ta σ H [.ref a]) (hx : SqL K H a xs) (Pv : Nat → L2.St → Hp → Prop) (h0 : ∀ H1, Ex H H1 → Pv 0 σ H1) (hl : ∀ n σ' H', n ≤ xs.length → Pv n σ' H' → SqL K H' a xs)
    (hs : ∀ n x σ' H' H2, xs[n]? = some x → Pv n σ' H' → Ex H' H2 → tu { D with nx := Pv (n + 1), ct := Pv (n + 1), bk := tz D } ((σ'.set i (some (.int (n : Int)))).set j (some x)) H2) (hd : ∀ σ' H', Pv xs.length σ' H' → tz D σ' H') :
    tSeq (tFor (iEnum K ta) (gTup K 2 (gCons (gName i) (gCons (gName j) gNil))) tu) tz D σ H := s_forEn (D := { D with nx := tz D }) h hx Pv h0 hl hs hd
end
end Kit

set_option Elab.async false
set_option linter.all false
set_option maxRecDepth 100000
set_option maxHeartbeats 4000000
namespace Kit
open PySem PySem.Spec PyProof.Rows L2 Evl
/-! ### new lists of new tuples -/
def TL (H : Hp) (vs : List V) (rs : List (List V)) : Prop := Paired (fun v r => ∃ a, v = .ref a ∧ H a = some (.tup r)) vs rs
theorem TL.imp {H H' : Hp} (f : ∀ a r, H a = some (.tup r) → H' a = some (.tup r)) : ∀ {vs : List V} {rs : List (List V)}, TL H vs rs → TL H' vs rs
  | _, _, .nil => .nil
  | _, _, .cons ⟨a, e, h⟩ t => .cons ⟨a, e, f a _ h⟩ (TL.imp f t)
theorem TL.ex {H H' : Hp} {vs : List V} {rs : List (List V)} (e : Ex H H') (h : TL H vs rs) : TL H' vs rs := h.imp fun a r x => e a _ x
theorem TL.upd {H : Hp} {l : Addr} {xs : List V} {o : HO} {vs : List V} {rs : List (List V)} (hl : H l = some (.lst xs)) (h : TL H vs rs) : TL (upd H l o) vs rs := h.imp fun a r x => by
  rw [upd_ne (ne_of x hl (by intro z; cases z))]
  exact x
theorem TL.len {H : Hp} : ∀ {vs : List V} {rs : List (List V)}, TL H vs rs → vs.length = rs.length
  | _, _, .nil => rfl
  | _, _, .cons _ t => by rw [List.length_cons, List.length_cons, TL.len t]
theorem TL.app {H : Hp} {v : V} {r : List V} (hv : ∃ a, v = .ref a ∧ H a = some (.tup r)) : ∀ {vs : List V} {rs : List (List V)}, TL H vs rs → TL H (vs ++ [v]) (rs ++ [r])
  | _, _, .nil => .cons hv .nil
  | _, _, .cons q t => .cons q (TL.app hv t)
theorem TL.get {H : Hp} : ∀ {vs : List V} {rs : List (List V)} {i : Nat} {v : V}, TL H vs rs → vs[i]? = some v → ∃ a r, v = .ref a ∧ H a = some (.tup r) ∧ rs[i]? = some r
  | _, _, 0, v, .cons ⟨a, e, h⟩ t, hv => ⟨a, _, (Option.some.inj (by simpa using hv)).symm.trans e, h, rfl⟩
  | _, _, i + 1, v, .cons _ t, hv => by
    obtain ⟨a, r, h1, h2, h3⟩ := TL.get (i := i) t (by simpa using hv)
    exact ⟨a, r, h1, h2, by simpa using h3⟩
  | _, _, 0, v, .nil, hv => by simp at hv
  | _, _, i + 1, v, .nil, hv => by simp at hv
theorem TL.rev {H : Hp} : ∀ {vs : List V} {rs : List (List V)}, TL H vs rs → TL H vs.reverse rs.reverse
  | _, _, .nil => .nil
  | _, _, .cons q t => by
    rw [List.reverse_cons, List.reverse_cons]
    exact TL.app q (TL.rev t)
def EvLT (te : TE) (σ : L2.St) (H : Hp) (rs : List (List V)) : Prop := ∀ H1, Ex H H1 → ∀ Q : VK, (∀ p vs H2, H1 p = none → Ex H1 H2 → H2 p = some (.lst vs) → TL H2 vs rs → Q (.ref p) H2) → te σ H1 Q
section
variable {K : PySem.W.Frag} {σ : L2.St} {H H' : Hp} {te tl : TE} {D : Ends} {tz : TS} {t : TT}
/-- [a new tuple for i in range(n)] -/
theorem elt_R1 {ta : TA} {j : Nat} {vs : List Nat} {n : Int} (f : Nat → List V) (h : EvA ta σ H [.int n]) (hn : 0 ≤ n ∧ n ≤ 40000) (hw : ∀ x, wipe ((wipe σ vs).set j (some x)) vs = wipe σ vs)
    (he : ∀ (i : Nat) H1, Ex H H1 → (i : Int) < n → EvU te ((wipe σ vs).set j (some (.int (i : Int)))) H1 (f i)) : EvLT (tLc (iRng1 ta) (gName j) tYes te vs) σ H ((List.range n.toNat).map f) := fun H0 e Q q => h H0 e _ fun H1 e1 => ⟨n, rfl, by omega, by omega, fun Dl hD =>
  lc_range (lo := 0) (n := n.toNat) (fun i H' => Ex H1 H' ∧ ∃ ws, H' Dl = some (.lst ws) ∧ TL H' ws ((List.range i).map f)) ⟨Ex.new hD, [], upd_same, .nil⟩ (fun i H' hi p => by
    obtain ⟨p1, ws, p2, p3⟩ := p
    have e0 : (0 : Int) + (i : Int) = (i : Int) := Int.zero_add _
    show wipe ((wipe σ vs).set j (some (.int ((0 : Int) + (i : Int))))) vs = wipe σ vs ∧ te ((wipe σ vs).set j (some (.int ((0 : Int) + (i : Int))))) H' fun y H4 => ∃ acc, H4 Dl = some (.lst acc) ∧ acc.length < sizeLine ∧ _
    rw [e0]
    refine ⟨hw _, he i H1 (e.trans e1) (by omega) H' p1 _ fun p H4 hp e4 h4 => ⟨ws, e4 Dl _ p2, sz_lt (by
      have := p3.len
      simp at this
      omega), Ex.mut (p1.trans e4) hD, ws ++ [.ref p], upd_same, ?_⟩⟩
    rw [List.range_succ, List.map_append]
    exact ((p3.ex e4).app ⟨p, rfl, h4⟩).upd (e4 Dl _ p2)) (fun H' p => by
      obtain ⟨p1, ws, p2, p3⟩ := p
      exact q Dl ws H' (fresh_back e1 hD) (e1.trans p1) p2 p3)⟩
/-- [a new tuple for x in xs] -/
theorem elt_map {a : Addr} {xs : List V} {j : Nat} {vs : List Nat} (f : Nat → List V) (h : Ev tl σ H (.ref a)) (hx : SqL K H a xs) (hz : xs.length ≤ 40000) (hw : ∀ x, wipe ((wipe σ vs).set j (some x)) vs = wipe σ vs)
    (he : ∀ (i : Nat) (x : V) H1, Ex H H1 → xs[i]? = some x → EvU te ((wipe σ vs).set j (some x)) H1 (f i)) : EvLT (tLc (iList K tl) (gName j) tYes te vs) σ H ((List.range xs.length).map f) := fun H0 e Q q => h H0 e _ fun H1 e1 => ⟨a, rfl, ⟨xs, ex_l (e.trans e1) hx⟩, fun Dl hD =>
  lc_list (xs := xs) (fun i H' => Ex H1 H' ∧ ∃ ws, H' Dl = some (.lst ws) ∧ TL H' ws ((List.range i).map f)) ⟨Ex.new hD, [], upd_same, .nil⟩ (fun i H' _ p => ex_l ((e.trans e1).trans p.1) hx) (fun i x H' hi p => by
    obtain ⟨p1, ws, p2, p3⟩ := p
    show wipe ((wipe σ vs).set j (some x)) vs = wipe σ vs ∧ te ((wipe σ vs).set j (some x)) H' fun y H4 => ∃ acc, H4 Dl = some (.lst acc) ∧ acc.length < sizeLine ∧ _
    refine ⟨hw _, he i x H1 (e.trans e1) hi H' p1 _ fun p H4 hp e4 h4 => ⟨ws, e4 Dl _ p2, sz_lt (by
      have := p3.len
      have := (List.getElem?_eq_some_iff.mp hi).1
      simp at *
      omega), Ex.mut (p1.trans e4) hD, ws ++ [.ref p], upd_same, ?_⟩⟩
    rw [List.range_succ, List.map_append]
    exact ((p3.ex e4).app ⟨p, rfl, h4⟩).upd (e4 Dl _ p2)) (fun H' p => by
      obtain ⟨p1, ws, p2, p3⟩ := p
      exact q Dl ws H' (fresh_back e1 hD) (e1.trans p1) p2 p3)⟩
theorem range_get {α : Type} (rs : List α) (d : α) : rs = (List.range rs.length).map fun i => rs.getD i d := by
  refine List.ext_getElem (by simp) fun i h1 h2 => ?_
  simp [h1]
theorem paired_map {α β γ : Type} {F : β → γ → Prop} (f : α → β) (g : α → γ) : ∀ l : List α, (∀ x ∈ l, F (f x) (g x)) → Paired F (l.map f) (l.map g)
  | [], _ => .nil
  | x :: r, h => .cons (h x (by simp)) (paired_map f g r fun y hy => h y (by simp [hy]))
/-- [x for x in xs if test(x)], xs a list of tuples, the test P of the tuple's items -/
theorem elt_filter {a : Addr} {xs : List V} {rs : List (List V)} {j : Nat} {vs : List Nat} (P : List V → Bool) (h : Ev tl σ H (.ref a)) (hx : SqL K H a xs) (ht : TL H xs rs) (hz : xs.length ≤ 40000) (hw : ∀ x, wipe ((wipe σ vs).set j (some x)) vs = wipe σ vs) (hj : ∀ x, ((wipe σ vs).set j (some x))[j]? = some (some x))
    (he : ∀ (b : Addr) (r : List V) H1, Ex H H1 → r ∈ rs → H1 b = some (.tup r) → EvT t ((wipe σ vs).set j (some (.ref b))) H1 (P r)) : EvLT (tLc (iList K tl) (gName j) t (tVar j) vs) σ H (rs.filter P) := fun H0 e Q q => by
  refine el_lcL (K := K) (f := fun i => P (rs.getD i [])) (v := fun i => xs.getD i .non) h hx hz hw (fun i x H1 e1 hi => ?_) (fun i x H1 e1 hi hf => ?_) H0 e Q fun p H2 hp e2 h2 => ?_
  · obtain ⟨b, r, rfl, hb, hr⟩ := ht.get hi
    have g : rs.getD i [] = r := by rw [List.getD_eq_getElem?_getD, hr] <;> rfl
    show EvT _ _ _ (P (rs.getD i []))
    rw [g]
    exact he b r H1 e1 (List.mem_of_getElem? hr) (e1 b _ hb)
  · have g : xs.getD i .non = x := by rw [List.getD_eq_getElem?_getD, hi] <;> rfl
    show Ev _ _ _ (xs.getD i .non)
    rw [g]
    exact ev_var (hj x)
  · refine q p _ H2 hp e2 h2 ?_
    have e3 : rs.filter P = ((List.range rs.length).filter fun i => P (rs.getD i [])).map fun i => rs.getD i [] := by
      conv => lhs; rw [range_get rs [], List.filter_map]
      rfl
    unfold given
    rw [e3, ht.len]
    refine paired_map _ _ _ fun i hi => ?_
    have hi := List.mem_range.mp (List.mem_filter.mp hi).1
    have hlx : i < xs.length := by rw [ht.len]; exact hi
    obtain ⟨b, r, h1, h2', h3⟩ := ht.get (List.getElem?_eq_getElem hlx)
    refine ⟨b, ?_, ?_⟩
    · rw [List.getD_eq_getElem?_getD, List.getElem?_eq_getElem hlx, h1]
      rfl
    · rw [List.getD_eq_getElem?_getD, h3]
      exact (e.trans e2) b _ h2'
theorem q_asgLT {i : Nat} {rs : List (List V)} (h : EvLT te σ H rs) (k : ∀ p vs H1, H p = none → Ex H H1 → H1 p = some (.lst vs) → TL H1 vs rs → tz D (σ.set i (some (.ref p))) H1) : tSeq (tAsg te (gName i)) tz D σ H := h H (Ex.refl H) _ fun p vs H1 hp e h1 h2 => k p vs H1 hp e h1 h2
theorem s_retLT {rs : List (List V)} (h : EvLT te σ H rs) (k : ∀ p vs H1, H p = none → Ex H H1 → H1 p = some (.lst vs) → TL H1 vs rs → D.rt (.ref p) H1) : tRet te D σ H := h H (Ex.refl H) _ k
end
end Kit

set_option Elab.async false
set_option linter.all false
set_option maxRecDepth 100000
set_option maxHeartbeats 4000000
namespace Kit
open PySem PySem.Spec PyProof.Rows L2 Evl
/-! ### a promise of a def that shows data (repr): no repr may be under way around it -/
structure FnOkG (P : Program) (w : World) (K : PySem.W.Frag) (mg : Str → Option Value) (base : Heap) (n : Nat) (f : Addr) (fd : FuncData) (names : List Str) (want : Sp) : Prop where
  many : ∀ xs H Q E, want xs H Q E → xs.length = names.length
  go : ∀ (A : Around) (frames : List Env) (st : Shared) (H : Hp) (given : Args) (us : List Value) (xs : List V) (Q : VK) (E : XK), A.guards = some [] → Room n A → Env0 P w K mg base A frames st H →
    BindsTo st fd given (names.zip us) → Vals xs us → want xs H Q E → codeAny (model P w) A (.call (.ref f) given) (CR CX0 frames P w H st Q E) st
section
variable {P : Program} {w : World} {K : PySem.W.Frag} {mg : Str → Option Value} {base : Heap}
theorem FnOkG.mono {j n : Nat} {f : Addr} {fd : FuncData} {names : List Str} {want : Sp} (F : FnOkG P w K mg base j f fd names want) (h : j ≤ n) : FnOkG P w K mg base n f fd names want :=
  ⟨F.many, fun A fr st H g us xs Q E hg r => F.go A fr st H g us xs Q E hg (r.mono h)⟩
/-- the rule for such a def -/
theorem funG {x qual : Str} {d : Stmt} {f : Addr} {fd : FuncData} {N names : List Str} {n : Nat} {want : Sp} (F : Fun K x qual d f fd) (S : FnScope N names (defScope d)) (many : ∀ xs H Q E, want xs H Q E → xs.length = names.length)
    (body : ∀ (cv : Value) (A : Around) (frames : List Env) (st : Shared) (H : Hp) (xs : List V) (Q : VK) (E : XK), A.guards = some [] → Room n (A.deeper (envOfC qual (defScope d) st.heap.objs.size f cv)) → want xs H Q E →
      ∃ t, PSs (cxOf CX0 P w K mg base N qual (defScope d) f cv A frames st H E).nox (defBody d) t ∧ t { nx := fun _ H' => Q .non H', rt := Q } (start N xs) H) : FnOkG P w K mg base (n + 1) f fd names want := by
  obtain ⟨o1, o2, v1, v2, v3, an, cv, ct, sl, rfl, look, code⟩ := F.ex
  refine ⟨many, fun A frames st H given us xs Q E hg room en bind vals hw => ?_⟩
  have size := many _ _ _ _ hw
  have inK : K.In st.heap := en.mod.kin.keeps fun b o q => (en.bs b o q).1
  have noLim : st.heap.NoLimit := en.mod.nolimit.keeps fun b o q => (en.bs b o q).1
  have kinds : ∀ y ∈ names.zip us, (defScope d).names.lookup y.1 = some .local ∨ ((defScope d).names.lookup y.1 = some .cell ∧ ((cellsFrom (st.heap.objs.size + 1) (defScope d).names []).lookup y.1).isSome = true) := by
    rintro ⟨a, b⟩ hy
    exact (S.par a (List.of_mem_zip hy).1).elim .inl fun q => .inr ⟨q, PySem.W.cellsFrom_some _ _ _ (.inl q)⟩
  refine codeAny_call_function room.depth (inK _ _ look) rfl S.co S.gen rfl (PySem.W.codeRec_of inK code) (bind _ _ _ _ (wpAny_newFunctionEnv_cells S.kind kinds fun env eq st1 made => ?_))
  cases eq
  refine ⟨noLim.keeps made.toInCall.keep, codeAny_func ?_⟩
  obtain ⟨t, rule, done⟩ := body cv A frames st H xs Q E hg (room.deeper _) hw
  have J : Inv (cxOf CX0 P w K mg base N qual (defScope d) f cv A frames st H E) [] (start N xs) H st1 := inv_start S room.hd en size vals made
  have back : ∀ {σ' : L2.St} {H' : Hp} {v : V} {u : Value} {st2 : Shared}, Inv (cxOf CX0 P w K mg base N qual (defScope d) f cv A frames st H E) [] σ' H' st2 → RelV v u → Q v H' → CE frames P w H st Q u st2 := fun J2 rv q => ⟨_, _, J2.os, J2.bare, J2.base, J2.hok, rv, q⟩
  refine wpAny_mono (rule.nox.run [] st1 (start N xs) H _ J done) (fun r st2 hs => ?_) fun _ _ hs => hs
  match r, hs with
  | .ret u, ⟨v, σ2, H2, J2, rv, q⟩ => exact back J2 rv q
  | .next, ⟨σ2, H2, J2, q⟩ => exact back (v := V.non) (u := Value.none) J2 rfl q
  | .brk, ⟨_, _, _, q⟩ => exact False.elim q
  | .cont, ⟨_, _, _, q⟩ => exact False.elim q
end
/-- such a def is called -/
theorem pe_callG {X : Cx} {n : Nat} {f : Addr} {fd : FuncData} {names : List Str} {want : Sp} {x : Str} {p pos : Pos} {e : Expr} {es : List Expr} {t : TA} (F : FnOkG X.prog X.w X.K X.mg X.base n f fd names want) (hg : X.A.guards = some []) (room : Room n X.A) (gl : Gl X x)
    (at_ : X.mg x = some (.ref f)) (keep : PySem.W.keepIn X.K (.ref f) = true) (bind : Binds X.K fd names []) (ha : PA X (e :: es) t) (nd : (x == ("__debug__" : Str)) = false := by decide)
    (one : starEach (e :: es) X.env = (false, eval e X.env) :: starEach es X.env := by rfl) (plain : (backTo pos (starEach es X.env)).any (·.1) = false := by rfl) : PE X (.Call (.Name x p) (e :: es) [] pos) (tCall want [] E0 t) := by
  refine ⟨fun pins st σ H Q J h => wpAny_Call_Name_kw (ld_glob J gl at_ ?_ nd)⟩
  refine PySem.W.callWith_K (h₀ := X.base) J.ok.mod.kin keep (thn (ha.run pos pins st σ H _ J h) fun us st1 ⟨vs, H1, J1, r, q⟩ => ⟨J1.kIn, ?_⟩) one plain
  have q : want vs H1 Q E0 := by
    have q' : want (vs ++ []) H1 Q E0 := q
    rwa [List.append_nil] at q'
  have size : us.length = names.length := r.length.symm.trans (F.many _ _ _ _ q)
  have bd := bind st1 us J1.kIn (by rw [List.append_nil]; exact size)
  rw [List.append_nil] at bd
  refine wpAny_call (codeAny_mono (F.go X.A X.stack st1 H1 ⟨us, []⟩ us vs Q E0 hg room J1.env0 bd r q) fun res st2 hq => ?_)
  match res, hq with
  | .error _, hq => exact False.elim hq
  | .ok (.ret _), hq => exact J1.after hq
  | .ok .next, hq => exact False.elim hq
  | .ok .brk, hq => exact False.elim hq
  | .ok .cont, hq => exact False.elim hq
/-- the law's promise, at the heap behind the top -/
theorem headG {P : Program} {w : World} {K : PySem.W.Frag} {mg mb : Str → Option Value} {n : Nat} {fa a : Addr} {fd : FuncData} {x : Str} {want : Sp} {st : Shared} {us : List Value} {ns : List Int}
    (inK : K.In st.heap) (glob : st.heap.Ns mainGlobals mg) (blt : st.heap.Ns builtinsNs mb) (boot : ∀ x : Str, x ≠ "__name__" → mb x = bootBuiltins x) (noLim : st.heap.NoLimit) (gens : st.gens = #[])
    (obj : st.heap.get? a = some { cls := .type "list", data := .seq us.toArray }) (allInt : IntsAre us ns) (short : ns.length ≤ sizeLine) (room : Room n callerA)
    (F : ∀ base : Heap, K.In base → base.Ns mainGlobals mg → FnOkG P w K mg base n fa fd [x] want) (bind : ∀ (s : Shared) (u : Value), BindsTo s fd ⟨[u], []⟩ [(x, u)])
    (ask : ∀ H : Hp, Only H → SqL K H a (ns.map V.int) → want [.ref a] H (fun v _ => v = .bl true) fun _ _ _ => False) :
    codeAny (model P w) callerA (.call (.ref fa) ⟨[.ref a], []⟩) (fun r s' => r = .ok (.ret (.bool true)) ∧ OldK st.heap s'.heap ∧ s'.os = st.os ∧ AllBare s'.gens) st := by
  have vals := vals_ints allInt
  have size := allInt.length
  have main : ∀ H : Hp, Only H → SqL K H a (ns.map V.int) → HOk P w H st.heap → (∀ b, H b ≠ none → b = a) → (H a ≠ none → K.lookup a = none) →
      codeAny (model P w) callerA (.call (.ref fa) ⟨[.ref a], []⟩) (fun r s' => r = .ok (.ret (.bool true)) ∧ OldK st.heap s'.heap ∧ s'.os = st.os ∧ AllBare s'.gens) st := by
    intro H only sq ok one not
    have stay : ∀ {b : Addr} {o : Obj}, st.heap.get? b = some o → H b = none → (hidT st.heap H).get? b = some o := fun q z => hidT_get q z
    have free : ∀ {b : Addr}, (b = a → False) → H b = none := fun {b} ne => by
      cases q : H b with
      | none => rfl
      | some u => exact (ne (one b (by rw [q]; exact Option.some_ne_none u))).elim
    have space : ∀ {b : Addr} {m : Str → Option Value}, st.heap.Ns b m → (hidT st.heap H).Ns b m := fun {b m} ⟨o, es, ep, q, d, r⟩ => ⟨o, es, ep, stay q (free fun z => by
      subst z
      rw [obj] at q
      cases q
      exact Data.noConfusion (show Data.seq us.toArray _ = Data.dict es ep from d)), d, r⟩
    have kin : K.In (hidT st.heap H) := fun b o q => stay (inK b o q) (by
      cases z : H b with
      | none => rfl
      | some u =>
        have ne : H b ≠ none := by rw [z]; exact Option.some_ne_none u
        have ba := one b ne
        subst ba
        rw [not ne] at q
        cases q)
    obtain ⟨mc, l1, l2⟩ := noLim
    have md : Mod K mg (hidT st.heap H) := ⟨kin, space glob, ⟨mb, space blt, boot⟩, ⟨mc, space l1, l2⟩⟩
    have en : Env0 P w K mg (hidT st.heap H) callerA [] st H := ⟨rfl, md, fun b o q => of_hidT q, Nat.le_of_eq (hidT_size _ _), trivial, fun b hb => absurd (show b ∈ ([] : List Addr) from hb) (by simp), ok, .of_eq gens⟩
    refine codeAny_mono ((F _ kin (space glob)).go callerA [] st H ⟨[.ref a], []⟩ [.ref a] [.ref a] _ _ rfl room en (bind st (.ref a)) (.cons rfl .nil) (ask H only sq)) fun r s' h => ?_
    match r, h with
    | .error _, h => exact False.elim h
    | .ok .next, h => exact False.elim h
    | .ok .brk, h => exact False.elim h
    | .ok .cont, h => exact False.elim h
    | .ok (.ret u), ⟨v, H', os, bare, un, ok', rel, q⟩ =>
      have q2 : v = .bl true := q
      cases q2
      have r2 : u = Value.bool true := rel
      cases r2
      refine ⟨rfl, OldK.of_keep fun b o e => ?_, os, bare⟩
      rcases only b with z | ⟨ob, xs, z⟩
      · exact un.keep b o e z (fun t => absurd (show b ∈ ([] : List Addr) from t) (by simp)) (by simp)
      · have z2 := un.frzs b ob _ z
        obtain ⟨g1, _⟩ := ok b _ z
        obtain ⟨g2, _⟩ := ok' b _ z2
        rw [e] at g1
        cases g1
        exact g2
  cases own : K.lookup a with
  | some o =>
    have e := inK a o own
    rw [obj] at e
    cases e
    exact main (fun _ => none) (fun _ => .inl rfl) (.inr ⟨_, us.toArray, _, own, rfl, rfl, rfl, by rw [List.size_toArray, size]; exact short, by simpa using vals⟩) (fun b u z => by have y : (none : Option HO) = some u := z; cases y) (fun b z => absurd rfl z) fun z => absurd rfl z
  | none =>
    have yes : (fun b => if b = a then some (HO.frz { cls := .type "list", data := .seq us.toArray } (.lst (ns.map V.int))) else none) a = some (HO.frz { cls := .type "list", data := .seq us.toArray } (.lst (ns.map V.int))) := if_pos rfl
    have no : ∀ b, b ≠ a → (fun b => if b = a then some (HO.frz { cls := .type "list", data := .seq us.toArray } (.lst (ns.map V.int))) else none) b = none := fun b ne => if_neg ne
    generalize (fun b => if b = a then some (HO.frz { cls := .type "list", data := .seq us.toArray } (.lst (ns.map V.int))) else none) = G at yes no
    refine main G (fun b => ?_) (.inl (.inr ⟨_, yes⟩)) (fun b u z => ?_) (fun b z => ?_) fun _ => own
    · by_cases hb : b = a
      · subst hb
        exact .inr ⟨_, _, yes⟩
      · exact .inl (no b hb)
    · by_cases hb : b = a
      · subst hb
        rw [yes] at z
        cases z
        exact ⟨obj, by rw [List.length_map]; exact short, us, _, vals, obj⟩
      · rw [no b hb] at z
        cases z
    · by_cases hb : b = a
      · exact hb
      · exact absurd (no b hb) z
theorem walk_G {l : PySem.W.OpenLaw} {m n : Nat} {q : Program} {loose : List Str} {XP : (Str → Option Value) → Heap → Prop} {YP : World → Heap → Prop} {d : DefRec} {K : Params → PySem.W.Frag} {want : World → Sp} {x : Str}
    (most : l.most = some m) (most2 : m ≤ sizeLine) (noDef : d.params.defaults = []) (room : Room n callerA) (inK : ∀ (w : World) (h : Heap), YP w h → (K w.params).In h)
    (F : ∀ (w : World) (mg : Str → Option Value) (fa : Addr) (h : Heap), (K w.params).In h → h.Ns mainGlobals mg → mg d.name = some (.ref fa) →
      ∃ fd : FuncData, (∀ (s : Shared) (u : Value), BindsTo s fd ⟨[u], []⟩ [(x, u)]) ∧ ∀ base : Heap, (K w.params).In base → base.Ns mainGlobals mg → FnOkG l.prog w (K w.params) mg base n fa fd [x] (want w))
    (ask : ∀ (w : World) (H : Hp) (a : Addr) (ns : List Int), ns.length ≤ m → Only H → SqL (K w.params) H a (ns.map V.int) → want w [.ref a] H (fun v _ => v = .bl true) fun _ _ _ => False) :
    PySem.W.WalkO q loose XP YP l.row.toRowW d [] (fun f vs => PySem.call f vs) :=
  Att.attach_call most noDef fun w s₀ st mg mb fa o pm cd doc a us ns G Y ho hd hcd named obj allInt short gens => by
    have kin := inK w _ Y
    obtain ⟨fd, bind, FF⟩ := F w mg fa _ kin G.T.g named
    exact headG kin G.T.g G.T.b G.T.builtins G.T.nolimit gens obj allInt (Nat.le_trans short most2) room FF bind fun H only sq => ask w H a ns short only sq
/-! ### repr of data -/
def rRepr (K : PySem.W.Frag) : List V → Hp → VK → Prop := fun xs H Q => ∃ p d, xs = [.ref p] ∧ Dp K H (.ref p) d ∧ d.showable = true ∧ d.hasDict = false ∧ d.depth ≤ 50 ∧ d.shown.length ≤ sizeLine ∧ Q (.str d.shown) H
theorem call_reprD {X : Cx} (hg : X.A.guards = some []) (hu : X.A.units + 64 < cLine) : CallR X (.builtin "repr") (rRepr X.K) := by
  intro pins st σ H xs us Q J r h
  obtain ⟨p, d, rfl, dp, hs, hd, hdp, hz, q⟩ := h
  obtain ⟨u, rfl, hu2⟩ : ∃ u, us = [u] ∧ RelV (.ref p) u := by
    cases r with
    | cons a b =>
      cases b
      exact ⟨_, rfl, a⟩
  have e : u = Value.ref p := hu2
  subst e
  obtain ⟨as, rd⟩ := Dp.reads J d _ _ dp hu2
  refine repr_of_reads' rd hs (fun z => by rw [hd] at z; cases z) hg (by omega) (fun _ _ e => e) (fun h' u tk keep => ?_) hz
  exact ⟨.str d.shown, H, J.turnedL (ch := []) (fun b o _ e => keep b o e) (fun b hb => absurd hb (by simp)), ⟨_, rfl⟩, q⟩
section
variable {K : PySem.W.Frag} {σ : L2.St} {H : Hp} {te : TE}
theorem ev_repr {d : PyData} (h : EvD K te σ H d) (hl : isDisplay d = true) (hs : d.showable = true) (hd : d.hasDict = false) (hdp : d.depth ≤ 50) (hz : d.shown.length ≤ sizeLine) : Ev (tCB (rRepr K) (tCons te tNil)) σ H (.str d.shown) := fun H1 e Q q =>
  h H1 e _ fun v H2 e2 dv => by
    have hp : ∃ p, v = .ref p := by
      cases dv with
      | lst _ _ => exact ⟨_, rfl⟩
      | tup _ _ => exact ⟨_, rfl⟩
      | non => cases hl
      | bl _ => cases hl
      | int _ => cases hl
      | str _ => cases hl
    obtain ⟨p, rfl⟩ := hp
    exact ⟨p, d, rfl, dv, hs, hd, hdp, hz, q H2 e2⟩
end
end Kit

set_option Elab.async false
set_option linter.all false
set_option maxRecDepth 100000
set_option maxHeartbeats 4000000
namespace Kit
open PySem PySem.Spec PyProof.Rows L2 Evl
theorem slot_type_neR : Slot "type" (cmpInfo .NotEq).2.2 "object.__ne__" :=
  .of (owner := "object") (n := "__ne__") (by rw [typeLookup_type, builtinLookup_eq_fast]; kernel_rfl) (by decide +kernel) (by decide +kernel) (by decide +kernel)
    (by first | exact .inl (by decide +kernel) | exact .inr (by decide +kernel)) (by rw [isSubtype_type]; kernel_rfl)
section
variable {M : Model} {A : Around} {E : Value → Shared → Prop} {s : Shared}
theorem ne_decline {a b : Value} {T id : String} {k : Bool} {Q : Value → Shared → Prop} (ta : ∀ s' : Shared, s'.TypeIs a T) (tb : ∀ s' : Shared, s'.TypeIs b T) (l1 : Slot T (cmpInfo .NotEq).2.1 id) (l2 : Slot T (cmpInfo .NotEq).2.2 id)
    (nh : [a, b].any Value.onHeap = false) (same : isSame a b = pure k) (go : wpAny M A (call (.builtin id) [a, b]) (fun v t => v = .notImplemented ∧ wpAny M A (call (.builtin id) [b, a]) (fun v t2 => v = .notImplemented ∧ Q (.bool (!k)) t2) E t) E s) :
    wpAny M A (richCompare .NotEq a b) Q E s := by
  rcases eq : cmpInfo CmpOp.NotEq with ⟨n1, n2, n3⟩
  rw [eq] at l1 l2
  simp only [richCompare, eq, (ta s).oneThing_none]
  try with_reducible refine wpAny_holding ?_
  refine wpAny_bind (wpAny_cRoomFor_or (.inl nh) (wpAny_bind (wpAny_typeOf (ta s) (wpAny_bind (wpAny_typeOf (tb s) ?_)))))
  simp only [bne_self_eq_false, Bool.false_eq_true, if_false, pure_bind, Bool.not_false, if_true]
  refine wpAny_bind (m := tryCompare a _ b) (wpAny_tryCompare_declines (ta s) l1 (wpAny_mono go (fun v t z => ⟨z.1, ?_⟩) fun _ _ x => x))
  refine wpAny_bind (m := tryCompare b _ a) (wpAny_tryCompare_declines (tb t) l2 (wpAny_mono z.2 (fun v t2 z2 => ⟨z2.1, ?_⟩) fun _ _ x => x))
  refine wpAny_bind (wpAny_rule (wpAny_bind (wpAny_of_eq same (wpAny_pure z2.2))))
end
section
variable {prog : Program} {w : World} {A : Around} {E : Value → Shared → Prop} {s : Shared} {Q : Value → Shared → Prop}
theorem obj_ne_other {X Y : String} (hX : ∀ s' : Shared, s'.TypeIs (.type X) "type") (ne : (Value.type X == Value.type Y) = false) (hu : A.units + 1 < cLine) (h : Q .notImplemented s) : wpAny (model prog w) A (call (.builtin "object.__ne__") [.type X, .type Y]) Q E s := by
  refine wpAny_call_entry slot_type_ne (hX s) PySem.F.cmpEntry_ne ?_ (PySem.F.cmpArgs_ne _ _)
  unfold Builtin.«object.__ne__»
  have key : wpAny (model prog w) A.in1 (call (.builtin "object.__eq__") [.type X, .type Y]) (fun v s' => v = .notImplemented ∧ s' = s) E s :=
    call_gives slot_type_eqN (hX s) F.entry_object_eq (F.args_object_eq_2 _ _) (PySem.TypeEq.object_eq_other rfl ne) ⟨rfl, rfl⟩
  repeat (first
    | with_reducible refine wpAny_cRoomFor (by show A.units + 1 < cLine; exact hu) ?_
    | (refine wpAny_bind (m := callSpecialIfBound? (.type X) (Str.ofString "__eq__") [.type Y])
        (wpAny_callSpecialIfBound?_slot (hX _) slot_type_eqN (wpAny_mono key (fun r s' hr => by
          obtain ⟨rfl, rfl⟩ := hr
          have hq : Q .notImplemented s' := h
          repeat (first | exact hq | exact ⟨_, rfl, hq⟩ | exact wpAny_pure hq | wp_step)) fun _ _ e => e)))
    | wp_step)
theorem ne_type_other {X Y : String} (hX : ∀ s' : Shared, s'.TypeIs (.type X) "type") (hY : ∀ s' : Shared, s'.TypeIs (.type Y) "type") (ne : (Value.type X == Value.type Y) = false) (hu : A.units + 1 < cLine) (h : Q (.bool true) s) : wpAny (model prog w) A (compareOp .NotEq (.type X) (.type Y)) Q E s := by
  have ne' : (Value.type Y == Value.type X) = false := by
    rw [beq_eq_false_iff_ne] at ne ⊢
    exact fun z => ne z.symm
  show wpAny _ A (richCompare .NotEq _ _) Q E s
  exact ne_decline (T := "type") (k := false) hX hY slot_type_ne slot_type_neR rfl (by rw [isSame_plain rfl, ne]) (obj_ne_other hX ne hu ⟨rfl, obj_ne_other hY ne' hu ⟨rfl, h⟩⟩)
end
end Kit

set_option Elab.async false
set_option linter.all false
set_option maxRecDepth 100000
set_option maxHeartbeats 4000000
namespace Kit
open PySem PySem.Spec PyProof.Rows L2 Evl
theorem meets_enum_new1 {v : Value} {o : Obj} {H : Heap → Prop} (B : Begins v o H) :
    Meets (Builtin.«enumerate.__new__» ⟨[.type "enumerate", v], []⟩) (fun _ R s => H s.heap ∧
      R (.ok (.ret (.ref (s.heap.push o).objs.size))) { s with heap := (s.heap.push o).push { cls := .type "enumerate", data := .fields #[.none, .bool false, .ref s.heap.objs.size, rawInt 0, .none, .none] } }) :=
  .of_wp fun prog w A R s h => by
    obtain ⟨hp, g, d, tk, os⟩ := s; obtain ⟨h1, h⟩ := h
    have hsub := sub_enumerate
    have q1 : ∀ {A' : Around} {E : Value → Shared → Prop} {Q : Value → Shared → Prop}, Q (.ref hp.objs.size) ⟨hp.push o, g, d, tk, os⟩ → wpAny (model prog w) A' (pyIter v) Q E ⟨hp, g, d, tk, os⟩ :=
      fun q => B.iter prog w _ _ ⟨hp, g, d, tk, os⟩ _ h1 q
    wp_walk using q1
    refine wpAny_stack_any fun st => wpAny_pure ?_
    split
    · rename_i c _ _ _ _ _
      cases (c == Value.type "enumerate")
      · wp_walk using q1
        exact ⟨_, rfl, h⟩
      · wp_walk using q1
        exact ⟨_, rfl, h⟩
    · wp_walk using q1
      exact ⟨_, rfl, h⟩
section
variable {prog : Program} {w : World} {A : Around} {E : Value → Shared → Prop} {s : Shared}
theorem enum_begins1 {v : Value} {o : Obj} {H : Heap → Prop} {Q : Value → Shared → Prop} (B : Begins v o H) (h1 : H s.heap)
    (h : ∀ h', IsEnum h' (s.heap.objs.size + 1) s.heap.objs.size 0 .none → h'.get? s.heap.objs.size = some o → h'.objs.size = s.heap.objs.size + 2 →
      (∀ b o, s.heap.get? b = some o → h'.get? b = some o) → Q (.ref (s.heap.objs.size + 1)) { s with heap := h' }) :
    wpAny (model prog w) A (call (.type "enumerate") [v]) Q E s := by
  refine callType_new F.called_enumerate (by decide) (F.typeCall_enumerate_1 _) (F.newCall_enumerate_1 _) (fun obj => F.args_object_init_2 obj _) F.entry_enumerate_new
    (meets_enum_new1 B) ⟨h1, ?_⟩
  have hz : (s.heap.push o).objs.size = s.heap.objs.size + 1 := Heap.size_push ..
  show _ ∧ _
  rw [hz]
  have he : IsEnum ((s.heap.push o).push { cls := .type "enumerate", data := .fields #[.none, .bool false, .ref s.heap.objs.size, rawInt 0, .none, .none] }) (s.heap.objs.size + 1) s.heap.objs.size 0 .none := by
    have := Heap.get?_push_size (s.heap.push o) (o := { cls := .type "enumerate", data := .fields #[.none, .bool false, .ref s.heap.objs.size, rawInt 0, .none, .none] }) rfl
    rw [hz] at this; exact this
  refine ⟨⟨_, he, rfl⟩, h _ he (Heap.get?_push_of_some _ (Heap.get?_push_size _ B.free)) (by rw [Heap.size_push, hz]) fun b o x => Heap.get?_push_of_some _ (Heap.get?_push_of_some _ x)⟩
end
end Kit

set_option Elab.async false
set_option linter.all false
set_option maxRecDepth 100000
set_option maxHeartbeats 4000000
namespace Kit
open PySem PySem.Spec PyProof.Rows L2 Evl
/-- the tuple at a, each item in a new pair -/
def IteT (K : PySem.W.Frag) (a : Addr) : It :=
  ⟨fun i H => ∃ (xs : List V) (x : V), SqT K H a xs ∧ xs[i]? = some x, fun i H v H' => ∃ T x, v = .ref T ∧ H T = none ∧ H' = upd H T (.tup [.int (i : Nat), x]) ∧ ∀ xs, SqT K H a xs → xs[i]? = some x, fun i H => ∃ xs : List V, SqT K H a xs ∧ xs.length = i⟩
theorem enum_ne {h : Heap} {e it t : Addr} {i : Int} {old : Value} {vs : Array Value} (he : IsEnum h e it i old) (ht : h.IsTuple t vs) : e ≠ t := fun z => by
  subst z
  obtain ⟨o, ho, hc, _⟩ := ht
  have he' : h.get? e = _ := he
  rw [he'] at ho
  cases ho
  exact absurd hc (by show ¬ (Value.type "enumerate" = Value.type "tuple"); decide +kernel)
theorem turn_enumT {P : Program} {w : World} {K : PySem.W.Frag} {elts : List Expr} {kk : Nat} {tpos : Pos} (a e it : Addr) :
    Turn P w K (.Tuple elts kk tpos) (IteT K a) [e, it] e (fun i h => (∃ old, IsEnum h e it ((i : Nat) : Int) old) ∧ h.IsTupleIter it a i ∧ e ≠ it) where
  mem := by simp
  obj := fun i h st b hb => by
    obtain ⟨⟨old, he⟩, ⟨o, ho, hc, hd⟩, _⟩ := st
    have e' : b = e ∨ b = it := by simpa using hb
    rcases e' with z | z
    · rw [z]; exact ⟨_, he, fun v q => nomatch q⟩
    · rw [z]; exact ⟨o, ho, fun v q => by rw [hd] at q; cases q⟩
  keep := fun i h h' st k => by
    obtain ⟨⟨old, he⟩, ⟨o, ho, hr⟩, hne⟩ := st
    exact ⟨⟨old, k e (by simp) _ he⟩, ⟨o, k it (by simp) o ho, hr⟩, hne⟩
  item := by
    intro X hP hw hK hc i pins s σ H E I hf st hg
    subst hP hw hK
    obtain ⟨⟨old, he⟩, hit, hne⟩ := st
    obtain ⟨xs, x, hq, hx⟩ := hg
    obtain ⟨its, rv, p, hz⟩ := I.tuple hq
    obtain ⟨u, hu, ru⟩ := rv.get hx
    have hel : e < s.heap.objs.size := Heap.lt_size he
    have hil : it < s.heap.objs.size := by obtain ⟨_, q, _⟩ := hit; exact Heap.lt_size q
    have pT : s.heap.IsTuple a its.toArray := p
    have nea : e ≠ a := enum_ne he pT
    have nit : a ≠ it := fun z => by
      subst z
      obtain ⟨o, ho, hc', _⟩ := pT
      obtain ⟨o', ho', hc'', _⟩ := hit
      rw [ho] at ho'
      cases ho'
      rw [hc'] at hc''
      exact absurd hc'' (by decide +kernel)
    have hlt : i < its.toArray.size := by
      have := (List.getElem?_eq_some_iff.mp hu).1
      simpa using this
    refine wpAny_pyNext_enum_itemD (Draws.tuple (by exact I.ok.hd hc) it a nit its.toArray) he ⟨hit, pT⟩ hlt hne (by simp [hne, nea]) fun x' h' tk hx' ho hst' hT hsz hk => ?_
    have eu : u = x' := by
      have : its[i]? = some x' := by simpa using hx'
      rw [hu] at this
      exact Option.some.inj this
    subst eu
    refine ⟨_, rfl, wpAny_letOwnedTupleGo_enum (s := { s with heap := h', toks := tk + 1 }) ho fun h'' he' sb => ?_⟩
    have hT2 : h''.get? s.heap.objs.size = some { cls := .type "tuple", data := .seq #[.int i tk, u] } := (sb.2 _ (Nat.ne_of_gt hel)).trans hT
    have new : ObjOk X.prog X.w (upd H s.heap.objs.size (.tup [.int (i : Nat), x])) h'' s.heap.objs.size (.tup [.int (i : Nat), x]) :=
      ⟨by show 2 ≤ sizeLine; decide, [.int i tk, u], .cons ⟨_, rfl⟩ (.cons ru .nil), ⟨_, hT2, rfl, _, rfl⟩⟩
    have I1 : Inv X pins σ (upd H s.heap.objs.size (.tup [.int (i : Nat), x])) { s with heap := h'', toks := tk + 1 } :=
      I.turnedNew (ch := [e, it]) (fun b ob hb q => (sb.2 b (fun z => hb (by simp [z]))).trans (hk b ob (fun z => hb (by simp [z])) (fun z => hb (by simp [z])) q)) hf (Nat.le_refl _) new
    refine ⟨.ref s.heap.objs.size, _, I1, rfl, ⟨_, x, rfl, I.hok.fresh (Nat.le_refl _), rfl, fun ys hy => by rw [I.tuple_inj hy hq]; exact hx⟩, ⟨⟨u, ?_⟩, ?_, hne⟩, fun b hb => ?_⟩
    · have e1 : ((i + 1 : Nat) : Int) = (i : Int) + 1 := by omega
      rw [e1]; exact he'
    · obtain ⟨o, q, r⟩ := hst'.1
      exact ⟨o, (sb.2 it (Ne.symm hne)).trans q, r⟩
    · have hb' : b < s.heap.objs.size := by
        have e' : b = e ∨ b = it := by simpa using hb
        rcases e' with z | z
        · rw [z]; exact hel
        · rw [z]; exact hil
      rw [upd_ne (Nat.ne_of_lt hb')]
      exact (hf b hb).1
  done := by
    intro X hP hw hK hc i pins s σ H E I hf st hg
    subst hP hw hK
    obtain ⟨⟨old, he⟩, hit, hne⟩ := st
    obtain ⟨xs, hq, hx⟩ := hg
    obtain ⟨its, rv, p, hz⟩ := I.tuple hq
    obtain ⟨f0, f1, f2, f3, f4, f5⟩ := hf it (by simp)
    have hl := rv.length
    have pT : s.heap.IsTuple a its.toArray := p
    have nit : a ≠ it := fun z => by
      subst z
      obtain ⟨o, ho, hc', _⟩ := pT
      obtain ⟨o', ho', hc'', _⟩ := hit
      rw [ho] at ho'
      cases ho'
      rw [hc'] at hc''
      exact absurd hc'' (by decide +kernel)
    have hn : its.toArray.size = i := by
      rw [← hx, hl]
      simp
    subst hn
    exact wpAny_pyNext_enum_endD (Draws.tuple (by exact I.ok.hd hc) it a nit its.toArray) he ⟨hit, pT⟩ fun h' eb => ⟨rfl, I.turned (t' := s.toks) (fun b o hb q => eb b o hb q) f0 f1 f3 f4 f5⟩
  self := fun A i s Q E st h => let ⟨⟨_, he⟩, _⟩ := st; wpAny_pyIter_enum he h
def iEnumS (K : PySem.W.Frag) (ta : TA) : TI := fun σ H R => ta σ H fun vs H1 => ∃ a xs, vs = [.ref a] ∧ ((SqL K H1 a xs ∧ R (Ite K a) H1) ∨ (SqT K H1 a xs ∧ R (IteT K a) H1))
theorem pi_enumS {X : Cx} {e : Expr} {ta : TA} {p pos tpos : Pos} {elts : List Expr} {kk : Nat} (hg : Gl X "enumerate") (hm : X.mg "enumerate" = none) (ha : PA X [e] ta) (hs : starEach [e] X.env = [(false, eval e X.env)] := by rfl) :
    PI X (.Tuple elts kk tpos) (.Call (.Name "enumerate" p) [e] [] pos) (iEnumS X.K ta) := by
  refine ⟨fun pins s σ H R I h => ?_⟩
  refine Call_ (ld_blt I hg hm boot_enumerate (PyProof.Rows.callWith_type1 (thn (ha.run pos pins s σ H _ I h) fun us s1 ⟨vs, H1, I1, r1, q1⟩ => ?_) hs rfl))
  obtain ⟨a, xs, ex, q1⟩ := q1
  subst ex
  cases r1 with
  | cons r rr =>
    cases rr
    cases r
    have fin : ∀ (h' : Heap) (itx : Addr), itx = s1.heap.objs.size → (∀ b o, s1.heap.get? b = some o → h'.get? b = some o) → ∀ b ∈ [s1.heap.objs.size + 1, itx], FpOk X pins H1 b := fun h' itx ei hk b hb => by
      have hle : s1.heap.objs.size ≤ b := by
        have e' : b = s1.heap.objs.size + 1 ∨ b = itx := by simpa using hb
        rcases e' with z | z
        · rw [z]; exact Nat.le_add_right _ _
        · rw [z, ei]; exact Nat.le_refl _
      exact I1.fpOk hle (I1.hok.fresh hle)
    rcases q1 with ⟨hq, q⟩ | ⟨hq, q⟩
    · obtain ⟨its, rv, p', hz⟩ := I1.list hq
      refine call_enumerate_list p'.isList fun h' he hit hsz hk => wpAny_pyIter_enum he ?_
      have I2 : Inv X pins σ H1 { s1 with heap := h' } := I1.kept (t' := s1.toks) hk
      exact ⟨s1.heap.objs.size + 1, [s1.heap.objs.size + 1, s1.heap.objs.size], _, _, H1, rfl, I2, turn_enum a (s1.heap.objs.size + 1) s1.heap.objs.size, ⟨⟨.none, he⟩, hit, Nat.succ_ne_self _⟩, fin h' _ rfl hk, q⟩
    · obtain ⟨its, rv, p', hz⟩ := I1.tuple hq
      refine enum_begins1 (begins_tuple a its.toArray) (show s1.heap.IsTuple a its.toArray from p') fun h' he hit hsz hk => wpAny_pyIter_enum he ?_
      have I2 : Inv X pins σ H1 { s1 with heap := h' } := I1.kept (t' := s1.toks) hk
      exact ⟨s1.heap.objs.size + 1, [s1.heap.objs.size + 1, s1.heap.objs.size], _, _, H1, rfl, I2, turn_enumT a (s1.heap.objs.size + 1) s1.heap.objs.size, ⟨⟨.none, he⟩, ⟨_, hit, rfl, rfl⟩, Nat.succ_ne_self _⟩, fin h' _ rfl hk, q⟩
theorem walk_enumT {K : PySem.W.Frag} {a : Addr} {xs : List V} : Walk (IteT K a) xs.length (fun H => SqT K H a xs) (YPair (fun i => some (.int (i : Nat))) (fun i => xs[i]?)) := by
  refine ⟨fun i _ hi q => ⟨xs, xs[i], q, by simp [hi]⟩, fun _ q => ⟨xs, q, rfl⟩, fun i H v H' _ q y => ?_⟩
  obtain ⟨T, x, h1, h2, h3, h4⟩ := y
  exact ⟨T, .int (i : Nat), x, h1, h2, h3, rfl, h4 xs q⟩
section
variable {K : PySem.W.Frag} {σ : L2.St} {H H' : Hp} {D : Ends} {tu tz : TS}
/-- for i, x in enumerate(xs), xs a list or a tuple -/
theorem s_forEnS {ta : TA} {i j : Nat} {a : Addr} {xs : List V} (h : EvA ta σ H [.ref a]) (G : Hp → Prop) (hG : (∀ H, G H → SqL K H a xs) ∨ (∀ H, G H → SqT K H a xs)) (hx : ∀ H1, Ex H H1 → G H1) (Pv : Nat → L2.St → Hp → Prop) (h0 : ∀ H1, Ex H H1 → Pv 0 σ H1) (hl : ∀ n σ' H', n ≤ xs.length → Pv n σ' H' → G H')
    (hs : ∀ n x σ' H' H2, xs[n]? = some x → Pv n σ' H' → Ex H' H2 → tu { D with nx := Pv (n + 1), ct := Pv (n + 1), bk := D.nx } ((σ'.set i (some (.int (n : Int)))).set j (some x)) H2) (hd : ∀ σ' H', Pv xs.length σ' H' → D.nx σ' H') :
    tFor (iEnumS K ta) (gTup K 2 (gCons (gName i) (gCons (gName j) gNil))) tu D σ H := h H (Ex.refl H) _ fun H1 e => by
  have turn : ∀ n v σ' Hh H2, n < xs.length → Pv n σ' Hh → YPair (fun i => some (.int (i : Nat))) (fun i => xs[i]?) n Hh v H2 → gTup K 2 (gCons (gName i) (gCons (gName j) gNil)) v σ' H2 fun σ2 H3 => tu { D with nx := Pv (n + 1), ct := Pv (n + 1), bk := D.nx } σ2 H3 := by
    rintro n v σ' Hh H2 hn p ⟨T, x, y, rfl, nT, rfl, g1, g2⟩
    have ex : V.int (n : Nat) = x := Option.some.inj g1
    subst ex
    exact ⟨T, [.int (n : Nat), y], rfl, st_of upd_same, rfl, _, [y], rfl, y, [], rfl, rfl, hs n y σ' Hh _ g2 p (Ex.new nT)⟩
  rcases hG with hG | hG
  · exact ⟨a, xs, rfl, .inl ⟨hG _ (hx H1 e), for_it walk_enum Pv (h0 H1 e) (fun n σ' H' hn p => hG _ (hl n σ' H' hn p)) (fun n v σ' Hh H2 => turn n v σ' Hh H2) hd⟩⟩
  · exact ⟨a, xs, rfl, .inr ⟨hG _ (hx H1 e), for_it walk_enumT Pv (h0 H1 e) (fun n σ' H' hn p => hG _ (hl n σ' H' hn p)) (fun n v σ' Hh H2 => turn n v σ' Hh H2) hd⟩⟩
end
end Kit

set_option Elab.async false
set_option linter.all false
set_option maxRecDepth 100000
set_option maxHeartbeats 4000000
namespace Kit
open PySem PySem.Spec PyProof.Rows L2 Evl
/-! list(range(a, b, c)) -/
def rgC (i c : Int) (n : Nat) : List V := (List.range n).map fun k => V.int (i + (k : Nat) * c)
def PRgC (X : Cx) (e : Expr) (t : L2.St → Hp → (Int → Int → Int → Hp → Prop) → Prop) : Prop :=
  ∀ (pins : List (Addr × Obj)) (s : Shared) (σ : L2.St) (H : Hp) (Q : Int → Int → Int → Hp → Prop), Inv X pins σ H s → t σ H Q →
    wpAny (model X.prog X.w) X.A (eval e X.env) (fun x s' => ∃ r a b c t u v H', x = .ref r ∧ IsRange s'.heap r a b c t u v ∧ Inv X pins σ H' s' ∧ Q a b c H') X.xe s
def tRg3 (ta : TA) : L2.St → Hp → (Int → Int → Int → Hp → Prop) → Prop := fun σ H Q => ta σ H fun vs H1 => ∃ i j c, vs = [.int i, .int j, .int c] ∧ (c ≠ 0 ∧ c.natAbs < 1073741824) ∧ Q i j c H1
section
variable {X : Cx}
theorem prg_3 {a b c : Expr} {ta : TA} {p pos : Pos} (hg : Gl X "range") (hm : X.mg "range" = none) (ha : PA X [a, b, c] ta)
    (hs : starEach [a, b, c] X.env = (false, eval a X.env) :: starEach [b, c] X.env := by rfl) (hpl : (backTo pos (starEach [b, c] X.env)).any (·.1) = false := by rfl) : PRgC X (.Call (.Name "range" p) [a, b, c] [] pos) (tRg3 ta) := by
  intro pins s σ H Q I h
  refine Call_ (ld_blt I hg hm boot_range (PyProof.Rows.callWith_type1 (thn (ha.run pos pins s σ H _ I h) fun us s1 ⟨vs, H1, I1, r1, q1⟩ => ?_) hs hpl))
  obtain ⟨i, j, k, e, ⟨c0, c1⟩, q⟩ := q1
  subst e
  cases r1 with
  | cons r rr =>
    cases rr with
    | cons r' rr =>
      cases rr with
      | cons r'' rr =>
        cases rr
        obtain ⟨t, rfl⟩ := r
        obtain ⟨t', rfl⟩ := r'
        obtain ⟨t'', rfl⟩ := r''
        exact call_range_3 c0 ⟨_, i, j, k, _, _, _, H1, rfl, IsRange.new _ _ _ _ _ _ _, I1.kept fun b u e => Heap.get?_push_of_some _ e, q⟩ (.inl (PyProof.noPylong_small c1))
theorem vals_rgC {a c : Int} {n : Nat} {acc : Array Value} (h : ItemsOf (fun i v => ∃ t, v = .int (a + i * c) t) acc n) : Vals (rgC a c n) acc.toList := by
  have e : acc.toList.length = n := by rw [Array.length_toList]; exact h.1
  unfold rgC
  rw [← e]
  refine vals_of_get acc.toList _ fun j u hj => ?_
  obtain ⟨t, rfl⟩ := h.2 j u (by rw [← hj, Array.getElem?_toList])
  exact ⟨t, rfl⟩
def tLstRgC (te : L2.St → Hp → (Int → Int → Int → Hp → Prop) → Prop) : TE := fun σ H Q => te σ H fun a b c H1 => ∃ n : Nat, (Builtin.Range.small a b c = true ∧ Builtin.Range.rangeSize a b c = n ∧ n ≤ 2 ^ 24) ∧ ∀ q, H1 q = none → Q (.ref q) (upd H1 q (.lst (rgC a c n)))
theorem pe_listRgC {e : Expr} {te : L2.St → Hp → (Int → Int → Int → Hp → Prop) → Prop} {p pos : Pos} (hc : X.calm = true) (hg : Gl X "list") (hm : X.mg "list" = none) (he : PRgC X e te) (na : starEach [e] X.env = (false, eval e X.env) :: starEach [] X.env := by rfl) : PE X (.Call (.Name "list" p) [e] [] pos) (tLstRgC te) := by
  refine ⟨fun pins s σ H Q I h => ?_⟩
  refine Call_ (ld_blt I hg hm boot_list (PyProof.Rows.callWith_type1 (args_cons (thn (he pins s σ H _ I h) fun x s1 ⟨r, a, b, c, t, u, v, H1, ex, hr, I1, n, ⟨ok1, ok2, ok3⟩, q⟩ => args_nil ?_) na) na))
  subst ex
  refine call_list_range (n := n) (I1.ok.hd hc) hr ok1 ok2 ok3 fun h' tk acc c' hk e' hi => ?_
  refine ⟨.ref s1.heap.objs.size, upd H1 s1.heap.objs.size (.lst (rgC a c n)), I1.laid hk (Nat.le_refl _) (show ObjOk X.prog X.w _ _ _ (.lst (rgC a c n)) from ⟨?_, acc.toList, c', vals_rgC hi, ?_⟩), rfl, q _ (I1.hok.fresh (Nat.le_refl _))⟩
  · unfold rgC
    rw [List.length_map, List.length_range, sizeLine_eq]
    omega
  · rw [Array.toArray_toList]; exact e'
end
theorem el_down {σ : L2.St} {H : Hp} {ta : TA} {i j : Int} (h : EvA ta σ H [.int i, .int j, .int (-1)]) (hi : 0 ≤ i ∧ i ≤ 1000) (hj : -1 ≤ j ∧ j ≤ 1000) : EvL (tLstRgC (tRg3 ta)) σ H (rgC i (-1) (i - j).toNat) := fun H1 e Q q =>
  h H1 e _ fun H2 e2 => ⟨i, j, -1, rfl, ⟨by decide, by decide⟩, (i - j).toNat, ⟨(RgC.neg (by omega) (by omega) (by omega) (by omega)).2.2.1, (RgC.neg (by omega) (by omega) (by omega) (by omega)).2.2.2, by omega⟩, fun l hl => q l _ (fresh_back e2 hl) (e2.trans (Ex.new hl)) upd_same⟩
end Kit

set_option Elab.async false
set_option linter.all false
set_option maxRecDepth 100000
set_option maxHeartbeats 4000000
namespace Kit
open PySem PySem.Spec PyProof.Rows L2 Evl
/-! ### any thing: none, bools, ints, texts, tuples, dicts, lists of data -/
inductive It (K : PySem.W.Frag) (H : Hp) : V → PyData → Prop
  | non : It K H .non .none
  | bl (b : Bool) : It K H (.bl b) (.bool b)
  | int (i : Int) : It K H (.int i) (.int i)
  | str (x : Str) : It K H (.str x) (.str x)
  | lst {a : Addr} {xs : List V} {ds : List PyData} (h : H a = some (.lst xs)) (hd : DpAll K H xs ds) : It K H (.ref a) (.list ds)
theorem It.ex {K : PySem.W.Frag} {H H' : Hp} {v : V} {d : PyData} (e : Ex H H') (h : It K H v d) : It K H' v d := by
  cases h with
  | non => exact .non
  | bl b => exact .bl b
  | int i => exact .int i
  | str x => exact .str x
  | lst h hd => exact .lst (e _ _ h) (DpAll.ex e _ _ hd)
theorem It.dp {K : PySem.W.Frag} {H : Hp} {v : V} {d : PyData} (h : It K H v d) : Dp K H v d := by
  cases h with
  | non => exact .non
  | bl b => exact .bl b
  | int i => exact .int i
  | str x => exact .str x
  | lst h hd => exact .lst (sq_of h) hd
def ItAll (K : PySem.W.Frag) (H : Hp) (vs : List V) (ds : List PyData) : Prop := Paired (It K H) vs ds
theorem ItAll.ex {K : PySem.W.Frag} {H H' : Hp} (e : Ex H H') : ∀ {vs : List V} {ds : List PyData}, ItAll K H vs ds → ItAll K H' vs ds
  | _, _, .nil => .nil
  | _, _, .cons h t => .cons (h.ex e) (ItAll.ex e t)
theorem ItAll.dp {K : PySem.W.Frag} {H : Hp} : ∀ {vs : List V} {ds : List PyData}, ItAll K H vs ds → DpAll K H vs ds
  | _, _, .nil => .nil
  | _, _, .cons h t => .cons h.dp (ItAll.dp t)
theorem ItAll.app {K : PySem.W.Frag} {H : Hp} : ∀ {vs ws : List V} {ds es : List PyData}, ItAll K H vs ds → ItAll K H ws es → ItAll K H (vs ++ ws) (ds ++ es)
  | _, _, _, _, .nil, q => q
  | _, _, _, _, .cons h t, q => .cons h (ItAll.app t q)
theorem ItAll.len {K : PySem.W.Frag} {H : Hp} {vs : List V} {ds : List PyData} (h : ItAll K H vs ds) : vs.length = ds.length := Paired.length h
theorem ita_ints {K : PySem.W.Frag} {H : Hp} : ∀ ns : List Int, ItAll K H (ns.map V.int) (ns.map PyData.int)
  | [] => .nil
  | n :: r => .cons (.int n) (ita_ints r)
def Fine (ds : List PyData) : Prop := ∀ d ∈ ds, d.canLay0 = true ∧ d.depth ≤ 5
theorem fine_nil : Fine [] := fun d h => by cases h
theorem fine_cons {d : PyData} {ds : List PyData} (h : d.canLay0 = true) (h2 : d.depth ≤ 5) (t : Fine ds) : Fine (d :: ds) := fun x hx => by
  rcases List.mem_cons.mp hx with e | e
  · rw [e]
    exact ⟨h, h2⟩
  · exact t x e
theorem fine_app {ds es : List PyData} (h : Fine ds) (h2 : Fine es) : Fine (ds ++ es) := fun x hx => (List.mem_append.mp hx).elim (h x) (h2 x)
theorem fine_ints : ∀ ns : List Int, Fine (ns.map PyData.int)
  | [] => fine_nil
  | n :: r => fine_cons rfl (Nat.zero_le _) (fine_ints r)
theorem Fine.sub {ds es : List PyData} (h : Fine ds) (s : ∀ x ∈ es, x ∈ ds) : Fine es := fun x hx => h x (s x hx)
theorem Fine.shaped {ds : List PyData} (h : Fine ds) : SeqAt.shaped (.list ds) = true := by
  have : PyData.canLayAll0 ds = true ∧ PyData.depthAll ds ≤ 5 := by
    induction ds with
    | nil => exact ⟨rfl, Nat.zero_le _⟩
    | cons d r ih =>
      obtain ⟨a, b⟩ := ih fun x hx => h x (List.mem_cons_of_mem _ hx)
      obtain ⟨c, e⟩ := h d List.mem_cons_self
      refine ⟨by simp [PyData.canLayAll0, a, c], ?_⟩
      simp [PyData.depthAll]
      omega
  simp [SeqAt.shaped, PyData.canLay0, this.1, PyData.depth]
  omega
inductive Th (K : PySem.W.Frag) (H : Hp) : V → Option (List PyData) → Prop
  | non : Th K H .non none
  | bl (b : Bool) : Th K H (.bl b) none
  | int (i : Int) : Th K H (.int i) none
  | str (x : Str) : Th K H (.str x) none
  | tup {a : Addr} {xs : List V} (h : H a = some (.tup xs)) : Th K H (.ref a) none
  | dct {a : Addr} {kvs : List (Key × V)} (h : H a = some (.dK kvs)) : Th K H (.ref a) none
  | lst {a : Addr} {xs : List V} {ds : List PyData} (h : H a = some (.lst xs)) (hd : ItAll K H xs ds) (hf : Fine ds) : Th K H (.ref a) (some ds)
def AT (K : PySem.W.Frag) (H : Hp) (v : V) : Prop := ∃ o, Th K H v o
section
variable {K : PySem.W.Frag} {σ : L2.St} {H H' : Hp} {te ta tb : TE} {t tr : TA}
theorem Th.ex {v : V} {o : Option (List PyData)} (e : Ex H H') (h : Th K H v o) : Th K H' v o := by
  cases h with
  | non => exact .non
  | bl b => exact .bl b
  | int i => exact .int i
  | str x => exact .str x
  | tup h => exact .tup (e _ _ h)
  | dct h => exact .dct (e _ _ h)
  | lst h hd hf => exact .lst (e _ _ h) (hd.ex e) hf
theorem AT.ex {v : V} (e : Ex H H') (h : AT K H v) : AT K H' v := h.imp fun _ x => x.ex e
def EvTh (K : PySem.W.Frag) (te : TE) (σ : L2.St) (H : Hp) : Prop := ∀ H1, Ex H H1 → ∀ Q : VK, (∀ v H2, Ex H1 H2 → AT K H2 v → Q v H2) → te σ H1 Q
def EvThA (K : PySem.W.Frag) (ta : TA) (σ : L2.St) (H : Hp) (n : Nat) : Prop := ∀ H1, Ex H H1 → ∀ Q : List V → Hp → Prop, (∀ vs H2, Ex H1 H2 → vs.length = n → (∀ v ∈ vs, AT K H2 v) → Q vs H2) → ta σ H1 Q
theorem tha_nil : EvThA K tNil σ H 0 := fun H1 _ _ q => q [] H1 (Ex.refl H1) rfl (by simp)
theorem tha_cons {n : Nat} (h : EvTh K te σ H) (hr : EvThA K tr σ H n) : EvThA K (tCons te tr) σ H (n + 1) := fun H1 e _ q =>
  h H1 e _ fun v H2 e2 hv => hr H2 (e.trans e2) _ fun vs H3 e3 hl hvs => q (v :: vs) H3 (e2.trans e3) (by simp [hl]) fun x hx => by
    rcases List.mem_cons.mp hx with z | z
    · rw [z]
      exact hv.ex e3
    · exact hvs x z
theorem th_non (h : Ev te σ H .non) : EvTh K te σ H := fun H1 e Q q => h H1 e Q fun H2 e2 => q _ H2 e2 ⟨_, .non⟩
theorem th_bl {b : Bool} (h : Ev te σ H (.bl b)) : EvTh K te σ H := fun H1 e Q q => h H1 e Q fun H2 e2 => q _ H2 e2 ⟨_, .bl b⟩
theorem th_int {i : Int} (h : Ev te σ H (.int i)) : EvTh K te σ H := fun H1 e Q q => h H1 e Q fun H2 e2 => q _ H2 e2 ⟨_, .int i⟩
theorem th_str {x : Str} (h : Ev te σ H (.str x)) : EvTh K te σ H := fun H1 e Q q => h H1 e Q fun H2 e2 => q _ H2 e2 ⟨_, .str x⟩
theorem th_U {xs : List V} (h : EvU te σ H xs) : EvTh K te σ H := fun H1 e Q q => h H1 e Q fun p H2 _ e2 h2 => q _ H2 e2 ⟨_, .tup h2⟩
theorem th_L {xs : List V} (h : EvL te σ H xs) (hd : ∃ ds, ItAll K H xs ds ∧ Fine ds) : EvTh K te σ H := fun H1 e Q q => h H1 e Q fun p H2 _ e2 h2 => q _ H2 e2 (by
  obtain ⟨ds, d, f⟩ := hd
  exact ⟨_, .lst h2 (d.ex (e.trans e2)) f⟩)
def EvIA (K : PySem.W.Frag) (ta : TA) (σ : L2.St) (H : Hp) (ds : List PyData) : Prop := ∀ H1, Ex H H1 → ∀ Q : List V → Hp → Prop, (∀ vs H2, Ex H1 H2 → ItAll K H2 vs ds → Q vs H2) → ta σ H1 Q
def EvI (K : PySem.W.Frag) (te : TE) (σ : L2.St) (H : Hp) (d : PyData) : Prop := ∀ H1, Ex H H1 → ∀ Q : VK, (∀ v H2, Ex H1 H2 → It K H2 v d → Q v H2) → te σ H1 Q
theorem ia_nil : EvIA K tNil σ H [] := fun H1 _ _ q => q [] H1 (Ex.refl H1) .nil
theorem ia_cons {d : PyData} {ds : List PyData} (h : EvI K te σ H d) (hr : EvIA K tr σ H ds) : EvIA K (tCons te tr) σ H (d :: ds) := fun H1 e _ q =>
  h H1 e _ fun v H2 e2 dv => hr H2 (e.trans e2) _ fun vs H3 e3 dvs => q (v :: vs) H3 (e2.trans e3) (.cons (dv.ex e3) dvs)
theorem it_of {v : V} {d : PyData} (h : Ev te σ H v) (k : It K H v d) : EvI K te σ H d := fun H1 e Q q => h H1 e Q fun H2 e2 => q v H2 e2 (k.ex (e.trans e2))
theorem it_D {ds : List PyData} (h : EvDA K t σ H ds) (hl : ds.length ≤ 100000) : EvI K (tLst t) σ H (.list ds) := fun H1 e Q q =>
  h H1 e _ fun vs H2 e2 dv => ⟨sz_of (by rw [DpAll.len dv]; exact hl), fun p hp => q _ _ (e2.trans (Ex.new hp)) (.lst upd_same (DpAll.ex (Ex.new hp) ds vs dv))⟩
theorem th_D {ds : List PyData} (h : EvIA K t σ H ds) (hf : Fine ds) (hl : ds.length ≤ 100000) : EvTh K (tLst t) σ H := fun H1 e Q q =>
  h H1 e _ fun vs H2 e2 dv => ⟨sz_of (by rw [dv.len]; exact hl), fun p hp => q _ _ (e2.trans (Ex.new hp)) ⟨_, .lst upd_same (dv.ex (Ex.new hp)) hf⟩⟩
theorem th_var {i : Nat} {v : V} (h : σ[i]? = some (some v)) (hv : AT K H v) : EvTh K (tVar i) σ H := fun H1 e Q q => ⟨v, h, q v H1 (Ex.refl _) (hv.ex e)⟩
theorem th_dnew : EvTh K tDNewK σ H := fun H1 e Q q p hp => q _ _ (Ex.new hp) ⟨_, .dct upd_same⟩
theorem th_disp {x : Str} {i : Int} : EvTh K (tDisp [(tC (.str x), tC (.int i))]) σ H := fun H1 e Q q p hp =>
  ⟨upd_same, [(.inr x, .int i)], rfl, Nat.le_of_ble_eq_true rfl, q _ _ (Ex.mut (Ex.new hp) hp) ⟨_, .dct upd_same⟩⟩
/-- [.., ..] of things: a new list -/
def EvTL (K : PySem.W.Frag) (te : TE) (σ : L2.St) (H : Hp) (n : Nat) : Prop := ∀ H1, Ex H H1 → ∀ Q : VK, (∀ p vs H2, H1 p = none → Ex H1 H2 → H2 p = some (.lst vs) → vs.length = n → (∀ v ∈ vs, AT K H2 v) → Q (.ref p) H2) → te σ H1 Q
theorem tl_lst {n : Nat} (h : EvThA K t σ H n) (hn : n ≤ 100000) : EvTL K (tLst t) σ H n := fun H1 e Q q =>
  h H1 e _ fun vs H2 e2 hl hv => ⟨sz_of (by omega), fun p hp => q p vs _ (fresh_back e2 hp) (e2.trans (Ex.new hp)) upd_same hl fun v z => (hv v z).ex (Ex.new hp)⟩
theorem tl_cat {a : Addr} {xs : List V} {n : Nat} (h : Ev ta σ H (.ref a)) (ha : H a = some (.lst xs)) (hx : ∀ v ∈ xs, AT K H v) (h2 : EvTL K tb σ H n) (hz : xs.length + n ≤ 1000) : EvTL K (tOp rCat ta tb) σ H (xs.length + n) := fun H1 e Q q =>
  h H1 e _ fun H2 e2 => h2 H2 (e.trans e2) _ fun p vs H3 _ e3 h3 hl hv =>
    ⟨a, p, xs, vs, rfl, rfl, e3 a _ (e2 a _ (e a _ ha)), h3, sz_of (by omega), fun l hl' => q l _ _ (fresh_back (e2.trans e3) hl') ((e2.trans e3).trans (Ex.new hl')) upd_same (by rw [List.length_append, hl]) fun v z => by
      rcases List.mem_append.mp z with z | z
      · exact (hx v z).ex (e.trans (e2.trans (e3.trans (Ex.new hl'))))
      · exact (hv v z).ex (Ex.new hl')⟩
/-- x + ys, x an old list -/
theorem el_catO {a : Addr} {xs ys : List V} (h : Ev ta σ H (.ref a)) (ha : H a = some (.lst xs)) (h2 : EvL tb σ H ys) (hz : xs.length + ys.length ≤ 1000) : EvL (tOp rCat ta tb) σ H (xs ++ ys) := fun H1 e Q q =>
  h H1 e _ fun H2 e2 => h2 H2 (e.trans e2) _ fun p H3 _ e3 h3 =>
    ⟨a, p, xs, ys, rfl, rfl, e3 a _ (e2 a _ (e a _ ha)), h3, sz_of (by omega), fun l hl' => q l _ (fresh_back (e2.trans e3) hl') ((e2.trans e3).trans (Ex.new hl')) upd_same⟩
end
/-! ### the type of any thing -/
def kTyp2 (x : V) (H : Hp) (Q : VK) : Prop := ∃ n, (zTyV x H = some n ∨ (n = "dict" ∧ ∃ a kvs, x = .ref a ∧ H a = some (.dK kvs))) ∧ Q (.ty n) H
def rNeTyG : R2 := fun x y H Q => ∃ m n, x = .ty m ∧ y = .ty n ∧ Meta m ∧ Meta n ∧ Q (.bl (!decide (m = n))) H
section
variable {X : Cx} {ta : TE} {a : Expr}
theorem rl_type2 (pins : List (Addr × Obj)) (st : Shared) (σ : L2.St) (H : Hp) (x : V) (u : Value) (Q : VK) (J : Inv X pins σ H st) (r : RelV x u) (h : kTyp2 x H Q) :
    wpAny (model X.prog X.w) X.A (call (.type "type") [u]) (EP X pins σ Q) X.xe st := by
  obtain ⟨n, e | ⟨rfl, a, kvs, rfl, ha⟩, q⟩ := h
  · exact rl_type pins st σ H x u Q J r ⟨n, e, q⟩
  · cases (show u = Value.ref a from r)
    obtain ⟨_, _, vs, _, o, es, ep, h1, h2, _⟩ := (show ObjOk X.prog X.w H st.heap a (.dK kvs) from J.hok a _ ha)
    exact call_type_of (Tx := "dict") ⟨o, h1, h2.1⟩ (by decide +kernel) ⟨.ty "dict", H, J, rfl, q⟩
theorem pe_typeOf2 {p pos : Pos} (hg : Gl X "type") (hm : X.mg "type" = none) (ha : PE X a ta) (na : starEach [a] X.env = (false, eval a X.env) :: starEach [] X.env := by rfl) :
    PE X (.Call (.Name "type" p) [a] [] pos) (tThenZ ta kTyp2) := pe_callTy (call_r1 rl_type2) hg hm (by decide +kernel) (pa_cons ha pa_nil na) (he := na)
theorem op_neTyG (hu : X.A.units + 1 < cLine) : OpR X (compareOp .NotEq) rNeTyG := by
  intro pins st σ H x y v u Q J rx ry h
  obtain ⟨m, n, rfl, rfl, hm, hn, q⟩ := h
  cases (show v = Value.type m from rx)
  cases (show u = Value.type n from ry)
  by_cases e : m = n
  · subst e
    exact ne_type_same hm hu ⟨.bl false, H, J, rfl, by simpa using q⟩
  · exact ne_type_other hm hn (by rw [beq_eq_false_iff_ne]; exact fun z => e (Value.type.inj z)) hu ⟨.bl true, H, J, rfl, by simpa [e] using q⟩
end
section
variable {K : PySem.W.Frag} {σ : L2.St} {H : Hp} {ta tb : TE}
/-- the name of a thing's type -/
theorem th_type {v : V} {o : Option (List PyData)} (h : Th K H v o) : ∃ n, (zTyV v H = some n ∨ (n = "dict" ∧ ∃ a kvs, v = .ref a ∧ H a = some (.dK kvs))) ∧ Meta n ∧ (n = "list" ↔ o.isSome = true) := by
  cases h with
  | non => exact ⟨"NoneType", .inl rfl, PySem.TypeEq.meta_NoneType, by simp⟩
  | bl b => exact ⟨"bool", .inl rfl, PySem.TypeEq.meta_bool, by simp⟩
  | int i => exact ⟨"int", .inl rfl, PySem.TypeEq.meta_int, by simp⟩
  | str x => exact ⟨"str", .inl rfl, PySem.TypeEq.meta_str, by simp⟩
  | tup h => exact ⟨"tuple", .inl (by simp [zTyV, h]), PySem.TypeEq.meta_tuple, by simp⟩
  | dct h => exact ⟨"dict", .inr ⟨rfl, _, _, rfl, h⟩, PySem.TypeEq.meta_dict, by simp⟩
  | lst h _ _ => exact ⟨"list", .inl (by simp [zTyV, h]), PySem.TypeEq.meta_list, by simp⟩
/-- type(v) != list -/
theorem ev_noList {v : V} {o : Option (List PyData)} (h : Ev ta σ H v) (hv : Th K H v o) : Ev (tOp rNeTyG (tThenZ ta kTyp2) (tC (.ty "list"))) σ H (.bl (!o.isSome)) := fun H1 e Q q => h H1 e _ fun H2 e2 => by
  obtain ⟨n, hn, mt, iff⟩ := th_type (hv.ex (e.trans e2))
  refine ⟨n, hn, n, "list", rfl, rfl, mt, PySem.TypeEq.meta_list, ?_⟩
  have : decide (n = "list") = o.isSome := by
    rw [Bool.eq_iff_iff, decide_eq_true_iff]
    exact iff
  rw [this]
  exact q H2 e2
theorem th_is {v : V} {o : Option (List PyData)} (h : Th K H v o) : ∃ n, TyX K H v (.type n) ∧ PySem.W.kitOne K (.type n) (.type "list") = some o.isSome := by
  cases h with
  | non => exact ⟨_, .base .non, rfl⟩
  | bl b => exact ⟨_, .base (.bl b), rfl⟩
  | int i => exact ⟨_, .base (.int i), rfl⟩
  | str x => exact ⟨_, .base (.str x), rfl⟩
  | tup h => exact ⟨_, .base (.tup h), rfl⟩
  | dct h => exact ⟨_, .base (.dK h), rfl⟩
  | lst h _ _ => exact ⟨_, .base (.lst h), rfl⟩
/-- isinstance(v, list) -/
theorem ev_isList {v : V} {o : Option (List PyData)} (h : Ev ta σ H v) (hv : Th K H v o) : Ev (tCB (rIsi K) (tCons ta (tCons (tC (.ty "list")) tNil))) σ H (.bl o.isSome) := fun H1 e Q q => h H1 e _ fun H2 e2 => by
  obtain ⟨n, ht, hk⟩ := th_is (hv.ex (e.trans e2))
  exact ⟨v, .ty "list", .type n, .type "list", o.isSome, rfl, .ty "list", ht, hk, q H2 e2⟩
def isI : PyData → Bool
  | .int _ => true
  | _ => false
theorem it_type {v : V} {d : PyData} (h : It K H v d) : ∃ n, zTyV v H = some n ∧ Meta n ∧ decide (n = "int") = isI d := by
  cases h with
  | non => exact ⟨"NoneType", rfl, PySem.TypeEq.meta_NoneType, by simp [isI]⟩
  | bl b => exact ⟨"bool", rfl, PySem.TypeEq.meta_bool, by simp [isI]⟩
  | int i => exact ⟨"int", rfl, PySem.TypeEq.meta_int, by simp [isI]⟩
  | str x => exact ⟨"str", rfl, PySem.TypeEq.meta_str, by simp [isI]⟩
  | lst h _ => exact ⟨"list", by simp [zTyV, h], PySem.TypeEq.meta_list, by simp [isI]⟩
/-- type(v) == int -/
theorem ev_isWhole {v : V} {d : PyData} (h : Ev ta σ H v) (hv : It K H v d) : Ev (tOp rEqTy (tThenZ ta kTyp) (tC (.ty "int"))) σ H (.bl (isI d)) := fun H1 e Q q => h H1 e _ fun H2 e2 => by
  obtain ⟨n, hn, mt, iff⟩ := it_type (hv.ex (e.trans e2))
  refine ⟨n, hn, n, "int", rfl, rfl, mt, PySem.TypeEq.meta_int, ?_⟩
  rw [iff]
  exact q H2 e2
def isB : PyData → Bool
  | .bool _ => true
  | _ => false
theorem it_isB {v : V} {d : PyData} (h : It K H v d) : ∃ n, TyX K H v (.type n) ∧ PySem.W.kitOne K (.type n) (.type "bool") = some (isB d) := by
  cases h with
  | non => exact ⟨_, .base .non, rfl⟩
  | bl b => exact ⟨_, .base (.bl b), rfl⟩
  | int i => exact ⟨_, .base (.int i), rfl⟩
  | str x => exact ⟨_, .base (.str x), rfl⟩
  | lst h _ => exact ⟨_, .base (.lst h), rfl⟩
theorem it_isI {v : V} {d : PyData} (h : It K H v d) : ∃ n, TyX K H v (.type n) ∧ PySem.W.kitOne K (.type n) (.type "int") = some (isI d || isB d) := by
  cases h with
  | non => exact ⟨_, .base .non, rfl⟩
  | bl b => exact ⟨_, .base (.bl b), rfl⟩
  | int i => exact ⟨_, .base (.int i), rfl⟩
  | str x => exact ⟨_, .base (.str x), rfl⟩
  | lst h _ => exact ⟨_, .base (.lst h), rfl⟩
/-- isinstance(v, bool) or not isinstance(v, int) -/
theorem et_noInt {v : V} {d : PyData} (h : Ev ta σ H v) (hv : It K H v d) : EvT (tOr (tB (tCB (rIsi K) (tCons ta (tCons (tC (.ty "bool")) tNil)))) (tNot (tB (tCB (rIsi K) (tCons ta (tCons (tC (.ty "int")) tNil)))))) σ H (!isI d) := by
  have one : Ev (tCB (rIsi K) (tCons ta (tCons (tC (.ty "bool")) tNil))) σ H (.bl (isB d)) := fun H1 e Q q => h H1 e _ fun H2 e2 => by
    obtain ⟨n, ht, hb⟩ := it_isB (hv.ex (e.trans e2))
    exact ⟨v, .ty "bool", _, .type "bool", _, rfl, .ty "bool", ht, hb, q H2 e2⟩
  have two : Ev (tCB (rIsi K) (tCons ta (tCons (tC (.ty "int")) tNil))) σ H (.bl (isI d || isB d)) := fun H1 e Q q => h H1 e _ fun H2 e2 => by
    obtain ⟨n, ht, hb⟩ := it_isI (hv.ex (e.trans e2))
    exact ⟨v, .ty "int", _, .type "int", _, rfl, .ty "int", ht, hb, q H2 e2⟩
  refine et_is (et_or (et_B one) fun _ => et_not (et_B two)) ?_
  cases d <;> rfl
end
/-! tuple(range(a, b, c)) -/
def tTupRgC (te : L2.St → Hp → (Int → Int → Int → Hp → Prop) → Prop) : TE := fun σ H Q => te σ H fun a b c H1 => ∃ n : Nat, (Builtin.Range.small a b c = true ∧ Builtin.Range.rangeSize a b c = n ∧ n ≤ 2 ^ 24) ∧ ∀ q, H1 q = none → Q (.ref q) (upd H1 q (.tup (rgC a c n)))
theorem pe_tupRgC {X : Cx} {e : Expr} {te : L2.St → Hp → (Int → Int → Int → Hp → Prop) → Prop} {p pos : Pos} (calm : X.calm = true) (hg : Gl X "tuple") (hm : X.mg "tuple" = none) (he : PRgC X e te) (na : starEach [e] X.env = (false, eval e X.env) :: starEach [] X.env := by rfl) : PE X (.Call (.Name "tuple" p) [e] [] pos) (tTupRgC te) := by
  refine ⟨fun pins st σ H Q J h => ?_⟩
  refine Call_ (ld_blt J hg hm boot_tuple (PyProof.Rows.callWith_type1 (args_cons (thn (he pins st σ H _ J h) fun x s1 ⟨r, a, b, c, t, u, v, H1, ex, hr, J1, n, ⟨o1, o2, o3⟩, q⟩ => args_nil ?_) na) na))
  subst ex
  refine call_tuple_range (n := n) (J1.ok.hd calm) hr o1 o2 o3 fun h' tk acc keep its => ?_
  have J2 : Inv X pins σ H1 { s1 with heap := h', toks := tk } := J1.kept keep
  refine ⟨.ref h'.objs.size, upd H1 h'.objs.size (.tup (rgC a c n)), J2.laid (t' := tk) (fun z o e => Heap.get?_push_of_some _ e) (Nat.le_refl _) (show ObjOk X.prog X.w _ _ _ (.tup (rgC a c n)) from ⟨?_, acc.toList, vals_rgC its, ?_⟩), rfl, q _ (J2.hok.fresh (Nat.le_refl _))⟩
  · unfold rgC
    rw [List.length_map, List.length_range, sizeLine_eq]
    omega
  · rw [Array.toArray_toList]
    exact IsTup.new _ _
theorem eu_down {σ : L2.St} {H : Hp} {ta : TA} {i j : Int} (h : EvA ta σ H [.int i, .int j, .int (-1)]) (hi : 0 ≤ i ∧ i ≤ 1000) (hj : -1 ≤ j ∧ j ≤ 1000) : EvU (tTupRgC (tRg3 ta)) σ H (rgC i (-1) (i - j).toNat) := fun H1 e Q q =>
  h H1 e _ fun H2 e2 => ⟨i, j, -1, rfl, ⟨by decide, by decide⟩, (i - j).toNat, ⟨(RgC.neg (by omega) (by omega) (by omega) (by omega)).2.2.1, (RgC.neg (by omega) (by omega) (by omega) (by omega)).2.2.2, by omega⟩, fun l hl => q l _ (fresh_back e2 hl) (e2.trans (Ex.new hl)) upd_same⟩
/-! xs.index(x) where the written part must be said -/
theorem pe_indexK {X : Cx} {K : PySem.W.Frag} {o e : Expr} {to te : TE} {apos cpos : Pos} (hK : X.K = K) (ho : PE X o to) (he : PE X e te) (b : attributeBase o "index" X.env (eval o X.env) = eval o X.env := by rfl)
    (few : ((backTo cpos (starEach [e] X.env)).all (fun x => !x.1) && (backToKw cpos (keywordEach [] X.env)).all (fun x => x.1.isSome) && decide ([e].length + ([] : List Keyword).length + (if ([] : List Keyword).isEmpty then 0 else 1) < 30)) = true := by rfl)
    (line : (apos.endLine == cpos.line) = true := by rfl) (st : starEach [e] X.env = (false, eval e X.env) :: starEach [] X.env := by rfl) (pl : (backTo cpos (starEach [] X.env)).any (·.1) = false := by rfl) :
    PE X (.Call (.Attribute o "index" apos) [e] [] cpos) (tBM K "list" (rIndex K) to (tCons te tNil)) := by
  subst hK
  exact pe_bm PySem.F.plainAttrs_list PySem.F.slot_list_index PySem.F.type_list_index mt_index ho (pa_cons he pa_nil st) b few line st pl
theorem pe_revLK {X : Cx} {K : PySem.W.Frag} {e : Expr} {te : TE} {k : Nat} {p1 p2 p3 pos : Pos} (hK : X.K = K) (he : PE X e te) : PE X (.Subscript e (.Slice none none (some (.UnaryOp .USub (.Constant (.int 1) k p1) p2)) p3) pos) (tRevL K te) := by
  subst hK
  exact pe_revL he
end Kit

set_option Elab.async false
set_option linter.all false
set_option maxRecDepth 100000
set_option maxHeartbeats 4000000
namespace Kit
open PySem PySem.Spec PyProof.Rows L2 Evl
/-! ### defs that may raise -/
section
variable {P : Program} {w : World} {K : PySem.W.Frag} {mg : Str → Option Value} {base : Heap}
theorem okN {x qual : Str} {d : Stmt} {f : Addr} {fd : FuncData} {N names : List Str} {n : Nat} {want : Sp} (F : Fun K x qual d f fd) (S : FnScope N names (defScope d)) (many : ∀ xs H Q E, want xs H Q E → xs.length = names.length)
    (body : ∀ (cv : Value) (A : Around) (frames : List Env) (st : Shared) (H : Hp) (xs : List V) (Q : VK) (E : XK), Room n (A.deeper (envOfC qual (defScope d) st.heap.objs.size f cv)) → want xs H Q E →
      ∃ t, PSs (cxOf (L2N.CX P w) P w K mg base N qual (defScope d) f cv A frames st H E) (defBody d) t ∧ t { nx := fun _ H' => Q .non H', rt := Q } (start N xs) H) : FnOk P w K mg base (L2N.CX P w) (n + 1) f fd names want := by
  obtain ⟨oc, od, kV, doc, pm, an, cdv, ct, osl, rfl, lk, hcd⟩ := F.ex
  exact fn_of lk hcd S many fun A outer s H vs Q E hr hsp => body cdv A outer s H vs Q E hr hsp
theorem passN {N : List Str} {qual : Str} {sc : Scope} {f : Addr} {cv : Value} {A : Around} {frames : List Env} {st : Shared} {H : Hp} {E : XK} :
    Passes (L2N.CX P w) (cxOf (L2N.CX P w) P w K mg base N qual sc f cv A frames st H E) E := L2N.passes_call (W := fun cls d _ H => E cls d H) (L2N.takes_of rfl rfl rfl rfl) fun _ _ _ _ h => h
theorem passE0 {X : Cx} : Passes (L2N.CX X.prog X.w) X E0 := fun _ _ _ _ _ _ _ h => by
  obtain ⟨_, _, _, _, _, _, _, _, _, _, _, _, z⟩ := h
  exact z.elim
theorem takesN {N : List Str} {qual : Str} {sc : Scope} {f : Addr} {cv : Value} {A : Around} {frames : List Env} {st : Shared} {H : Hp} {E : XK} :
    L2N.Takes (cxOf (L2N.CX P w) P w K mg base N qual sc f cv A frames st H E) (fun cls d _ H => E cls d H) := L2N.takes_of rfl rfl rfl rfl
end
theorem takes0N {X : Cx} : L2N.Takes X.nox (fun _ _ _ _ => False) := fun _ _ x => by
  obtain ⟨_, _, _, _, _, _, _, _, _, _, _, _, _, _, _, _, z⟩ := x
  exact z.elim
/-! ### exceptions made: X(e) -/
theorem pmk1N {X : Cx} {C : Addr} {bmB : List Value} {B newId initId : String} {x : Str} {e : Expr} {ta : TE} {p pos : Pos} (F : ExcBaseFacts B newId initId bmB) (q : PySem.W.excIn X.K C bmB newId = true) (gC : X.mg x = some (.ref C)) (kC : PySem.W.keepIn X.K (.ref C) = true) (r : Raises X (.ref C)) (hg : Gl X x)
    (he : PE X e ta) (hs : starEach [e] X.env = (false, eval e X.env) :: starEach [] X.env := by rfl) (hdb : (x == ("__debug__" : Str)) = false := by decide) :
    L2N.PMk X (.Call (.Name x p) [e] [] pos) (fun σ H Q => ta σ H fun _ H1 => Q (.ref C) none H1) := by
  intro pins st σ H Q J h
  refine wpAny_Call_Name_kw (ld_glob J hg gC (PySem.W.callWith_K (h₀ := X.base) J.ok.mod.kin kC ?_ hs (by rfl)) hdb)
  rw [hs]
  show wpAny _ _ (spliced ((false, eval e X.env) :: backTo pos (starEach [] X.env))) _ _ st
  refine Calls.spliced_cons (thn (he.run pins st σ H _ J h) fun u st1 ⟨v, H1, J1, rv, want⟩ => Calls.spliced_nil ⟨J1.kIn, ?_⟩)
  show wpAny _ _ (call (.ref C) [u]) _ _ _
  obtain ⟨_, _, _, _, _, _, _, _, _, _, _, _, _, _, _, _, _, cls, ns, no, tail⟩ := exc_obj J1.kIn q
  exact wpAny_call_exc_subT F tail cls ns no (fun h2 a made => L2N.mk_of J1 made r want (J1.hok.gone made.new)) (by show 1 ≤ sizeLine; rw [sizeLine_eq]; omega)
/-- what an own class of errors must be -/
def excB (K : PySem.W.Frag) (C : Addr) : Bool := PySem.W.excIn K C [.type "ValueError", .type "Exception", .type "BaseException", .type "object"] "ValueError.__new__" && (PySem.W.keepIn K (.ref C) &&
  (decide (PySem.W.subIn K (.ref C) (.type "BaseException") = some true) && (decide (PySem.W.typeIn K (.ref C) = some (.type "type")) &&
  (decide (PySem.W.findIn K (.ref C) "__getattribute__" = some (some (.builtin "BaseException.__getattribute__"))) && (decide (PySem.W.findIn K (.ref C) "__getattr__" = some none) &&
  (PySem.W.hasDictIn K C && (decide (PySem.W.findIn K (.ref C) "__class__" = some (some (.builtin "object.__class__"))) && (decide (PySem.W.specialIn K (.builtin "object.__class__") "__get__" = some (some (.builtin "getset_descriptor.__get__"))) &&
  (decide (PySem.W.takesIn K (.builtin "object.__class__") = some true) && decide (PySem.W.mroIn K C (.type "object") = some true))))))))))
structure ExcD (K : PySem.W.Frag) (C : Addr) : Prop where
  ein : PySem.W.excIn K C [.type "ValueError", .type "Exception", .type "BaseException", .type "object"] "ValueError.__new__" = true
  kp : PySem.W.keepIn K (.ref C) = true
  sb : PySem.W.subIn K (.ref C) (.type "BaseException") = some true
  ty : PySem.W.typeIn K (.ref C) = some (.type "type")
  is : ExcC K C
theorem excD_of {K : PySem.W.Frag} {C : Addr} (h : excB K C = true) : ExcD K C := by
  obtain ⟨h1, h⟩ := Bool.and_eq_true_iff.mp h
  obtain ⟨h2, h⟩ := Bool.and_eq_true_iff.mp h
  obtain ⟨h3, h⟩ := Bool.and_eq_true_iff.mp h
  obtain ⟨h4, h⟩ := Bool.and_eq_true_iff.mp h
  obtain ⟨h5, h⟩ := Bool.and_eq_true_iff.mp h
  obtain ⟨h6, h⟩ := Bool.and_eq_true_iff.mp h
  obtain ⟨h7, h⟩ := Bool.and_eq_true_iff.mp h
  obtain ⟨h8, h⟩ := Bool.and_eq_true_iff.mp h
  obtain ⟨h9, h⟩ := Bool.and_eq_true_iff.mp h
  obtain ⟨h10, h11⟩ := Bool.and_eq_true_iff.mp h
  exact ⟨h1, h2, of_decide_eq_true h3, of_decide_eq_true h4, ⟨of_decide_eq_true h5, of_decide_eq_true h6, of_decide_eq_true h3, h7, of_decide_eq_true h8, of_decide_eq_true h9, of_decide_eq_true h10, of_decide_eq_true h11⟩⟩
/-- what isinstance says of an error of the class C, class by class -/
def isRow (K : PySem.W.Frag) (C : Addr) (l : List (Value × Bool)) : Bool := l.all fun x => decide (PySem.W.kitOne K (.ref C) x.1 = some x.2)
theorem isRow_at {K : PySem.W.Frag} {C : Addr} {l : List (Value × Bool)} (h : isRow K C l = true) {v : Value} {b : Bool} (m : (v, b) ∈ l) : PySem.W.kitOne K (.ref C) v = some b := of_decide_eq_true (List.all_eq_true.mp h _ m)
/-- raise X(e) -/
theorem ps_raiseN {X : Cx} {C : Addr} {W : WX} {x : Str} {e : Expr} {ta : TE} {p pos pos2 : Pos} (hc : X.calm = true) (tk : L2N.Takes X W) (D : ExcD X.K C) (gC : X.mg x = some (.ref C)) (hg : Gl X x)
    (he : PE X e ta) (hs : starEach [e] X.env = (false, eval e X.env) :: starEach [] X.env := by rfl) (hdb : (x == ("__debug__" : Str)) = false := by decide) :
    PS X (.Raise (some (.Call (.Name x p) [e] [] pos)) none pos2) (fun _ σ H => ta σ H fun _ H1 => W (.ref C) none σ H1) :=
  L2N.ps_raise hc tk (pmk1N PySem.F.excBase_ValueError D.ein gC D.kp (raises_own D.sb D.ty) hg he hs hdb)
/-! ### calls within the suite, the exception handed on -/
structure FnP (P : Program) (w : World) (K : PySem.W.Frag) (mg : Str → Option Value) (base : Heap) (CX : CXT) (k : Nat) (f : Addr) (fd : FuncData) (ps : List Str) (sp : Addr → Value → Option Addr → Sp) : Prop where
  len : ∀ a cls d vs H Q E, sp a cls d vs H Q E → vs.length = ps.length
  run : ∀ (A : Around) (outer : List Env) (s : Shared) (H : Hp) (args : Args) (us : List Value) (vs : List V) (Q : VK) (E : XK) (p : Addr × Obj) (cls : Value) (d : Option Addr), L2H.RoomH k A → L2H.Hot1 A p → Zc cls d p.2 → L2H.PinOk outer H s p → Env0 P w K mg base A outer s H → BindsTo s fd args (ps.zip us) → Vals vs us → sp p.1 cls d vs H Q E →
    codeAny (model P w) A (.call (.ref f) args) (CR CX outer P w H s Q E) s
theorem okP {CX : CXT} {P : Program} {w : World} {K : PySem.W.Frag} {mg : Str → Option Value} {base : Heap} {k : Nat} {f : Addr} {x qual : Str} {d : Stmt} {fd : FuncData} {N ps : List Str} {sp : Addr → Value → Option Addr → Sp} (F : Fun K x qual d f fd) (S : FnScope N ps (defScope d))
    (len : ∀ a cls d vs H Q E, sp a cls d vs H Q E → vs.length = ps.length)
    (hbody : ∀ (cdv : Value) (A : Around) (outer : List Env) (s : Shared) (H : Hp) (vs : List V) (Q : VK) (E : XK) (p : Addr × Obj) (cls : Value) (dd : Option Addr), L2H.Hot1 A p → Zc cls dd p.2 → L2H.RoomH k (A.deeper (envOfC qual (defScope d) s.heap.objs.size f cdv)) → sp p.1 cls dd vs H Q E →
      ∃ t, PSs (L2H.cxH CX P w K mg base N qual (defScope d) f cdv A outer s H E p) (defBody d) t ∧ t { nx := fun _ H' => Q .non H', rt := Q } (L2.start N vs) H) :
    FnP P w K mg base CX (k + 1) f fd ps sp := by
  obtain ⟨oc, od, kV, doc, pm, an, cdv, ct, osl, rfl, lk, hcd⟩ := F.ex
  refine ⟨len, fun A outer s H args us vs Q E p cls dd hr hot hz hpin e0 hb r hsp => ?_⟩
  have size := len _ _ _ _ _ _ _ hsp
  have inK : K.In s.heap := e0.mod.kin.keeps fun b o q => (e0.bs b o q).1
  have noLim : s.heap.NoLimit := e0.mod.nolimit.keeps fun b o q => (e0.bs b o q).1
  have kinds : ∀ y ∈ ps.zip us, (defScope d).names.lookup y.1 = some .local ∨ ((defScope d).names.lookup y.1 = some .cell ∧ ((cellsFrom (s.heap.objs.size + 1) (defScope d).names []).lookup y.1).isSome = true) := by
    rintro ⟨a, b⟩ hy
    exact (S.par a (List.of_mem_zip hy).1).elim .inl fun q => .inr ⟨q, PySem.W.cellsFrom_some _ _ _ (.inl q)⟩
  refine codeAny_call_function hr.depth (inK _ _ lk) rfl S.co S.gen rfl (PySem.W.codeRec_of inK hcd) (hb _ _ _ _ (wpAny_newFunctionEnv_cells S.kind kinds fun env eq st1 made => ?_))
  cases eq
  refine ⟨noLim.keeps made.toInCall.keep, codeAny_func ?_⟩
  obtain ⟨t, rule, done⟩ := hbody cdv A outer s H vs Q E p cls dd hot hz (hr.deeper _) hsp
  have J : Inv (L2H.cxH CX P w K mg base N qual (defScope d) f cdv A outer s H E p) [] (L2.start N vs) H st1 := L2H.inv_startH S hpin e0 size r made
  have back : ∀ {σ' : L2.St} {H' : Hp} {v : V} {u : Value} {st2 : Shared}, Inv (L2H.cxH CX P w K mg base N qual (defScope d) f cdv A outer s H E p) [] σ' H' st2 → RelV v u → Q v H' → CE outer P w H s Q u st2 := fun J2 rv q => ⟨_, _, J2.os, J2.bare, J2.base, J2.hok, rv, q⟩
  refine wpAny_mono (rule.run [] st1 (L2.start N vs) H _ J done) (fun z st2 hs => ?_) fun _ _ hs => hs
  match z, hs with
  | .ret u, ⟨v, σ2, H2, J2, rv, q⟩ => exact back J2 rv q
  | .next, ⟨σ2, H2, J2, q⟩ => exact back (v := V.non) (u := Value.none) J2 rfl q
  | .brk, ⟨_, _, _, q⟩ => exact False.elim q
  | .cont, ⟨_, _, _, q⟩ => exact False.elim q
def tCallP (sp : Addr → Value → Option Addr → Sp) (a : Addr) (cls : Value) (d : Option Addr) (t : TA) : TE := fun σ H Q => t σ H fun vs H1 => sp a cls d vs H1 Q E0
/-- f(e, ..) in the suite of the exception p -/
theorem pe_callP {X : Cx} {k : Nat} {f : Addr} {fd : FuncData} {ps : List Str} {sp : Addr → Value → Option Addr → Sp} {x : Str} {q pos : Pos} {e : Expr} {es : List Expr} {t : TA} {p : Addr × Obj} {cls : Value} {d : Option Addr} (F : FnP X.prog X.w X.K X.mg X.base CX0 k f fd ps sp) (room : L2H.RoomH k X.A) (hot : L2H.Hot1 X.A p) (hz : Zc cls d p.2) (hp : p ∈ X.pn)
    (gl : Gl X x) (at_ : X.mg x = some (.ref f)) (keep : PySem.W.keepIn X.K (.ref f) = true) (bind : Binds X.K fd ps []) (ha : PA X (e :: es) t) (nd : (x == ("__debug__" : Str)) = false := by decide)
    (one : starEach (e :: es) X.env = (false, eval e X.env) :: starEach es X.env := by rfl) (plain : (backTo pos (starEach es X.env)).any (·.1) = false := by rfl) : PE X (.Call (.Name x q) (e :: es) [] pos) (tCallP sp p.1 cls d t) := by
  refine ⟨fun pins st σ H Q J h => wpAny_Call_Name_kw (ld_glob J gl at_ ?_ nd)⟩
  refine PySem.W.callWith_K (h₀ := X.base) J.ok.mod.kin keep (thn (ha.run pos pins st σ H _ J h) fun us st1 ⟨vs, H1, J1, r, want⟩ => ⟨J1.kIn, ?_⟩) one plain
  have size : us.length = ps.length := r.length.symm.trans (F.len _ _ _ _ _ _ _ want)
  have bd := bind st1 us J1.kIn (by rw [List.append_nil]; exact size)
  rw [List.append_nil] at bd
  have P1 := J1.pin p (List.mem_append_left _ hp)
  have pin : L2H.PinOk X.stack H1 st1 p := ⟨P1.1, P1.2.1, fun hm => (List.mem_cons.mp (J1.stkSub p.1 hm)).elim P1.2.2.1 P1.2.2.2.1, P1.2.2.2.2⟩
  refine wpAny_call (codeAny_mono (F.run X.A X.stack st1 H1 ⟨us, []⟩ us vs Q E0 p cls d room hot hz pin J1.env0 bd r want) fun res st2 hq => ?_)
  match res, hq with
  | .error _, hq => exact False.elim hq
  | .ok (.ret _), hq => exact J1.after hq
  | .ok .next, hq => exact False.elim hq
  | .ok .brk, hq => exact False.elim hq
  | .ok .cont, hq => exact False.elim hq
theorem hot_suite {A : Around} {a : Addr} {oe : Obj} {cls : Value} {d : Option Addr} (hz : L2N.Zn cls d oe) (hf : ∃ vs, oe.data = .fields vs) : L2H.Hot1 (A.mark (some (.ref a))) (a, oe) :=
  ⟨rfl, hf.imp fun vs e => ⟨e, hz.2.2 vs e⟩⟩
theorem roomS {A : Around} {x : Option Value} {k : Nat} (r : Room k A) : L2H.RoomH k (A.mark x) := ⟨r.dp, r.un⟩
/-- isinstance(e, c), e the exception p -/
theorem call_isP {X : Cx} {p : Addr × Obj} {D : Addr} (C : ExcD X.K D) (hp : p ∈ X.pn) (hz : Zc (.ref D) none p.2) (hf : ∃ vs, p.2.data = .fields vs) : CallR X (.builtin "isinstance") (rIsE X.K D p.1) := by
  intro pins st σ H xs us Q J r h
  obtain ⟨c, cv, b, rfl, same, e, q⟩ := h
  cases r with
  | cons ra rest =>
    cases rest with
    | cons rc rest =>
      cases rest
      cases ra
      have ec := same _ rc
      subst ec
      obtain ⟨there, _⟩ := J.pin p (List.mem_append_left _ hp)
      obtain ⟨vs, hv⟩ := hf
      have inst : PySem.W.InstAt st.heap p.1 p.2 D none := ⟨there, hz.1, by unfold PySem.W.notCls; rw [hv] <;> rfl, by rw [hz.2]; trivial⟩
      have Z := PySem.W.handS_kitx_exc (x := p.1) (ox := p.2) C.is.hg C.is.hk C.is.hs C.is.hd C.is.ha C.is.hn C.is.ht C.is.hm
      exact PySem.W.kia_one Z J.kIn inst e (fun z => nomatch z) fun tk => ⟨.bl b, H, J.kept (t' := tk) fun _ _ z => z, rfl, q⟩
/-! ### readings -/
/-- what is due: nothing, or an error -/
structure Out (due : Option Addr) (H : Hp) (Q : VK) (E : XK) : Prop where
  no : due = none → ∀ v H1, Ex H H1 → Q v H1
  yes : ∀ C, due = some C → ∀ H1, Ex H H1 → E (.ref C) none H1
section
variable {K : PySem.W.Frag} {σ : L2.St} {H H' : Hp} {ta : TA} {tz : TS} {D : Ends} {E : XK} {sp : Sp} {vs dvs : List V} {te tf : TE}
theorem ev_isP {a C : Addr} {c : V} {cv : Value} {b : Bool} (h0 : Ev te σ H (.ref a)) (h1 : Ev tf σ H c) (hc : ∀ u, RelV c u → u = cv) (hk : PySem.W.kitOne K (.ref C) cv = some b) : Ev (tCB (rIsE K C a) (tCons te (tCons tf tNil))) σ H (.bl b) := fun H1 e Q q =>
  h0 H1 e _ fun H2 e2 => h1 H2 (e.trans e2) _ fun H3 e3 => ⟨c, cv, b, rfl, hc, hk, q H3 (e2.trans e3)⟩
def SpO (sp : Sp) (vs : List V) (H : Hp) (due : Option Addr) : Prop := ∀ H1, Ex H H1 → ∀ (Q : VK) (E : XK), Out due H1 Q E → sp vs H1 Q E
theorem Out.mono {due : Option Addr} {Q : VK} {E : XK} (e : Ex H H') (h : Out due H Q E) : Out due H' Q E := ⟨fun z v H1 e1 => h.no z v H1 (e.trans e1), fun C z H1 e1 => h.yes C z H1 (e.trans e1)⟩
/-- f(..) that raises what is due, and the rest -/
theorem q_chk {due : Option Addr} (ha : EvA ta σ H vs) (hs : SpO sp (vs ++ dvs) H due) (k : due = none → ∀ H1, Ex H H1 → tz D σ H1) (ke : ∀ C, due = some C → ∀ H1, Ex H H1 → E (.ref C) none H1) : tSeq (tDrop (tCall sp dvs E ta)) tz D σ H :=
  ha H (Ex.refl H) _ fun H1 e1 => hs H1 e1 _ _ ⟨fun z v H2 e2 => k z H2 (e1.trans e2), fun C z H2 e2 => ke C z H2 (e1.trans e2)⟩
theorem unseq {t : TS} (h : t { D with nx := tz D } σ H) : tSeq t tz D σ H := h
/-- x = f(..), whatever f promises -/
theorem q_asgCall {i : Nat} (ha : EvA ta σ H vs) (k : ∀ H1, Ex H H1 → sp (vs ++ dvs) H1 (fun v H2 => tz D (σ.set i (some v)) H2) E) : tSeq (tAsg (tCall sp dvs E ta) (gName i)) tz D σ H := ha H (Ex.refl H) _ fun H1 e1 => k H1 e1
theorem s_retCall (ha : EvA ta σ H vs) (k : ∀ H1, Ex H H1 → sp (vs ++ dvs) H1 D.rt E) : tRet (tCall sp dvs E ta) D σ H := ha H (Ex.refl H) _ fun H1 e1 => k H1 e1
/-- the same as one of the ways of a try -/
theorem s_chkS {due : Option Addr} {W : WX} (ha : EvA ta σ H vs) (hs : SpO sp vs H due) (k : due = none → ∀ H1, Ex H H1 → D.nx σ H1) (ke : ∀ C, due = some C → ∀ H1, Ex H H1 → W (.ref C) none σ H1) : tDrop (tCallS sp (WE W) ta) D σ H :=
  ha H (Ex.refl H) _ fun H1 e1 => hs H1 e1 _ _ ⟨fun z v H2 e2 => k z H2 (e1.trans e2), fun C z H2 e2 => ke C z H2 (e1.trans e2)⟩
/-- [e for x in f(..)] -/
theorem lc_call {K : PySem.W.Frag} {g : TG} {t : TT} {te : TE} {ns : List Nat} {Q : VK} (ha : EvA ta σ H vs) (k : ∀ H1, Ex H H1 → sp (vs ++ dvs) H1 (fun x H2 => tLc (iList K fun _ H' Q' => Q' x H') g t te ns σ H2 Q) E) : tLc (iList K (tCall sp dvs E ta)) g t te ns σ H Q := ha H (Ex.refl H) _ fun H1 e1 => k H1 e1
/-- what a walk over a list wants of it -/
def ForQ (K : PySem.W.Frag) (g : TG) (tu : TS) (D : Ends) (σ : L2.St) : VK := fun x H1 => ∃ a, x = .ref a ∧ (∃ xs, SqL K H1 a xs) ∧ ∃ W : Nat → Nat → L2.St → Hp → Prop, (∃ m, W 0 m σ H1) ∧ ∀ i m σ H, W i m σ H →
  ((Itl K a).stop i H ∧ D.nx σ H) ∨ ((Itl K a).go i H ∧ ∃ N : L2.St → Hp → Prop, (∀ σ' H', N σ' H' → ∃ m', m' < m ∧ W (i + 1) m' σ' H') ∧ ∀ x H', (Itl K a).yld i H x H' → g x σ H' fun σ2 H2 => tu { D with nx := N, ct := N, bk := D.nx } σ2 H2)
theorem forQ_of {K : PySem.W.Frag} {g : TG} {tu : TS} {a : Addr} {xs : List V} (Pv : Nat → L2.St → Hp → Prop) (h0 : Pv 0 σ H) (hl : ∀ i σ' H', i ≤ xs.length → Pv i σ' H' → SqL K H' a xs)
    (hs : ∀ i x σ' H', xs[i]? = some x → Pv i σ' H' → g x σ' H' fun σ2 H2 => tu { D with nx := Pv (i + 1), ct := Pv (i + 1), bk := D.nx } σ2 H2) (hd : ∀ σ' H', Pv xs.length σ' H' → D.nx σ' H') : ForQ K g tu D σ (.ref a) H :=
  ⟨a, rfl, ⟨xs, hl 0 σ H (Nat.zero_le _) h0⟩, for_list Pv h0 hl hs hd⟩
/-- for x in f(..) -/
theorem q_forCall {K : PySem.W.Frag} {g : TG} {tu : TS} (ha : EvA ta σ H vs) (k : ∀ H1, Ex H H1 → sp (vs ++ dvs) H1 (ForQ K g tu { D with nx := tz D } σ) E) : tSeq (tFor (iList K (tCall sp dvs E ta)) g tu) tz D σ H := ha H (Ex.refl H) _ fun H1 e1 => k H1 e1
theorem s_forCall {K : PySem.W.Frag} {g : TG} {tu : TS} (ha : EvA ta σ H vs) (k : ∀ H1, Ex H H1 → sp (vs ++ dvs) H1 (ForQ K g tu D σ) E) : tFor (iList K (tCall sp dvs E ta)) g tu D σ H := ha H (Ex.refl H) _ fun H1 e1 => k H1 e1
end
/-! ### xs.count(x) of flat values -/
def rCntF (K : PySem.W.Frag) : V → List V → Hp → VK → Prop := fun x xs H Q => ∃ (p : Addr) (ys : List V) (y : V), x = .ref p ∧ xs = [y] ∧ SqL K H p ys ∧ flatV y = true ∧ ys.all flatV = true ∧ Q (.int ((ys.countP fun z => eqV z y : Nat) : Int)) H
theorem countP_eqU {y : V} : ∀ {ys : List V} {us : List Value}, Vals ys us → ys.all flatV = true → us.countP (eqU y) = ys.countP fun z => eqV z y
  | _, _, .nil, _ => rfl
  | _, _, .cons r t, f => by
    rw [List.all_cons, Bool.and_eq_true] at f
    have ih := countP_eqU (y := y) t f.2
    rw [List.countP_cons, List.countP_cons, ih, eqU_of r f.1]
theorem mt_countF {X : Cx} : MtR X "list.count" (rCntF X.K) := by
  intro pins st σ H x xs v us Q J rx rxs h
  obtain ⟨p, ys, y, rfl, rfl, sq, fy, fys, q⟩ := h
  cases rx
  cases rxs with
  | cons ry rest =>
    rename_i uy ut
    cases rest
    obtain ⟨its, rv, ⟨⟨c, dd, dat, sl⟩, n, there, isL, _, isS⟩, _⟩ := J.list sq
    simp only at isL isS
    subst isL isS
    have ec : its.toArray.toList.countP (eqU y) = ys.countP fun z => eqV z y := countP_eqU rv fys
    exact call_meets PySem.F.slot_list_count ⟨_, there, rfl⟩ PySem.F.entry_list_count (PySem.F.args_list_count_2 _ _) (SeqAt.list_countAt p its.toArray n dd sl uy (eqU y))
      ⟨there, fun z hz => mem_eqAt ry fy rv fys z (by simpa using hz), .int ((ys.countP fun z => eqV z y : Nat) : Int), H, J.tok _, ⟨st.toks, by rw [ec]⟩, q⟩
theorem ev_countF {K : PySem.W.Frag} {σ : L2.St} {H : Hp} {ta te : TE} {p : Addr} {ys : List V} {y : V} (ha : Ev ta σ H (.ref p)) (sq : H p = some (.lst ys)) (he : Ev te σ H y) (fy : flatV y = true) (fys : ys.all flatV = true) : Ev (tBM K "list" (rCntF K) ta (tCons te tNil)) σ H (.int ((ys.countP fun z => eqV z y : Nat) : Int)) := fun H1 e Q q =>
  ha H1 e _ fun H2 e2 => ⟨.inl ⟨rfl, _, sq_of (e2 p _ (e p _ sq))⟩, he H2 (e.trans e2) _ fun H3 e3 => ⟨p, ys, y, rfl, rfl, sq_of (e3 p _ (e2 p _ (e p _ sq))), fy, fys, q H3 (e2.trans e3)⟩⟩
/-- xs.index(x), by its number -/
theorem ev_indexF {K : PySem.W.Frag} {σ : L2.St} {H : Hp} {ta te : TE} {p : Addr} {ys : List V} {y : V} (j : Nat) (ha : Ev ta σ H (.ref p)) (sq : H p = some (.lst ys)) (he : Ev te σ H y) (fy : flatV y = true) (fys : ys.all flatV = true) (hj : ∃ z, ys[j]? = some z ∧ eqV z y = true) (hno : ∀ (m : Nat) (z : V), m < j → ys[m]? = some z → eqV z y = false) :
    Ev (tBM K "list" (rIndex K) ta (tCons te tNil)) σ H (.int (j : Int)) := fun H1 e Q q =>
  ha H1 e _ fun H2 e2 => ⟨.inl ⟨rfl, _, sq_of (e2 p _ (e p _ sq))⟩, he H2 (e.trans e2) _ fun H3 e3 => by
    obtain ⟨z, hz, ez⟩ := hj
    exact ⟨p, ys, y, j, z, rfl, rfl, sq_of (e3 p _ (e2 p _ (e p _ sq))), fy, fys, hz, ez, hno, q H3 (e2.trans e3)⟩⟩
end Kit

set_option Elab.async false
set_option linter.all false
set_option maxRecDepth 100000
set_option maxHeartbeats 4000000
namespace Kit
open PySem PySem.Spec PyProof.Rows L2 Evl
/-! ### data that repr shows, with long ints: at most n signs -/
structure ShN (d : PyData) (n : Nat) : Prop where
  shw : d.showable = true
  nod : d.hasDict = false
  len : d.shown.length ≤ n
  dep : d.depth ≤ 20
theorem shn_int {i : Int} (h : i.natAbs.log2 < 1920) : ShN (.int i) 1921 := ⟨decide_eq_true h, rfl, int_text_len_1921 h, Nat.zero_le _⟩
theorem shn_int2 {i : Int} (h : i.natAbs < 2 ^ 1900) : ShN (.int i) 1921 := shn_int (by
  by_cases z : i.natAbs = 0
  · rw [z]
    decide
  · exact Nat.lt_of_lt_of_le ((Nat.log2_lt z).mpr h) (by decide))
theorem shn_all {n : Nat} : ∀ {ds : List PyData}, (∀ d ∈ ds, ShN d n ∧ d.depth ≤ 19) → PyData.showableAll ds = true ∧ PyData.hasDictAll ds = false ∧ ((PyData.shownAll ds).map (·.length)).sum ≤ n * ds.length ∧ (PyData.shownAll ds).length = ds.length ∧ PyData.depthAll ds ≤ 19
  | [], _ => ⟨rfl, rfl, Nat.zero_le _, rfl, Nat.zero_le _⟩
  | d :: r, h => by
    obtain ⟨a, b, c, e, f⟩ := shn_all fun x hx => h x (List.mem_cons_of_mem _ hx)
    obtain ⟨⟨p, q, s, _⟩, t⟩ := h d List.mem_cons_self
    refine ⟨by simp [PyData.showableAll, a, p], by simp [PyData.hasDictAll, b, q], ?_, by simp [PyData.shownAll, e], by simp only [PyData.depthAll]; omega⟩
    simp only [PyData.shownAll, List.map_cons, List.sum_cons, List.length_cons, Nat.mul_succ]
    omega
theorem shn_list {ds : List PyData} {n : Nat} (h : ∀ d ∈ ds, ShN d n ∧ d.depth ≤ 19) : ShN (.list ds) ((n + 2) * ds.length + 3) := by
  obtain ⟨a, b, c, e, f⟩ := shn_all h
  refine ⟨by simpa [PyData.showable] using a, by simpa [PyData.hasDict] using b, ?_, by simp only [PyData.depth]; omega⟩
  have := listText_len_le (PyData.shownAll ds)
  show (listText (PyData.shownAll ds)).length ≤ _
  rw [e] at this
  rw [Nat.add_mul]
  omega
theorem shn_tup {ds : List PyData} {n : Nat} (h : ∀ d ∈ ds, ShN d n ∧ d.depth ≤ 19) : ShN (.tuple ds) ((n + 2) * ds.length + 3) := by
  obtain ⟨a, b, c, e, f⟩ := shn_all h
  refine ⟨by simpa [PyData.showable] using a, by simpa [PyData.hasDict] using b, ?_, by simp only [PyData.depth]; omega⟩
  have := tupleText_len_le (PyData.shownAll ds)
  show (tupleText (PyData.shownAll ds)).length ≤ _
  rw [e] at this
  rw [Nat.add_mul]
  omega
section
variable {K : PySem.W.Frag} {σ : L2.St} {H : Hp} {te : TE}
theorem ev_reprN {d : PyData} {n : Nat} (h : EvD K te σ H d) (hl : isDisplay d = true) (s : ShN d n) (hn : n ≤ 1000000) : Ev (tCB (rRepr K) (tCons te tNil)) σ H (.str d.shown) :=
  ev_repr h hl s.shw s.nod (by have := s.dep; omega) (Nat.le_trans s.len (Nat.le_trans hn (by rw [sizeLine_eq]; decide)))
end
end Kit

set_option Elab.async false
set_option linter.all false
set_option maxRecDepth 100000
set_option maxHeartbeats 4000000
namespace Kit
open PySem PySem.Spec PyProof.Rows L2 Evl
section
variable {K : PySem.W.Frag} {σ : L2.St} {H : Hp} {ta tb te : TE} {t : TT}
/-- max(xs), told by what it is -/
theorem ev_maxV {a : Addr} {ns : List Int} {m : Int} (h : Ev ta σ H (.ref a)) (ha : SqL K H a (ns.map V.int)) (hm : m ∈ ns) (hl : ∀ y ∈ ns, y ≤ m) : Ev (tCB (rMax K) (tCons ta tNil)) σ H (.int m) := fun H1 e Q q =>
  h H1 e _ fun H2 e2 => ⟨a, ns, rfl, ex_l (e.trans e2) ha, List.length_pos_of_mem hm, fun m' hm' hl' => by
    have h1 := hl m' hm'
    have h2 := hl' m hm
    have : m' = m := by omega
    rw [this]
    exact q H2 e2⟩
/-- [e for i, x in enumerate(xs) if t] -/
theorem el_en {ta : TA} {i j : Nat} {vs : List Nat} {a : Addr} {xs : List V} (f : Nat → Bool) (v : Nat → V) (h : EvA ta σ H [.ref a]) (hx : SqL K H a xs) (hz : xs.length ≤ 40000) (hw : ∀ x y, wipe (((wipe σ vs).set i (some x)).set j (some y)) vs = wipe σ vs)
    (ht : ∀ (n : Nat) x H1, Ex H H1 → xs[n]? = some x → EvT t (((wipe σ vs).set i (some (.int (n : Int)))).set j (some x)) H1 (f n))
    (he : ∀ (n : Nat) x H1, Ex H H1 → xs[n]? = some x → f n = true → Ev te (((wipe σ vs).set i (some (.int (n : Int)))).set j (some x)) H1 (v n)) :
    EvL (tLc (iEnum K ta) (gTup K 2 (gCons (gName i) (gCons (gName j) gNil))) t te vs) σ H (given xs.length f v) := fun H0 e Q q => h H0 e _ fun H1 e1 => ⟨a, xs, rfl, ex_l (e.trans e1) hx, fun Dl hD => by
  refine lc_it walk_enum (Cw H1 f v Dl) ⟨hD, Ex.new hD, upd_same⟩ (fun n H' _ p => ex_l ((e.trans e1).trans p.2.1) hx) ?_ fun H' p => q Dl H' (fresh_back e1 p.1) (e1.trans p.2.1) p.2.2
  rintro n w Hh H' hn p ⟨T, x, y, rfl, nT, rfl, g1, g2⟩
  have ex : V.int (n : Nat) = x := Option.some.inj g1
  subst ex
  have eT : Ex Hh (upd Hh T (.tup [.int (n : Nat), y])) := Ex.new nT
  refine ⟨T, [.int (n : Nat), y], rfl, st_of upd_same, rfl, _, [y], rfl, y, [], rfl, rfl, hw _ y, ?_⟩
  exact cw_turn (H := H1) ⟨p.1, p.2.1.trans eT, eT Dl _ p.2.2⟩ (by omega) (ht n y H1 (e.trans e1) g2) fun hf => he n y H1 (e.trans e1) g2 hf⟩
/-- [e for x, y in zip(xs, ys)], both new lists -/
theorem el_zipN {i j : Nat} {vs : List Nat} {xs ys : List V} (F : V → V → V) (h : EvL ta σ H xs) (h2 : EvL tb σ H ys) (hl : xs.length = ys.length) (hz : xs.length ≤ 40000) (hw : ∀ x y, wipe (((wipe σ vs).set i (some x)).set j (some y)) vs = wipe σ vs)
    (he : ∀ (n : Nat) x y H1, Ex H H1 → xs[n]? = some x → ys[n]? = some y → Ev te (((wipe σ vs).set i (some x)).set j (some y)) H1 (F x y)) :
    EvL (tLc (iZip K (tCons ta (tCons tb tNil))) (gTup K 2 (gCons (gName i) (gCons (gName j) gNil))) tYes te vs) σ H (List.zipWith F xs ys) := fun H0 e Q q =>
  h H0 e _ fun a H1 na e1 ha => h2 H1 (e.trans e1) _ fun b H2 nb e2 hb => by
    have := el_zip (K := K) (H := H2) (ta := fun _ H' R => R [.ref a, .ref b] H') (te := te) (vs := vs) F (fun H3 _ Q q => q H3 (Ex.refl _)) (sq_of (e2 a _ ha)) (sq_of hb) hl hz hw fun n x y H3 e3 g1 g2 => he n x y H3 (e.trans (e1.trans (e2.trans e3))) g1 g2
    exact this H2 (Ex.refl _) Q fun p H3 hp e3 h3 => q p H3 (fresh_back (e1.trans e2) hp) (e1.trans (e2.trans e3)) h3
/-- xs + y, y an old list; x + ys, x an old list -/
theorem el_catR {a : Addr} {xs ys : List V} (h : EvL ta σ H xs) (h2 : Ev tb σ H (.ref a)) (ha : H a = some (.lst ys)) (hz : xs.length + ys.length ≤ 1000) : EvL (tOp rCat ta tb) σ H (xs ++ ys) := fun H1 e Q q =>
  h H1 e _ fun p H2 _ e2 h3 => h2 H2 (e.trans e2) _ fun H3 e3 => ⟨p, a, xs, ys, rfl, rfl, e3 p _ h3, e3 a _ (e2 a _ (e a _ ha)), sz_of (by omega), fun l hl => q l _ (fresh_back (e2.trans e3) hl) ((e2.trans e3).trans (Ex.new hl)) upd_same⟩
theorem el_catL {a : Addr} {xs ys : List V} (h : Ev ta σ H (.ref a)) (ha : H a = some (.lst xs)) (h2 : EvL tb σ H ys) (hz : xs.length + ys.length ≤ 1000) : EvL (tOp rCat ta tb) σ H (xs ++ ys) := fun H1 e Q q =>
  h H1 e _ fun H2 e2 => h2 H2 (e.trans e2) _ fun p H3 _ e3 h3 => ⟨a, p, xs, ys, rfl, rfl, e3 a _ (e2 a _ (e a _ ha)), h3, sz_of (by omega), fun l hl => q l _ (fresh_back (e2.trans e3) hl) ((e2.trans e3).trans (Ex.new hl)) upd_same⟩
end
end Kit

set_option Elab.async false
set_option linter.all false
set_option maxRecDepth 100000
namespace Kit
open PySem PySem.Spec PyProof.Rows L2 Evl
def fac (n : Nat) : Nat := Builtin.Math.factorialNat n
theorem fac_succ (n : Nat) : fac (n + 1) = fac n * (n + 1) := PySem.W.mc_fac_succ n
theorem fac_pos (n : Nat) : 1 ≤ fac n := PySem.W.mc_fac_pos n
theorem fac_mono : ∀ {m n : Nat}, m ≤ n → fac m ≤ fac n := fun {m n} h => by
  induction h with
  | refl => exact Nat.le_refl _
  | step _ ih =>
    rw [Nat.succ_eq_add_one, fac_succ]
    exact Nat.le_trans ih (Nat.le_mul_of_pos_right _ (Nat.succ_pos _))
theorem fac20 : fac 20 < 2 ^ 64 := by decide +kernel
def rFac : List V → Hp → VK → Prop := fun vs H Q => ∃ n : Nat, vs = [.int (n : Int)] ∧ n ≤ 20000 ∧ Q (.int ((fac n : Nat) : Int)) H
section
variable {X : Cx}
theorem cr_factorial : CallR X (.builtin "math.factorial") rFac := by
  intro pins s σ H vs us Q I r h
  obtain ⟨n, rfl, hn, q⟩ := h
  cases r with
  | cons ru rt =>
    cases rt
    obtain ⟨t, rfl⟩ := ru
    refine PySem.W.mc_factorial (Int.natCast_nonneg n) (by omega) fun _ => ?_
    rw [Int.toNat_natCast]
    exact ⟨.int _, H, I.tok _, ⟨_, rfl⟩, q⟩
def rDivmod : List V → Hp → VK → Prop := fun xs H Q => ∃ i j, xs = [.int i, .int j] ∧ CDivP i j ∧ ∀ p, H p = none → Q (.ref p) (upd H p (.tup [.int (i / j), .int (i % j)]))
theorem call_divmodR : CallR X (.builtin "divmod") rDivmod := call_divmodW
end
section
variable {K : PySem.W.Frag} {σ : L2.St} {H : Hp} {ta tb te tl : TE} {D : Ends} {tu tz : TS}
theorem ev_fac {n : Nat} (h : Ev ta σ H (.int (n : Int))) (hn : n ≤ 20000) : Ev (tCB rFac (tCons ta tNil)) σ H (.int ((fac n : Nat) : Int)) := fun H1 e Q q => h H1 e _ fun H2 e2 => ⟨n, rfl, hn, q H2 e2⟩
theorem divp_small {i j : Int} (h : 0 < j) (hj : j.natAbs < 2 ^ 8000) : CDivP i j := ⟨h, PyProof.noPylong_of_log2 (by
  have h2 := (Nat.log2_lt (n := j.natAbs) (k := 8000) (by omega)).mpr hj
  omega)⟩
theorem eu_divmod {a b : Nat} (h : Ev ta σ H (.int (a : Int))) (h2 : Ev tb σ H (.int (b : Int))) (hb : 0 < b) (hb2 : b < 2 ^ 8000) : EvU (tCB rDivmod (tCons ta (tCons tb tNil))) σ H [.int ((a / b : Nat) : Int), .int ((a % b : Nat) : Int)] := fun H1 e Q q =>
  h H1 e _ fun H2 e2 => h2 H2 (e.trans e2) _ fun H3 e3 => ⟨a, b, rfl, divp_small (by omega) (by rw [Int.natAbs_natCast]; exact hb2), fun p hp => q p _ (fresh_back (e2.trans e3) hp) ((e2.trans e3).trans (Ex.new hp)) (by rw [upd_same, Int.natCast_ediv, Int.natCast_emod])⟩
end
end Kit

set_option Elab.async false
set_option linter.all false
set_option maxRecDepth 100000
set_option maxHeartbeats 4000000
namespace Kit
open PySem PySem.Spec PyProof.Rows L2 Evl
section
variable {K : PySem.W.Frag} {σ : L2.St} {H : Hp} {ta tb te tl : TE} {D : Ends} {tu tz : TS} {t : TT}
/-- for i in reversed(range(n)) -/
theorem s_forRev {j n : Nat} (h : Ev ta σ H (.int (n : Int))) (hn : n ≤ 40000) (Pv : Nat → L2.St → Hp → Prop) (h0 : ∀ H1, Ex H H1 → Pv 0 σ H1)
    (hs : ∀ (i : Nat) σ' H', i < n → Pv i σ' H' → tu { D with nx := Pv (i + 1), ct := Pv (i + 1), bk := D.nx } (σ'.set j (some (.int ((n - 1 - i : Nat) : Int)))) H') (hd : ∀ σ' H', Pv n σ' H' → D.nx σ' H') : tFor (iRevR (tRg1 ta)) (gName j) tu D σ H :=
  h H (Ex.refl H) _ fun H1 e => ⟨n, rfl, by
    have e0 : ((n : Int) - 0).toNat = n := by omega
    refine ⟨by omega, by omega, by omega, by omega, ?_⟩
    rw [e0]
    exact for_rangeC Pv (h0 H1 e) (fun i σ' H' hi p => by
      have e1 : (0 : Int) + (n : Int) - 1 + (i : Nat) * (-1) = ((n - 1 - i : Nat) : Int) := by omega
      rw [e1]
      exact hs i σ' H' hi p) hd⟩
theorem q_forRev {j n : Nat} (h : Ev ta σ H (.int (n : Int))) (hn : n ≤ 40000) (Pv : Nat → L2.St → Hp → Prop) (h0 : ∀ H1, Ex H H1 → Pv 0 σ H1)
    (hs : ∀ (i : Nat) σ' H', i < n → Pv i σ' H' → tu { D with nx := Pv (i + 1), ct := Pv (i + 1), bk := tz D } (σ'.set j (some (.int ((n - 1 - i : Nat) : Int)))) H') (hd : ∀ σ' H', Pv n σ' H' → tz D σ' H') : tSeq (tFor (iRevR (tRg1 ta)) (gName j) tu) tz D σ H := s_forRev (D := { D with nx := tz D }) h hn Pv h0 hs hd
/-- [a new tuple for i in range(lo, n)] -/
theorem elt_R2 {ta : TA} {j : Nat} {vs : List Nat} {lo n : Int} (f : Nat → List V) (h : EvA ta σ H [.int lo, .int n]) (hn : 0 ≤ lo ∧ lo ≤ 40000 ∧ -40000 ≤ n ∧ n ≤ 40000) (hw : ∀ x, wipe ((wipe σ vs).set j (some x)) vs = wipe σ vs)
    (he : ∀ (i : Nat) H1, Ex H H1 → lo + (i : Int) < n → EvU te ((wipe σ vs).set j (some (.int (lo + (i : Int))))) H1 (f i)) : EvLT (tLc (iRng2 ta) (gName j) tYes te vs) σ H ((List.range (n - lo).toNat).map f) := fun H0 e Q q => h H0 e _ fun H1 e1 => ⟨lo, n, rfl, ⟨by omega, by omega, by omega, by omega⟩, fun Dl hD =>
  lc_range (lo := lo) (n := (n - lo).toNat) (fun i H' => Ex H1 H' ∧ ∃ ws, H' Dl = some (.lst ws) ∧ TL H' ws ((List.range i).map f)) ⟨Ex.new hD, [], upd_same, .nil⟩ (fun i H' hi p => by
    obtain ⟨p1, ws, p2, p3⟩ := p
    show wipe ((wipe σ vs).set j (some (.int (lo + (i : Int))))) vs = wipe σ vs ∧ te ((wipe σ vs).set j (some (.int (lo + (i : Int))))) H' fun y H4 => ∃ acc, H4 Dl = some (.lst acc) ∧ acc.length < sizeLine ∧ _
    refine ⟨hw _, he i H1 (e.trans e1) (by omega) H' p1 _ fun p H4 hp e4 h4 => ⟨ws, e4 Dl _ p2, sz_lt (by
      have := p3.len
      simp at this
      omega), Ex.mut (p1.trans e4) hD, ws ++ [.ref p], upd_same, ?_⟩⟩
    rw [List.range_succ, List.map_append]
    exact ((p3.ex e4).app ⟨p, rfl, h4⟩).upd (e4 Dl _ p2)) (fun H' p => by
      obtain ⟨p1, ws, p2, p3⟩ := p
      exact q Dl ws H' (fresh_back e1 hD) (e1.trans p1) p2 p3)⟩
end
end Kit

namespace K02
open PySem PySem.Spec PyProof.Rows L2 Evl Kit
def topS (i : Nat) : Stmt := PySem.Challenge.pw_newtables_k02_errors_of_seatings.main.body.getD i (.Pass ⟨0, 0, 0, 0⟩)
abbrev s_is_whole : Stmt := topS 9
abbrev n_is_whole : List Str := ["thing"]
theorem sc_is_whole : FnScope n_is_whole ["thing"] (defScope s_is_whole) := ⟨rfl, rfl, rfl, by decide +kernel, rfl, by decide +kernel, by decide +kernel⟩
abbrev s_is_within : Stmt := topS 10
abbrev n_is_within : List Str := ["thing", "least", "most"]
theorem sc_is_within : FnScope n_is_within ["thing", "least", "most"] (defScope s_is_within) := ⟨rfl, rfl, rfl, by decide +kernel, rfl, by decide +kernel, by decide +kernel⟩
abbrev s_is_order : Stmt := topS 11
abbrev n_is_order : List Str := ["thing", "item"]
theorem sc_is_order : FnScope n_is_order ["thing"] (defScope s_is_order) := ⟨rfl, rfl, rfl, by decide +kernel, rfl, by decide +kernel, by decide +kernel⟩
abbrev s_check_guest : Stmt := topS 12
abbrev n_check_guest : List Str := ["guest", "guests"]
theorem sc_check_guest : FnScope n_check_guest ["guest", "guests"] (defScope s_check_guest) := ⟨rfl, rfl, rfl, by decide +kernel, rfl, by decide +kernel, by decide +kernel⟩
abbrev s_check_any_number : Stmt := topS 13
abbrev n_check_any_number : List Str := ["number"]
theorem sc_check_any_number : FnScope n_check_any_number ["number"] (defScope s_check_any_number) := ⟨rfl, rfl, rfl, by decide +kernel, rfl, by decide +kernel, by decide +kernel⟩
abbrev s_is_seating : Stmt := topS 15
abbrev n_is_seating : List Str := ["thing"]
theorem sc_is_seating : FnScope n_is_seating ["thing"] (defScope s_is_seating) := ⟨rfl, rfl, rfl, by decide +kernel, rfl, by decide +kernel, by decide +kernel⟩
abbrev s_tables_of : Stmt := topS 16
abbrev n_tables_of : List Str := ["seating"]
theorem sc_tables_of : FnScope n_tables_of ["seating"] (defScope s_tables_of) := ⟨rfl, rfl, rfl, by decide +kernel, rfl, by decide +kernel, by decide +kernel⟩
abbrev s_seating_of : Stmt := topS 17
abbrev n_seating_of : List Str := ["tables"]
theorem sc_seating_of : FnScope n_seating_of ["tables"] (defScope s_seating_of) := ⟨rfl, rfl, rfl, by decide +kernel, rfl, by decide +kernel, by decide +kernel⟩
abbrev s_table_from : Stmt := topS 18
abbrev n_table_from : List Str := ["seating", "guest"]
theorem sc_table_from : FnScope n_table_from ["seating", "guest"] (defScope s_table_from) := ⟨rfl, rfl, rfl, by decide +kernel, rfl, by decide +kernel, by decide +kernel⟩
abbrev s_right_of : Stmt := topS 19
abbrev n_right_of : List Str := ["seating", "guest"]
theorem sc_right_of : FnScope n_right_of ["seating", "guest"] (defScope s_right_of) := ⟨rfl, rfl, rfl, by decide +kernel, rfl, by decide +kernel, by decide +kernel⟩
abbrev s_steps_left : Stmt := topS 20
abbrev n_steps_left : List Str := ["seating", "guest", "number", "table"]
theorem sc_steps_left : FnScope n_steps_left ["seating", "guest", "number"] (defScope s_steps_left) := ⟨rfl, rfl, rfl, by decide +kernel, rfl, by decide +kernel, by decide +kernel⟩
abbrev s_are_together : Stmt := topS 21
abbrev n_are_together : List Str := ["seating", "guest", "mate"]
theorem sc_are_together : FnScope n_are_together ["seating", "guest", "mate"] (defScope s_are_together) := ⟨rfl, rfl, rfl, by decide +kernel, rfl, by decide +kernel, by decide +kernel⟩
abbrev s_mirrored : Stmt := topS 22
abbrev n_mirrored : List Str := ["seating", "guest"]
theorem sc_mirrored : FnScope n_mirrored ["seating"] (defScope s_mirrored) := ⟨rfl, rfl, rfl, by decide +kernel, rfl, by decide +kernel, by decide +kernel⟩
abbrev s_renamed : Stmt := topS 23
abbrev n_renamed : List Str := ["seating", "names", "renewed", "guest", "left"]
theorem sc_renamed : FnScope n_renamed ["seating", "names"] (defScope s_renamed) := ⟨rfl, rfl, rfl, by decide +kernel, rfl, by decide +kernel, by decide +kernel⟩
abbrev s_record_list : Stmt := topS 24
abbrev n_record_list : List Str := ["seating", "table", "guest"]
theorem sc_record_list : FnScope n_record_list ["seating"] (defScope s_record_list) := ⟨rfl, rfl, rfl, by decide +kernel, rfl, by decide +kernel, by decide +kernel⟩
abbrev s_seating_of_records : Stmt := topS 25
abbrev n_seating_of_records : List Str := ["names", "tables", "guest"]
theorem sc_seating_of_records : FnScope n_seating_of_records ["names"] (defScope s_seating_of_records) := ⟨rfl, rfl, rfl, by decide +kernel, rfl, by decide +kernel, by decide +kernel⟩
abbrev s_check_seating : Stmt := topS 26
abbrev n_check_seating : List Str := ["seating"]
theorem sc_check_seating : FnScope n_check_seating ["seating"] (defScope s_check_seating) := ⟨rfl, rfl, rfl, by decide +kernel, rfl, by decide +kernel, by decide +kernel⟩
abbrev s_check_names : Stmt := topS 27
abbrev n_check_names : List Str := ["names"]
theorem sc_check_names : FnScope n_check_names ["names"] (defScope s_check_names) := ⟨rfl, rfl, rfl, by decide +kernel, rfl, by decide +kernel, by decide +kernel⟩
abbrev s_are_tables : Stmt := topS 28
abbrev n_are_tables : List Str := ["thing", "table", "openers", "guest"]
theorem sc_are_tables : FnScope n_are_tables ["thing"] (defScope s_are_tables) := ⟨rfl, rfl, rfl, by decide +kernel, rfl, by decide +kernel, by decide +kernel⟩
abbrev s_is_table : Stmt := topS 29
abbrev n_is_table : List Str := ["thing", "guest"]
theorem sc_is_table : FnScope n_is_table ["thing"] (defScope s_is_table) := ⟨rfl, rfl, rfl, by decide +kernel, rfl, by decide +kernel, by decide +kernel⟩
abbrev s_walk_left : Stmt := topS 30
abbrev n_walk_left : List Str := ["lefts", "guest", "walk"]
theorem sc_walk_left : FnScope n_walk_left ["lefts", "guest"] (defScope s_walk_left) := ⟨rfl, rfl, rfl, by decide +kernel, rfl, by decide +kernel, by decide +kernel⟩
abbrev s_tables_among : Stmt := topS 31
abbrev n_tables_among : List Str := ["lefts", "guests", "guest", "walks", "walk"]
theorem sc_tables_among : FnScope n_tables_among ["lefts", "guests"] (defScope s_tables_among) := ⟨rfl, rfl, rfl, by decide +kernel, rfl, by decide +kernel, by decide +kernel⟩
abbrev s_seating_with : Stmt := topS 32
abbrev n_seating_with : List Str := ["tables", "table", "seating", "at", "guest"]
theorem sc_seating_with : FnScope n_seating_with ["tables"] (defScope s_seating_with) := ⟨rfl, rfl, rfl, by decide +kernel, rfl, by decide +kernel, by decide +kernel⟩
abbrev s_law_pouch : Stmt := topS 34
abbrev n_law_pouch : List Str := ["script", "at", "cell"]
theorem sc_law_pouch : FnScope n_law_pouch ["script", "at"] (defScope s_law_pouch) := ⟨rfl, rfl, rfl, by decide +kernel, rfl, by decide +kernel, by decide +kernel⟩
abbrev s_law_dip : Stmt := topS 35
abbrev n_law_dip : List Str := ["pouch", "wide", "taken", "mixed"]
theorem sc_law_dip : FnScope n_law_dip ["pouch", "wide"] (defScope s_law_dip) := ⟨rfl, rfl, rfl, by decide +kernel, rfl, by decide +kernel, by decide +kernel⟩
abbrev s_law_entries : Stmt := topS 36
abbrev n_law_entries : List Str := ["pouch", "many", "style", "found", "one", "some", "pick"]
theorem sc_law_entries : FnScope n_law_entries ["pouch", "many"] (defScope s_law_entries) := ⟨rfl, rfl, rfl, by decide +kernel, rfl, by decide +kernel, by decide +kernel⟩
abbrev s_law_rings : Stmt := topS 37
abbrev n_law_rings : List Str := ["entries", "rings", "one", "pal", "ring"]
theorem sc_law_rings : FnScope n_law_rings ["entries"] (defScope s_law_rings) := ⟨rfl, rfl, rfl, by decide +kernel, rfl, by decide +kernel, by decide +kernel⟩
abbrev s_law_seat : Stmt := topS 38
abbrev n_law_seat : List Str := ["rings", "near", "ring", "k", "one"]
theorem sc_law_seat : FnScope n_law_seat ["rings"] (defScope s_law_seat) := ⟨rfl, rfl, rfl, by decide +kernel, rfl, by decide +kernel, by decide +kernel⟩
abbrev s_law_things : Stmt := topS 39
abbrev n_law_things : List Str := ["pouch", "row", "spot", "other", "twice", "odd", "one", "truths", "found"]
theorem sc_law_things : FnScope n_law_things ["pouch", "row"] (defScope s_law_things) := ⟨rfl, rfl, rfl, by decide +kernel, rfl, by decide +kernel, by decide +kernel⟩
abbrev s_law_is_row : Stmt := topS 40
abbrev n_law_is_row : List Str := ["item", "one"]
theorem sc_law_is_row : FnScope n_law_is_row ["item"] (defScope s_law_is_row) := ⟨rfl, rfl, rfl, by decide +kernel, rfl, by decide +kernel, by decide +kernel⟩
abbrev s_law_word : Stmt := topS 41
abbrev n_law_word : List Str := ["caught", "marks"]
theorem sc_law_word : FnScope n_law_word ["caught"] (defScope s_law_word) := ⟨rfl, rfl, rfl, by decide +kernel, rfl, by decide +kernel, by decide +kernel⟩
abbrev s_law_told : Stmt := topS 42
abbrev n_law_told : List Str := ["way", "one", "two", "three", "caught"]
theorem sc_law_told : FnScope n_law_told ["way", "one", "two", "three"] (defScope s_law_told) := ⟨rfl, rfl, rfl, by decide +kernel, rfl, by decide +kernel, by decide +kernel⟩
abbrev s_law_wrong_tables : Stmt := topS 43
abbrev n_law_wrong_tables : List Str := ["pouch", "rings", "ring", "good", "spot", "fresh", "head", "one", "tail", "turn", "table", "found"]
theorem sc_law_wrong_tables : FnScope n_law_wrong_tables ["pouch", "rings"] (defScope s_law_wrong_tables) := ⟨rfl, rfl, rfl, by decide +kernel, rfl, by decide +kernel, by decide +kernel⟩
abbrev s_law_guests_right : Stmt := topS 44
abbrev n_law_guests_right : List Str := ["pouch", "hall", "many", "one", "wrong", "way"]
theorem sc_law_guests_right : FnScope n_law_guests_right ["pouch", "hall"] (defScope s_law_guests_right) := ⟨rfl, rfl, rfl, by decide +kernel, rfl, by decide +kernel, by decide +kernel⟩
abbrev s_law_right : Stmt := topS 45
abbrev n_law_right : List Str := ["pouch", "many", "rings", "hall", "kept", "item", "due", "way", "ring"]
theorem sc_law_right : FnScope n_law_right ["pouch", "many"] (defScope s_law_right) := ⟨rfl, rfl, rfl, by decide +kernel, rfl, by decide +kernel, by decide +kernel⟩
abbrev s_law : Stmt := topS 46
abbrev n_law : List Str := ["script", "at", "pouch"]
theorem sc_law : FnScope n_law ["script"] (defScope s_law) := ⟨rfl, rfl, rfl, by decide +kernel, rfl, by decide +kernel, by decide +kernel⟩
/-! what the top has written -/
structure Tx (K : PySem.W.Frag) (mg : Str → Option Value) where
  f_is_whole : Addr
  d_is_whole : FuncData
  F_is_whole : Fun K "is_whole" "is_whole" s_is_whole f_is_whole d_is_whole
  g_is_whole : mg "is_whole" = some (.ref f_is_whole)
  b_is_whole : Binds K d_is_whole ["thing"] []
  f_is_within : Addr
  d_is_within : FuncData
  F_is_within : Fun K "is_within" "is_within" s_is_within f_is_within d_is_within
  g_is_within : mg "is_within" = some (.ref f_is_within)
  b_is_within : Binds K d_is_within ["thing", "least", "most"] []
  f_is_order : Addr
  d_is_order : FuncData
  F_is_order : Fun K "is_order" "is_order" s_is_order f_is_order d_is_order
  g_is_order : mg "is_order" = some (.ref f_is_order)
  b_is_order : Binds K d_is_order ["thing"] []
  f_check_guest : Addr
  d_check_guest : FuncData
  F_check_guest : Fun K "check_guest" "check_guest" s_check_guest f_check_guest d_check_guest
  g_check_guest : mg "check_guest" = some (.ref f_check_guest)
  b_check_guest : Binds K d_check_guest ["guest", "guests"] []
  f_check_any_number : Addr
  d_check_any_number : FuncData
  F_check_any_number : Fun K "check_any_number" "check_any_number" s_check_any_number f_check_any_number d_check_any_number
  g_check_any_number : mg "check_any_number" = some (.ref f_check_any_number)
  b_check_any_number : Binds K d_check_any_number ["number"] []
  f_is_seating : Addr
  d_is_seating : FuncData
  F_is_seating : Fun K "is_seating" "is_seating" s_is_seating f_is_seating d_is_seating
  g_is_seating : mg "is_seating" = some (.ref f_is_seating)
  b_is_seating : Binds K d_is_seating ["thing"] []
  f_tables_of : Addr
  d_tables_of : FuncData
  F_tables_of : Fun K "tables_of" "tables_of" s_tables_of f_tables_of d_tables_of
  g_tables_of : mg "tables_of" = some (.ref f_tables_of)
  b_tables_of : Binds K d_tables_of ["seating"] []
  f_seating_of : Addr
  d_seating_of : FuncData
  F_seating_of : Fun K "seating_of" "seating_of" s_seating_of f_seating_of d_seating_of
  g_seating_of : mg "seating_of" = some (.ref f_seating_of)
  b_seating_of : Binds K d_seating_of ["tables"] []
  f_table_from : Addr
  d_table_from : FuncData
  F_table_from : Fun K "table_from" "table_from" s_table_from f_table_from d_table_from
  g_table_from : mg "table_from" = some (.ref f_table_from)
  b_table_from : Binds K d_table_from ["seating", "guest"] []
  f_right_of : Addr
  d_right_of : FuncData
  F_right_of : Fun K "right_of" "right_of" s_right_of f_right_of d_right_of
  g_right_of : mg "right_of" = some (.ref f_right_of)
  b_right_of : Binds K d_right_of ["seating", "guest"] []
  f_steps_left : Addr
  d_steps_left : FuncData
  F_steps_left : Fun K "steps_left" "steps_left" s_steps_left f_steps_left d_steps_left
  g_steps_left : mg "steps_left" = some (.ref f_steps_left)
  b_steps_left : Binds K d_steps_left ["seating", "guest", "number"] []
  f_are_together : Addr
  d_are_together : FuncData
  F_are_together : Fun K "are_together" "are_together" s_are_together f_are_together d_are_together
  g_are_together : mg "are_together" = some (.ref f_are_together)
  b_are_together : Binds K d_are_together ["seating", "guest", "mate"] []
  f_mirrored : Addr
  d_mirrored : FuncData
  F_mirrored : Fun K "mirrored" "mirrored" s_mirrored f_mirrored d_mirrored
  g_mirrored : mg "mirrored" = some (.ref f_mirrored)
  b_mirrored : Binds K d_mirrored ["seating"] []
  f_renamed : Addr
  d_renamed : FuncData
  F_renamed : Fun K "renamed" "renamed" s_renamed f_renamed d_renamed
  g_renamed : mg "renamed" = some (.ref f_renamed)
  b_renamed : Binds K d_renamed ["seating", "names"] []
  f_record_list : Addr
  d_record_list : FuncData
  F_record_list : Fun K "record_list" "record_list" s_record_list f_record_list d_record_list
  g_record_list : mg "record_list" = some (.ref f_record_list)
  b_record_list : Binds K d_record_list ["seating"] []
  f_seating_of_records : Addr
  d_seating_of_records : FuncData
  F_seating_of_records : Fun K "seating_of_records" "seating_of_records" s_seating_of_records f_seating_of_records d_seating_of_records
  g_seating_of_records : mg "seating_of_records" = some (.ref f_seating_of_records)
  b_seating_of_records : Binds K d_seating_of_records ["names"] []
  f_check_seating : Addr
  d_check_seating : FuncData
  F_check_seating : Fun K "check_seating" "check_seating" s_check_seating f_check_seating d_check_seating
  g_check_seating : mg "check_seating" = some (.ref f_check_seating)
  b_check_seating : Binds K d_check_seating ["seating"] []
  f_check_names : Addr
  d_check_names : FuncData
  F_check_names : Fun K "check_names" "check_names" s_check_names f_check_names d_check_names
  g_check_names : mg "check_names" = some (.ref f_check_names)
  b_check_names : Binds K d_check_names ["names"] []
  f_are_tables : Addr
  d_are_tables : FuncData
  F_are_tables : Fun K "are_tables" "are_tables" s_are_tables f_are_tables d_are_tables
  g_are_tables : mg "are_tables" = some (.ref f_are_tables)
  b_are_tables : Binds K d_are_tables ["thing"] []
  f_is_table : Addr
  d_is_table : FuncData
  F_is_table : Fun K "is_table" "is_table" s_is_table f_is_table d_is_table
  g_is_table : mg "is_table" = some (.ref f_is_table)
  b_is_table : Binds K d_is_table ["thing"] []
  f_walk_left : Addr
  d_walk_left : FuncData
  F_walk_left : Fun K "walk_left" "walk_left" s_walk_left f_walk_left d_walk_left
  g_walk_left : mg "walk_left" = some (.ref f_walk_left)
  b_walk_left : Binds K d_walk_left ["lefts", "guest"] []
  f_tables_among : Addr
  d_tables_among : FuncData
  F_tables_among : Fun K "tables_among" "tables_among" s_tables_among f_tables_among d_tables_among
  g_tables_among : mg "tables_among" = some (.ref f_tables_among)
  b_tables_among : Binds K d_tables_among ["lefts", "guests"] []
  f_seating_with : Addr
  d_seating_with : FuncData
  F_seating_with : Fun K "seating_with" "seating_with" s_seating_with f_seating_with d_seating_with
  g_seating_with : mg "seating_with" = some (.ref f_seating_with)
  b_seating_with : Binds K d_seating_with ["tables"] []
  f_law_pouch : Addr
  d_law_pouch : FuncData
  F_law_pouch : Fun K "_law_pouch" "_law_pouch" s_law_pouch f_law_pouch d_law_pouch
  g_law_pouch : mg "_law_pouch" = some (.ref f_law_pouch)
  b_law_pouch : Binds K d_law_pouch ["script", "at"] []
  f_law_dip : Addr
  d_law_dip : FuncData
  F_law_dip : Fun K "_law_dip" "_law_dip" s_law_dip f_law_dip d_law_dip
  g_law_dip : mg "_law_dip" = some (.ref f_law_dip)
  b_law_dip : Binds K d_law_dip ["pouch", "wide"] []
  f_law_entries : Addr
  d_law_entries : FuncData
  F_law_entries : Fun K "_law_entries" "_law_entries" s_law_entries f_law_entries d_law_entries
  g_law_entries : mg "_law_entries" = some (.ref f_law_entries)
  b_law_entries : Binds K d_law_entries ["pouch", "many"] []
  f_law_rings : Addr
  d_law_rings : FuncData
  F_law_rings : Fun K "_law_rings" "_law_rings" s_law_rings f_law_rings d_law_rings
  g_law_rings : mg "_law_rings" = some (.ref f_law_rings)
  b_law_rings : Binds K d_law_rings ["entries"] []
  f_law_seat : Addr
  d_law_seat : FuncData
  F_law_seat : Fun K "_law_seat" "_law_seat" s_law_seat f_law_seat d_law_seat
  g_law_seat : mg "_law_seat" = some (.ref f_law_seat)
  b_law_seat : Binds K d_law_seat ["rings"] []
  f_law_things : Addr
  d_law_things : FuncData
  F_law_things : Fun K "_law_things" "_law_things" s_law_things f_law_things d_law_things
  g_law_things : mg "_law_things" = some (.ref f_law_things)
  b_law_things : Binds K d_law_things ["pouch", "row"] []
  f_law_is_row : Addr
  d_law_is_row : FuncData
  F_law_is_row : Fun K "_law_is_row" "_law_is_row" s_law_is_row f_law_is_row d_law_is_row
  g_law_is_row : mg "_law_is_row" = some (.ref f_law_is_row)
  b_law_is_row : Binds K d_law_is_row ["item"] []
  f_law_word : Addr
  d_law_word : FuncData
  F_law_word : Fun K "_law_word" "_law_word" s_law_word f_law_word d_law_word
  g_law_word : mg "_law_word" = some (.ref f_law_word)
  b_law_word : Binds K d_law_word ["caught"] []
  f_law_told : Addr
  d_law_told : FuncData
  F_law_told : Fun K "_law_told" "_law_told" s_law_told f_law_told d_law_told
  g_law_told : mg "_law_told" = some (.ref f_law_told)
  b_law_told : Binds K d_law_told ["way", "one", "two", "three"] []
  f_law_wrong_tables : Addr
  d_law_wrong_tables : FuncData
  F_law_wrong_tables : Fun K "_law_wrong_tables" "_law_wrong_tables" s_law_wrong_tables f_law_wrong_tables d_law_wrong_tables
  g_law_wrong_tables : mg "_law_wrong_tables" = some (.ref f_law_wrong_tables)
  b_law_wrong_tables : Binds K d_law_wrong_tables ["pouch", "rings"] []
  f_law_guests_right : Addr
  d_law_guests_right : FuncData
  F_law_guests_right : Fun K "_law_guests_right" "_law_guests_right" s_law_guests_right f_law_guests_right d_law_guests_right
  g_law_guests_right : mg "_law_guests_right" = some (.ref f_law_guests_right)
  b_law_guests_right : Binds K d_law_guests_right ["pouch", "hall"] []
  f_law_right : Addr
  d_law_right : FuncData
  F_law_right : Fun K "_law_right" "_law_right" s_law_right f_law_right d_law_right
  g_law_right : mg "_law_right" = some (.ref f_law_right)
  b_law_right : Binds K d_law_right ["pouch", "many"] []
  f_law : Addr
  d_law : FuncData
  F_law : Fun K "law" "law" s_law f_law d_law
  g_law : mg "law" = some (.ref f_law)
  b_law : Binds K d_law ["script"] []
  cl_HallError : Addr
  gc_HallError : mg "HallError" = some (.ref cl_HallError)
  cl_InvalidGuest : Addr
  gc_InvalidGuest : mg "InvalidGuest" = some (.ref cl_InvalidGuest)
  cl_InvalidSeating : Addr
  gc_InvalidSeating : mg "InvalidSeating" = some (.ref cl_InvalidSeating)
  cl_InvalidNames : Addr
  gc_InvalidNames : mg "InvalidNames" = some (.ref cl_InvalidNames)
  cl_InvalidTables : Addr
  gc_InvalidTables : mg "InvalidTables" = some (.ref cl_InvalidTables)
  cl_InvalidNumber : Addr
  gc_InvalidNumber : mg "InvalidNumber" = some (.ref cl_InvalidNumber)
  e_InvalidSeating : Kit.ExcD K cl_InvalidSeating
  x_InvalidSeating : PySem.W.exmOne K (.ref cl_InvalidSeating) (.ref cl_HallError) = some true
  t_InvalidSeating : Kit.isRow K cl_InvalidSeating [((.ref cl_InvalidSeating : Value), true), ((.ref cl_InvalidGuest : Value), false), ((.ref cl_InvalidNames : Value), false), ((.ref cl_InvalidTables : Value), false), ((.type "ValueError" : Value), true)] = true
  e_InvalidGuest : Kit.ExcD K cl_InvalidGuest
  x_InvalidGuest : PySem.W.exmOne K (.ref cl_InvalidGuest) (.ref cl_HallError) = some true
  t_InvalidGuest : Kit.isRow K cl_InvalidGuest [((.ref cl_InvalidSeating : Value), false), ((.ref cl_InvalidGuest : Value), true), ((.ref cl_InvalidNames : Value), false), ((.ref cl_InvalidTables : Value), false), ((.type "ValueError" : Value), true)] = true
  e_InvalidNames : Kit.ExcD K cl_InvalidNames
  x_InvalidNames : PySem.W.exmOne K (.ref cl_InvalidNames) (.ref cl_HallError) = some true
  t_InvalidNames : Kit.isRow K cl_InvalidNames [((.ref cl_InvalidSeating : Value), false), ((.ref cl_InvalidGuest : Value), false), ((.ref cl_InvalidNames : Value), true), ((.ref cl_InvalidTables : Value), false), ((.type "ValueError" : Value), true)] = true
  e_InvalidTables : Kit.ExcD K cl_InvalidTables
  x_InvalidTables : PySem.W.exmOne K (.ref cl_InvalidTables) (.ref cl_HallError) = some true
  t_InvalidTables : Kit.isRow K cl_InvalidTables [((.ref cl_InvalidSeating : Value), false), ((.ref cl_InvalidGuest : Value), false), ((.ref cl_InvalidNames : Value), false), ((.ref cl_InvalidTables : Value), true), ((.type "ValueError" : Value), true)] = true
  e_InvalidNumber : Kit.ExcD K cl_InvalidNumber
  x_InvalidNumber : PySem.W.exmOne K (.ref cl_InvalidNumber) (.ref cl_HallError) = some true
  t_InvalidNumber : Kit.isRow K cl_InvalidNumber [((.ref cl_InvalidSeating : Value), false), ((.ref cl_InvalidGuest : Value), false), ((.ref cl_InvalidNames : Value), false), ((.ref cl_InvalidTables : Value), false), ((.type "ValueError" : Value), true)] = true
  m_ValueError : mg "ValueError" = none
  m_abs : mg "abs" = none
  m_all : mg "all" = none
  m_bool : mg "bool" = none
  m_enumerate : mg "enumerate" = none
  m_int : mg "int" = none
  m_isinstance : mg "isinstance" = none
  m_len : mg "len" = none
  m_list : mg "list" = none
  m_max : mg "max" = none
  m_min : mg "min" = none
  m_range : mg "range" = none
  m_sorted : mg "sorted" = none
  m_sum : mg "sum" = none
  m_tuple : mg "tuple" = none
  m_type : mg "type" = none
  c_MOST_GUESTS : ∃ u, mg "MOST_GUESTS" = some u ∧ RelV (.int 20) u
/-! readings that go by themselves -/
local macro_rules | `(tactic| walk_at "side") => `(tactic| first | with_reducible assumption | with_reducible rfl | omega | decide | (constructor <;> first | assumption | omega | decide))
local macro_rules | `(tactic| walk_at "ev") => `(tactic| first
  | ((with_reducible refine' ev_var ?e1); (case e1 => rfl))
  | (with_reducible exact ev_c)
  | ((with_reducible refine' ev_op ?e1 ?e2 rv_I0); (case e1 => walk_at "ev"); (case e2 => walk_at "ev"))
  | ((with_reducible refine' ev_op ?e1 ?e2 (rv_I ?e3)); (case e1 => walk_at "ev"); (case e2 => walk_at "ev"); (case e3 => walk_at "side"))
  | ((with_reducible refine' ev_op ?e1 ?e2 (rv_eq ?e3)); (case e1 => walk_at "ev"); (case e2 => walk_at "ev"); (case e3 => rfl))
  | ((with_reducible refine' ev_op ?e1 ?e2 (rv_ne ?e3)); (case e1 => walk_at "ev"); (case e2 => walk_at "ev"); (case e3 => rfl))
  | ((with_reducible refine' ev_op ?e1 ?e2 (rv_ixL ?e3 ?e4)); (case e1 => walk_at "ev"); (case e2 => walk_at "ev"); (case e3 => walk_at "sq"); (case e4 => walk_at "at"))
  | ((with_reducible refine' ev_op ?e1 ?e2 (rv_ixT ?e3 ?e4)); (case e1 => walk_at "ev"); (case e2 => walk_at "ev"); (case e3 => walk_at "sq"); (case e4 => walk_at "at"))
  | ((with_reducible refine' ev_op ?e1 ?e2 rv_isN); (case e1 => walk_at "ev"); (case e2 => walk_at "ev"))
  | ((with_reducible refine' ev_op ?e1 ?e2 rv_notN); (case e1 => walk_at "ev"); (case e2 => walk_at "ev"))
  | ((with_reducible refine' ev_op ?e1 ?e2 (rv_eqTy ?e3 ?e4)); (case e1 => walk_at "ev"); (case e2 => walk_at "ev"); (case e3 => exact PySem.TypeEq.meta_int); (case e4 => exact PySem.TypeEq.meta_int))
  | ((with_reducible refine' ev_un ?e1 ru_neg); (case e1 => walk_at "ev"))
  | ((with_reducible refine' ev_intI ?e1); (case e1 => walk_at "ev"))
  | ((with_reducible refine' ev_intB ?e1); (case e1 => walk_at "ev"))
  | ((with_reducible refine' ev_typeI ?e1); (case e1 => walk_at "ev"))
  | ((with_reducible refine' ev_abs ?e1); (case e1 => walk_at "ev"))
  | ((with_reducible refine' ev_max2 ?e1 ?e2); (case e1 => walk_at "ev"); (case e2 => walk_at "ev"))
  | ((with_reducible refine' ev_min2 ?e1 ?e2); (case e1 => walk_at "ev"); (case e2 => walk_at "ev"))
  | ((with_reducible refine' ev_gcd ?e1 ?e2); (case e1 => walk_at "ev"); (case e2 => walk_at "ev"))
  | ((with_reducible refine' ev_len ?e1 ?e2); (case e1 => walk_at "ev"); (case e2 => walk_at "sq"))
  | ((with_reducible refine' ev_chainI ?e1 ?e2 ?e3); (case e1 => walk_at "ev"); (case e2 => walk_at "ev"); (case e3 => walk_at "ev"))
  | ((with_reducible refine' ev_chain3I ?e1 ?e2 ?e3 ?e4); (case e1 => walk_at "ev"); (case e2 => walk_at "ev"); (case e3 => walk_at "ev"); (case e4 => walk_at "ev"))
  | ((with_reducible refine' ev_notV ?e1); (case e1 => walk_at "ev"))
  | ((with_reducible refine' ev_andV ?e1 ?e2); (case e1 => walk_at "ev"); (case e2 => (intro _; walk_at "ev")))
  | ((with_reducible refine' ev_orV ?e1 ?e2); (case e1 => walk_at "ev"); (case e2 => (intro _; walk_at "ev")))
  | ((with_reducible refine' ev_if ?e1 ?e2 ?e3); (case e1 => walk_at "et"); (case e2 => (intro _; walk_at "ev")); (case e3 => (intro _; walk_at "ev")))
  | ((with_reducible refine' ev_call ?e1 ?e2); (case e1 => walk_at "ea"); (case e2 => walk_at "call")))
local macro_rules | `(tactic| walk_at "ea") => `(tactic| first
  | (with_reducible exact ea_nil)
  | ((with_reducible refine' ea_cons ?e1 ?e2); (case e1 => walk_at "ev"); (case e2 => walk_at "ea")))
local macro_rules | `(tactic| walk_at "et") => `(tactic| first
  | ((with_reducible refine' et_test ?e1); (case e1 => walk_at "ev"))
  | ((with_reducible refine' et_B ?e1); (case e1 => walk_at "ev"))
  | ((with_reducible refine' et_not ?e1); (case e1 => walk_at "et"))
  | ((with_reducible refine' et_and ?e1 ?e2); (case e1 => walk_at "et"); (case e2 => (intro _; walk_at "et")))
  | ((with_reducible refine' et_or ?e1 ?e2); (case e1 => walk_at "et"); (case e2 => (intro _; walk_at "et"))))
local macro_rules | `(tactic| walk_at "eu") => `(tactic| first
  | ((with_reducible refine' eu_tup ?e1 ?e2); (case e1 => walk_at "ea"); (case e2 => exact Nat.le_of_ble_eq_true rfl))
  | ((with_reducible refine' eu_call ?e1 ?e2); (case e1 => walk_at "ea"); (case e2 => walk_at "callU")))
local macro_rules | `(tactic| walk_at "el") => `(tactic| first
  | ((with_reducible refine' el_call ?e1 ?e2); (case e1 => walk_at "ea"); (case e2 => walk_at "callL"))
  | ((with_reducible refine' el_lst ?e1 ?e2); (case e1 => walk_at "ea"); (case e2 => exact Nat.le_of_ble_eq_true rfl)))
local macro_rules | `(tactic| walk_at "sq") => `(tactic| first | assumption | exact sq_of (by assumption) | exact st_of (by assumption))
local macro_rules | `(tactic| walk_at "at") => `(tactic| first | assumption | rfl | (apply atI_nat; rfl))
local macro_rules | `(tactic| walk_at "call") => `(tactic| assumption)

/-! ### the pouch -/
/-- H without p -/
def Hm (p : Addr) (H : Hp) : Hp := fun b => if b = p then none else H b
theorem hm_p {p : Addr} {H : Hp} : Hm p H p = none := if_pos rfl
theorem hm_sub {p : Addr} {H : Hp} : Ex (Hm p H) H := fun a o h => by
  unfold Hm at h
  split at h
  · cases h
  · exact h
theorem hm_mono {p : Addr} {H H' : Hp} (e : Ex H H') : Ex (Hm p H) (Hm p H') := fun a o h => by
  unfold Hm at h ⊢
  split at h
  · cases h
  · rename_i ne
    rw [if_neg ne]
    exact e a o h
theorem ex_hm {p : Addr} {H0 H : Hp} (e : Ex H0 H) (h : H0 p = none) : Ex H0 (Hm p H) := fun a o ha => by
  unfold Hm
  rw [if_neg (ne_of_none ha h)]
  exact e a o ha
/-- a pouch after at most n mixed draws -/
def Po (p : Addr) (n : Nat) (H : Hp) : Prop := ∃ a b c : Int, H p = some (.lst [.int a, .int b, .int c]) ∧ (0 ≤ b ∧ b < 2 ^ 200) ∧ 0 ≤ c ∧ c ≤ n
theorem Po.ex {p : Addr} {n : Nat} {H H' : Hp} (h : Po p n H) (e : Ex H H') : Po p n H' := by
  obtain ⟨a, b, c, h1, h2⟩ := h
  exact ⟨a, b, c, e p _ h1, h2⟩
theorem Po.mono {p : Addr} {n m : Nat} {H : Hp} (h : Po p n H) (e : n ≤ m) : Po p m H := by
  obtain ⟨a, b, c, h1, h2, h3, h4⟩ := h
  exact ⟨a, b, c, h1, h2, h3, by omega⟩
theorem pow3_ok {i : Int} (h : i.natAbs < 2 ^ 250) : CPowX i 3 := by
  have := PyProof.Rows.intBits_le h
  unfold CPowX
  omega
theorem divw_ok {i j : Int} (h : 0 < j) (hb : j < 2 ^ 200) : CDivW i j := wide_div (b := 200) h (by omega) (by decide) (by decide)
theorem mulk_ok {i j : Int} (h : i.natAbs < 2 ^ 100000) (hb : j.natAbs < 2 ^ 100000) : CMulX i j := mulx_ok h hb (by decide)
def sp_law_pouch (K : PySem.W.Frag) : Sp := fun vs H Q _ => ∃ (s : Addr) (ns : List Int) (i : Nat), vs = [.ref s, .int (i : Int)] ∧ SqL K H s (ns.map V.int) ∧ i ≤ 100 ∧ ∀ p H', H p = none → Ex H H' → Po p 0 H' → Q (.ref p) H'
def sp_law_dip : Sp := fun vs H Q _ => ∃ (p : Addr) (n : Nat) (w : Int), vs = [.ref p, .int w] ∧ Po p n H ∧ n < 1000000000 ∧ 0 < w ∧ w < 2 ^ 200 ∧
  ∀ r H', 0 ≤ r → r < w → Po p (n + 1) H' → Ex (Hm p H) H' → Q (.int r) H'
section
variable {P : Program} {w : World} {K : PySem.W.Frag} {mg : Str → Option Value} {base : Heap}
theorem ok_law_dip (T : Tx K mg) : FnOk P w K mg base CX0 1 T.f_law_dip T.d_law_dip ["pouch", "wide"] sp_law_dip := by
  refine T.F_law_dip.ok sc_law_dip (fun vs H Q E h => ?_) (fun cdv A outer s H vs Q E hr h => ?_)
  · obtain ⟨p, n, w, rfl, _⟩ := h
    rfl
  · obtain ⟨p, n, w, rfl, ⟨a, b, c, hp, ⟨hb0, hb1⟩, hc0, hc1⟩, hn, hw0, hw1, k⟩ := h
    refine ⟨_, (pss_cons (ps_if (pt_cmpR op_gt (pe_ix ix_list (pv 0) pe_int (fun _ _ => rfl)) pe_int (nomark _)) (pss_cons (ps_set (i := 2) sc_law_dip.nd rfl (Or.inl rfl) (pe_op op_mod (pe_callTy call_intI (by rfl) T.m_int (by decide +kernel) (pa_cons (pe_ix ix_list (pv 0) pe_int (fun _ _ => rfl)) pa_nil)) (pv 1)))
      (pss_cons (ps_asg (pe_op op_fdivW (pe_ix ix_list (pv 0) pe_int (fun _ _ => rfl)) (pv 1)) (pg_sub (pv 0) pe_int set_list))
      (pss_one (ps_ret (pv 2))))) pss_nil)
      (pss_cons (ps_asg (pe_op op_add (pe_ix ix_list (pv 0) pe_int (fun _ _ => rfl)) pe_int) (pg_sub (pv 0) pe_int set_list))
      (pss_cons (ps_set (i := 3) sc_law_dip.nd rfl (Or.inl rfl) (pe_op op_mod (pe_op op_powX (pe_callTy call_intI (by rfl) T.m_int (by decide +kernel) (pa_cons (pe_op op_add (pe_ix ix_list (pv 0) pe_int (fun _ _ => rfl)) (pe_op op_mulX pe_int (pe_ix ix_list (pv 0) pe_int (fun _ _ => rfl)))) pa_nil)) pe_int) (pe_op op_add (pe_op op_powX pe_int pe_int) pe_int)))
      (pss_cons (ps_set (i := 3) sc_law_dip.nd rfl (Or.inl rfl) (pe_op op_mod (pe_op op_powX (pe_callTy call_intI (by rfl) T.m_int (by decide +kernel) (pa_cons (pe_op op_add (pv 3) (pe_op op_mulX pe_int (pe_ix ix_list (pv 0) pe_int (fun _ _ => rfl)))) pa_nil)) pe_int) (pe_op op_add (pe_op op_powX pe_int pe_int) pe_int)))
      (pss_one (ps_ret (pe_op op_mod (pe_callTy call_intI (by rfl) T.m_int (by decide +kernel) (pa_cons (pe_op op_fdivW (pv 3) pe_int) pa_nil)) (pv 1)))))))), ?_⟩
    have hp0 : Hm p H p = none := hm_p
    refine q_when (by walk_at "et") (fun hb H1 e1 => ?_) (fun hb H1 e1 => ?_)
    · have hp1 := e1 p _ hp
      refine q_asg (by walk_at "ev") fun H2 e2 => ?_
      have hp2 := e2 p _ hp1
      have hd : CDivW a w := divw_ok hw0 hw1
      refine q_setL (j := 0) hp2 (by walk_at "ev") (by walk_at "ev") ev_c (by show 0 < 3; decide) fun H3 e3 => ?_
      refine s_ret (by walk_at "ev") fun H4 e4 => ?_
      refine k _ _ (Int.emod_nonneg _ (by omega)) (Int.emod_lt_of_pos _ hw0) ⟨a / w, b, c, e4 p _ upd_same, ⟨hb0, hb1⟩, hc0, by omega⟩ ?_
      exact Ex.trans (Ex.mut (hm_sub.trans (e1.trans (e2.trans e3))) hp0) e4
    · have hp1 := e1 p _ hp
      refine q_setL (j := 2) hp1 (by walk_at "ev") (by walk_at "ev") ev_c (by show 2 < 3; decide) fun H2 e2 => ?_
      have hp2 : ∀ H3, Ex (upd H2 p (.lst ([V.int a, .int b, .int c].set 2 (.int (c + 1))))) H3 → H3 p = some (.lst [.int a, .int b, .int (c + 1)]) := fun H3 e => e p _ upd_same
      have hq := hp2 _ (Ex.refl _)
      have hm1 : CMulX 870022201 (c + 1) := mulx_ok (a := 64) (b := 64) (by decide) (by omega) (by decide)
      have hw1' : CPowX (b + 870022201 * (c + 1)) 3 := pow3_ok (by omega)
      have hw2 : CPowX 10 41 := ⟨by decide, by decide +kernel⟩
      refine q_asg (by walk_at "ev") fun H3 e3 => ?_
      have hq3 := hp2 _ e3
      have hm2 : CMulX 334214467 (c + 1) := mulx_ok (a := 64) (b := 64) (by decide) (by omega) (by decide)
      generalize hz : (b + 870022201 * (c + 1)) ^ (3 : Int).toNat % ((10 : Int) ^ (41 : Int).toNat + 37) = z
      have hz0 : 0 ≤ z := by
        rw [← hz]
        exact Int.emod_nonneg _ (by decide)
      have hz1 : z < (10 : Int) ^ (41 : Int).toNat + 37 := by
        rw [← hz]
        exact Int.emod_lt_of_pos _ (by decide)
      have hz2 : z < 2 ^ 200 := Int.lt_trans hz1 (by decide)
      have hw3 : CPowX (z + 334214467 * (c + 1)) 3 := pow3_ok (by omega)
      have hw4 : CPowX 10 39 := ⟨by decide, by decide +kernel⟩
      refine q_asg (by walk_at "ev") fun H4 e4 => ?_
      generalize (z + 334214467 * (c + 1)) ^ (3 : Int).toNat % ((10 : Int) ^ (39 : Int).toNat + 3) = y
      have hd : CDivW y 1048583 := divw_ok (by decide) (by decide)
      refine s_ret (by walk_at "ev") fun H5 e5 => ?_
      refine k _ _ (Int.emod_nonneg _ (by omega)) (Int.emod_lt_of_pos _ hw0) ⟨a, b, c + 1, hp2 _ (e3.trans (e4.trans e5)), ⟨hb0, hb1⟩, by omega, by omega⟩ ?_
      exact Ex.trans (Ex.mut (hm_sub.trans (e1.trans e2)) hp0) (e3.trans (e4.trans e5))
theorem ok_law_pouch (T : Tx K mg) : FnOk P w K mg base CX0 1 T.f_law_pouch T.d_law_pouch ["script", "at"] (sp_law_pouch K) := by
  refine T.F_law_pouch.ok sc_law_pouch (fun vs H Q E h => ?_) (fun cdv A outer s H vs Q E hr h => ?_)
  · obtain ⟨a, ns, i, rfl, _⟩ := h
    rfl
  · obtain ⟨a, ns, i, rfl, hs, hi, k⟩ := h
    refine ⟨_, (pss_cons (ps_set (i := 2) sc_law_pouch.nd rfl (Or.inl rfl) (pe_ifExp (pt_cmpR op_lt (pv 1) (pe_callB call_lenR (by rfl) T.m_len (by decide +kernel) (pa_cons (pv 0) pa_nil)) (nomark _)) (pe_ix ix_list (pv 0) (pv 1) (fun _ _ => rfl)) pe_int))
      (pss_one (ps_ret (pe_lst (pa_cons (pe_callB (call_maxR rfl) (by rfl) T.m_max (by decide +kernel) (pa_cons pe_int (pa_cons (pe_op op_sub (pe_callB call_absR (by rfl) T.m_abs (by decide +kernel) (pa_cons (pv 2) pa_nil)) (pe_op op_powX pe_int pe_int)) pa_nil))) (pa_cons (pe_op op_add (pe_op op_add (pe_op op_mulX (pe_op op_mod (pe_callTy call_intI (by rfl) T.m_int (by decide +kernel) (pa_cons (pv 2) pa_nil)) (pe_op op_add (pe_op op_powX pe_int pe_int) pe_int)) pe_int) (pe_op op_mulX pe_int (pv 1))) pe_int) (pa_cons pe_int pa_nil))))))), ?_⟩
    have hlen : (ns.map V.int).length = ns.length := List.length_map ..
    refine q_asg (v := .int (ns.getD i 0)) ?_ fun H1 e1 => ?_
    · refine ev_if (b := decide ((i : Int) < ((ns.map V.int).length : Int))) (by walk_at "et") (fun hb => ?_) (fun hb => ?_)
      · have hb := of_decide_eq_true hb
        rw [hlen] at hb
        have hlt : i < ns.length := by omega
        refine ev_op (ev_var rfl) (ev_var rfl) (rv_ixL hs (atI_nat (j := i) ?_))
        rw [List.getElem?_map, List.getElem?_eq_getElem hlt]
        simp [List.getD_eq_getElem?_getD, hlt]
      · have hb := of_decide_eq_false hb
        rw [hlen] at hb
        have e0 : ns.getD i 0 = 0 := by
          rw [List.getD_eq_getElem?_getD, List.getElem?_eq_none (by omega)]
          rfl
        rw [e0]
        exact ev_c
    · generalize ns.getD i 0 = z
      have hw1 : CPowX 10 18 := ⟨by decide, by decide +kernel⟩
      have hw2 : CPowX 10 38 := ⟨by decide, by decide +kernel⟩
      have hy0 : 0 ≤ z % ((10 : Int) ^ (38 : Int).toNat + 133) := Int.emod_nonneg _ (by decide)
      have hy1 : z % ((10 : Int) ^ (38 : Int).toNat + 133) < (10 : Int) ^ (38 : Int).toNat + 133 := Int.emod_lt_of_pos _ (by decide)
      have hy2 : z % ((10 : Int) ^ (38 : Int).toNat + 133) < 2 ^ 150 := Int.lt_trans hy1 (by decide)
      have hpos : 0 < (10 : Int) ^ (38 : Int).toNat + 133 := by decide
      have hm1 : CMulX (z % ((10 : Int) ^ (38 : Int).toNat + 133)) 107 := mulx_ok (a := 150) (b := 64) (by omega) (by decide) (by decide)
      have hm2 : CMulX 71 (i : Int) := mulx_ok (a := 64) (b := 64) (by decide) (by omega) (by decide)
      refine s_retL (el_lst (ea_cons (by walk_at "ev") (ea_cons (by walk_at "ev") (ea_cons ev_c ea_nil))) (Nat.le_of_ble_eq_true rfl)) fun p H2 hp e2 hl => ?_
      refine k p H2 (fresh_back e1 hp) (e1.trans e2) ⟨_, _, _, hl, ⟨?_, ?_⟩, by omega, by omega⟩
      · generalize z % ((10 : Int) ^ (38 : Int).toNat + 133) = y at hy0 hy2 ⊢
        omega
      · generalize z % ((10 : Int) ^ (38 : Int).toNat + 133) = y at hy0 hy2 ⊢
        omega
end

/-! ### expressions that draw -/
theorem hm_trans {p : Addr} {H H1 H2 : Hp} (a : Ex (Hm p H) H1) (b : Ex (Hm p H1) H2) : Ex (Hm p H) H2 := fun x o h => by
  have ne : x ≠ p := fun z => by
    subst z
    rw [hm_p] at h
    cases h
  have h1 := a x o h
  refine b x o ?_
  unfold Hm
  rw [if_neg ne]
  exact h1
theorem hm_next {p : Addr} {H0 H H1 : Hp} (h0 : H0 p = none) (e : Ex H0 H) (s : Ex (Hm p H) H1) : Ex H0 H1 := (ex_hm e h0).trans s
theorem hm_of {p : Addr} {H H1 : Hp} (e : Ex H H1) : Ex (Hm p H) H1 := hm_sub.trans e
theorem hm_at {p a : Addr} {H H1 : Hp} {o : HO} (s : Ex (Hm p H) H1) (ne : a ≠ p) (h : H a = some o) : H1 a = some o := s a o (by
  unfold Hm
  rw [if_neg ne]
  exact h)
theorem Po.ne {p l : Addr} {n : Nat} {H : Hp} (h : Po p n H) (hl : H l = none) : l ≠ p := fun z => by
  subst z
  obtain ⟨_, _, _, h1, _⟩ := h
  rw [hl] at h1
  cases h1
def EvP (p : Addr) (k : Nat) (te : TE) (σ : L2.St) (H0 : Hp) (R : V → Hp → Prop) : Prop := ∀ n H1, Ex H0 H1 → Po p n H1 → n + k ≤ 1000000000 →
  ∀ Q : VK, (∀ v H2, R v H2 → Po p (n + k) H2 → Ex (Hm p H1) H2 → Q v H2) → te σ H1 Q
def Stb (p : Addr) (R : V → Hp → Prop) : Prop := ∀ v H H', R v H → Ex (Hm p H) H' → R v H'
section
variable {K : PySem.W.Frag} {σ : L2.St} {H0 H : Hp} {p : Addr} {k k1 k2 : Nat} {te ta tb : TE} {R Ra Rb : V → Hp → Prop}
theorem ep_ev {v : V} (h : Ev te σ H0 v) : EvP p 0 te σ H0 (fun x _ => x = v) := fun n H1 e hp _ Q q => h H1 e Q fun H2 e2 => q v H2 rfl (hp.ex e2) (hm_of e2)
theorem ep_L {xs : List V} (h : EvL te σ H0 xs) : EvP p 0 te σ H0 (fun x H => ∃ l, l ≠ p ∧ x = .ref l ∧ H l = some (.lst xs)) := fun n H1 e hp _ Q q => h H1 e Q fun l H2 hl e2 h2 => q _ H2 ⟨l, hp.ne hl, rfl, h2⟩ (hp.ex e2) (hm_of e2)
theorem stb_L {xs : List V} : Stb p (fun x H => ∃ l, l ≠ p ∧ x = .ref l ∧ H l = some (.lst xs)) := fun v H H' ⟨l, ne, e, h⟩ s => ⟨l, ne, e, hm_at s ne h⟩
theorem stb_c {C : V → Prop} : Stb p (fun x _ => C x) := fun _ _ _ h _ => h
theorem ep_op {r : R2} (h0 : H0 p = none) (ha : EvP p k1 ta σ H0 Ra) (hb : EvP p k2 tb σ H0 Rb) (s1 : Stb p Ra) (s : Stb p R) (hr : ∀ x y H, Ra x H → Rb y H → ∃ z, R z H ∧ RV r x y H z) : EvP p (k1 + k2) (tOp r ta tb) σ H0 R :=
  fun n H1 e hp hn Q q => ha n H1 e hp (by omega) _ fun x H2 hx p2 e2 => hb (n + k1) H2 (hm_next h0 e e2) p2 (by omega) _ fun y H3 hy p3 e3 => by
    obtain ⟨z, hz, hv⟩ := hr x y H3 (s1 x H2 H3 hx e3) hy
    refine hv H3 (Ex.refl H3) Q fun H4 e4 => q z H4 (s z H3 H4 hz (hm_of e4)) ?_ (hm_trans (hm_trans e2 e3) (hm_of e4))
    rw [← Nat.add_assoc]
    exact p3.ex e4
theorem ep_dip {tw : TE} {E : XK} {C : Int → Prop} (h0 : H0 p = none) (hp : Ev ta σ H0 (.ref p)) (hw : EvP p k tw σ H0 (fun v _ => ∃ w, v = .int w ∧ 0 < w ∧ w < 2 ^ 200 ∧ C w)) :
    EvP p (k + 1) (tCall sp_law_dip [] E (tCons ta (tCons tw tNil))) σ H0 (fun v _ => ∃ r w, v = .int r ∧ 0 ≤ r ∧ r < w ∧ C w) :=
  fun n H1 e hpo hn Q q => hp H1 e _ fun H2 e2 => hw n H2 (e.trans e2) (hpo.ex e2) (by omega) _ fun y H3 hy p3 e3 => by
    obtain ⟨w, rfl, w0, w1, c⟩ := hy
    exact ⟨p, n + k, w, rfl, p3, by omega, w0, w1, fun r H' r0 r1 p4 e4 => q _ H' ⟨r, w, rfl, r0, r1, c⟩ p4 (hm_trans (hm_trans (hm_of e2) e3) e4)⟩
theorem ep_is {R' : V → Hp → Prop} (h : EvP p k te σ H0 R) (e : ∀ v H, R v H → R' v H) : EvP p k te σ H0 R' := fun n H1 a b c Q q => h n H1 a b c Q fun v H2 hv => q v H2 (e v H2 hv)
/-- the width is a pure int -/
theorem ep_dipI {tw : TE} {E : XK} {w : Int} (h0 : H0 p = none) (hp : Ev ta σ H0 (.ref p)) (hw : Ev tw σ H0 (.int w)) (w0 : 0 < w) (w1 : w < 2 ^ 200) :
    EvP p 1 (tCall sp_law_dip [] E (tCons ta (tCons tw tNil))) σ H0 (fun v _ => ∃ r, v = .int r ∧ 0 ≤ r ∧ r < w) :=
  ep_is (ep_dip (k := 0) (C := fun z => z = w) h0 hp (ep_is (ep_ev hw) fun v H e => ⟨w, e, w0, w1, rfl⟩)) fun v H ⟨r, z, e, r0, r1, e2⟩ => ⟨r, e, r0, e2 ▸ r1⟩
/-- a + b, b drawn -/
theorem ep_add {a : Int} {C : Int → Prop} (h0 : H0 p = none) (ha : Ev ta σ H0 (.int a)) (hb : EvP p k tb σ H0 (fun v _ => ∃ r, v = .int r ∧ C r)) : EvP p (0 + k) (tOp (rI0 fun i j => .int (i + j)) ta tb) σ H0 (fun v _ => ∃ r, v = .int (a + r) ∧ C r) :=
  ep_op h0 (ep_ev ha) hb stb_c stb_c fun x y H e ⟨r, e2, c⟩ => ⟨.int (a + r), ⟨r, rfl, c⟩, by
    subst e
    subst e2
    exact rv_I0⟩
theorem p_asg {i n : Nat} {D : Ends} (h : EvP p k te σ H0 R) (e : Ex H0 H) (hp : Po p n H) (hn : n + k ≤ 1000000000) (q : ∀ v H2, R v H2 → Po p (n + k) H2 → Ex (Hm p H) H2 → D.nx (σ.set i (some v)) H2) : tAsg te (gName i) D σ H := h n H e hp hn _ q
theorem pq_asg {i n : Nat} {D : Ends} {tz : TS} (h : EvP p k te σ H0 R) (e : Ex H0 H) (hp : Po p n H) (hn : n + k ≤ 1000000000) (q : ∀ v H2, R v H2 → Po p (n + k) H2 → Ex (Hm p H) H2 → tz D (σ.set i (some v)) H2) : tSeq (tAsg te (gName i)) tz D σ H := h n H e hp hn _ q
/-- tests that draw -/
def EtP (p : Addr) (k : Nat) (t : TT) (σ : L2.St) (H0 : Hp) (b : Bool) : Prop := ∀ n H1, Ex H0 H1 → Po p n H1 → n + k ≤ 1000000000 →
  ∀ Q : Bool → Hp → Prop, (∀ H2, Po p (n + k) H2 → Ex (Hm p H1) H2 → Q b H2) → t σ H1 Q
variable {t u : TT} {b c : Bool}
theorem tp_B (h : EvP p k te σ H0 (fun v _ => v = .bl b)) : EtP p k (tB te) σ H0 b := fun n H1 e hp hn Q q => h n H1 e hp hn _ fun v H2 hv p2 e2 => ⟨b, hv, q H2 p2 e2⟩
theorem tp_not (h : EtP p k t σ H0 b) : EtP p k (tNot t) σ H0 (!b) := fun n H1 e hp hn Q q => h n H1 e hp hn _ fun H2 p2 e2 => q H2 p2 e2
theorem tp_is (h : EtP p k t σ H0 b) (e : b = c) : EtP p k t σ H0 c := e ▸ h
theorem tp_or (h0 : H0 p = none) (h : EtP p k1 t σ H0 false) (h' : EtP p k2 u σ H0 b) : EtP p (k1 + k2) (tOr t u) σ H0 b := fun n H1 e hp hn Q q => h n H1 e hp (by omega) _ fun H2 p2 e2 => by
  show u σ H2 Q
  refine h' (n + k1) H2 (hm_next h0 e e2) p2 (by omega) Q fun H3 p3 e3 => q H3 ?_ (hm_trans e2 e3)
  rw [← Nat.add_assoc]
  exact p3
theorem tp_et (h : EvT t σ H0 b) : EtP p 0 t σ H0 b := fun n H1 e hp _ Q q => h H1 e Q fun H2 e2 => q H2 (hp.ex e2) (hm_of e2)
/-- a test that is false: what follows -/
theorem pq_no {n : Nat} {D : Ends} {tu tz : TS} (h : EtP p k t σ H0 false) (e : Ex H0 H) (hp : Po p n H) (hn : n + k ≤ 1000000000) (q : ∀ H2, Po p (n + k) H2 → Ex (Hm p H) H2 → tz D σ H2) : tSeq (tIfS t tu tNext) tz D σ H := h n H e hp hn _ q
theorem ps_no {n : Nat} {D : Ends} {tu : TS} (h : EtP p k t σ H0 false) (e : Ex H0 H) (hp : Po p n H) (hn : n + k ≤ 1000000000) (q : ∀ H2, Po p (n + k) H2 → Ex (Hm p H) H2 → D.nx σ H2) : tIfS t tu tNext D σ H := h n H e hp hn _ q
/-- pouch = _law_pouch(script, at) -/
theorem pq_pouch {ta : TA} {E : XK} {D : Ends} {tz : TS} {j i : Nat} {s : Addr} {ns : List Int} (h : EvA ta σ H [.ref s, .int (i : Int)]) (hs : SqL K H s (ns.map V.int)) (hi : i ≤ 100) (q : ∀ p H2, H p = none → Ex H H2 → Po p 0 H2 → tz D (σ.set j (some (.ref p))) H2) :
    tSeq (tAsg (tCall (sp_law_pouch K) [] E ta) (gName j)) tz D σ H := h H (Ex.refl H) _ fun H1 e1 => ⟨s, ns, i, rfl, ex_l e1 hs, hi, fun p H2 hp e2 hpo => q p H2 (fresh_back e1 hp) (e1.trans e2) hpo⟩
end


/-! ### lists of guests -/
def iz (xs : List Nat) : List Int := xs.map fun x : Nat => (x : Int)
def nv (xs : List Nat) : List V := (iz xs).map V.int
theorem nv_len (xs : List Nat) : (nv xs).length = xs.length := by simp [nv, iz]
theorem nv_get {xs : List Nat} {i x : Nat} (h : xs[i]? = some x) : (nv xs)[i]? = some (.int x) := by simp [nv, iz, h]
theorem nv_app (xs ys : List Nat) : nv (xs ++ ys) = nv xs ++ nv ys := by simp [nv, iz]
theorem nv_eq (xs : List Nat) : nv xs = xs.map fun x : Nat => V.int (x : Int) := by simp [nv, iz]
def Ord (h : List Nat) : Prop := h.Perm (List.range h.length) ∧ 1 ≤ h.length ∧ h.length ≤ 20
theorem el_mapI {K : PySem.W.Frag} {σ : L2.St} {H : Hp} {te tl : TE} {a : Addr} {xs : List V} {j : Nat} {vs : List Nat} (f : Nat → V) (h : Ev tl σ H (.ref a)) (hx : SqL K H a xs) (hz : xs.length ≤ 40000) (hw : ∀ x, wipe ((wipe σ vs).set j (some x)) vs = wipe σ vs)
    (he : ∀ (i : Nat) (x : V) H1, Ex H H1 → xs[i]? = some x → Ev te ((wipe σ vs).set j (some x)) H1 (f i)) : EvL (tLc (iList K tl) (gName j) tYes te vs) σ H ((List.range xs.length).map f) := by
  have e : (List.range xs.length).map f = given xs.length (fun _ => true) f := by
    unfold given
    rw [List.filter_eq_self.mpr (fun _ _ => rfl)]
  rw [e]
  exact el_lcL _ _ h hx hz hw (fun _ _ _ _ _ => et_yes) fun i x H1 e hi _ => he i x H1 e hi
def sp_is_whole (K : PySem.W.Frag) : Sp := fun vs H Q _ => (∃ (v : V) (d : PyData), vs = [v] ∧ It K H v d ∧ RetV (.bl (isI d)) H Q) ∨ (∃ (b : Addr) (xs : List V), vs = [.ref b] ∧ H b = some (.tup xs) ∧ RetV (.bl false) H Q)
theorem sv_whole {K : PySem.W.Frag} {H : Hp} {x : Int} : SpV (sp_is_whole K) ([.int x] ++ []) H (.bl true) := fun H1 _ Q q E => .inl ⟨.int x, .int x, rfl, .int x, q⟩
theorem sv_wholeD {K : PySem.W.Frag} {H : Hp} {v : V} {d : PyData} (h : It K H v d) : SpV (sp_is_whole K) ([v] ++ []) H (.bl (isI d)) := fun H1 e Q q E => .inl ⟨v, d, rfl, h.ex e, q⟩
local macro_rules | `(tactic| walk_at "call") => `(tactic| (with_reducible exact sv_whole))
def sp_ord (v : V) : Sp := fun vs H Q _ => ∃ (a : Addr) (h : List Nat), vs = [.ref a] ∧ H a = some (.lst (nv h)) ∧ Ord h ∧ RetV v H Q
theorem sv_ord {H : Hp} {v : V} {a : Addr} {h : List Nat} (ha : H a = some (.lst (nv h))) (o : Ord h) : SpV (sp_ord v) ([.ref a] ++ []) H v := fun H1 e Q q E => ⟨a, h, rfl, e a _ ha, o, q⟩
section
variable {P : Program} {w : World} {K : PySem.W.Frag} {mg : Str → Option Value} {base : Heap}
theorem ok_is_whole (T : Tx K mg) : FnOk P w K mg base CX0 1 T.f_is_whole T.d_is_whole ["thing"] (sp_is_whole K) := by
  refine T.F_is_whole.ok sc_is_whole (fun vs H Q E h => ?_) (fun cdv A outer s H vs Q E hr h => ?_)
  · rcases h with ⟨v, d, rfl, _⟩ | ⟨b, xs, rfl, _⟩
    · rfl
    · rfl
  · rcases h with ⟨v, d, rfl, hv, k⟩ | ⟨b, xs, rfl, hb, k⟩
    · refine ⟨_, (pss_one (ps_ret (pe_cmpR op_eqTy (pe_typeOf (by rfl) T.m_type (pv 0)) (pe_bltn (v := .ty "int") (by rfl) T.m_int (by decide +kernel) rfl) (nomark _)))), ?_⟩
      exact s_ret (ev_isWhole (ev_var rfl) hv) fun H1 e1 => k _ e1
    · refine ⟨_, (pss_one (ps_ret (pe_cmpR op_eqTy (pe_typeOf (by rfl) T.m_type (pv 0)) (pe_bltn (v := .ty "int") (by rfl) T.m_int (by decide +kernel) rfl) (nomark _)))), ?_⟩
      exact s_ret (v := .bl false) (fun H1 e Q q => ev_var (i := 0) (v := .ref b) rfl H1 e _ fun H2 e2 => ⟨"tuple", by
        have := e2 b _ (e b _ hb)
        simp [zTyV, this], "tuple", "int", rfl, rfl, PySem.TypeEq.meta_tuple, PySem.TypeEq.meta_int, q H2 e2⟩) fun H1 e1 => k _ e1
theorem range_iz (n : Nat) : rgV 0 (n : Int) = nv (List.range n) := by
  rw [nv_eq]
  unfold rgV
  simp
/-- the ints of data -/
def intsOf (ds : List PyData) : List Int := ds.map fun
  | .int i => i
  | _ => 0
def sortI (ns : List Int) : List Int := ns.mergeSort fun a b => decide (a ≤ b)
theorem sortI_perm (ns : List Int) : (sortI ns).Perm ns := List.mergeSort_perm ns _
theorem sortI_sorted (ns : List Int) : (sortI ns).Pairwise (· ≤ ·) := by
  have := List.pairwise_mergeSort (le := fun a b : Int => decide (a ≤ b)) (fun a b c h1 h2 => by
    have h1 := of_decide_eq_true h1
    have h2 := of_decide_eq_true h2
    exact decide_eq_true (by omega)) (fun a b => by
    rw [Bool.or_eq_true, decide_eq_true_iff, decide_eq_true_iff]
    omega) ns
  exact this.imp fun h => of_decide_eq_true h
theorem ints_of {K : PySem.W.Frag} {H : Hp} : ∀ {xs : List V} {ds : List PyData}, ItAll K H xs ds → ds.all isI = true → xs = (intsOf ds).map V.int
  | _, _, .nil, _ => rfl
  | _, _, .cons h t, ha => by
    rw [List.all_cons, Bool.and_eq_true] at ha
    have := ints_of t ha.2
    cases h with
    | int i =>
      rw [this]
      rfl
    | non => exact Bool.noConfusion ha.1
    | bl b => exact Bool.noConfusion ha.1
    | str x => exact Bool.noConfusion ha.1
    | lst _ _ => exact Bool.noConfusion ha.1
theorem ita_get {K : PySem.W.Frag} {H : Hp} : ∀ {xs : List V} {ds : List PyData} {i : Nat} {x : V}, ItAll K H xs ds → xs[i]? = some x → ∃ d, ds[i]? = some d ∧ It K H x d
  | _, _, 0, x, .cons h t, e => ⟨_, rfl, (Option.some.inj (show some _ = some x from e)) ▸ h⟩
  | _, _, i + 1, x, .cons h t, e => ita_get (i := i) t e
  | _, _, 0, x, .nil, e => by simp at e
  | _, _, i + 1, x, .nil, e => by simp at e
def lenOk (n : Nat) : Bool := decide ((1 : Int) ≤ (n : Int)) && decide ((n : Int) ≤ 20)
def sorts (ds : List PyData) : Bool := PyData.eqv (.list ((sortI (intsOf ds)).map PyData.int)) (.list ((iz (List.range ds.length)).map PyData.int))
/-- whether a thing is a list with 0, 1, .. once each -/
def judge : Option (List PyData) → Bool
  | none => false
  | some ds => lenOk ds.length && (ds.all isI && sorts ds)
def sp_any (K : PySem.W.Frag) : Sp := fun vs H Q _ => ∃ (v : V) (o : Option (List PyData)), vs = [v] ∧ Th K H v o ∧ RetV (.bl (judge o)) H Q
def sp_is_order (K : PySem.W.Frag) : Sp := fun vs H Q E => sp_ord (.bl true) vs H Q E ∨ sp_any K vs H Q E
theorem sv_order {K : PySem.W.Frag} {H : Hp} {a : Addr} {h : List Nat} (ha : H a = some (.lst (nv h))) (o : Ord h) : SpV (sp_is_order K) ([.ref a] ++ []) H (.bl true) := fun H1 e Q q E => .inl (sv_ord ha o H1 e Q q E)
theorem sv_any {K : PySem.W.Frag} {H : Hp} {v : V} {o : Option (List PyData)} (hv : Th K H v o) : SpV (sp_is_order K) ([v] ++ []) H (.bl (judge o)) := fun H1 e Q q E => .inr ⟨v, o, rfl, hv.ex e, q⟩
theorem judge_ord {h : List Nat} (o : Ord h) : judge (some ((iz h).map PyData.int)) = true := by
  have e : intsOf ((iz h).map PyData.int) = iz h := by
    unfold intsOf
    rw [List.map_map]
    exact List.map_id _
  have el : ((iz h).map PyData.int).length = h.length := by simp [iz]
  have s : sortI (iz h) = iz (List.range h.length) := List.Perm.eq_of_pairwise (le := fun a b : Int => a ≤ b) (fun a b _ _ h1 h2 => by omega) (sortI_sorted _) (by
    unfold iz
    rw [List.pairwise_map]
    exact List.Pairwise.imp (fun {a b} h => by omega) List.pairwise_lt_range) ((sortI_perm _).trans (o.1.map (fun x : Nat => (x : Int))))
  unfold judge sorts lenOk
  simp only
  rw [e, el, s, eqv_same (shaped_ints _)]
  have hl := o.2
  have : ((iz h).map PyData.int).all isI = true := by
    rw [List.all_map, List.all_eq_true]
    intro x _
    rfl
  rw [this]
  simp
  omega
theorem Ord.th {K : PySem.W.Frag} {H : Hp} {a : Addr} {h : List Nat} (ha : H a = some (.lst (nv h))) : Th K H (.ref a) (some ((iz h).map PyData.int)) := .lst ha (ita_ints _) (fine_ints _)
theorem ok_is_order (T : Tx K mg) : FnOk P w K mg base CX0 2 T.f_is_order T.d_is_order ["thing"] (sp_is_order K) := by
  refine FnOk.imp (sp := sp_any K) ?_ (fun vs H Q E h => ?_)
  · refine T.F_is_order.ok sc_is_order (fun vs H Q E h => ?_) (fun cdv A outer s H vs Q E hr h => ?_)
    · obtain ⟨v, o, rfl, _⟩ := h
      rfl
    · obtain ⟨v, o, rfl, hv, k⟩ := h
      refine ⟨_, (pss_cons (ps_if (PW.pt (pw_or (pt_cmpR (op_neTyG (hu_of hr)) (pe_typeOf2 (by rfl) T.m_type (pv 0)) (pe_bltn (v := .ty "list") (by rfl) T.m_list (by decide +kernel) rfl) (nomark _)) (pw_or1 (pt_not (pt_chain op_le op_le pe_int (pe_callB call_lenR (by rfl) T.m_len (by decide +kernel) (pa_cons (pv 0) pa_nil)) (pe_gc (by rfl) T.c_MOST_GUESTS)))))) (pss_one (ps_ret pe_bl)) pss_nil)
      (pss_cons (ps_if (pt_not (pt_val (pe_callB (cr_all rfl) (by rfl) T.m_all (by decide +kernel) (pa_cons (pe_lc (own := [("item", 1)]) (g := (gName 1)) (tt := tYes) rfl sc_is_order.nd (pi_list (pv 0)) (blkOk_by (own := [("item", 1)]) (N := n_is_order) (sc := defScope s_is_order) (by decide +kernel)) (fun _ _ _ _ _ => (pg_name (i := 1) sc_is_order.nd rfl (Or.inl rfl))) (fun _ _ _ _ _ => pts_nil) (fun _ _ _ _ _ => (pe_call (ok_is_whole T) (hr.mono (by decide)) (by rfl) T.g_is_whole T.F_is_whole.kp T.b_is_whole .nil pass0 (pa_cons (pv 1) pa_nil)))) pa_nil)))) (pss_one (ps_ret pe_bl)) pss_nil)
      (pss_one (ps_ret (pe_cmpR (op_eqD hr.units) (pe_callB cr_sorted (by rfl) T.m_sorted (by decide +kernel) (pa_cons (pv 0) pa_nil)) (pe_listRg rfl (by rfl) T.m_list (prg_1 (by rfl) T.m_range (pe_callB call_lenR (by rfl) T.m_len (by decide +kernel) (pa_cons (pv 0) pa_nil)))) (nomark _)))))), ?_⟩
      cases o with
      | none =>
        refine q_when (b := true) (et_is (et_or (b := false) (et_test (ev_noList (ev_var rfl) hv)) fun z => Bool.noConfusion z) rfl) (fun _ H1 e1 => ?_) fun hb => Bool.noConfusion hb
        exact s_ret ev_c fun H2 e2 => k _ (e1.trans e2)
      | some ds =>
        have hv0 := hv
        cases hv with
        | @lst a xs _ ha hd hf =>
          have hl : xs.length = ds.length := hd.len
          refine q_when (b := !lenOk ds.length) (et_is (et_or (et_test (ev_noList (ev_var rfl) hv0)) fun _ => et_not (et_test (ev_chainI ev_c (ev_len (ev_var rfl) (sq_of ha)) ev_c))) (by rw [hl]; rfl)) (fun hb H1 e1 => ?_) fun hb H1 e1 => ?_
          · have hb : lenOk ds.length = false := by simpa using hb
            have ej : judge (some ds) = false := by
              unfold judge
              simp only
              rw [hb]
              rfl
            rw [ej] at k
            exact s_ret ev_c fun H2 e2 => k _ (e1.trans e2)
          · have hb : lenOk ds.length = true := by simpa using hb
            have hn : 1 ≤ ds.length ∧ ds.length ≤ 20 := by
              unfold lenOk at hb
              simp at hb
              omega
            have h1 := e1 a _ ha
            refine q_when (b := !(ds.all isI)) (et_is (et_not (et_B (ev_allN (bs := ds.map isI) ?_))) (by rw [List.all_map]; rfl)) (fun hb2 H2 e2 => ?_) fun hb2 H2 e2 => ?_
            · have g := el_mapI (K := K) (te := tCall (sp_is_whole K) [] E0 (tCons (tVar 1) tNil)) (j := 1) (vs := [1]) (σ := start n_is_order [.ref a]) (H := H1) (fun i => V.bl (isI (ds.getD i .none))) (ev_var (i := 0) rfl) (sq_of h1) (by omega) (fun _ => rfl) fun i x H2 e2 hx => ?_
              · have e : (List.range xs.length).map (fun i => V.bl (isI (ds.getD i .none))) = (ds.map isI).map V.bl := by
                  rw [hl]
                  conv => rhs; rw [range_get ds .none]
                  rw [List.map_map, List.map_map]
                  rfl
                rw [e] at g
                exact g
              · obtain ⟨d, hd1, hd2⟩ := ita_get hd hx
                have gd : ds.getD i .none = d := by rw [List.getD_eq_getElem?_getD, hd1] <;> rfl
                show Ev _ _ _ (V.bl (isI (ds.getD i .none)))
                rw [gd]
                exact ev_call (ea_cons (ev_var rfl) ea_nil) (sv_wholeD (hd2.ex (e1.trans e2)))
            · have hb2 : ds.all isI = false := by simpa using hb2
              have ej : judge (some ds) = false := by
                unfold judge
                simp only
                rw [hb2, Bool.false_and, Bool.and_false]
              rw [ej] at k
              exact s_ret ev_c fun H3 e3 => k _ (e1.trans (e2.trans e3))
            · have hb2 : ds.all isI = true := by simpa using hb2
              have ex := ints_of hd hb2
              have il : (intsOf ds).length = ds.length := by simp [intsOf]
              have h2 := e2 a _ h1
              have sr : EvD K (tCB (rSorted K) (tCons (tVar 0) tNil)) (start n_is_order [.ref a]) H2 (.list ((sortI (intsOf ds)).map PyData.int)) :=
                ed_sorted (ns := intsOf ds) (ev_var rfl) (sq_of (by rw [← ex]; exact h2)) (by omega) (sortI_perm _) (sortI_sorted _)
              have rg : EvD K (tLstRg (tRg1 (tCB (rLenS K) (tCons (tVar 0) tNil)))) (start n_is_order [.ref a]) H2 (.list ((iz (List.range ds.length)).map PyData.int)) :=
                ed_ofL (xs := nv (List.range ds.length)) (by
                  have g := el_rg1 (σ := start n_is_order [.ref a]) (ev_len (K := K) (ta := tVar 0) (ev_var (i := 0) (v := .ref a) rfl) (sq_of h2)) (RgOk.of_le (by decide) (by omega) (by decide) (by omega))
                  rw [hl, range_iz] at g
                  exact g) (dpa_ints _)
              have ej : judge (some ds) = sorts ds := by
                unfold judge
                simp only
                rw [hb, hb2, Bool.true_and, Bool.true_and]
              rw [ej] at k
              exact s_ret (ev_eqD sr rg (shaped_ints _) (shaped_ints _)) fun H3 e3 => k _ (e1.trans (e2.trans e3))
  · rcases h with ⟨a, g, rfl, ha, o, k⟩ | h
    · refine ⟨.ref a, _, rfl, Ord.th ha, ?_⟩
      rw [judge_ord o]
      exact k
    · exact h
local macro_rules | `(tactic| walk_at "call") => `(tactic| ((with_reducible refine' sv_order ?c1 ?c2); (case c1 => assumption); (case c2 => assumption)))
theorem ok_is_seating (T : Tx K mg) : FnOk P w K mg base CX0 3 T.f_is_seating T.d_is_seating ["thing"] (sp_is_order K) := by
  refine T.F_is_seating.ok sc_is_seating (fun vs H Q E h => ?_) (fun cdv A outer s H vs Q E hr h => ?_)
  · rcases h with ⟨a, g, rfl, _⟩ | ⟨v, o, rfl, _⟩
    · rfl
    · rfl
  · rcases h with ⟨a, g, rfl, ha, o, k⟩ | ⟨v, o, rfl, hv, k⟩
    · refine ⟨_, (pss_one (ps_ret (pe_call (ok_is_order T) (hr.mono (by decide)) (by rfl) T.g_is_order T.F_is_order.kp T.b_is_order .nil pass0 (pa_cons (pv 0) pa_nil)))), ?_⟩
      exact s_ret (by walk_at "ev") fun H1 e1 => k _ e1
    · refine ⟨_, (pss_one (ps_ret (pe_call (ok_is_order T) (hr.mono (by decide)) (by rfl) T.g_is_order T.F_is_order.kp T.b_is_order .nil pass0 (pa_cons (pv 0) pa_nil)))), ?_⟩
      exact s_ret (ev_call (ea_cons (ev_var rfl) ea_nil) (sv_any hv)) fun H1 e1 => k _ e1
end

/-! ### errors -/
theorem eqv_ints_eq {xs ys : List Int} (h : PyData.eqv (.list (xs.map PyData.int)) (.list (ys.map PyData.int)) = true) : xs = ys := by
  have key : ∀ xs ys : List Int, PyData.eqvAll (xs.map PyData.int) (ys.map PyData.int) = true → xs = ys := by
    intro xs
    induction xs with
    | nil =>
      intro ys h
      cases ys with
      | nil => rfl
      | cons y r => simp [PyData.eqvAll] at h
    | cons x s ih =>
      intro ys h
      cases ys with
      | nil => simp [PyData.eqvAll] at h
      | cons y r =>
        simp only [List.map_cons, PyData.eqvAll, Bool.and_eq_true, PyData.eqv] at h
        rw [ih r h.2]
        have := h.1
        simp at this
        rw [this]
  exact key xs ys h
theorem nat_of_ints : ∀ {ns : List Int}, (∀ n ∈ ns, 0 ≤ n) → ∃ h : List Nat, ns = iz h
  | [], _ => ⟨[], rfl⟩
  | n :: r, hh => by
    obtain ⟨h, e⟩ := nat_of_ints fun m hm => hh m (List.mem_cons_of_mem _ hm)
    refine ⟨n.toNat :: h, ?_⟩
    have := hh n List.mem_cons_self
    rw [e]
    show n :: iz h = ((n.toNat : Nat) : Int) :: iz h
    rw [show ((n.toNat : Nat) : Int) = n by omega]
/-- what is judged true is a list of guests -/
theorem judge_yes {K : PySem.W.Frag} {H : Hp} {v : V} {o : Option (List PyData)} (hv : Th K H v o) (hj : judge o = true) : ∃ (a : Addr) (h : List Nat), v = .ref a ∧ H a = some (.lst (nv h)) ∧ Ord h := by
  cases hv with
  | @lst a xs ds ha hd hf =>
    unfold judge at hj
    simp only [Bool.and_eq_true] at hj
    obtain ⟨hl, hi, hs⟩ := hj
    have ex := ints_of hd hi
    have e := eqv_ints_eq hs
    have il : (intsOf ds).length = ds.length := by simp [intsOf]
    have pm : (intsOf ds).Perm (iz (List.range ds.length)) := by
      rw [← e]
      exact (sortI_perm _).symm
    obtain ⟨h, eh⟩ := nat_of_ints (ns := intsOf ds) fun n hn => by
      obtain ⟨x, _, rfl⟩ := List.mem_map.mp (pm.mem_iff.mp hn)
      omega
    have hlen : h.length = ds.length := by
      rw [← il, eh]
      simp [iz]
    refine ⟨a, h, rfl, ?_, ?_, ?_⟩
    · rw [ha, ex, eh]
      rfl
    · rw [eh] at pm
      have p2 := pm.map Int.toNat
      have back : ∀ l : List Nat, (iz l).map Int.toNat = l := fun l => by
        unfold iz
        rw [List.map_map]
        exact (List.map_congr_left fun x _ => by simp).trans (List.map_id _)
      rw [back, back] at p2
      rw [hlen]
      exact p2
    · unfold lenOk at hl
      simp at hl
      omega
  | non => exact Bool.noConfusion hj
  | bl b => exact Bool.noConfusion hj
  | int i => exact Bool.noConfusion hj
  | str x => exact Bool.noConfusion hj
  | tup h => exact Bool.noConfusion hj
  | dct h => exact Bool.noConfusion hj
/-- what is evaluated to a text of at most n signs -/
def EvS (n : Nat) (te : TE) (σ : L2.St) (H : Hp) : Prop := ∀ H1, Ex H H1 → ∀ Q : VK, (∀ y H2, Ex H1 H2 → y.length ≤ n → Q (.str y) H2) → te σ H1 Q
section
variable {K : PySem.W.Frag} {σ : L2.St} {H H' : Hp} {te : TE}
theorem es_c {z : Str} {n : Nat} (h : z.length ≤ n) : EvS n (tC (.str z)) σ H := fun H1 _ Q q => q z H1 (Ex.refl _) h
theorem es_fmt {i : Int} (h : Ev te σ H (.int i)) (hb : i.natAbs < 2 ^ 1900) : EvS 1921 (tFmt te) σ H := fun H1 e Q q => h H1 e _ fun H2 e2 => .inr ⟨i, rfl, by
  by_cases z : i.natAbs = 0
  · rw [z]
    decide
  · exact Nat.lt_of_lt_of_le ((Nat.log2_lt z).mpr hb) (by decide), q _ H2 e2 (by
  refine int_text_len_1921 ?_
  by_cases z : i.natAbs = 0
  · rw [z]
    decide
  · exact Nat.lt_of_lt_of_le ((Nat.log2_lt z).mpr hb) (by decide))⟩
theorem tjs_nil {acc : Str} {Q : Str → Hp → Prop} (q : ∀ y, Q y H) : tJs [] acc σ H Q := q acc
theorem str_app_len (a b : Str) : (a ++ b).length = a.length + b.length := by
  show (Str.mk (a.cps ++ b.cps)).cps.size = _
  rw [Array.size_append]
  rfl
theorem tjs_go {n : Nat} : ∀ {ts : List TE} {acc : Str} {H1 : Hp} {Q : Str → Hp → Prop}, (∀ t ∈ ts, EvS n t σ H) → Ex H H1 → acc.length + ts.length * n ≤ 100000 → (∀ y H2, Ex H1 H2 → Q y H2) → tJs ts acc σ H1 Q
  | [], acc, H1, Q, _, _, _, q => q acc H1 (Ex.refl _)
  | t :: ts, acc, H1, Q, h, e, hz, q => h t List.mem_cons_self H1 e _ fun y H2 e2 hy => by
    rw [List.length_cons, Nat.add_mul, Nat.one_mul] at hz
    have hl := str_app_len acc y
    exact ⟨y, rfl, sz_of (by omega), tjs_go (fun t ht => h t (List.mem_cons_of_mem _ ht)) (e.trans e2) (by omega) fun z H3 e3 => q z H3 (e2.trans e3)⟩
end
def sp_chk1 (C : Addr) (lo hi : Int) : Sp := fun vs H Q E => ∃ x : Int, vs = [.int x] ∧ Out (if lo ≤ x ∧ x ≤ hi then none else some C) H Q E
def sp_chkN (C : Addr) : Sp := fun vs H Q E => ∃ x lo hi : Int, vs = [.int x, .int lo, .int hi] ∧ lo.natAbs < 2 ^ 1900 ∧ hi.natAbs < 2 ^ 1900 ∧ Out (if lo ≤ x ∧ x ≤ hi then none else some C) H Q E
def sp_chkS (K : PySem.W.Frag) (C : Addr) : Sp := fun vs H Q E => ∃ (v : V) (o : Option (List PyData)), vs = [v] ∧ Th K H v o ∧ Out (if judge o then none else some C) H Q E
theorem so_chk1 {C : Addr} {lo hi x : Int} {H : Hp} : SpO (sp_chk1 C lo hi) ([.int x] ++ []) H (if lo ≤ x ∧ x ≤ hi then none else some C) := fun H1 e Q E q => ⟨x, rfl, q⟩
theorem so_chkN {C : Addr} {lo hi x : Int} {H : Hp} (h0 : lo.natAbs < 2 ^ 1900) (h1 : hi.natAbs < 2 ^ 1900) : SpO (sp_chkN C) ([.int x, .int lo, .int hi] ++ []) H (if lo ≤ x ∧ x ≤ hi then none else some C) := fun H1 e Q E q => ⟨x, lo, hi, rfl, h0, h1, q⟩
theorem so_chkS {K : PySem.W.Frag} {C : Addr} {H : Hp} {v : V} {o : Option (List PyData)} (hv : Th K H v o) : SpO (sp_chkS K C) ([v] ++ []) H (if judge o then none else some C) := fun H1 e Q E q => ⟨v, o, rfl, hv.ex e, q⟩
/-- a def that asks first whether its argument is what it should be, and raises if not -/
def SpJ (K : PySem.W.Frag) (J : Option (List PyData) → Bool) (C : Addr) (old : Sp) : Sp := fun vs H Q E => ∃ (v : V) (o : Option (List PyData)), vs = [v] ∧ Th K H v o ∧ (J o = false → ∀ H1, Ex H H1 → E (.ref C) none H1) ∧ (J o = true → old [v] H Q E)
theorem spJ_v {K : PySem.W.Frag} {J : Option (List PyData) → Bool} {C : Addr} {old : Sp} {H : Hp} {v z : V} {o : Option (List PyData)} (hv : Th K H v o) (hj : J o = true) (h : SpV old ([v] ++ []) H z) : SpV (SpJ K J C old) ([v] ++ []) H z := fun H1 e Q q E =>
  ⟨v, o, rfl, hv.ex e, (fun n => by rw [hj] at n; exact Bool.noConfusion n), fun _ => h H1 e Q q E⟩
theorem spJ_l {K : PySem.W.Frag} {J : Option (List PyData) → Bool} {C : Addr} {old : Sp} {H : Hp} {v : V} {xs : List V} {o : Option (List PyData)} (hv : Th K H v o) (hj : J o = true) (h : SpL old ([v] ++ []) H xs) : SpL (SpJ K J C old) ([v] ++ []) H xs := fun H1 e Q q E =>
  ⟨v, o, rfl, hv.ex e, (fun n => by rw [hj] at n; exact Bool.noConfusion n), fun _ => h H1 e Q q E⟩
theorem due_no {p : Prop} [Decidable p] {C : Addr} (h : (if p then none else some C) = none) : p := by
  by_cases hp : p
  · exact hp
  · rw [if_neg hp] at h
    cases h
theorem due_yes {p : Prop} [Decidable p] {C D : Addr} (h : (if p then none else some C) = some D) : ¬ p ∧ D = C := by
  by_cases hp : p
  · rw [if_pos hp] at h
    cases h
  · rw [if_neg hp] at h
    exact ⟨hp, (Option.some.inj h).symm⟩


local macro_rules | `(tactic| walk_at "call") => `(tactic| (with_reducible exact sv_whole))

/-! ### rings: the mathematics -/
/-- r is a whole table of the seating h, from its first guest on to the left -/
structure Rg (h r : List Nat) : Prop where
  ne : 0 < r.length
  nd : r.Nodup
  st : ∀ i, i < r.length → ∃ x y, r[i]? = some x ∧ r[(i + 1) % r.length]? = some y ∧ h[x]? = some y
def rot (r : List Nat) (k : Nat) : List Nat := r.drop k ++ r.take k
theorem rot_len {r : List Nat} {k : Nat} (hk : k ≤ r.length) : (rot r k).length = r.length := by
  unfold rot
  rw [List.length_append, List.length_drop, List.length_take]
  omega
theorem rot_get {r : List Nat} {k i : Nat} (hk : k < r.length) (hi : i < r.length) : (rot r k)[i]? = r[(i + k) % r.length]? := by
  unfold rot
  by_cases h : i < r.length - k
  · rw [List.getElem?_append_left (by rw [List.length_drop]; exact h), List.getElem?_drop, Nat.mod_eq_of_lt (by omega), Nat.add_comm]
  · rw [List.getElem?_append_right (by rw [List.length_drop]; omega), List.length_drop, List.getElem?_take_of_lt (by omega)]
    have e : (i + k) % r.length = i - (r.length - k) := by
      rw [Nat.mod_eq_sub_mod (by omega), Nat.mod_eq_of_lt (by omega)]
      omega
    rw [e]
theorem rot_perm (r : List Nat) (k : Nat) : (rot r k).Perm r := by
  unfold rot
  exact List.perm_append_comm.trans (List.Perm.of_eq (List.take_append_drop k r))
theorem Rg.rot {h r : List Nat} (R : Rg h r) {k : Nat} (hk : k < r.length) : Rg h (rot r k) := by
  have hl := rot_len (r := r) (k := k) (by omega)
  refine ⟨by have := R.ne; omega, (rot_perm r k).nodup_iff.mpr R.nd, fun i hi => ?_⟩
  rw [hl] at hi ⊢
  obtain ⟨x, y, h1, h2, h3⟩ := R.st ((i + k) % r.length) (Nat.mod_lt _ R.ne)
  refine ⟨x, y, by rw [rot_get hk hi]; exact h1, ?_, h3⟩
  rw [rot_get hk (Nat.mod_lt _ R.ne), ← h2, Nat.mod_add_mod, Nat.mod_add_mod]
  congr 2
  omega
structure Rings (h : List Nat) (rs : List (List Nat)) : Prop where
  rg : ∀ r ∈ rs, Rg h r
  low : ∀ r ∈ rs, ∀ x ∈ r, r.headD 0 ≤ x
  asc : (rs.map (·.headD 0)).Pairwise (· < ·)
  all : rs.flatten.Perm (List.range h.length)
def leads (r : List Nat) : Bool := decide (∀ x ∈ r, r.headD 0 ≤ x)
theorem Rings.turn {h : List Nat} {rs : List (List Nat)} (R : Rings h rs) {g : Nat} (hg : g < h.length) : ∃ w : List Nat, (∃ r ∈ rs, ∃ k, r[k]? = some g ∧ w = rot r k) := by
  have hm : g ∈ rs.flatten := R.all.mem_iff.mpr (List.mem_range.mpr hg)
  obtain ⟨r, hr, hgr⟩ := List.mem_flatten.mp hm
  obtain ⟨k, hk⟩ := List.mem_iff_getElem?.mp hgr
  exact ⟨rot r k, r, hr, k, hk, rfl⟩
theorem Rings.walks {h : List Nat} {rs : List (List Nat)} (R : Rings h rs) : ∃ f : Nat → List Nat, ∀ g, g < h.length → ∃ r ∈ rs, ∃ k, r[k]? = some g ∧ f g = rot r k :=
  ⟨fun g => if hg : g < h.length then Classical.choose (R.turn hg) else [], fun g hg => by
    have := Classical.choose_spec (R.turn hg)
    simp only [dif_pos hg]
    exact this⟩
theorem head_rot {r : List Nat} {k g : Nat} (hk : r[k]? = some g) : (rot r k).headD 0 = g := by
  obtain ⟨hl, e⟩ := List.getElem?_eq_some_iff.mp hk
  unfold rot
  rw [List.drop_eq_getElem_cons hl]
  exact e
theorem leads_rot {r : List Nat} {k g : Nat} (hk : r[k]? = some g) (lo : ∀ x ∈ r, r.headD 0 ≤ x) (ne : 0 < r.length) : leads (rot r k) = decide (g = r.headD 0) := by
  unfold leads
  rw [head_rot hk]
  have hmem : ∀ x, x ∈ rot r k ↔ x ∈ r := fun x => (rot_perm r k).mem_iff
  have h0 : r.headD 0 ∈ r := by
    cases r with
    | nil => simp at ne
    | cons a l => simp
  have hg : g ∈ r := List.mem_of_getElem? hk
  apply decide_eq_decide.mpr
  constructor
  · intro a
    have := a _ ((hmem _).mpr h0)
    have := lo g hg
    omega
  · intro a x hx
    rw [a]
    exact lo x ((hmem x).mp hx)
theorem rot_zero (r : List Nat) : rot r 0 = r := by
  unfold rot
  simp
theorem nodup_flat {rs : List (List Nat)} (h : rs.flatten.Nodup) {r r' : List Nat} {x : Nat} (hr : r ∈ rs) (hr' : r' ∈ rs) (hx : x ∈ r) (hx' : x ∈ r') : r = r' := by
  induction rs with
  | nil => cases hr
  | cons a l ih =>
    rw [List.flatten_cons, List.nodup_append] at h
    obtain ⟨h1, h2, h3⟩ := h
    rcases List.mem_cons.mp hr with e | q
    · rcases List.mem_cons.mp hr' with e' | q'
      · rw [e, e']
      · exact absurd rfl (h3 x (e ▸ hx) x (List.mem_flatten.mpr ⟨r', q', hx'⟩))
    · rcases List.mem_cons.mp hr' with e' | q'
      · exact absurd rfl (h3 x (e' ▸ hx') x (List.mem_flatten.mpr ⟨r, q, hx⟩))
      · exact ih h2 q q'
theorem Rings.nodup {h : List Nat} {rs : List (List Nat)} (R : Rings h rs) : rs.flatten.Nodup := R.all.nodup_iff.mpr List.nodup_range
/-- the walks that begin with their least guest are the rings -/
theorem Rings.lead {h : List Nat} {rs : List (List Nat)} (R : Rings h rs) {f : Nat → List Nat} (hf : ∀ g, g < h.length → ∃ r ∈ rs, ∃ k, r[k]? = some g ∧ f g = rot r k) : ((List.range h.length).map f).filter leads = rs := by
  rw [List.filter_map]
  have hd : ∀ g, g < h.length → leads (f g) = decide (g ∈ rs.map (·.headD 0)) := fun g hg => by
    obtain ⟨r, hr, k, hk, e⟩ := hf g hg
    rw [e, leads_rot hk (R.low r hr) (R.rg r hr).ne]
    apply decide_eq_decide.mpr
    constructor
    · intro a
      exact List.mem_map.mpr ⟨r, hr, a.symm⟩
    · intro a
      obtain ⟨r', hr', e'⟩ := List.mem_map.mp a
      have h0 : g ∈ r' := by
        have := (R.rg r' hr').ne
        cases r' with
        | nil => simp at this
        | cons b l => simp at e'; simp [e']
      have := nodup_flat R.nodup hr hr' (List.mem_of_getElem? hk) h0
      rw [this]
      exact e'.symm
  have hs : (List.range h.length).filter (leads ∘ f) = rs.map (·.headD 0) := by
    have e : (List.range h.length).filter (leads ∘ f) = (List.range h.length).filter (fun g => decide (g ∈ rs.map (·.headD 0))) := List.filter_congr fun g hg => hd g (List.mem_range.mp hg)
    rw [e]
    refine List.Perm.eq_of_pairwise (le := fun a b : Nat => a < b) (fun a b _ _ h1 h2 => by omega) (List.Pairwise.filter _ List.pairwise_lt_range) R.asc ?_
    refine (List.perm_ext_iff_of_nodup (List.Pairwise.filter _ List.nodup_range) (R.asc.imp fun h => Nat.ne_of_lt h)).mpr fun g => ?_
    rw [List.mem_filter]
    constructor
    · intro a
      exact of_decide_eq_true a.2
    · intro a
      refine ⟨?_, decide_eq_true a⟩
      obtain ⟨r', hr', e'⟩ := List.mem_map.mp a
      refine R.all.mem_iff.mp (List.mem_flatten.mpr ⟨r', hr', ?_⟩)
      have := (R.rg r' hr').ne
      cases r' with
      | nil => simp at this
      | cons b l => simp at e'; simp [e']
  rw [hs, List.map_map]
  refine (List.map_congr_left fun r hr => ?_).trans (List.map_id _)
  have ne := (R.rg r hr).ne
  have hm : r.headD 0 < h.length := List.mem_range.mp (R.all.mem_iff.mp (List.mem_flatten.mpr ⟨r, hr, by
    cases r with
    | nil => simp at ne
    | cons b l => simp⟩))
  obtain ⟨r', hr', k, hk, e⟩ := hf (r.headD 0) hm
  have e2 := nodup_flat R.nodup hr' hr (List.mem_of_getElem? hk) (by
    cases r with
    | nil => simp at ne
    | cons b l => simp)
  subst e2
  have k0 : k = 0 := by
    have h0 : r'[0]? = some (r'.headD 0) := by
      cases r' with
      | nil => simp at ne
      | cons b l => simp
    exact nd_ix (R.rg r' hr').nd hk h0
  show f (r'.headD 0) = r'
  rw [e, k0, rot_zero]

/-! ### rings by entries: the mathematics -/
def insr (pal one : Nat) (r : List Nat) : List Nat := if pal ∈ r ∧ pal ≠ one then r.take (r.idxOf pal + 1) ++ [one] ++ r.drop (r.idxOf pal + 1) else r
def rstep (rs : List (List Nat)) (one pal : Nat) : List (List Nat) := (if one = pal then rs ++ [[one]] else rs).map (insr pal one)
def ringsTo (e : List Nat) : Nat → List (List Nat)
  | 0 => []
  | i + 1 => rstep (ringsTo e i) i (e.getD i 0)
structure RI (m : Nat) (rs : List (List Nat)) : Prop where
  all : rs.flatten.Perm (List.range m)
  ne : ∀ r ∈ rs, 0 < r.length
  low : ∀ r ∈ rs, ∀ x ∈ r, r.headD 0 ≤ x
  asc : (rs.map (·.headD 0)).Pairwise (· < ·)
theorem insr_perm {pal one : Nat} {r : List Nat} (h : pal ∈ r) (ne : pal ≠ one) : (insr pal one r).Perm (one :: r) := by
  unfold insr
  rw [if_pos ⟨h, ne⟩, List.append_assoc]
  refine (List.Perm.append_left _ List.perm_append_comm).trans ?_
  rw [← List.append_assoc, List.take_append_drop]
  exact List.perm_append_comm
theorem insr_no {pal one : Nat} {r : List Nat} (h : pal ∉ r) : insr pal one r = r := if_neg fun q => h q.1
theorem insr_same {pal one : Nat} {r : List Nat} (h : pal = one) : insr pal one r = r := if_neg fun q => q.2 h
theorem insr_head {pal one : Nat} {r : List Nat} : (insr pal one r).headD 0 = r.headD 0 := by
  by_cases h : pal ∈ r ∧ pal ≠ one
  · unfold insr
    rw [if_pos h]
    cases r with
    | nil => simp at h
    | cons x l => simp
  · unfold insr
    rw [if_neg h]
theorem insr_len {pal one : Nat} {r : List Nat} (h : 0 < r.length) : 0 < (insr pal one r).length := by
  unfold insr
  split
  · simp
    omega
  · exact h
theorem insr_mem {pal one x : Nat} {r : List Nat} (h : x ∈ insr pal one r) : x ∈ r ∨ x = one := by
  by_cases q : pal ∈ r ∧ pal ≠ one
  · have := (insr_perm q.1 q.2).mem_iff.mp h
    rcases List.mem_cons.mp this with z | z
    · exact .inr z
    · exact .inl z
  · unfold insr at h
    rw [if_neg q] at h
    exact .inl h
theorem insr_all {pal one : Nat} (ne : pal ≠ one) : ∀ {rs : List (List Nat)}, rs.flatten.Nodup → pal ∈ rs.flatten → (rs.map (insr pal one)).flatten.Perm (one :: rs.flatten)
  | [], _, h => by simp at h
  | r :: l, nd, h => by
    rw [List.flatten_cons, List.nodup_append] at nd
    rw [List.map_cons, List.flatten_cons, List.flatten_cons]
    by_cases q : pal ∈ r
    · have hn : ∀ s ∈ l, pal ∉ s := fun s hs z => absurd rfl (nd.2.2 pal q pal (List.mem_flatten.mpr ⟨s, hs, z⟩))
      have e : l.map (insr pal one) = l := (List.map_congr_left fun s hs => insr_no (hn s hs)).trans (List.map_id _)
      rw [e]
      exact (List.Perm.append_right _ (insr_perm q ne))
    · rw [insr_no q]
      have h' : pal ∈ l.flatten := by
        rw [List.flatten_cons] at h
        rcases List.mem_append.mp h with z | z
        · exact absurd z q
        · exact z
      refine (List.Perm.append_left _ (insr_all ne nd.2.1 h')).trans ?_
      exact List.perm_middle
theorem RI.nd {m : Nat} {rs : List (List Nat)} (R : RI m rs) : rs.flatten.Nodup := R.all.nodup_iff.mpr List.nodup_range
theorem RI.mem {m x : Nat} {rs : List (List Nat)} (R : RI m rs) {r : List Nat} (hr : r ∈ rs) (hx : x ∈ r) : x < m := List.mem_range.mp (R.all.mem_iff.mp (List.mem_flatten.mpr ⟨r, hr, hx⟩))
theorem head_mem {r : List Nat} (h : 0 < r.length) : r.headD 0 ∈ r := by
  cases r with
  | nil => simp at h
  | cons x l => simp
theorem RI.step {one pal : Nat} {rs : List (List Nat)} (R : RI one rs) (h : pal ≤ one) : RI (one + 1) (rstep rs one pal) := by
  unfold rstep
  by_cases q : one = pal
  · rw [if_pos q]
    have e : (rs ++ [[one]]).map (insr pal one) = rs ++ [[one]] := (List.map_congr_left fun s _ => insr_same q.symm).trans (List.map_id _)
    rw [e]
    refine ⟨?_, ?_, ?_, ?_⟩
    · rw [List.flatten_append, List.range_succ]
      exact List.Perm.append_right _ R.all
    · intro r hr
      rcases List.mem_append.mp hr with z | z
      · exact R.ne r z
      · rw [List.mem_singleton.mp z]; simp
    · intro r hr
      rcases List.mem_append.mp hr with z | z
      · exact R.low r z
      · rw [List.mem_singleton.mp z]; simp
    · rw [List.map_append, List.pairwise_append]
      refine ⟨R.asc, by simp, fun a ha b hb => ?_⟩
      obtain ⟨r, hr, rfl⟩ := List.mem_map.mp ha
      have := R.mem hr (head_mem (R.ne r hr))
      simp at hb
      omega
  · rw [if_neg q]
    have hp : pal ∈ rs.flatten := R.all.mem_iff.mpr (List.mem_range.mpr (by omega))
    have eh : (rs.map (insr pal one)).map (·.headD 0) = rs.map (·.headD 0) := by
      rw [List.map_map]
      exact List.map_congr_left fun r _ => insr_head
    refine ⟨?_, ?_, ?_, ?_⟩
    · refine (insr_all (Ne.symm q) R.nd hp).trans ?_
      rw [List.range_succ]
      exact (List.Perm.cons _ R.all).trans (List.perm_append_comm (l₁ := [one]))
    · intro r hr
      obtain ⟨s, hs, rfl⟩ := List.mem_map.mp hr
      exact insr_len (R.ne s hs)
    · intro r hr x hx
      obtain ⟨s, hs, rfl⟩ := List.mem_map.mp hr
      rw [insr_head]
      rcases insr_mem hx with z | z
      · exact R.low s hs x z
      · have := R.mem hs (head_mem (R.ne s hs))
        omega
    · rw [eh]
      exact R.asc
theorem ringsTo_ok {e : List Nat} (h : ∀ (i x : Nat), e[i]? = some x → x ≤ i) : ∀ m, m ≤ e.length → RI m (ringsTo e m)
  | 0, _ => ⟨List.Perm.refl _, by simp [ringsTo], by simp [ringsTo], by simp [ringsTo]⟩
  | m + 1, hm => by
    have ih := ringsTo_ok h m (by omega)
    refine ih.step ?_
    have : e[m]? = some (e.getD m 0) := by
      rw [List.getD_eq_getElem?_getD, List.getElem?_eq_getElem (by omega)]
      rfl
    exact h m _ this
/-! the seating of rings -/
def succ (rs : List (List Nat)) (x : Nat) : Nat := match rs.find? (fun r => decide (x ∈ r)) with
  | some r => r.getD ((r.idxOf x + 1) % r.length) 0
  | none => 0
theorem succ_at {rs : List (List Nat)} (nd : rs.flatten.Nodup) {r : List Nat} (hr : r ∈ rs) {i x : Nat} (hx : r[i]? = some x) : succ rs x = r.getD ((i + 1) % r.length) 0 := by
  have hm := List.mem_of_getElem? hx
  have hf : rs.find? (fun r => decide (x ∈ r)) = some r := by
    cases hq : rs.find? (fun r => decide (x ∈ r)) with
    | none => exact absurd (decide_eq_true hm) (by simpa using List.find?_eq_none.mp hq r hr)
    | some s =>
      have h1 := List.mem_of_find?_eq_some hq
      have h2 := List.find?_some hq
      rw [nodup_flat nd h1 hr (of_decide_eq_true h2) hm]
  have ndr : r.Nodup := List.Pairwise.sublist (List.sublist_flatten_of_mem hr) nd
  have hi : r.idxOf x = i := by
    have hl := List.idxOf_lt_length_of_mem hm
    have := List.getElem_idxOf hl
    have h1 : r[r.idxOf x]? = some x := by rw [List.getElem?_eq_getElem hl, this]
    exact nd_ix ndr h1 hx
  unfold succ
  rw [hf]
  show r.getD ((r.idxOf x + 1) % r.length) 0 = _
  rw [hi]
def seat (rs : List (List Nat)) (n : Nat) : List Nat := (List.range n).map (succ rs)
theorem seat_rg {rs : List (List Nat)} {n : Nat} (hp : rs.flatten.Perm (List.range n)) {r : List Nat} (hr : r ∈ rs) (ne : 0 < r.length) : Rg (seat rs n) r := by
  have nd : rs.flatten.Nodup := hp.nodup_iff.mpr List.nodup_range
  refine ⟨ne, List.Pairwise.sublist (List.sublist_flatten_of_mem hr) nd, fun i hi => ?_⟩
  have hx : r[i]? = some r[i] := List.getElem?_eq_getElem hi
  have hm := Nat.mod_lt (i + 1) ne
  refine ⟨r[i], r[(i + 1) % r.length], hx, List.getElem?_eq_getElem hm, ?_⟩
  have hn : r[i] < n := List.mem_range.mp (hp.mem_iff.mp (List.mem_flatten.mpr ⟨r, hr, List.getElem_mem hi⟩))
  unfold seat
  rw [List.getElem?_map, List.getElem?_range hn]
  show some (succ rs r[i]) = _
  rw [succ_at nd hr hx, List.getD_eq_getElem?_getD, List.getElem?_eq_getElem hm]
  rfl
theorem seat_len (rs : List (List Nat)) (n : Nat) : (seat rs n).length = n := by simp [seat]
theorem map_rot {rs : List (List Nat)} (nd : rs.flatten.Nodup) {r : List Nat} (hr : r ∈ rs) (ne : 0 < r.length) : r.map (succ rs) = rot r (1 % r.length) := by
  have hk := Nat.mod_lt 1 ne
  refine List.ext_getElem? fun i => ?_
  by_cases hi : i < r.length
  · have hx : r[i]? = some r[i] := List.getElem?_eq_getElem hi
    have hm := Nat.mod_lt (i + 1) ne
    rw [List.getElem?_map, hx, rot_get hk hi, Nat.add_mod_mod]
    show some (succ rs r[i]) = _
    rw [succ_at nd hr hx, List.getD_eq_getElem?_getD, List.getElem?_eq_getElem hm]
    rfl
  · rw [List.getElem?_eq_none (by simp; omega), List.getElem?_eq_none (by rw [rot_len (by omega)]; omega)]
theorem flat_map_perm {g : Nat → Nat} : ∀ {rs : List (List Nat)}, (∀ r ∈ rs, (r.map g).Perm r) → (rs.flatten.map g).Perm rs.flatten
  | [], _ => List.Perm.refl _
  | r :: l, h => by
    rw [List.flatten_cons, List.map_append]
    exact List.Perm.append (h r (by simp)) (flat_map_perm fun s hs => h s (by simp [hs]))
theorem seat_perm {rs : List (List Nat)} {n : Nat} (hp : rs.flatten.Perm (List.range n)) (hne : ∀ r ∈ rs, 0 < r.length) : (seat rs n).Perm (List.range n) := by
  have nd : rs.flatten.Nodup := hp.nodup_iff.mpr List.nodup_range
  unfold seat
  refine ((hp.symm.map (succ rs)).trans (flat_map_perm fun r hr => ?_)).trans hp
  rw [map_rot nd hr (hne r hr)]
  exact rot_perm r _
theorem RI.rings {m : Nat} {rs : List (List Nat)} (R : RI m rs) : Rings (seat rs m) rs := ⟨fun r hr => seat_rg R.all hr (R.ne r hr), R.low, R.asc, by rw [seat_len]; exact R.all⟩
theorem seat_ord {rs : List (List Nat)} {n : Nat} (hp : rs.flatten.Perm (List.range n)) (hne : ∀ r ∈ rs, 0 < r.length) (h1 : 1 ≤ n) (h2 : n ≤ 20) : Ord (seat rs n) := by
  unfold Ord
  rw [seat_len]
  exact ⟨seat_perm hp hne, h1, h2⟩

/-! ### coming lists: the mathematics -/
def Cm (c : List Nat) : Prop := 1 ≤ c.length ∧ c.length ≤ 20 ∧ ∀ (i x : Nat), c[i]? = some x → x ≤ i
theorem Cm.get {c : List Nat} (h : Cm c) (k : Nat) : c.getD k 0 ≤ k := by
  rw [List.getD_eq_getElem?_getD]
  cases e : c[k]? with
  | none => exact Nat.zero_le _
  | some x => exact h.2.2 k x e
/-- one more guest at the left of x, or alone -/
def sits (h : List Nat) (k x : Nat) : List Nat := if x = k then h ++ [k] else ((h ++ [k]).set k (h.getD x 0)).set x k
def sby (c : List Nat) : Nat → List Nat
  | 0 => []
  | k + 1 => sits (sby c k) k (c.getD k 0)
theorem sits_len {h : List Nat} {k x : Nat} : (sits h k x).length = h.length + 1 := by
  unfold sits
  split <;> simp
theorem sby_len (c : List Nat) : ∀ k, (sby c k).length = k
  | 0 => rfl
  | k + 1 => by
    show (sits _ _ _).length = _
    rw [sits_len, sby_len c k]
theorem sby_take (c : List Nat) {w : Nat} (hw : w ≤ c.length) : ∀ k, k ≤ w → sby (c.take w) k = sby c k
  | 0, _ => rfl
  | k + 1, h => by
    show sits (sby (c.take w) k) k _ = sits (sby c k) k _
    rw [sby_take c hw k (by omega)]
    congr 1
    rw [List.getD_eq_getElem?_getD, List.getD_eq_getElem?_getD, List.getElem?_take]
    rw [if_pos (by omega)]
theorem insr_at {pal one : Nat} {r : List Nat} {j : Nat} (nd : r.Nodup) (hj : r[j]? = some pal) (ne : pal ≠ one) : insr pal one r = r.take (j + 1) ++ [one] ++ r.drop (j + 1) := by
  have hm := List.mem_of_getElem? hj
  have e : r.idxOf pal = j := by
    have hl := List.idxOf_lt_length_of_mem hm
    have h1 : r[r.idxOf pal]? = some pal := by rw [List.getElem?_eq_getElem hl, List.getElem_idxOf hl]
    exact nd_ix nd h1 hj
  unfold insr
  rw [if_pos ⟨hm, ne⟩, e]
theorem ins_get {r : List Nat} {j one t : Nat} (hj : j < r.length) : (r.take (j + 1) ++ [one] ++ r.drop (j + 1))[t]? = if t ≤ j then r[t]? else if t = j + 1 then some one else r[t - 1]? := by
  have l1 : (r.take (j + 1)).length = j + 1 := by rw [List.length_take]; omega
  split
  · rename_i h
    rw [List.getElem?_append_left (by simp; omega), List.getElem?_append_left (by omega), List.getElem?_take, if_pos (by omega)]
  · split
    · rename_i h1 h2
      subst h2
      rw [List.getElem?_append_left (by simp; omega), List.getElem?_append_right (by omega), l1, Nat.sub_self]
      rfl
    · rename_i h1 h2
      rw [List.getElem?_append_right (by simp; omega), List.getElem?_drop]
      congr 1
      simp
      omega
theorem ins_len {r : List Nat} {j one : Nat} (hj : j < r.length) : (r.take (j + 1) ++ [one] ++ r.drop (j + 1)).length = r.length + 1 := by
  simp
  omega
theorem mod_next {i L : Nat} (h : i < L) : (i + 1) % L = if i + 1 = L then 0 else i + 1 := by
  split
  · rename_i e
    rw [e, Nat.mod_self]
  · exact Nat.mod_eq_of_lt (by omega)
theorem getD_of {r : List Nat} {i x : Nat} (h : r[i]? = some x) : r.getD i 0 = x := by
  rw [List.getD_eq_getElem?_getD, h]
  rfl
/-- the left neighbours when one more guest has sat down -/
theorem succ_step {one pal : Nat} {rs : List (List Nat)} (R : RI one rs) (lt : pal < one) : succ (rstep rs one pal) pal = one ∧ succ (rstep rs one pal) one = succ rs pal ∧ ∀ x, x < one → x ≠ pal → succ (rstep rs one pal) x = succ rs x := by
  have ne : pal ≠ one := by omega
  have R2 := R.step (pal := pal) (by omega)
  have nd2 := R2.nd
  have nd := R.nd
  have e : rstep rs one pal = rs.map (insr pal one) := by
    unfold rstep
    rw [if_neg (by omega)]
  have hp : pal ∈ rs.flatten := R.all.mem_iff.mpr (List.mem_range.mpr lt)
  obtain ⟨r, hr, hpr⟩ := List.mem_flatten.mp hp
  obtain ⟨j, hj⟩ := List.mem_iff_getElem?.mp hpr
  have jl := (List.getElem?_eq_some_iff.mp hj).1
  have ndr : r.Nodup := List.Pairwise.sublist (List.sublist_flatten_of_mem hr) nd
  have ei := insr_at (one := one) ndr hj ne
  have mem2 : r.take (j + 1) ++ [one] ++ r.drop (j + 1) ∈ rstep rs one pal := by
    rw [e, ← ei]
    exact List.mem_map.mpr ⟨r, hr, rfl⟩
  have L := ins_len (one := one) jl
  have G := fun t => ins_get (one := one) (t := t) jl
  generalize hq : r.take (j + 1) ++ [one] ++ r.drop (j + 1) = q at *
  have atj : q[j]? = some pal := by rw [G, if_pos (Nat.le_refl _)]; exact hj
  have atj1 : q[j + 1]? = some one := by rw [G, if_neg (by omega), if_pos rfl]
  have s1 := succ_at nd2 mem2 atj
  have s2 := succ_at nd2 mem2 atj1
  have s0 := succ_at nd hr hj
  refine ⟨?_, ?_, ?_⟩
  · rw [s1, L, mod_next (by omega), if_neg (by omega)]
    exact getD_of atj1
  · rw [s2, L, s0, mod_next (by omega), mod_next jl]
    by_cases z : j + 1 = r.length
    · rw [if_pos (by omega), if_pos z, List.getD_eq_getElem?_getD, List.getD_eq_getElem?_getD, G, if_pos (by omega)]
    · rw [if_neg (by omega), if_neg z, List.getD_eq_getElem?_getD, List.getD_eq_getElem?_getD, G, if_neg (by omega), if_neg (by omega)]
      rfl
  · intro x hx nx
    have hxm : x ∈ rs.flatten := R.all.mem_iff.mpr (List.mem_range.mpr hx)
    obtain ⟨s, hs, hxs⟩ := List.mem_flatten.mp hxm
    obtain ⟨i, hi⟩ := List.mem_iff_getElem?.mp hxs
    have il := (List.getElem?_eq_some_iff.mp hi).1
    have t0 := succ_at nd hs hi
    by_cases hps : pal ∈ s
    · have : s = r := nodup_flat nd hs hr hps hpr
      subst this
      rw [t0, mod_next il]
      rcases Nat.lt_trichotomy i j with h | h | h
      · have t1 := succ_at nd2 mem2 (i := i) (x := x) (by rw [G, if_pos (by omega)]; exact hi)
        rw [t1, L, mod_next (by omega), if_neg (by omega), if_neg (by omega), List.getD_eq_getElem?_getD, List.getD_eq_getElem?_getD, G, if_pos (by omega)]
      · subst h
        rw [hj] at hi
        exact absurd (Option.some.inj hi).symm nx
      · have t1 := succ_at nd2 mem2 (i := i + 1) (x := x) (by
          rw [G, if_neg (by omega), if_neg (by omega)]
          exact hi)
        rw [t1, L, mod_next (by omega)]
        by_cases z : i + 1 = s.length
        · rw [if_pos (by omega), if_pos z, List.getD_eq_getElem?_getD, List.getD_eq_getElem?_getD, G, if_pos (by omega)]
        · rw [if_neg (by omega), if_neg z, List.getD_eq_getElem?_getD, List.getD_eq_getElem?_getD, G, if_neg (by omega), if_neg (by omega)]
          rfl
    · have mem3 : s ∈ rstep rs one pal := by
        rw [e]
        exact List.mem_map.mpr ⟨s, hs, insr_no hps⟩
      rw [succ_at nd2 mem3 hi, t0]
theorem succ_open {one : Nat} {rs : List (List Nat)} (R : RI one rs) : succ (rstep rs one one) one = one ∧ ∀ x, x < one → succ (rstep rs one one) x = succ rs x := by
  have R2 := R.step (pal := one) (Nat.le_refl _)
  have nd2 := R2.nd
  have nd := R.nd
  have e : rstep rs one one = rs ++ [[one]] := by
    unfold rstep
    rw [if_pos rfl]
    exact (List.map_congr_left fun s _ => insr_same rfl).trans (List.map_id _)
  refine ⟨?_, fun x hx => ?_⟩
  · have := succ_at nd2 (r := [one]) (by rw [e]; simp) (i := 0) (x := one) rfl
    rw [this]
    simp
  · have hxm : x ∈ rs.flatten := R.all.mem_iff.mpr (List.mem_range.mpr hx)
    obtain ⟨s, hs, hxs⟩ := List.mem_flatten.mp hxm
    obtain ⟨i, hi⟩ := List.mem_iff_getElem?.mp hxs
    rw [succ_at nd2 (r := s) (by rw [e]; simp [hs]) hi, succ_at nd hs hi]
theorem sby_seat {c : List Nat} (h : ∀ (i x : Nat), c[i]? = some x → x ≤ i) : ∀ k, k ≤ c.length → sby c k = seat (ringsTo c k) k
  | 0, _ => rfl
  | k + 1, hk => by
    have ih := sby_seat h k (by omega)
    have R := ringsTo_ok h k (by omega)
    have hx : c.getD k 0 ≤ k := by
      have : c[k]? = some (c.getD k 0) := by
        rw [List.getD_eq_getElem?_getD, List.getElem?_eq_getElem (by omega)]
        rfl
      exact h k _ this
    show sits (sby c k) k (c.getD k 0) = (List.range (k + 1)).map (succ (rstep (ringsTo c k) k (c.getD k 0)))
    rw [ih]
    generalize c.getD k 0 = x at *
    generalize ringsTo c k = rs at *
    have sl := seat_len rs k
    refine List.ext_getElem? fun i => ?_
    rw [List.getElem?_map]
    unfold sits
    by_cases hxk : x = k
    · subst hxk
      obtain ⟨s1, s2⟩ := succ_open R
      rw [if_pos rfl]
      rcases Nat.lt_trichotomy i x with q | q | q
      · rw [List.getElem?_append_left (by omega), List.getElem?_range (by omega)]
        unfold seat
        rw [List.getElem?_map, List.getElem?_range q]
        show some _ = some _
        rw [s2 i q]
      · subst q
        rw [List.getElem?_append_right (by omega), sl, Nat.sub_self, List.getElem?_range (by omega)]
        show some i = some _
        rw [s1]
      · rw [List.getElem?_eq_none (by simp [sl]; omega), List.getElem?_eq_none (by simp; omega)]
        rfl
    · have xl : x < k := by omega
      obtain ⟨s1, s2, s3⟩ := succ_step R xl
      rw [if_neg hxk]
      have hgx : (seat rs k).getD x 0 = succ rs x := by
        refine getD_of ?_
        unfold seat
        rw [List.getElem?_map, List.getElem?_range xl]
        rfl
      rw [hgx, List.getElem?_set, List.getElem?_set]
      by_cases q1 : x = i
      · subst q1
        rw [if_pos rfl, if_pos (by simp [sl]; omega), List.getElem?_range (by omega)]
        show some k = some _
        rw [s1]
      · rw [if_neg q1]
        rcases Nat.lt_trichotomy i k with q | q | q
        · rw [if_neg (by omega), List.getElem?_append_left (by omega), List.getElem?_range (by omega)]
          unfold seat
          rw [List.getElem?_map, List.getElem?_range q]
          show some _ = some _
          rw [s3 i q (fun z => q1 z.symm)]
        · subst q
          rw [if_pos rfl, if_pos (by simp [sl]), List.getElem?_range (by omega)]
          show some _ = some _
          rw [s2]
        · rw [if_neg (by omega), List.getElem?_eq_none (by simp [sl]; omega), List.getElem?_eq_none (by simp; omega)]
          rfl
theorem sby_lt {c : List Nat} (h : ∀ (i x : Nat), c[i]? = some x → x ≤ i) {k : Nat} (hk : k ≤ c.length) {y : Nat} (hy : y ∈ sby c k) : y < k := by
  rw [sby_seat h k hk] at hy
  have R := ringsTo_ok h k hk
  have := (seat_perm R.all R.ne).mem_iff.mp hy
  exact List.mem_range.mp this
/-- the last guest's right neighbour, and the others without it -/
theorem sits_last {h : List Nat} {k x : Nat} (hl : h.length = k) (hlt : ∀ y ∈ h, y < k) (hx : x ≤ k) :
    (sits h k x)[x]? = some k ∧ (∀ m, m < x → (sits h k x)[m]? ≠ some k) ∧ ((sits h k x).set x ((sits h k x).getD k 0)).dropLast = h := by
  have at' : ∀ (m y : Nat), h[m]? = some y → y < k := fun m y hy => hlt y (List.mem_of_getElem? hy)
  unfold sits
  by_cases hxk : x = k
  · subst hxk
    rw [if_pos rfl]
    have g : (h ++ [x])[x]? = some x := by
      rw [List.getElem?_append_right (by omega), hl, Nat.sub_self]
      rfl
    refine ⟨g, fun m hm z => ?_, ?_⟩
    · rw [List.getElem?_append_left (by omega)] at z
      have := at' m x z
      omega
    · rw [getD_of g, List.set_append_right _ _ (by omega), hl, Nat.sub_self]
      simp
  · have xl : x < k := by omega
    rw [if_neg hxk]
    have l1 : ((h ++ [k]).set k (h.getD x 0)).length = k + 1 := by simp [hl]
    refine ⟨by rw [List.getElem?_set, if_pos rfl, if_pos (by omega)], fun m hm z => ?_, ?_⟩
    · rw [List.getElem?_set, if_neg (by omega), List.getElem?_set, if_neg (by omega), List.getElem?_append_left (by omega)] at z
      have := at' m k z
      omega
    · have g : (((h ++ [k]).set k (h.getD x 0)).set x k).getD k 0 = h.getD x 0 := by
        refine getD_of ?_
        rw [List.getElem?_set, if_neg (by omega), List.getElem?_set, if_pos rfl, if_pos (by simp [hl])]
      rw [g, List.set_set]
      have e1 : (h ++ [k]).set k (h.getD x 0) = h ++ [h.getD x 0] := by
        rw [List.set_append_right _ _ (by omega), hl, Nat.sub_self]
        rfl
      rw [e1, List.set_append_left _ _ (by omega), List.dropLast_concat]
      refine List.ext_getElem (by simp) fun i h1 h2 => ?_
      rw [List.getElem_set]
      split
      · rename_i q
        subst q
        exact getD_of (List.getElem?_eq_getElem h2)
      · rfl
/-- who opened the tables -/
theorem rings_heads (c : List Nat) : ∀ k, (ringsTo c k).map (·.headD 0) = (List.range k).filter fun i => decide (c.getD i 0 = i)
  | 0 => rfl
  | k + 1 => by
    have ih := rings_heads c k
    rw [List.range_succ, List.filter_append, ← ih]
    show (rstep (ringsTo c k) k (c.getD k 0)).map (·.headD 0) = _
    have eh : ∀ rs : List (List Nat), (rs.map (insr (c.getD k 0) k)).map (·.headD 0) = rs.map (·.headD 0) := fun rs => by
      rw [List.map_map]
      exact List.map_congr_left fun r _ => insr_head
    unfold rstep
    rw [eh]
    by_cases h : c.getD k 0 = k
    · have q : decide (c.getD k 0 = k) = true := decide_eq_true h
      rw [if_pos h.symm, List.map_append, List.filter_cons, q]
      rfl
    · have q : decide (c.getD k 0 = k) = false := decide_eq_false h
      rw [if_neg (fun z => h z.symm), List.filter_cons, q]
      simp

/-! ### every list of guests has its tables -/
theorem sby_ext {c : List Nat} {x : Nat} : sby (c ++ [x]) c.length = sby c c.length ∧ sby (c ++ [x]) (c.length + 1) = sits (sby c c.length) c.length x := by
  have h := sby_take (c ++ [x]) (w := c.length) (by simp) c.length (Nat.le_refl _)
  rw [List.take_append_of_le_length (Nat.le_refl _), List.take_length] at h
  refine ⟨h.symm, ?_⟩
  show sits (sby (c ++ [x]) c.length) c.length ((c ++ [x]).getD c.length 0) = _
  rw [← h, List.getD_eq_getElem?_getD, List.getElem?_append_right (Nat.le_refl _), Nat.sub_self]
  rfl
theorem sits_app {h : List Nat} {k x : Nat} (hl : h.length = k) (ne : x ≠ k) : sits h k x = (h ++ [h.getD x 0]).set x k := by
  unfold sits
  rw [if_neg ne]
  congr 1
  rw [List.set_append_right _ _ (by omega), hl, Nat.sub_self]
  rfl
theorem Cm.ord {c : List Nat} (o : Cm c) : Ord (sby c c.length) := by
  rw [sby_seat o.2.2 _ (Nat.le_refl _)]
  have R := ringsTo_ok o.2.2 c.length (Nat.le_refl _)
  exact seat_ord R.all R.ne o.1 o.2.1
theorem Cm.rings {c : List Nat} (o : Cm c) : Rings (sby c c.length) (ringsTo c c.length) := by
  rw [sby_seat o.2.2 _ (Nat.le_refl _)]
  exact (ringsTo_ok o.2.2 c.length (Nat.le_refl _)).rings
theorem perm_end {A B R : List Nat} {n y : Nat} (h : (A ++ n :: B ++ [y]).Perm (R ++ [n])) : (A ++ y :: B).Perm R := by
  have a : (A ++ y :: B ++ [n]).Perm (A ++ n :: B ++ [y]) := by
    rw [List.append_assoc, List.append_assoc]
    refine List.Perm.append_left A ?_
    show (y :: (B ++ [n])).Perm (n :: (B ++ [y]))
    refine (List.Perm.cons y (List.perm_append_singleton n B)).trans ?_
    refine (List.Perm.swap n y B).trans ?_
    exact List.Perm.cons n (List.perm_append_singleton y B).symm
  exact (List.perm_append_right_iff [n]).mp (a.trans h)
/-- every seating comes about by a coming list -/
theorem ord_sby : ∀ (n : Nat) (h : List Nat), h.Perm (List.range n) → ∃ c : List Nat, c.length = n ∧ (∀ (i x : Nat), c[i]? = some x → x ≤ i) ∧ sby c n = h
  | 0, h, p => ⟨[], rfl, fun i x z => by simp at z, by rw [List.range_zero] at p; rw [List.Perm.eq_nil p]; rfl⟩
  | n + 1, h, p => by
    have hl : h.length = n + 1 := by
      have := p.length_eq
      rwa [List.length_range] at this
    have nm : n ∈ h := p.mem_iff.mpr (List.mem_range.mpr (Nat.lt_succ_self n))
    have ne : h ≠ [] := fun z => by
      rw [z] at hl
      simp at hl
    obtain ⟨h0, y, rfl⟩ : ∃ h0 y, h = h0 ++ [y] := ⟨_, _, (List.dropLast_concat_getLast ne).symm⟩
    have l0 : h0.length = n := by
      rw [List.length_append, List.length_singleton] at hl
      omega
    rw [List.range_succ] at p
    have ext : ∀ (c : List Nat) (x : Nat), c.length = n → (∀ (i x : Nat), c[i]? = some x → x ≤ i) → x ≤ n → ∀ (i z : Nat), (c ++ [x])[i]? = some z → z ≤ i := fun c x cl cm xn i z hz => by
      rw [List.getElem?_append] at hz
      split at hz
      · exact cm i z hz
      · have hj := (List.getElem?_eq_some_iff.mp hz).1
        rw [List.length_singleton] at hj
        have e0 : i - c.length = 0 := by omega
        rw [e0] at hz
        have : x = z := by simpa using hz
        omega
    by_cases hy : y = n
    · subst hy
      obtain ⟨c, cl, cm, cs⟩ := ord_sby y h0 ((List.perm_append_right_iff [y]).mp p)
      refine ⟨c ++ [y], by rw [List.length_append, cl]; rfl, ext c y cl cm (Nat.le_refl _), ?_⟩
      have e := (sby_ext (c := c) (x := y)).2
      rw [cl] at e
      rw [e, cs]
      unfold sits
      rw [if_pos rfl]
    · have n0 : n ∈ h0 := by
        rcases List.mem_append.mp nm with z | z
        · exact z
        · exact absurd (List.mem_singleton.mp z).symm hy
      obtain ⟨A, B, rfl⟩ := List.append_of_mem n0
      have pe := perm_end p
      obtain ⟨c, cl, cm, cs⟩ := ord_sby n _ pe
      have al : A.length < n := by
        rw [List.length_append, List.length_cons] at l0
        omega
      refine ⟨c ++ [A.length], by rw [List.length_append, cl]; rfl, ext c _ cl cm (by omega), ?_⟩
      have e := (sby_ext (c := c) (x := A.length)).2
      rw [cl] at e
      rw [e, cs, sits_app (by rw [List.length_append, List.length_cons]; rw [List.length_append, List.length_cons] at l0; exact l0) (by omega)]
      have g : (A ++ y :: B).getD A.length 0 = y := by
        rw [List.getD_eq_getElem?_getD, List.getElem?_append_right (Nat.le_refl _), Nat.sub_self]
        rfl
      rw [g, List.append_assoc, List.set_append_right _ _ (Nat.le_refl _), Nat.sub_self, List.append_assoc]
      rfl
theorem ord_cm {h : List Nat} (o : Ord h) : ∃ c, Cm c ∧ c.length = h.length ∧ sby c c.length = h := by
  obtain ⟨c, cl, cm, cs⟩ := ord_sby h.length h o.1
  exact ⟨c, ⟨by rw [cl]; exact o.2.1, by rw [cl]; exact o.2.2, cm⟩, cl, by rw [cl]; exact cs⟩
/-- who has come last leaves -/
theorem ord_rings {h : List Nat} (o : Ord h) : ∃ rs, Rings h rs ∧ rs.length ≤ h.length := by
  obtain ⟨c, oc, cl, rfl⟩ := ord_cm o
  refine ⟨ringsTo c c.length, oc.rings, ?_⟩
  have e := congrArg List.length (rings_heads c c.length)
  rw [List.length_map] at e
  have l := List.length_filter_le (fun i => decide (c.getD i 0 = i)) (List.range c.length)
  rw [List.length_range] at l
  rw [sby_len]
  omega


local macro_rules | `(tactic| walk_at "call") => `(tactic| (with_reducible exact sv_whole))

section
variable {P : Program} {w : World} {K : PySem.W.Frag} {mg : Str → Option Value} {base : Heap}
local macro_rules | `(tactic| walk_at "call") => `(tactic| (with_reducible exact sv_whole))
/-! ### the checks -/
def erA (T : Tx K mg) : Nat → Addr
  | 0 => T.cl_InvalidSeating
  | 1 => T.cl_InvalidGuest
  | 2 => T.cl_InvalidNames
  | _ => T.cl_InvalidTables
def erW : Nat → Str
  | 0 => "seating"
  | 1 => "guest"
  | 2 => "names"
  | _ => "tables"
def sp_chkI (C : Addr) : Sp := fun vs H Q E => ∃ x m : Int, vs = [.int x, .int m] ∧ (0 ≤ m ∧ m ≤ 1000) ∧ Out (if 0 ≤ x ∧ x < m then none else some C) H Q E
theorem so_chkI {C : Addr} {m x : Int} {H : Hp} (h1 : 0 ≤ m ∧ m ≤ 1000) : SpO (sp_chkI C) ([.int x, .int m] ++ []) H (if 0 ≤ x ∧ x < m then none else some C) := fun H1 e Q E q => ⟨x, m, rfl, h1, q⟩
def sp_is_within : Sp := fun vs H Q _ => ∃ x l m : Int, vs = [.int x, .int l, .int m] ∧ RetV (.bl (decide (l ≤ x) && decide (x ≤ m))) H Q
theorem sv_between {H : Hp} {x l m : Int} : SpV sp_is_within ([.int x, .int l, .int m] ++ []) H (.bl (decide (l ≤ x) && decide (x ≤ m))) := fun H1 _ Q q E => ⟨x, l, m, rfl, q⟩
theorem ok_is_within (T : Tx K mg) : FnOk P w K mg base CX0 2 T.f_is_within T.d_is_within ["thing", "least", "most"] sp_is_within := by
  refine T.F_is_within.ok sc_is_within (fun vs H Q E h => ?_) (fun cdv A outer s H vs Q E hr h => ?_)
  · obtain ⟨x, l, m, rfl, _⟩ := h
    rfl
  · obtain ⟨x, l, m, rfl, k⟩ := h
    refine ⟨_, (pss_one (ps_ret (pe_and (pe_call (ok_is_whole T) (hr.mono (by decide)) (by rfl) T.g_is_whole T.F_is_whole.kp T.b_is_whole .nil pass0 (pa_cons (pv 0) pa_nil)) (pe_one (pe_chain op_le op_le (pv 1) (pv 0) (pv 2)))))), ?_⟩
    refine s_ret (by walk_at "ev") fun H1 e1 => ?_
    exact k _ e1
local macro_rules | `(tactic| walk_at "call") => `(tactic| (with_reducible exact sv_between))
theorem ok_check_guest (T : Tx K mg) : FnOk P w K mg base (L2N.CX P w) 3 T.f_check_guest T.d_check_guest ["guest", "guests"] (sp_chkI T.cl_InvalidGuest) := by
  refine Kit.okN T.F_check_guest sc_check_guest (fun vs H Q E h => ?_) (fun cdv A outer s H vs Q E hr h => ?_)
  · obtain ⟨x, m, rfl, _⟩ := h
    rfl
  · obtain ⟨x, m, rfl, h1, k⟩ := h
    refine ⟨_, (pss_one (ps_if (pt_not (pt_val (pe_call (ok_is_within T) (hr.mono (by decide)) (by rfl) T.g_is_within T.F_is_within.kp T.b_is_within .nil pass0 (pa_cons (pv 0) (pa_cons pe_int (pa_cons (pe_op op_sub (pv 1) pe_int) pa_nil)))))) (pss_one (Kit.ps_raiseN rfl Kit.takesN T.e_InvalidGuest T.gc_InvalidGuest (by rfl) (pe_joined (PJ.cons pe_str (PJ.cons (pe_fmt (pe_op op_sub (pv 1) pe_int)) PJ.nil))))) pss_nil)), ?_⟩
    refine s_when (by walk_at "et") (fun hb H1 e1 => ?_) fun hb H1 e1 => ?_
    · exact tjs_go (n := 2000) (σ := start n_check_guest [.int x, .int m]) (H := H1) (fun t ht => by
        simp only [List.mem_cons, List.not_mem_nil, or_false] at ht
        rcases ht with rfl | rfl
        · exact es_c (by decide +kernel)
        · exact fun H2 e2 Q q => es_fmt (i := m - 1) (ev_op (ev_var rfl) ev_c rv_I0) (Nat.lt_of_le_of_lt (m := 1000) (by omega) (by decide +kernel)) H2 e2 Q fun y H3 e3 hy => q y H3 e3 (by omega)) (Ex.refl _) (by decide) fun y H2 e2 => k.yes _ (if_neg fun z => by simp at hb; omega) _ (e1.trans e2)
    · exact k.no (if_pos (by simp at hb; omega)) _ _ e1
def sp_check_any : Sp := fun vs H Q _ => ∃ z : Int, vs = [.int z] ∧ ∀ v H1, Ex H H1 → Q v H1
theorem so_any {z : Int} {H : Hp} : SpO sp_check_any ([.int z] ++ []) H none := fun H1 e Q E q => ⟨z, rfl, fun v H2 e2 => q.no rfl v H2 e2⟩
theorem ok_check_any_number (T : Tx K mg) : FnOk P w K mg base (L2N.CX P w) 2 T.f_check_any_number T.d_check_any_number ["number"] sp_check_any := by
  refine Kit.okN T.F_check_any_number sc_check_any_number (fun vs H Q E h => ?_) (fun cdv A outer s H vs Q E hr h => ?_)
  · obtain ⟨z, rfl, _⟩ := h
    rfl
  · obtain ⟨z, rfl, k⟩ := h
    refine ⟨_, (pss_one (ps_if (pt_not (pt_val (pe_call (ok_is_whole T) (hr.mono (by decide)) (by rfl) T.g_is_whole T.F_is_whole.kp T.b_is_whole .nil pass0 (pa_cons (pv 0) pa_nil)))) (pss_one (Kit.ps_raiseN rfl Kit.takesN T.e_InvalidNumber T.gc_InvalidNumber (by rfl) pe_str)) pss_nil)), ?_⟩
    exact s_when (b := false) (et_is (et_not (et_B (ev_call (ea_cons (ev_var rfl) ea_nil) sv_whole))) (by rfl)) (fun hb => Bool.noConfusion hb) fun _ H1 e1 => k _ _ e1
theorem ok_check_seating (T : Tx K mg) : FnOk P w K mg base (L2N.CX P w) 4 T.f_check_seating T.d_check_seating ["seating"] (sp_chkS K T.cl_InvalidSeating) := by
  refine Kit.okN T.F_check_seating sc_check_seating (fun vs H Q E h => ?_) (fun cdv A outer s H vs Q E hr h => ?_)
  · obtain ⟨v, o, rfl, _⟩ := h
    rfl
  · obtain ⟨v, o, rfl, hv, k⟩ := h
    refine ⟨_, (pss_one (ps_if (pt_not (pt_val (pe_call (ok_is_seating T) (hr.mono (by decide)) (by rfl) T.g_is_seating T.F_is_seating.kp T.b_is_seating .nil pass0 (pa_cons (pv 0) pa_nil)))) (pss_one (Kit.ps_raiseN rfl Kit.takesN T.e_InvalidSeating T.gc_InvalidSeating (by rfl) pe_str)) pss_nil)), ?_⟩
    refine s_when (b := !judge o) (et_is (et_not (et_B (ev_call (ea_cons (ev_var rfl) ea_nil) (sv_any hv)))) rfl) (fun hb H1 e1 => ?_) fun hb H1 e1 => ?_
    · exact k.yes _ (if_neg (by simpa using hb)) _ e1
    · exact k.no (if_pos (by simpa using hb)) _ _ e1
theorem ok_check_names (T : Tx K mg) : FnOk P w K mg base (L2N.CX P w) 3 T.f_check_names T.d_check_names ["names"] (sp_chkS K T.cl_InvalidNames) := by
  refine Kit.okN T.F_check_names sc_check_names (fun vs H Q E h => ?_) (fun cdv A outer s H vs Q E hr h => ?_)
  · obtain ⟨v, o, rfl, _⟩ := h
    rfl
  · obtain ⟨v, o, rfl, hv, k⟩ := h
    refine ⟨_, (pss_one (ps_if (pt_not (pt_val (pe_call (ok_is_order T) (hr.mono (by decide)) (by rfl) T.g_is_order T.F_is_order.kp T.b_is_order .nil pass0 (pa_cons (pv 0) pa_nil)))) (pss_one (Kit.ps_raiseN rfl Kit.takesN T.e_InvalidNames T.gc_InvalidNames (by rfl) pe_str)) pss_nil)), ?_⟩
    refine s_when (b := !judge o) (et_is (et_not (et_B (ev_call (ea_cons (ev_var rfl) ea_nil) (sv_any hv)))) rfl) (fun hb H1 e1 => ?_) fun hb H1 e1 => ?_
    · exact k.yes _ (if_neg (by simpa using hb)) _ e1
    · exact k.no (if_pos (by simpa using hb)) _ _ e1
/-! what is due -/
def dS (o : Option (List PyData)) : Option Nat := if judge o then none else some 0
def dN (o : Option (List PyData)) : Option Nat := if judge o then none else some 2
def lenO (o : Option (List PyData)) : Int := ((o.getD []).length : Int)
def dG (o : Option (List PyData)) (x : Int) : Option Nat := if judge o then (if 0 ≤ x ∧ x < lenO o then none else some 1) else some 0
def dM (o : Option (List PyData)) (x y : Int) : Option Nat := if judge o then (if 0 ≤ x ∧ x < lenO o then (if 0 ≤ y ∧ y < lenO o then none else some 1) else some 1) else some 0
def dR (o u : Option (List PyData)) : Option Nat := if judge o then (if judge u then (if lenO u = lenO o then none else some 2) else some 2) else some 0
theorem th_len {H : Hp} {a : Addr} {xs : List V} {o : Option (List PyData)} (hv : Th K H (.ref a) o) (ha : H a = some (.lst xs)) : lenO o = (xs.length : Int) := by
  cases hv with
  | tup h =>
    rw [ha] at h
    cases h
  | dct h =>
    rw [ha] at h
    cases h
  | lst h hd hf =>
    rw [ha] at h
    cases h
    have := hd.len
    show ((List.length _ : Nat) : Int) = _
    simp only [Option.getD_some]
    omega
theorem judge_get {H : Hp} {v : V} {o : Option (List PyData)} (hv : Th K H v o) (hj : judge o = true) : ∃ (a : Addr) (h : List Nat), v = .ref a ∧ H a = some (.lst (nv h)) ∧ Ord h ∧ lenO o = (h.length : Int) := by
  obtain ⟨a, h, rfl, ha, oh⟩ := judge_yes hv hj
  exact ⟨a, h, rfl, ha, oh, by rw [th_len hv ha, nv_len]⟩
end


local macro_rules | `(tactic| walk_at "call") => `(tactic| (with_reducible exact sv_whole))

/-! ### walk_left, tables_of -/
def sp_walk_left : Sp := fun vs H Q _ => ∃ (a : Addr) (h r : List Nat) (g : Nat), vs = [.ref a, .int g] ∧ H a = some (.lst (nv h)) ∧ Rg h r ∧ r[0]? = some g ∧ r.length ≤ 20 ∧ RetU (nv r) H Q
theorem su_walk {H : Hp} {a : Addr} {h r : List Nat} {g : Nat} (ha : H a = some (.lst (nv h))) (R : Rg h r) (h0 : r[0]? = some g) (hl : r.length ≤ 20) : SpU sp_walk_left ([.ref a, .int (g : Int)] ++ []) H (nv r) := fun H1 e Q q E => ⟨a, h, r, g, rfl, e a _ ha, R, h0, hl, q⟩
theorem take_next {α : Type} {l : List α} {i : Nat} {x : α} (h : l[i]? = some x) : l.take (i + 1) = l.take i ++ [x] := by
  rw [List.take_add_one, h]
  rfl
section
variable {P : Program} {w : World} {K : PySem.W.Frag} {mg : Str → Option Value} {base : Heap}
theorem ok_walk_left (T : Tx K mg) : FnOk P w K mg base CX0 1 T.f_walk_left T.d_walk_left ["lefts", "guest"] sp_walk_left := by
  refine T.F_walk_left.ok sc_walk_left (fun vs H Q E h => ?_) (fun cdv A outer s H vs Q E hr h => ?_)
  · obtain ⟨a, h, r, g, rfl, _⟩ := h
    rfl
  · obtain ⟨a, h, r, g, rfl, ha, R, h0, hl, k⟩ := h
    refine ⟨_, (pss_cons (ps_set (i := 2) sc_walk_left.nd rfl (Or.inl rfl) (pe_lst (pa_cons (pv 1) pa_nil)))
      (pss_cons (ps_while PassesOwn.never (pt_cmpR op_ne (pe_ix ix_list (pv 0) (pe_ix ix_list (pv 2) (pe_un un_neg pe_int) (fun _ _ => rfl)) (fun _ _ => rfl)) (pv 1) (nomark _)) (pss_one (ps_expr (pe_bm PySem.F.plainAttrs_list PySem.F.slot_list_append PySem.F.type_list_append mt_append (pv 2) (pa_cons (pe_ix ix_list (pv 0) (pe_ix ix_list (pv 2) (pe_un un_neg pe_int) (fun _ _ => rfl)) (fun _ _ => rfl)) pa_nil)))))
      (pss_one (ps_ret (pe_callTy call_tupR (by rfl) T.m_tuple (by decide +kernel) (pa_cons (pv 2) pa_nil)))))), ?_⟩
    refine q_asgL (by walk_at "el") fun p H1 hp e1 h1 => ?_
    refine q_while (fun m σ' H' => ∃ i, σ' = [some (.ref a), some (.int g), some (.ref p)] ∧ i < r.length ∧ Ex H H' ∧ H' p = some (.lst (nv (r.take (i + 1)))) ∧ m = r.length - i) r.length ⟨0, rfl, R.ne, e1, ?_, by omega⟩ ?_
    · rw [h1, take_next h0]
      rfl
    · rintro m σ' H' ⟨i, rfl, hi, e, hl', rfl⟩
      obtain ⟨x, y, hx, hy, hxy⟩ := R.st i hi
      have hlast : atI (nv (r.take (i + 1))) (-1) = some (.int (x : Int)) := by
        rw [take_next hx, nv_app]
        exact atI_last _ _
      have hax := e a _ ha
      have evx : ∀ H2, Ex H' H2 → Ev (tOp (rIxL K) (tVar 0) (tOp (rIxL K) (tVar 2) (tUn (rU fun i => .int (-i)) (tC (.int 1))))) [some (.ref a), some (.int g), some (.ref p)] H2 (.int (y : Int)) := fun H2 e2 =>
        ev_op (ev_var rfl) (ev_op (ev_var rfl) (ev_un ev_c ru_neg) (rv_ixL (sq_of (e2 p _ hl')) hlast)) (rv_ixL (sq_of (e2 a _ hax)) (atI_nat (nv_get hxy)))
      refine ⟨decide (i + 1 < r.length), et_is (et_test (ev_op (evx H' (Ex.refl _)) (ev_var rfl) (rv_ne rfl))) ?_, fun hb H2 e2 => ?_, fun hb H2 e2 => ?_⟩
      · rw [dec_int]
        by_cases hn : i + 1 < r.length
        · rw [Nat.mod_eq_of_lt hn] at hy
          have ne : y ≠ g := fun z => by
            subst z
            have := nd_ix R.nd hy h0
            omega
          have : ((y : Int) == (g : Int)) = false := by
            rw [beq_eq_false_iff_ne]
            omega
          rw [this]
          simp [hn]
        · have e0 : i + 1 = r.length := by omega
          rw [e0, Nat.mod_self, h0] at hy
          have : y = g := (Option.some.inj hy).symm
          subst this
          simp [hn]
      · have hn := of_decide_eq_true hb
        rw [Nat.mod_eq_of_lt hn] at hy
        have hl2 := e2 p _ hl'
        refine ⟨fun σ2 H3 => σ2 = [some (.ref a), some (.int g), some (.ref p)] ∧ Ex H H3 ∧ H3 p = some (.lst (nv (r.take (i + 1 + 1)))), fun σ2 H3 ⟨h1, h2, h3⟩ => ⟨r.length - (i + 1), by omega, i + 1, h1, hn, h2, h3, rfl⟩, ?_⟩
        refine s_app hl2 (ev_var rfl) (evx H2 e2) (by rw [nv_len, List.length_take]; omega) fun H3 e3 => ⟨rfl, Ex.mut (e.trans (e2.trans e3)) hp, ?_⟩
        rw [upd_same, take_next hy, nv_app]
        rfl
      · have hn := of_decide_eq_false hb
        have ht : r.take (i + 1) = r := List.take_of_length_le (by omega)
        rw [ht] at hl'
        exact s_retU (eu_tupOf (ev_var rfl) (sq_of (e2 p _ hl'))) fun q H3 hq e3 h3 => k q H3 (fresh_back (e.trans e2) hq) (e.trans (e2.trans e3)) h3
theorem Rings.short {h : List Nat} {rs : List (List Nat)} (R : Rings h rs) {r : List Nat} (hr : r ∈ rs) : r.length ≤ h.length := by
  have := List.Sublist.length_le (List.sublist_flatten_of_mem hr)
  rw [R.all.length_eq, List.length_range] at this
  exact this
theorem lead_val {r : List Nat} (ne : 0 < r.length) : ∃ (x : Nat) (l : List Int), iz r = (x : Int) :: l ∧ r[0]? = some x ∧ decide (V.int (x : Int) = V.int (l.foldl min (x : Int))) = leads r := by
  cases r with
  | nil => simp at ne
  | cons x l =>
    refine ⟨x, iz l, rfl, rfl, ?_⟩
    obtain ⟨h1, h2⟩ := foldl_min_spec (iz l) (x : Int)
    rw [dec_int]
    unfold leads
    rw [Bool.eq_iff_iff]
    simp only [beq_iff_eq, decide_eq_true_eq]
    constructor
    · intro e y hy
      show x ≤ y
      have := h2 (y : Int) (by
        rcases List.mem_cons.mp hy with q | q
        · rw [q]; simp
        · exact List.mem_cons_of_mem _ (List.mem_map.mpr ⟨y, q, rfl⟩))
      omega
    · intro hle
      have a := h2 (x : Int) (by simp)
      have b : ∀ z ∈ (x : Int) :: iz l, (x : Int) ≤ z := fun z hz => by
        rcases List.mem_cons.mp hz with q | q
        · omega
        · obtain ⟨y, hy, rfl⟩ := List.mem_map.mp q
          have : x ≤ y := hle y (by simp [hy])
          omega
      have := b _ h1
      omega
/-- tables_among: of all guests of a seating -/
def sp_tables_among : Sp := fun vs H Q _ => ∃ (a b : Addr) (h : List Nat) (rs : List (List Nat)), vs = [.ref a, .ref b] ∧ H a = some (.lst (nv h)) ∧ H b = some (.lst (nv (List.range h.length))) ∧ Ord h ∧ Rings h rs ∧ (∀ p ws H2, H p = none → Ex H H2 → H2 p = some (.lst ws) → TL H2 ws (rs.map nv) → Q (.ref p) H2)
theorem ok_tables_among (T : Tx K mg) : FnOk P w K mg base CX0 2 T.f_tables_among T.d_tables_among ["lefts", "guests"] sp_tables_among := by
  refine T.F_tables_among.ok sc_tables_among (fun vs H Q E h => ?_) (fun cdv A outer s H vs Q E hr h => ?_)
  · obtain ⟨a, b, h, rs, rfl, _⟩ := h
    rfl
  · obtain ⟨a, b, h, rs, rfl, ha, hb0, o, R, k⟩ := h
    refine ⟨_, (pss_cons (ps_setLc (i := 3) (own := [("guest", 2)]) (g := (gName 2)) (tt := tYes) rfl sc_tables_among.nd rfl rfl (sw_true rfl rfl rfl (by decide +kernel)) (pi_list (pv 1)) (blkOk_by (own := [("guest", 2)]) (N := n_tables_among) (sc := defScope s_tables_among) (by decide +kernel)) (fun _ _ _ _ _ => (pg_name (i := 2) sc_tables_among.nd rfl (Or.inl rfl))) (fun _ _ _ _ _ => pts_nil) (fun _ _ _ _ _ => (pe_call (ok_walk_left T) (hr.mono (by decide)) (by rfl) T.g_walk_left T.F_walk_left.kp T.b_walk_left .nil pass0 (pa_cons (pv 0) (pa_cons (pv 2) pa_nil)))))
      (pss_one (ps_ret (pe_lc (own := [("walk", 4)]) (g := (gName 4)) rfl sc_tables_among.nd (pi_list (pv 3)) (blkOk_by (own := [("walk", 4)]) (N := n_tables_among) (sc := defScope s_tables_among) (by decide +kernel)) (fun _ _ _ _ _ => (pg_name (i := 4) sc_tables_among.nd rfl (Or.inl rfl))) (fun _ _ _ _ _ => (pts_one (pt_cmpR op_eq (pe_ix (r := rIxT K) ix_tup (pv 4) pe_int (fun _ _ => rfl)) (pe_callB (id := "min") (r := rMinT K) (cr_minT rfl (hu_of hr)) (by rfl) T.m_min (by decide +kernel) (pa_cons (pv 4) pa_nil)) (nomark _)))) (fun _ _ _ _ _ => (pv 4)))))), ?_⟩
    obtain ⟨f, hf⟩ := R.walks
    have ho := o.2
    have e1 := Ex.refl H
    have h1 := ha
    refine q_asgLT (rs := (List.range h.length).map fun g => nv (f g)) ?_ fun p ws H2 hp e2 h2 ht => ?_
    · have g := elt_map (K := K) (te := tCall sp_walk_left [] E0 (tCons (tVar 0) (tCons (tVar 2) tNil))) (tl := tVar 1) (σ := [some (.ref a), some (.ref b), none, none, none]) (H := H) (j := 2) (vs := [2]) (xs := nv (List.range h.length)) (fun g => nv (f g)) (ev_var rfl) (sq_of hb0) (by rw [nv_len, List.length_range]; omega) (fun _ => rfl) fun i x H2 e2 hi0 => ?_
      · rw [nv_len, List.length_range] at g
        exact g
      · have hi : i < h.length := by
          have := (List.getElem?_eq_some_iff.mp hi0).1
          rw [nv_len, List.length_range] at this
          exact this
        have hx : x = .int (i : Int) := by
          have := nv_get (xs := List.range h.length) (i := i) (x := i) (by rw [List.getElem?_range hi])
          rw [this] at hi0
          exact (Option.some.inj hi0).symm
        subst hx
        obtain ⟨r, hr, kk, hk, e⟩ := hf i (by omega)
        have hkl := (List.getElem?_eq_some_iff.mp hk).1
        have hrs := R.short hr
        refine eu_call (by walk_at "ea") ?_
        have := su_walk (a := a) (g := i) (e2 a _ h1) ((R.rg r hr).rot hkl) (by rw [rot_get hkl (R.rg r hr).ne, Nat.zero_add, Nat.mod_eq_of_lt hkl]; exact hk) (by rw [rot_len (by omega)]; omega)
        rw [← e] at this
        exact this
    · have hlen := ht.len
      simp at hlen
      refine s_retLT (rs := rs.map nv) ?_ fun q vs H3 hq e3 h3 ht3 => k q vs H3 (fresh_back (e1.trans e2) hq) (e1.trans (e2.trans e3)) h3 ht3
      have g := elt_filter (K := K) (σ := [some (.ref a), some (.ref b), none, some (.ref p), none]) (H := H2) (tl := tVar 3) (j := 4) (vs := [4]) (t := tTest (tOp rEq (tOp (rIxT K) (tVar 4) (tC (.int 0))) (tCB (rMinT K) (tCons (tVar 4) tNil)))) (xs := ws) (rs := (List.range h.length).map fun g => nv (f g))
        (fun r => leads (r.map fun v => match v with | .int z => z.toNat | _ => 0)) (ev_var rfl) (sq_of h2) ht (by omega) (fun _ => rfl) (fun _ => rfl) fun b r H3 e3 hr hb => ?_
      · have e : ((List.range h.length).map fun g => nv (f g)).filter (fun r => leads (r.map fun v => match v with | .int z => z.toNat | _ => 0)) = rs.map nv := by
          rw [show ((List.range h.length).map fun g => nv (f g)) = ((List.range h.length).map f).map nv by rw [List.map_map]; rfl, List.filter_map]
          congr 1
          have : ((fun r : List V => leads (r.map fun v => match v with | .int z => z.toNat | _ => 0)) ∘ nv) = leads := by
            funext r
            show leads ((nv r).map _) = leads r
            rw [nv_eq, List.map_map]
            congr 1
            refine (List.map_congr_left fun x _ => ?_).trans (List.map_id _)
            simp
          rw [this]
          exact R.lead hf
        rw [e] at g
        exact g
      · obtain ⟨g, hg, rfl⟩ := List.mem_map.mp hr
        obtain ⟨r, hr, kk, hk, e⟩ := hf g (List.mem_range.mp hg)
        have hkl := (List.getElem?_eq_some_iff.mp hk).1
        have ne : 0 < (f g).length := by rw [e, rot_len (by omega)]; exact (R.rg r hr).ne
        obtain ⟨x, l, i1, i2, i3⟩ := lead_val ne
        have e5 : leads ((nv (f g)).map fun v => match v with | .int z => z.toNat | _ => 0) = leads (f g) := by
          rw [nv_eq, List.map_map]
          congr 1
          refine (List.map_congr_left fun x _ => ?_).trans (List.map_id _)
          simp
        rw [e5, ← i3]
        have hb2 : SqT K H3 b (((x : Int) :: l).map V.int) := st_of (by rw [hb]; unfold nv; rw [i1])
        exact et_test (ev_op (ev_op (ev_var rfl) ev_c (rv_ixT (st_of hb) (atI_nat (j := 0) (nv_get i2)))) (ev_minT (ev_var rfl) hb2) (rv_eq rfl))
theorem elt_among {H : Hp} {a : Addr} {h : List Nat} {rs : List (List Nat)} {σ : L2.St} {ta tb : TE} {E : XK} (h1 : Ev ta σ H (.ref a)) (h2 : EvL tb σ H (nv (List.range h.length))) (ha : H a = some (.lst (nv h))) (o : Ord h) (R : Rings h rs) : EvLT (tCall sp_tables_among [] E (tCons ta (tCons tb tNil))) σ H (rs.map nv) := fun H1 e Q q => h1 H1 e _ fun H2 e2 => h2 H2 (e.trans e2) _ fun b H3 nb e3 hb => ⟨a, b, h, rs, rfl, (e.trans (e2.trans e3)) a _ ha, hb, o, R, fun p ws H4 hp e4 h4 t => q p ws H4 (fresh_back (e2.trans e3) hp) ((e2.trans e3).trans e4) h4 t⟩
def sp_tables_of (T : Tx K mg) : Sp := fun vs H Q E => ∃ (v : V) (o : Option (List PyData)), vs = [v] ∧ Th K H v o ∧ (judge o = false → ∀ H1, Ex H H1 → E (.ref T.cl_InvalidSeating) none H1) ∧
  ∀ (a : Addr) (h : List Nat) (rs : List (List Nat)) (p : Addr) (ws : List V) (H2 : Hp), judge o = true → v = .ref a → H a = some (.lst (nv h)) → Ord h → Rings h rs → rs.length ≤ h.length → H p = none → Ex H H2 → H2 p = some (.lst ws) → TL H2 ws (rs.map nv) → Q (.ref p) H2
theorem ok_tables_of (T : Tx K mg) : FnOk P w K mg base (L2N.CX P w) 5 T.f_tables_of T.d_tables_of ["seating"] (sp_tables_of T) := by
  refine Kit.okN T.F_tables_of sc_tables_of (fun vs H Q E h => ?_) (fun cdv A outer s H vs Q E hr h => ?_)
  · obtain ⟨v, o, rfl, _⟩ := h
    rfl
  · obtain ⟨v, o, rfl, hv, kE, k⟩ := h
    refine ⟨_, (pss_cons (ps_expr (pe_call (ok_check_seating T) (hr.mono (by decide)) (by rfl) T.g_check_seating T.F_check_seating.kp T.b_check_seating .nil Kit.passN (pa_cons (pv 0) pa_nil)))
      (PSs.nox (pss_one (ps_ret (pe_call (ok_tables_among T) (hr.mono (by decide)) (by rfl) T.g_tables_among T.F_tables_among.kp T.b_tables_among .nil pass0 (pa_cons (pv 0) (pa_cons (pe_listRg rfl (by rfl) T.m_list (prg_1 (by rfl) T.m_range (pe_callB call_lenR (by rfl) T.m_len (by decide +kernel) (pa_cons (pv 0) pa_nil)))) pa_nil))))))), ?_⟩
    refine q_chk (ea_cons (ev_var rfl) ea_nil) (so_chkS hv) (fun hn H1 e1 => ?_) fun C hC H1 e1 => ?_
    · have hj : judge o = true := by
        cases hb : judge o with
        | true => rfl
        | false =>
          rw [hb] at hn
          cases hn
      obtain ⟨a, h, rfl, ha, oh⟩ := judge_yes hv hj
      obtain ⟨rs, R, rl⟩ := ord_rings oh
      have ho := oh.2
      have h1 := e1 a _ ha
      refine s_retLT (rs := rs.map nv) (elt_among (ev_var rfl) ?_ h1 oh R) fun q vs H3 hq e3 h3 ht3 => k a h rs q vs H3 hj rfl ha oh R rl (fresh_back e1 hq) (e1.trans e3) h3 ht3
      have g := el_rg1 (σ := start n_tables_of [.ref a]) (ev_len (K := K) (ta := tVar 0) (ev_var (i := 0) (v := .ref a) rfl) (sq_of h1)) (RgOk.of_le (by decide) (by rw [nv_len]; omega) (by decide) (by rw [nv_len]; omega))
      rw [nv_len, range_iz] at g
      exact g
    · cases hb : judge o with
      | true =>
        rw [hb] at hC
        cases hC
      | false =>
        rw [hb] at hC
        cases hC
        exact kE hb _ e1
end


local macro_rules | `(tactic| walk_at "call") => `(tactic| (with_reducible exact sv_whole))

theorem given_at {n : Nat} (v : Nat → V) : given n (fun _ => true) v = (List.range n).map v := by
  unfold given
  rw [List.filter_eq_self.mpr fun _ _ => rfl]
theorem et_tru {K : PySem.W.Frag} {σ : L2.St} {H : Hp} {ta : TE} {a : Addr} {xs : List V} (h : Ev ta σ H (.ref a)) (hx : SqL K H a xs) : EvT (fun σ H Q => ta σ H fun x H' => ∃ k, TruV K x H' k ∧ Q k H') σ H (!xs.isEmpty) := fun H1 e Q q => h H1 e _ fun H2 e2 => ⟨_, .inl ⟨xs, ex_l (e.trans e2) hx, rfl⟩, q H2 e2⟩
section
variable {K : PySem.W.Frag} {σ : L2.St} {H : Hp} {ta te : TE} {tr : TA} {D : Ends}
theorem nv_flat (r : List Nat) : (nv r).all flatV = true := by
  rw [nv_eq, List.all_map, List.all_eq_true]
  intro x _
  rfl
theorem nv_in (r : List Nat) (x : Nat) : inV (.int x) (nv r) = decide (x ∈ r) := by
  unfold inV
  rw [nv_eq, List.any_map, Bool.eq_iff_iff, List.any_eq_true, decide_eq_true_iff]
  constructor
  · rintro ⟨y, hy, e⟩
    have : ((y : Int) == (x : Int)) = true := e
    have := eq_of_beq this
    have : y = x := by omega
    exact this ▸ hy
  · intro h
    exact ⟨x, h, beq_self_eq_true _⟩
theorem s_dropBM {r : V → List V → Hp → VK → Prop} {l : Addr} {xs : List V} (hl : H l = some (.lst xs)) (ha : Ev ta σ H (.ref l)) (k : ∀ H1, Ex H H1 → tr σ H1 fun vs H2 => r (.ref l) vs H2 fun _ H3 => D.nx σ H3) : tDrop (tBM K "list" r ta tr) D σ H :=
  ha H (Ex.refl H) _ fun H1 e1 => ⟨Or.inl ⟨rfl, xs, sq_of (e1 l _ hl)⟩, k H1 e1⟩
theorem ev_index {l : Addr} {r : List Nat} {x : Nat} (hl : H l = some (.lst (nv r))) (ha : Ev ta σ H (.ref l)) (he : Ev te σ H (.int (x : Int))) (hx : x ∈ r) : Ev (tBM K "list" (rIndex K) ta (tCons te tNil)) σ H (.int (r.idxOf x : Nat)) := fun H1 e Q q =>
  ha H1 e _ fun H2 e2 => ⟨Or.inl ⟨rfl, _, sq_of (e2 l _ (e l _ hl))⟩, he H2 (e.trans e2) _ fun H3 e3 => by
    have hlt := List.idxOf_lt_length_of_mem hx
    refine ⟨l, nv r, .int x, r.idxOf x, .int x, rfl, rfl, sq_of (e3 l _ (e2 l _ (e l _ hl))), rfl, nv_flat r, nv_get (by rw [List.getElem?_eq_getElem hlt, List.getElem_idxOf hlt]), beq_self_eq_true _, fun m z hm hz => ?_, q H3 (e2.trans e3)⟩
    have hml : m < r.length := by omega
    have := nv_get (List.getElem?_eq_getElem hml)
    rw [hz] at this
    have ez := Option.some.inj this
    subst ez
    show ((r[m] : Int) == (x : Int)) = false
    rw [beq_eq_false_iff_ne]
    intro ee
    have ee' : r[m] = x := by omega
    have h1 : r.idxOf x ≤ m := by
      have hh : r.findIdx (· == x) ≤ m := by
        refine Nat.le_of_not_lt fun hlt2 => ?_
        have := List.not_of_lt_findIdx hlt2
        rw [ee'] at this
        simp at this
      exact hh
    omega⟩
end

/-- a table at b: a list or a tuple -/
def Tb (H : Hp) (v : V) (r : List Nat) : Prop := ∃ b, v = .ref b ∧ (H b = some (.lst (nv r)) ∨ H b = some (.tup (nv r)))
theorem Tb.ex {H H' : Hp} {v : V} {r : List Nat} (e : Ex H H') (h : Tb H v r) : Tb H' v r := by
  obtain ⟨b, rfl, h | h⟩ := h
  · exact ⟨b, rfl, .inl (e b _ h)⟩
  · exact ⟨b, rfl, .inr (e b _ h)⟩
theorem nv_set {c : List Nat} {x y : Nat} : (nv c).set x (.int y) = nv (c.set x y) := by
  rw [nv_eq, nv_eq, List.map_set]
theorem nv_rep (n : Nat) : (List.replicate n [V.int 0]).flatten = nv (List.replicate n 0) := by
  rw [nv_eq, List.map_replicate]
  induction n with
  | zero => rfl
  | succ k ih =>
    rw [List.replicate_succ, List.flatten_cons, ih, List.replicate_succ]
    rfl
theorem nv_inj {a b : List Nat} (h : a = b) : nv a = nv b := by rw [h]
def sp_seating_with : Sp := fun vs H Q _ => ∃ (a : Addr) (ws : List V) (rs : List (List Nat)) (h : List Nat), vs = [.ref a] ∧ H a = some (.lst ws) ∧ Paired (Tb H) ws rs ∧ rs.flatten.Perm (List.range h.length) ∧ (∀ r ∈ rs, Rg h r) ∧ h.length ≤ 20 ∧ RetL (nv h) H Q
theorem paired_get {α β : Type} {F : α → β → Prop} : ∀ {l : List α} {m : List β} {i : Nat} {x : α}, Paired F l m → l[i]? = some x → ∃ y, m[i]? = some y ∧ F x y
  | _, _, 0, x, .cons h t, hx => ⟨_, rfl, (Option.some.inj (by simpa using hx)) ▸ h⟩
  | _, _, i + 1, x, .cons h t, hx => by
    obtain ⟨y, h1, h2⟩ := paired_get (i := i) t (by simpa using hx)
    exact ⟨y, by simpa using h1, h2⟩
  | _, _, 0, x, .nil, hx => by simp at hx
  | _, _, i + 1, x, .nil, hx => by simp at hx
theorem sum_len : ∀ rs : List (List Nat), ((rs.map fun r => (r.length : Int))).sum = (rs.flatten.length : Int)
  | [] => rfl
  | r :: l => by
    rw [List.map_cons, List.sum_cons, sum_len l, List.flatten_cons, List.length_append]
    omega
theorem flat_next {rs : List (List Nat)} {i : Nat} {r : List Nat} (h : rs[i]? = some r) : (rs.take (i + 1)).flatten = (rs.take i).flatten ++ r := by
  rw [take_next h, List.flatten_append]
  simp

/-! ### a list of new lists -/
structure LL (H0 : Hp) (p : Addr) (H : Hp) (bs : List Addr) (rs : List (List Nat)) : Prop where
  self : H p = some (.lst (bs.map V.ref))
  nd : bs.Nodup
  np : p ∉ bs
  fp : H0 p = none
  fr : ∀ b ∈ bs, H0 b = none
  len : bs.length = rs.length
  at_ : ∀ (i : Nat) (b : Addr) (r : List Nat), bs[i]? = some b → rs[i]? = some r → H b = some (.lst (nv r))
theorem LL.ex {H0 H H' : Hp} {p : Addr} {bs : List Addr} {rs : List (List Nat)} (L : LL H0 p H bs rs) (e : Ex H H') : LL H0 p H' bs rs :=
  ⟨e p _ L.self, L.nd, L.np, L.fp, L.fr, L.len, fun i b r h1 h2 => e b _ (L.at_ i b r h1 h2)⟩
theorem LL.get {H0 H : Hp} {p : Addr} {bs : List Addr} {rs : List (List Nat)} (L : LL H0 p H bs rs) {i : Nat} {r : List Nat} (h : rs[i]? = some r) : ∃ b, bs[i]? = some b ∧ H b = some (.lst (nv r)) ∧ b ≠ p ∧ H0 b = none := by
  have hi := (List.getElem?_eq_some_iff.mp h).1
  have hb : bs[i]? = some (bs[i]'(by rw [L.len]; exact hi)) := List.getElem?_eq_getElem _
  refine ⟨_, hb, L.at_ i _ r hb h, fun z => L.np ?_, L.fr _ (List.mem_of_getElem? hb)⟩
  rw [← z]
  exact List.mem_of_getElem? hb
theorem LL.nil {H0 H : Hp} {p : Addr} (h : H p = some (.lst [])) (fp : H0 p = none) : LL H0 p H [] [] :=
  ⟨h, List.nodup_nil, by simp, fp, by simp, rfl, fun i b r h1 => by simp at h1⟩
theorem LL.push {H0 H H' : Hp} {p q : Addr} {bs : List Addr} {rs : List (List Nat)} {r : List Nat} (L : LL H0 p H bs rs) (e0 : Ex H0 H) (e : Ex H H') (hq : H q = none) (h' : H' q = some (.lst (nv r))) : LL H0 p (upd H' p (.lst (bs.map V.ref ++ [.ref q]))) (bs ++ [q]) (rs ++ [r]) := by
  have nq : q ∉ bs := fun hm => by
    obtain ⟨i, hi⟩ := List.mem_iff_getElem?.mp hm
    have hl := (List.getElem?_eq_some_iff.mp hi).1
    have := L.at_ i q _ hi (List.getElem?_eq_getElem (by rw [← L.len]; exact hl))
    rw [hq] at this
    cases this
  have qp : q ≠ p := fun z => by
    have := L.self
    rw [← z, hq] at this
    cases this
  refine ⟨by rw [upd_same]; simp, ?_, ?_, L.fp, ?_, by simp [L.len], ?_⟩
  · exact List.nodup_append.mpr ⟨L.nd, by simp, fun a ha b hb z => nq (by
      rw [List.mem_singleton] at hb
      rw [← hb, ← z]
      exact ha)⟩
  · simp [L.np, Ne.symm qp]
  · intro b hb
    rcases List.mem_append.mp hb with h | h
    · exact L.fr b h
    · rw [List.mem_singleton] at h
      rw [h]
      exact fresh_back e0 hq
  · intro i b s h1 h2
    by_cases hi : i < bs.length
    · rw [List.getElem?_append_left hi] at h1
      rw [List.getElem?_append_left (by rw [← L.len]; exact hi)] at h2
      have hb := L.at_ i b s h1 h2
      rw [upd_ne (fun z => L.np (by rw [← z]; exact List.mem_of_getElem? h1))]
      exact e b _ hb
    · rw [List.getElem?_append_right (by omega)] at h1
      rw [List.getElem?_append_right (by rw [← L.len]; omega)] at h2
      have i0 : i - bs.length = 0 := by
        have := (List.getElem?_eq_some_iff.mp h1).1
        simp at this
        omega
      rw [i0] at h1
      rw [← L.len, i0] at h2
      have b1 : q = b := Option.some.inj h1
      have r1 : r = s := Option.some.inj h2
      rw [← b1, ← r1, upd_ne qp]
      exact h'
theorem LL.put {H0 H : Hp} {p b : Addr} {bs : List Addr} {rs : List (List Nat)} {r : List Nat} {i : Nat} (L : LL H0 p H bs rs) (hb : bs[i]? = some b) : LL H0 p (upd H b (.lst (nv r))) bs (rs.set i r) := by
  have bp : p ≠ b := fun z => L.np (by rw [z]; exact List.mem_of_getElem? hb)
  refine ⟨by rw [upd_ne bp]; exact L.self, L.nd, L.np, L.fp, L.fr, by simp [L.len], fun j c s h1 h2 => ?_⟩
  by_cases hj : i = j
  · subst hj
    have hl : i < rs.length := by rw [← L.len]; exact (List.getElem?_eq_some_iff.mp hb).1
    rw [List.getElem?_set_self hl] at h2
    rw [hb] at h1
    rw [← Option.some.inj h1, ← Option.some.inj h2, upd_same]
  · rw [List.getElem?_set_ne hj] at h2
    have : c ≠ b := fun z => by
      subst z
      exact hj (nd_ix L.nd hb h1)
    rw [upd_ne this]
    exact L.at_ j c s h1 h2
theorem LL.tb {H0 H : Hp} {p : Addr} {bs : List Addr} {rs : List (List Nat)} (L : LL H0 p H bs rs) : Paired (Tb H) (bs.map V.ref) rs := by
  have : ∀ (bs : List Addr) (rs : List (List Nat)), bs.length = rs.length → (∀ (i : Nat) (b : Addr) (r : List Nat), bs[i]? = some b → rs[i]? = some r → H b = some (.lst (nv r))) → Paired (Tb H) (bs.map V.ref) rs := fun bs => by
    induction bs with
    | nil => 
      intro rs hl _
      cases rs with
      | nil => exact .nil
      | cons r l => simp at hl
    | cons b bs ih =>
      intro rs hl ha
      cases rs with
      | nil => simp at hl
      | cons r l =>
        refine .cons ⟨b, rfl, .inl (ha 0 b r rfl rfl)⟩ (ih l (by simpa using hl) fun i c s h1 h2 => ha (i + 1) c s (by simpa using h1) (by simpa using h2))
  exact this bs rs L.len L.at_
/-- xs.append of a list among others -/
theorem set_end {α : Type} (l : List α) (x y : α) : (l ++ [x]).set l.length y = l ++ [y] := by
  rw [List.set_append_right _ _ (Nat.le_refl _)]
  simp
theorem paired_imp {α β : Type} {F G : α → β → Prop} (f : ∀ a b, F a b → G a b) : ∀ {l : List α} {m : List β}, Paired F l m → Paired G l m
  | _, _, .nil => .nil
  | _, _, .cons h t => .cons (f _ _ h) (paired_imp f t)
theorem list_end {α : Type} (l : List α) : l = [] ∨ ∃ i x, l = i ++ [x] := by
  rcases List.eq_nil_or_concat l with h | ⟨i, x, h⟩
  · exact .inl h
  · exact .inr ⟨i, x, by simpa using h⟩

/-! ### is_table, are_tables, seating_of -/
section
variable {K : PySem.W.Frag} {σ : L2.St} {H H' : Hp} {ta tb te tl : TE} {t : TT}
theorem el_lcT {a : Addr} {xs : List V} {tl : TE} {j : Nat} {vs : List Nat} (f : Nat → Bool) (v : Nat → V) (h : Ev tl σ H (.ref a)) (hx : SqT K H a xs) (hz : xs.length ≤ 40000) (hw : ∀ x, wipe ((wipe σ vs).set j (some x)) vs = wipe σ vs)
    (ht : ∀ (i : Nat) (x : V) H1, Ex H H1 → xs[i]? = some x → EvT t ((wipe σ vs).set j (some x)) H1 (f i)) (he : ∀ (i : Nat) (x : V) H1, Ex H H1 → xs[i]? = some x → f i = true → Ev te ((wipe σ vs).set j (some x)) H1 (v i)) : EvL (tLc (iTup K tl) (gName j) t te vs) σ H (given xs.length f v) := fun H0 e Q q => h H0 e _ fun H1 e1 =>
  ⟨a, rfl, ⟨xs, ex_t (e.trans e1) hx⟩, fun Dl hD => lc_tup (xs := xs) (Cw H1 f v Dl) ⟨hD, Ex.new hD, upd_same⟩ (fun i H' _ p => ex_t ((e.trans e1).trans p.2.1) hx)
    (fun i x H' hi p => ⟨hw x, cw_turn p (by have := (List.getElem?_eq_some_iff.mp hi).1; omega) (ht i x H1 (e.trans e1) hi) (fun hf => he i x H1 (e.trans e1) hi hf)⟩) (fun H' p => q Dl H' (fresh_back e1 p.1) (e1.trans p.2.1) p.2.2)⟩
/-- a call whose argument is a new list -/
theorem ev_call1L {sp : Sp} {dvs xs : List V} {v : V} {E : XK} (h : EvL te σ H xs) (hs : ∀ p H1, Ex H H1 → H1 p = some (.lst xs) → SpV sp ([.ref p] ++ dvs) H1 v) : Ev (tCall sp dvs E (tCons te tNil)) σ H v := fun H1 e Q q =>
  h H1 e _ fun p H2 _ e2 h2 => hs p H2 (e.trans e2) h2 H2 (Ex.refl _) Q (fun H3 e3 => q H3 (e2.trans e3)) E
theorem el_call1L {sp : Sp} {dvs xs ys : List V} {E : XK} (h : EvL te σ H xs) (hs : ∀ p H1, Ex H H1 → H1 p = some (.lst xs) → SpL sp ([.ref p] ++ dvs) H1 ys) : EvL (tCall sp dvs E (tCons te tNil)) σ H ys := fun H1 e Q q =>
  h H1 e _ fun p H2 _ e2 h2 => hs p H2 (e.trans e2) h2 H2 (Ex.refl _) Q (fun l H3 hl e3 h3 => q l H3 (fresh_back e2 hl) (e2.trans e3) h3) E
end

/-! ### _law_mixed, _law_entries -/
theorem q_parLL {σ : L2.St} {H : Hp} {ta tb : TE} {tz : TS} {D : Ends} {i j : Nat} {xs ys : List V} (ha : EvL ta σ H xs) (hb : EvL tb σ H ys) (k : ∀ p q H1, H p = none → H q = none → p ≠ q → Ex H H1 → H1 p = some (.lst xs) → H1 q = some (.lst ys) → tz D ((σ.set i (some (.ref p))).set j (some (.ref q))) H1) :
    tSeq (tPar i j (tCons ta (tCons tb tNil))) tz D σ H := ha H (Ex.refl H) _ fun p H1 hp e1 h1 => hb H1 e1 _ fun q H2 hq e2 h2 => ⟨_, _, rfl, k p q H2 hp (fresh_back e1 hq) (ne_of_none h1 hq) (e1.trans e2) (e2 p _ h1) h2⟩
theorem eqv_nil (xs : List V) (ns : List Int) : PyData.eqv (.list (ns.map PyData.int)) (.list []) = ns.isEmpty := by
  cases ns with
  | nil => decide
  | cons n l => rfl
theorem nv_erase (L : List Nat) (k : Nat) : (nv L).eraseIdx k = nv (L.eraseIdx k) := by
  rw [nv_eq, nv_eq, List.eraseIdx_eq_take_drop_succ, List.eraseIdx_eq_take_drop_succ, List.map_append, List.map_take, List.map_drop]
theorem shaped_nil : SeqAt.shaped (.list []) = true := by decide
theorem s_appE {K : PySem.W.Frag} {σ : L2.St} {H : Hp} {ta te : TE} {D : Ends} {l : Addr} {xs : List V} (hl : H l = some (.lst xs)) (ha : Ev ta σ H (.ref l)) (k : ∀ H1, Ex H H1 → te σ H1 fun v H2 => rAppend (.ref l) [v] H2 fun _ H3 => D.nx σ H3) : tDrop (tBM K "list" rAppend ta (tCons te tNil)) D σ H :=
  ha H (Ex.refl H) _ fun H1 e1 => ⟨Or.inl ⟨rfl, xs, sq_of (e1 l _ hl)⟩, k H1 e1⟩
theorem t_popAt {K : PySem.W.Frag} {σ : L2.St} {H : Hp} {ta te : TE} {Q : VK} {l : Addr} {xs : List V} (hl : H l = some (.lst xs)) (ha : Ev ta σ H (.ref l)) (k : ∀ H1, Ex H H1 → te σ H1 fun v H2 => rPopAt (.ref l) [v] H2 Q) : tBM K "list" rPopAt ta (tCons te tNil) σ H Q :=
  ha H (Ex.refl H) _ fun H1 e1 => ⟨Or.inl ⟨rfl, xs, sq_of (e1 l _ hl)⟩, k H1 e1⟩
theorem seq_at {j n : Nat} (h : j < n) : seqIndex? (j : Int) n = some j := by
  unfold seqIndex?
  have h1 : ¬ ((j : Int) < 0) := by omega
  have h2 : (0 : Int) ≤ j := by omega
  have h3 : (j : Int) < n := by omega
  simp [h1, h2, h3]
theorem erase_perm {L : List Nat} {j : Nat} (hj : j < L.length) : (L[j] :: L.eraseIdx j).Perm L := by
  have e2 : L.take j ++ L[j] :: L.drop (j + 1) = L := by rw [← List.drop_eq_getElem_cons hj, List.take_append_drop]
  rw [List.eraseIdx_eq_take_drop_succ]
  exact List.perm_middle.symm.trans (List.Perm.of_eq e2)

/-! ### _law_entries -/
def EvPA (p : Addr) (k : Nat) (ta : TA) (σ : L2.St) (H0 : Hp) (C : List V → Prop) : Prop := ∀ n H1, Ex H0 H1 → Po p n H1 → n + k ≤ 1000000000 →
  ∀ Q : List V → Hp → Prop, (∀ vs H2, C vs → Po p (n + k) H2 → Ex (Hm p H1) H2 → Q vs H2) → ta σ H1 Q
section
variable {K : PySem.W.Frag} {σ : L2.St} {H0 H : Hp} {p : Addr} {k k1 k2 : Nat} {te ta tb : TE} {R Ra Rb : V → Hp → Prop} {tr : TA} {A : V → Prop} {B C : List V → Prop}
theorem epa_nil : EvPA p 0 tNil σ H0 (fun vs => vs = []) := fun n H1 e hp _ Q q => q [] H1 rfl hp (hm_of (Ex.refl _))
theorem epa_cons (h0 : H0 p = none) (h : EvP p k1 te σ H0 (fun v _ => A v)) (hr : EvPA p k2 tr σ H0 B) : EvPA p (k1 + k2) (tCons te tr) σ H0 (fun vs => ∃ v r, vs = v :: r ∧ A v ∧ B r) := fun n H1 e hp hn Q q =>
  h n H1 e hp (by omega) _ fun v H2 hv p2 e2 => hr (n + k1) H2 (hm_next h0 e e2) p2 (by omega) _ fun vs H3 hvs p3 e3 => q (v :: vs) H3 ⟨v, vs, rfl, hv, hvs⟩ (by rw [← Nat.add_assoc]; exact p3) (hm_trans e2 e3)
theorem epa_pure {v : V} (h0 : H0 p = none) (h : Ev te σ H0 v) (hr : EvPA p k2 tr σ H0 B) : EvPA p (0 + k2) (tCons te tr) σ H0 (fun vs => ∃ x r, vs = x :: r ∧ x = v ∧ B r) := epa_cons (A := fun x => x = v) h0 (ep_ev h) hr
theorem ep_lst (h : EvPA p k tr σ H0 C) (hs : ∀ vs, C vs → vs.length ≤ 100000) : EvP p k (tLst tr) σ H0 (fun x H => ∃ l vs, l ≠ p ∧ x = .ref l ∧ H l = some (.lst vs) ∧ C vs) := fun n H1 e hp hn Q q =>
  h n H1 e hp hn _ fun vs H2 c p2 e2 => ⟨sz_of (hs vs c), fun l hl => q _ _ ⟨l, vs, p2.ne hl, rfl, upd_same, c⟩ (p2.ex (Ex.new hl)) (hm_trans e2 (hm_of (Ex.new hl)))⟩
theorem stb_lst : Stb p (fun x H => ∃ l vs, l ≠ p ∧ x = .ref l ∧ H l = some (.lst vs) ∧ C vs) := fun v H H' ⟨l, vs, ne, e, h, c⟩ s => ⟨l, vs, ne, e, hm_at s ne h, c⟩
theorem ep_ix (h0 : H0 p = none) {ix : V → Prop} (ha : EvP p k1 (tLst tr) σ H0 (fun x H => ∃ l vs, l ≠ p ∧ x = .ref l ∧ H l = some (.lst vs) ∧ C vs)) (hb : EvP p k2 tb σ H0 (fun v _ => ix v)) (hat : ∀ vs v, C vs → ix v → ∃ i z, v = .int i ∧ atI vs i = some z ∧ A z) :
    EvP p (k1 + k2) (tOp (rIxL K) (tLst tr) tb) σ H0 (fun v _ => A v) := ep_op h0 ha hb stb_lst stb_c fun x y H hx hy => by
  obtain ⟨l, vs, ne, rfl, hl, c⟩ := hx
  obtain ⟨i, z, rfl, hz, az⟩ := hat vs y c hy
  exact ⟨z, az, rv_ixL (sq_of hl) hz⟩
theorem ep_isZ (h0 : H0 p = none) (h : EvP p k te σ H0 (fun v _ => ∃ r, v = .int r ∧ 0 ≤ r)) : EvP p (k + 0) (tCB rIntB (tCons (tOp rEq te (tC (.int 0))) tNil)) σ H0 (fun v _ => v = .int 0 ∨ v = .int 1) := fun n H1 e hp hn Q q =>
  (ep_op (k1 := k) (k2 := 0) (R := fun v _ => ∃ b, v = .bl b) h0 h (ep_ev (v := .int 0) ev_c) stb_c stb_c fun x y H ⟨r, e1, _⟩ e2 => ⟨.bl (decide (x = y)), ⟨_, rfl⟩, by
    subst e1
    subst e2
    exact rv_eq rfl⟩) n H1 e hp hn _ fun v H2 ⟨b, hb⟩ p2 e2 => ⟨b, by rw [hb], q _ H2 (by cases b <;> simp) p2 e2⟩
theorem pq_parL {n i j : Nat} {D : Ends} {tz : TS} {ys : List V} (h : EvP p k ta σ H0 R) (e : Ex H0 H) (hp : Po p n H) (hn : n + k ≤ 1000000000) (hb : ∀ H1, EvL tb σ H1 ys) (q : ∀ v l H2 H3, R v H2 → H2 l = none → Ex H2 H3 → H3 l = some (.lst ys) → Po p (n + k) H3 → Ex (Hm p H) H2 → tz D ((σ.set i (some v)).set j (some (.ref l))) H3) :
    tSeq (tPar i j (tCons ta (tCons tb tNil))) tz D σ H := h n H e hp hn _ fun v H2 hv p2 e2 => hb H2 H2 (Ex.refl _) _ fun l H3 hl e3 h3 => ⟨_, _, rfl, q v l H2 H3 hv hl e3 h3 (p2.ex e3) e2⟩
end
def sp_law_entries : Sp := fun vs H Q _ => ∃ (p : Addr) (n m : Nat), vs = [.ref p, .int (m : Int)] ∧ Po p n H ∧ n + 3 * m + 1 < 1000000000 ∧ m ≤ 20 ∧
  ∀ l f H', H l = none → H' l = some (.lst (nv f)) → f.length = m → (∀ (i x : Nat), f[i]? = some x → x ≤ i) → Po p (n + 3 * m + 1) H' → Ex (Hm p H) H' → Q (.ref l) H'
section
variable {P : Program} {w : World} {K : PySem.W.Frag} {mg : Str → Option Value} {base : Heap}
theorem ok_law_entries (T : Tx K mg) : FnOk P w K mg base CX0 2 T.f_law_entries T.d_law_entries ["pouch", "many"] sp_law_entries := by
  refine T.F_law_entries.ok sc_law_entries (fun vs H Q E h => ?_) (fun cdv A outer s H vs Q E hr h => ?_)
  · obtain ⟨p, n, m, rfl, _⟩ := h
    rfl
  · obtain ⟨p, n, m, rfl, hpo, hn, hm, k⟩ := h
    refine ⟨_, (pss_cons (ps_par (i := 2) (j := 3) (by rfl) sc_law_entries.nd rfl rfl (by decide) rfl rfl (pa_cons (pe_call (ok_law_dip T) (hr.mono (by decide)) (by rfl) T.g_law_dip T.F_law_dip.kp T.b_law_dip .nil pass0 (pa_cons (pv 0) (pa_cons pe_int pa_nil))) (pa_cons (pe_lst pa_nil) pa_nil)) (by rfl))
      (pss_cons (ps_for PassesOwn.never rfl (pi_range1 (by rfl) T.m_range (pa_cons (pv 1) pa_nil)) (pg_name (i := 4) sc_law_entries.nd rfl (Or.inl rfl)) (pss_cons (ps_set (i := 5) sc_law_entries.nd rfl (Or.inl rfl) (pe_lst (pa_cons (pv 4) (pa_cons pe_int (pa_cons (pe_call (ok_law_dip T) (hr.mono (by decide)) (by rfl) T.g_law_dip T.F_law_dip.kp T.b_law_dip .nil pass0 (pa_cons (pv 0) (pa_cons (pe_op op_add (pv 4) pe_int) pa_nil))) (pa_cons (pe_callB (call_maxR rfl) (by rfl) T.m_max (by decide +kernel) (pa_cons pe_int (pa_cons (pe_op op_sub (pv 4) pe_int) pa_nil))) pa_nil))))))
      (pss_cons (ps_set (i := 6) sc_law_entries.nd rfl (Or.inl rfl) (pe_ix ix_list (pe_lst (pa_cons (pe_call (ok_law_dip T) (hr.mono (by decide)) (by rfl) T.g_law_dip T.F_law_dip.kp T.b_law_dip .nil pass0 (pa_cons (pv 0) (pa_cons pe_int pa_nil))) (pa_cons pe_int (pa_cons pe_int (pa_cons pe_int (pa_cons pe_int (pa_cons (pe_ix ix_list (pe_lst (pa_cons pe_int (pa_cons pe_int pa_nil))) (pe_callTy call_intB (by rfl) T.m_int (by decide +kernel) (pa_cons (pe_cmpR op_eq (pe_call (ok_law_dip T) (hr.mono (by decide)) (by rfl) T.g_law_dip T.F_law_dip.kp T.b_law_dip .nil pass0 (pa_cons (pv 0) (pa_cons pe_int pa_nil))) pe_int (nomark _)) pa_nil)) (fun _ _ => rfl)) pa_nil))))))) (pv 2) (fun _ _ => rfl)))
      (pss_one (ps_expr (pe_bm PySem.F.plainAttrs_list PySem.F.slot_list_append PySem.F.type_list_append mt_append (pv 3) (pa_cons (pe_ix ix_list (pv 5) (pv 6) (fun _ _ => rfl)) pa_nil)))))))
      (pss_one (ps_ret (pv 3))))), ?_⟩
    have hp0 : Hm p H p = none := hm_p
    refine pq_parL (p := p) (k := 1) (H0 := Hm p H) (ys := []) (ep_dipI (w := 6) hm_p (ev_var rfl) ev_c (by decide) (by decide)) hm_sub hpo (by omega) (fun H1 => el_lst ea_nil (Nat.le_of_ble_eq_true rfl)) ?_
    rintro v b H1 H2 ⟨st, rfl, s0, s1⟩ hb1 e2 hb2 p2 e1
    have hbp : b ≠ p := fun z => by
      subst z
      obtain ⟨x, y, z, q, _⟩ := p2
      rw [hb2] at q
      cases q
    have hb : H b = none := by
      have := fresh_back e1 hb1
      unfold Hm at this
      rw [if_neg hbp] at this
      exact this
    have e02 : Ex (Hm p H) H2 := e1.trans e2
    refine q_forR1 (n := (m : Int)) (by walk_at "ea") (by omega) (fun i σ' H' => ∃ (F : List Nat) (y4 y5 y6 : Option V), σ' = [some (.ref p), some (.int m), some (.int st), some (.ref b), y4, y5, y6] ∧ H' b = some (.lst (nv F)) ∧ F.length = i ∧ (∀ (j x : Nat), F[j]? = some x → x ≤ j) ∧ Po p (n + 3 * i + 1) H' ∧ Ex (Hm p H) H')
      (fun H3 e3 => ⟨[], none, none, none, rfl, e3 b _ hb2, rfl, by simp, p2.ex e3, hm_trans e02 (hm_of e3)⟩) ?_ ?_
    · rintro i σ' H' hi ⟨F, y4, y5, y6, rfl, hF, hFl, hFx, p3, e3⟩
      have him : i < m := by omega
      refine pq_asg (p := p) (k := 0 + (0 + (1 + (0 + 0)))) (H0 := Hm p H') (R := fun x H => ∃ l vs, l ≠ p ∧ x = .ref l ∧ H l = some (.lst vs) ∧ ∃ c d : Nat, vs = [.int (i : Nat), .int 0, .int c, .int d] ∧ c ≤ i ∧ d ≤ i) (ep_is (ep_lst (epa_pure (v := .int (i : Nat)) hm_p (ev_var rfl) (epa_pure hm_p ev_c (epa_cons (A := fun v => ∃ c : Nat, v = .int c ∧ c ≤ i) hm_p (ep_is (ep_dipI (w := (i : Int) + 1) hm_p (ev_var rfl) (by walk_at "ev") (by omega) (by omega)) ?_) (epa_pure (v := .int ((i - 1 : Nat) : Int)) hm_p ?_ epa_nil)))) ?_) ?_) hm_sub p3 (by omega) ?_
      · rintro v _ ⟨r, rfl, r0, r1⟩
        exact ⟨r.toNat, by congr 1; omega, by omega⟩
      · refine ev_is (ev_max2 (i := 0) (j := (i : Int) - 1) ev_c (by walk_at "ev")) ?_
        congr 1
        split <;> omega
      · rintro vs ⟨_, _, rfl, _, _, _, rfl, _, _, _, rfl, _, _, _, rfl, _, rfl⟩
        exact Nat.le_of_ble_eq_true rfl
      · rintro v H4 ⟨l, vs, ne, rfl, hl, _, _, rfl, rfl, _, _, rfl, rfl, _, _, rfl, ⟨c, rfl, hc⟩, _, _, rfl, rfl, rfl⟩
        exact ⟨l, _, ne, rfl, hl, c, i - 1, rfl, hc, by omega⟩
      rintro v H4 ⟨l, vs, lp, rfl, hl, c, d, rfl, hc, hd⟩ p4 e4
      refine pq_asg (p := p) (k := (1 + (0 + (0 + (0 + (0 + ((0 + (0 + 0)) + (1 + 0) + 0)))))) + 0) (H0 := Hm p H4) (R := fun v _ => ∃ r : Nat, v = .int r ∧ r < 4) (ep_ix (ix := fun v => v = .int st) (C := fun vs => ∃ a b : Nat, vs = [.int a, .int 2, .int 0, .int 1, .int 3, .int b] ∧ a < 4 ∧ b < 4) hm_p (ep_is (ep_lst (epa_cons (A := fun v => ∃ c : Nat, v = .int c ∧ c < 4) hm_p (ep_is (ep_dipI (w := 4) hm_p (ev_var rfl) ev_c (by decide) (by decide)) ?_) (epa_pure hm_p ev_c (epa_pure hm_p ev_c (epa_pure hm_p ev_c (epa_pure hm_p ev_c (epa_cons (A := fun v => ∃ c : Nat, v = .int c ∧ c < 4) hm_p (ep_ix (ix := fun v => v = .int 0 ∨ v = .int 1) hm_p (ep_lst (epa_pure hm_p ev_c (epa_pure hm_p ev_c epa_nil)) ?_) (ep_isZ hm_p (ep_is (ep_dipI (w := 3) hm_p (ev_var rfl) ev_c (by decide) (by decide)) ?_)) ?_) epa_nil)))))) ?_) ?_) (ep_ev (ev_var rfl)) ?_) hm_sub p4 (by omega) ?_
      · rintro v _ ⟨r, rfl, r0, r1⟩
        exact ⟨r.toNat, by congr 1; omega, by omega⟩
      · rintro vs ⟨_, _, rfl, _, _, _, rfl, _, rfl⟩
        exact Nat.le_of_ble_eq_true rfl
      · rintro v _ ⟨r, rfl, r0, r1⟩
        exact ⟨r, rfl, r0⟩
      · rintro vs v ⟨_, _, rfl, rfl, _, _, rfl, rfl, rfl⟩ (rfl | rfl)
        · exact ⟨0, .int 2, rfl, rfl, 2, rfl, by decide⟩
        · exact ⟨1, .int 0, rfl, rfl, 0, rfl, by decide⟩
      · rintro vs ⟨_, _, rfl, _, _, _, rfl, _, _, _, rfl, _, _, _, rfl, _, _, _, rfl, _, _, _, rfl, _, rfl⟩
        exact Nat.le_of_ble_eq_true rfl
      · rintro v H5 ⟨l, vs, ne, rfl, hl, _, _, rfl, ⟨a, rfl, ha⟩, _, _, rfl, rfl, _, _, rfl, rfl, _, _, rfl, rfl, _, _, rfl, rfl, _, _, rfl, ⟨b, rfl, hb⟩, rfl⟩
        exact ⟨l, _, ne, rfl, hl, a, b, rfl, ha, hb⟩
      · rintro vs v ⟨a, b, rfl, ha, hb⟩ rfl
        have : st = 0 ∨ st = 1 ∨ st = 2 ∨ st = 3 ∨ st = 4 ∨ st = 5 := by omega
        rcases this with rfl | rfl | rfl | rfl | rfl | rfl
        · exact ⟨0, .int a, rfl, rfl, a, rfl, ha⟩
        · exact ⟨1, .int 2, rfl, rfl, 2, rfl, by decide⟩
        · exact ⟨2, .int 0, rfl, rfl, 0, rfl, by decide⟩
        · exact ⟨3, .int 1, rfl, rfl, 1, rfl, by decide⟩
        · exact ⟨4, .int 3, rfl, rfl, 3, rfl, by decide⟩
        · exact ⟨5, .int b, rfl, rfl, b, rfl, hb⟩
      rintro v H5 ⟨r, rfl, hr4⟩ p5 e5
      have hl5 := hm_at e5 lp hl
      have hF5 := hm_at e5 hbp (hm_at e4 hbp hF)
      obtain ⟨x, hx, hxi⟩ : ∃ x : Nat, atI [V.int (i : Nat), .int 0, .int c, .int d] (r : Int) = some (.int x) ∧ x ≤ i := by
        have : r = 0 ∨ r = 1 ∨ r = 2 ∨ r = 3 := by omega
        rcases this with rfl | rfl | rfl | rfl
        · exact ⟨i, rfl, Nat.le_refl _⟩
        · exact ⟨0, rfl, Nat.zero_le _⟩
        · exact ⟨c, rfl, hc⟩
        · exact ⟨d, rfl, hd⟩
      refine s_app hF5 (ev_var rfl) (ev_op (ev_var rfl) (ev_var rfl) (rv_ixL (K := K) (sq_of hl5) hx)) (by rw [nv_len]; omega) fun H6 e6 => ?_
      have e36 := hm_trans (hm_trans (hm_trans e3 e4) e5) (hm_of e6)
      refine ⟨F ++ [x], _, _, _, rfl, by rw [upd_same, nv_app]; rfl, by simp [hFl], fun j y hy => ?_, ?_, Ex.mut e36 (by unfold Hm; rw [if_neg hbp]; exact hb)⟩
      · by_cases hj : j < F.length
        · rw [List.getElem?_append_left hj] at hy
          exact hFx j y hy
        · rw [List.getElem?_append_right (by omega)] at hy
          have : j - F.length = 0 := by
            have := (List.getElem?_eq_some_iff.mp hy).1
            simp at this
            omega
          rw [this] at hy
          have : x = y := Option.some.inj hy
          omega
      · obtain ⟨x, y, z, q1, q2⟩ := (p5.ex e6).mono (m := n + 3 * (i + 1) + 1) (by omega)
        exact ⟨x, y, z, by rw [upd_ne (Ne.symm hbp)]; exact q1, q2⟩
    · rintro σ' H' ⟨F, y4, y5, y6, rfl, hF, hFl, hFx, p3, e3⟩
      have em : ((m : Int)).toNat = m := Int.toNat_natCast m
      rw [em] at hFl p3
      exact s_ret (ev_var (i := 3) rfl) fun H4 e4 => k b F H4 hb (e4 b _ hF) hFl hFx (p3.ex e4) (hm_trans e3 (hm_of e4))
end

theorem mid_at {α : Type} (g : α → α) (l : List α) {j : Nat} {x : α} (h : l[j]? = some x) : ((l.take j).map g ++ l.drop j)[j]? = some x := by
  have hj := (List.getElem?_eq_some_iff.mp h).1
  rw [List.getElem?_append_right (by simp; omega)]
  simp [List.length_take, Nat.min_eq_left (Nat.le_of_lt hj), h]
theorem mid_set {α : Type} (g : α → α) (l : List α) {j : Nat} {x : α} (h : l[j]? = some x) : ((l.take j).map g ++ l.drop j).set j (g x) = (l.take (j + 1)).map g ++ l.drop (j + 1) := by
  obtain ⟨hj, e⟩ := List.getElem?_eq_some_iff.mp h
  rw [List.set_append_right _ _ (by simp; omega), take_next h, List.map_append, List.drop_eq_getElem_cons hj, e]
  simp [List.length_take, Nat.min_eq_left (Nat.le_of_lt hj)]
theorem set_same {α : Type} {l : List α} {j : Nat} {x : α} (h : l[j]? = some x) : l.set j x = l := by
  refine List.ext_getElem? fun i => ?_
  by_cases e : i = j
  · subst e
    rw [List.getElem?_set_self (List.getElem?_eq_some_iff.mp h).1, h]
  · rw [List.getElem?_set_ne (Ne.symm e)]
theorem mid_same {α : Type} (g : α → α) (l : List α) {j : Nat} {x : α} (h : l[j]? = some x) (e : g x = x) : (l.take j).map g ++ l.drop j = (l.take (j + 1)).map g ++ l.drop (j + 1) := by
  have := mid_set g l h
  rw [e] at this
  rw [← this]
  exact (set_same (mid_at g l h)).symm
def sp_law_rings : Sp := fun vs H Q _ => ∃ (a : Addr) (e : List Nat), vs = [.ref a] ∧ H a = some (.lst (nv e)) ∧ e.length ≤ 20 ∧ (∀ (i x : Nat), e[i]? = some x → x ≤ i) ∧
  ∀ l bs H', LL H l H' bs (ringsTo e e.length) → Ex H H' → Q (.ref l) H'
section
variable {P : Program} {w : World} {K : PySem.W.Frag} {mg : Str → Option Value} {base : Heap}
theorem ok_law_rings (T : Tx K mg) : FnOk P w K mg base CX0 1 T.f_law_rings T.d_law_rings ["entries"] sp_law_rings := by
  refine T.F_law_rings.ok sc_law_rings (fun vs H Q E h => ?_) (fun cdv A outer s H vs Q E hr h => ?_)
  · obtain ⟨a, e, rfl, _⟩ := h
    rfl
  · obtain ⟨a, f, rfl, ha, hn, hx, k⟩ := h
    refine ⟨_, (pss_cons (ps_set (i := 1) sc_law_rings.nd rfl (Or.inl rfl) (pe_lst pa_nil))
      (pss_cons (ps_for PassesOwn.never rfl (pi_enum (by rfl) T.m_enumerate (pa_cons (pv 0) pa_nil)) (pg_tup rfl (pgs_cons (pg_name (i := 2) sc_law_rings.nd rfl (Or.inl rfl)) (pgs_cons (pg_name (i := 3) sc_law_rings.nd rfl (Or.inl rfl)) pgs_nil))) (pss_cons (ps_if (pt_cmpR op_eq (pv 2) (pv 3) (nomark _)) (pss_one (ps_expr (pe_bm PySem.F.plainAttrs_list PySem.F.slot_list_append PySem.F.type_list_append mt_append (pv 1) (pa_cons (pe_lst (pa_cons (pv 2) pa_nil)) pa_nil)))) pss_nil)
      (pss_one (ps_for PassesOwn.never rfl (pi_list (pv 1)) (pg_name (i := 4) sc_law_rings.nd rfl (Or.inl rfl)) (pss_one (ps_if (PW.pt (pw_and (pt_cmpR op_in_seq (pv 3) (pv 4) (by rfl)) (pw_and1 (pt_cmpR op_ne (pv 3) (pv 2) (nomark _))))) (pss_one (ps_expr (pe_bm PySem.F.plainAttrs_list PySem.F.slot_list_insert PySem.F.type_list_insert mt_insert (pv 4) (pa_cons (pe_op op_add (pe_bm PySem.F.plainAttrs_list PySem.F.slot_list_index PySem.F.type_list_index mt_index (pv 4) (pa_cons (pv 3) pa_nil)) pe_int) (pa_cons (pv 2) pa_nil))))) pss_nil))))))
      (pss_one (ps_ret (pv 1))))), ?_⟩
    refine q_asgL (xs := []) (el_lst ea_nil (Nat.le_of_ble_eq_true rfl)) fun p H1 hp e1 h1 => ?_
    refine q_forEn (xs := nv f) (K := K) (by walk_at "ea") (sq_of (e1 a _ ha)) (fun m σ' H' => ∃ (bs : List Addr) (y2 y3 y4 : Option V), σ' = [some (.ref a), some (.ref p), y2, y3, y4] ∧ Ex H H' ∧ LL H p H' bs (ringsTo f m))
      (fun H2 e2 => ⟨[], none, none, none, rfl, e1.trans e2, LL.nil (e2 p _ h1) hp⟩) (fun m σ' H' _ ⟨_, _, _, _, _, e, _⟩ => sq_of (e a _ ha)) ?_ ?_
    · rintro m v σ' H' H2 hv ⟨bs, y2, y3, y4, rfl, e, L⟩ e2
      have hml : m < f.length := by
        have := (List.getElem?_eq_some_iff.mp hv).1
        rw [nv_len] at this
        exact this
      obtain ⟨x, hfx⟩ : ∃ x, f[m]? = some x := ⟨f[m], List.getElem?_eq_getElem hml⟩
      have ev : v = .int (x : Int) := by
        have := nv_get hfx
        rw [hv] at this
        exact Option.some.inj this
      subst ev
      have gx : f.getD m 0 = x := by
        rw [List.getD_eq_getElem?_getD, hfx]
        rfl
      have hxm := hx m x hfx
      have R := ringsTo_ok hx m (by omega)
      have L2 := L.ex e2
      have hz : (ringsTo f m).length ≤ m := by
        have : ∀ l : List (List Nat), (∀ r ∈ l, 0 < r.length) → l.length ≤ l.flatten.length := fun l => by
          induction l with
          | nil => intro _; simp
          | cons r l ih =>
            intro hl
            have := ih fun x hx => hl x (by simp [hx])
            have := hl r (by simp)
            rw [List.flatten_cons, List.length_append, List.length_cons]
            omega
        have h2 := this _ R.ne
        rw [R.all.length_eq, List.length_range] at h2
        exact h2
      have short : ∀ r ∈ ringsTo f m, r.length ≤ m := fun r hr => by
        have := List.Sublist.length_le (List.sublist_flatten_of_mem hr)
        rw [R.all.length_eq, List.length_range] at this
        exact this
      -- what is left: the inner loop
      have inner : ∀ (rs1 : List (List Nat)) (bs1 : List Addr) (H3 : Hp) (D : Ends), rs1 = (if m = x then ringsTo f m ++ [[m]] else ringsTo f m) → Ex H H3 → LL H p H3 bs1 rs1 → (∀ r ∈ rs1, r.length ≤ 20) → rs1.length ≤ 21 →
          (∀ σ4 H4, (∃ (bs : List Addr) (y2 y3 y4 : Option V), σ4 = [some (.ref a), some (.ref p), y2, y3, y4] ∧ Ex H H4 ∧ LL H p H4 bs (ringsTo f (m + 1))) → D.nx σ4 H4) →
          tFor (iList K (tVar 1)) (gName 4) (tIfS (tAnd (tTest (tOp (rIn K false) (tVar 3) (tVar 4))) (tTest (tOp rNe (tVar 3) (tVar 2)))) (tDrop (tBM K "list" (fun x vs H Q => ∃ (l : Addr) (xs : List V) (i : Int) (y : V), x = .ref l ∧ vs = [.int i, y] ∧ H l = some (.lst xs) ∧ xs.length < sizeLine ∧ 0 ≤ i ∧ i < 2 ^ 63 ∧
    Q .non (upd H l (.lst (xs.take i.toNat ++ [y] ++ xs.drop i.toNat)))) (tVar 4) (tCons (tOp (rI0 fun i j => .int (i + j)) (tBM K "list" (rIndex K) (tVar 4) (tCons (tVar 3) tNil)) (tC (.int 1))) (tCons (tVar 2) tNil)))) tNext) D [some (.ref a), some (.ref p), some (.int (m : Int)), some (.int (x : Int)), y4] H3 := fun rs1 bs1 H3 D hr1 e3 L3 sh1 sl1 hD => by
        have hbl : bs1.length = rs1.length := L3.len
        refine s_forLn (xs := bs1.map V.ref) (K := K) (ev_var rfl) (sq_of L3.self) (fun j σ' H' => ∃ (y4 : Option V), σ' = [some (.ref a), some (.ref p), some (.int (m : Int)), some (.int (x : Int)), y4] ∧ Ex H H' ∧ LL H p H' bs1 ((rs1.take j).map (insr x m) ++ rs1.drop j))
          (fun H4 e4 => ⟨y4, rfl, e3.trans e4, by simpa using L3.ex e4⟩) (fun j σ' H' _ ⟨_, _, _, L⟩ => sq_of L.self) ?_ ?_
        · rintro j v σ' H4 hv ⟨y4, rfl, e4, L4⟩
          rw [List.getElem?_map] at hv
          obtain ⟨b, hb, rfl⟩ := Option.map_eq_some_iff.mp hv
          have hj : j < rs1.length := by
            have := (List.getElem?_eq_some_iff.mp hb).1
            omega
          obtain ⟨r, hr⟩ : ∃ r, rs1[j]? = some r := ⟨rs1[j], List.getElem?_eq_getElem hj⟩
          have hrb := L4.at_ j b r hb (mid_at _ _ hr)
          have hb0 : H b = none := L4.fr b (List.mem_of_getElem? hb)
          have shr := sh1 r (List.mem_of_getElem? hr)
          refine s_if (b := decide (x ∈ r) && !decide (V.int (x : Int) = V.int (m : Int))) (et_and (et_test (ev_is (ev_op (ev_var rfl) (ev_var rfl) (rv_isL (K := K) (sq_of hrb) rfl (nv_flat r))) (by rw [nv_in]))) fun _ => et_test (ev_op (ev_var rfl) (ev_var rfl) (rv_ne rfl))) (fun hc H5 e5 => ?_) (fun hc H5 e5 => ?_)
          · rw [Bool.and_eq_true, decide_eq_true_iff] at hc
            have hne : x ≠ m := fun z => by
              rw [z] at hc
              simp at hc
            have hr5 := e5 b _ hrb
            refine s_dropBM hr5 (ev_var rfl) fun H6 e6 => ?_
            have hr6 := e6 b _ hr5
            refine (ea_cons (ev_op (ev_index (K := K) (ta := tVar 4) (te := tVar 3) (σ := [some (.ref a), some (.ref p), some (.int (m : Int)), some (.int (x : Int)), some (.ref b)]) hr6 (ev_var rfl) (ev_var rfl) hc.1) (ev_c (v := .int 1)) (rv_I0 (g := fun i j => .int (i + j)))) (ea_cons (ev_var (i := 2) rfl) ea_nil)) H6 (Ex.refl _) _ fun H7 e7 => ?_
            refine ⟨b, nv r, _, _, rfl, rfl, e7 b _ hr6, sz_lt (by rw [nv_len]; omega), by omega, by
              have := List.idxOf_lt_length_of_mem hc.1
              omega, ?_⟩
            have L7 := ((L4.ex e5).ex e6).ex e7
            refine ⟨_, rfl, Ex.mut (e4.trans (e5.trans (e6.trans e7))) hb0, ?_⟩
            have g := L7.put (r := insr x m r) hb
            rw [mid_set _ _ hr] at g
            have ei : nv (insr x m r) = (nv r).take ((r.idxOf x : Int) + 1).toNat ++ [.int (m : Int)] ++ (nv r).drop ((r.idxOf x : Int) + 1).toNat := by
              unfold insr
              rw [if_pos ⟨hc.1, hne⟩, nv_app, nv_app]
              have : ((r.idxOf x : Int) + 1).toNat = r.idxOf x + 1 := by omega
              rw [this]
              rw [nv_eq, nv_eq, nv_eq, nv_eq, List.map_take, List.map_drop]
              rfl
            rw [← ei]
            exact g
          · have same : insr x m r = r := by
              unfold insr
              refine if_neg fun q => ?_
              rw [decide_eq_true q.1] at hc
              have : V.int (x : Int) ≠ V.int (m : Int) := fun z => q.2 (by
                have := V.int.inj z
                omega)
              rw [decide_eq_false this] at hc
              exact Bool.noConfusion hc
            refine ⟨_, rfl, e4.trans e5, ?_⟩
            rw [← mid_same _ _ hr same]
            exact L4.ex e5
        · rintro σ' H4 ⟨y4, rfl, e4, L4⟩
          refine hD _ _ ⟨bs1, _, _, _, rfl, e4, ?_⟩
          rw [List.length_map, hbl, List.take_of_length_le (Nat.le_refl _), List.drop_of_length_le (Nat.le_refl _), List.append_nil] at L4
          show LL H p H4 bs1 (rstep (ringsTo f m) m (f.getD m 0))
          rw [gx]
          unfold rstep
          rw [← hr1]
          exact L4
      refine q_when (b := decide (V.int (m : Int) = V.int (x : Int))) (et_test (ev_op (ev_var rfl) (ev_var rfl) (rv_eq rfl))) (fun hc H3 e3 => ?_) (fun hc H3 e3 => ?_)
      · have hmx : m = x := by
          have := V.int.inj (of_decide_eq_true hc)
          omega
        refine s_appL (e3 p _ L2.self) (ev_var rfl) (by walk_at "el") (by rw [List.length_map, L2.len]; omega) fun q H4 hq e4 h4 => ?_
        refine inner (ringsTo f m ++ [[m]]) (bs ++ [q]) _ _ (by rw [if_pos hmx]) (Ex.mut ((e.trans e2).trans (e3.trans e4)) hp) ((L2.ex e3).push ((e.trans e2).trans e3) e4 hq h4) (fun r hr => ?_) (by simp; omega) (fun _ _ q => q)
        rcases List.mem_append.mp hr with z | z
        · have := short r z
          omega
        · rw [List.mem_singleton.mp z]; simp
      · have hmx : ¬ m = x := fun z => by
          rw [z] at hc
          simp at hc
        exact inner (ringsTo f m) bs _ _ (by rw [if_neg hmx]) ((e.trans e2).trans e3) (L2.ex e3) (fun r hr => by have := short r hr; omega) (by omega) (fun _ _ q => q)
    · rintro σ' H' ⟨bs, y2, y3, y4, rfl, e, L⟩
      rw [nv_len] at L
      exact s_ret (ev_var rfl) fun H2 e2 => k p bs H2 (L.ex e2) (e.trans e2)
end

/-! ### _law_seat -/
def rLenK : List V → Hp → VK → Prop := fun xs H Q => ∃ a kvs, xs = [V.ref a] ∧ H a = some (.dK kvs) ∧ Q (.int kvs.length) H
theorem call_lenK {X : Cx} : CallR X (.builtin "len") rLenK := call_lenD
section
variable {K : PySem.W.Frag} {σ : L2.St} {H : Hp} {ta tb te : TE} {D : Ends} {tz : TS}
theorem ev_lenK {a : Addr} {kvs : List (Key × V)} (h : Ev ta σ H (.ref a)) (ha : H a = some (.dK kvs)) : Ev (tCB rLenK (tCons ta tNil)) σ H (.int (kvs.length : Int)) := fun H1 e Q q => h H1 e _ fun H2 e2 => ⟨a, kvs, rfl, e2 a _ (e a _ ha), q H2 e2⟩
theorem ev_dgetI {a : Addr} {kvs : List (Key × V)} {x : Int} {v : V} (h : Ev ta σ H (.ref a)) (hx : Ev tb σ H (.int x)) (ha : H a = some (.dK kvs)) (hv : valV kvs (.inl x) = some v) : Ev (tDGet ta tb) σ H v := fun H1 e Q q =>
  h H1 e _ fun H2 e2 => hx H2 (e.trans e2) _ fun H3 e3 => ⟨a, v, rfl, by
    have := DGet.k (k := .inl x) (e3 a _ (e2 a _ (e a _ ha)))
    rw [hv] at this
    exact this, q H3 (e2.trans e3)⟩
theorem s_dputI {a : Addr} {kvs : List (Key × V)} {x : Int} {v : V} (h : Ev ta σ H (.ref a)) (hx : Ev tb σ H (.int x)) (hv : Ev te σ H v) (ha : H a = some (.dK kvs)) (hl : kvs.length < 100000) (k : ∀ H1, Ex H H1 → D.nx σ (upd H1 a (.dK (putK kvs (.inl x) v)))) : sDPut ta tb te D σ H :=
  hv H (Ex.refl _) _ fun H1 e1 => h H1 e1 _ fun H2 e2 => hx H2 (e1.trans e2) _ fun H3 e3 => ⟨a, _, rfl, DPut.k (k := .inl x) (e3 a _ (e2 a _ (e1 a _ ha))) (sz_lt hl), k H3 (e1.trans (e2.trans e3))⟩
theorem q_dnewK {i : Nat} (k : ∀ p H1, H p = none → Ex H H1 → H1 p = some (.dK []) → tz D (σ.set i (some (.ref p))) H1) : tSeq (tAsg tDNewK (gName i)) tz D σ H := fun p hp => k p _ hp (Ex.new hp) upd_same
end
/-- a list at b -/
def Lb (H : Hp) (v : V) (r : List Nat) : Prop := ∃ b, v = .ref b ∧ H b = some (.lst (nv r))
theorem Lb.ex {H H' : Hp} {v : V} {r : List Nat} (e : Ex H H') (h : Lb H v r) : Lb H' v r := by
  obtain ⟨b, rfl, h⟩ := h
  exact ⟨b, rfl, e b _ h⟩
def prev (r : List Nat) (j : Nat) : Nat := r.getD ((j + (r.length - 1)) % r.length) 0
theorem prev_at {r : List Nat} {k : Nat} (h : k < r.length) : atI (nv r) ((k : Int) - 1) = some (.int (prev r k : Nat)) ∧ prev r k ∈ r ∧ r[(k + (r.length - 1)) % r.length]? = some (prev r k) := by
  have hm := Nat.mod_lt (k + (r.length - 1)) (show r.length > 0 by omega)
  have e : r[(k + (r.length - 1)) % r.length]? = some (prev r k) := by
    unfold prev
    rw [List.getD_eq_getElem?_getD, List.getElem?_eq_getElem hm]
    rfl
  refine ⟨?_, List.mem_of_getElem? e, e⟩
  cases k with
  | zero =>
    rcases list_end r with z | ⟨i, x, z⟩
    · rw [z] at h; simp at h
    · have : (0 + (r.length - 1)) % r.length = i.length := by
        rw [Nat.zero_add, Nat.mod_eq_of_lt (by omega), z]
        simp
      rw [this, z] at e
      simp at e
      rw [z, ← e, nv_app]
      exact atI_last _ _
  | succ k =>
    have : (k + 1 + (r.length - 1)) % r.length = k := by
      rw [show k + 1 + (r.length - 1) = k + r.length by omega, Nat.add_mod_right, Nat.mod_eq_of_lt (by omega)]
    rw [this] at e
    have e2 : (((k + 1 : Nat) : Int) - 1) = (k : Int) := by omega
    rw [e2]
    exact atI_nat (nv_get e)
theorem prev_inj {r : List Nat} (nd : r.Nodup) {j k : Nat} (hj : j < r.length) (hk : k < r.length) (h : prev r j = prev r k) : j = k := by
  have h1 := (prev_at hj).2.2
  have h2 := (prev_at hk).2.2
  rw [← h] at h2
  have := nd_ix nd h1 h2
  by_cases a : j = 0
  · by_cases b : k = 0
    · omega
    · rw [show k + (r.length - 1) = (k - 1) + r.length by omega, Nat.add_mod_right, Nat.mod_eq_of_lt (show k - 1 < r.length by omega), a, Nat.zero_add, Nat.mod_eq_of_lt (show r.length - 1 < r.length by omega)] at this
      omega
  · rw [show j + (r.length - 1) = (j - 1) + r.length by omega, Nat.add_mod_right, Nat.mod_eq_of_lt (show j - 1 < r.length by omega)] at this
    by_cases b : k = 0
    · rw [b, Nat.zero_add, Nat.mod_eq_of_lt (show r.length - 1 < r.length by omega)] at this
      omega
    · rw [show k + (r.length - 1) = (k - 1) + r.length by omega, Nat.add_mod_right, Nat.mod_eq_of_lt (show k - 1 < r.length by omega)] at this
      omega
theorem prev_all {r : List Nat} {x : Nat} (h : x ∈ r) : ∃ j, j < r.length ∧ prev r j = x := by
  obtain ⟨i, hi⟩ := List.mem_iff_getElem?.mp h
  have hl := (List.getElem?_eq_some_iff.mp hi).1
  have hm := Nat.mod_lt (i + 1) (show r.length > 0 by omega)
  refine ⟨(i + 1) % r.length, hm, ?_⟩
  have e := (prev_at hm).2.2
  have : ((i + 1) % r.length + (r.length - 1)) % r.length = i := by
    rw [Nat.mod_add_mod, show i + 1 + (r.length - 1) = i + r.length by omega, Nat.add_mod_right, Nat.mod_eq_of_lt hl]
  rw [this, hi] at e
  exact (Option.some.inj e).symm
def dones (r : List Nat) (k : Nat) : List Nat := (List.range k).map (prev r)
theorem dones_next (r : List Nat) (k : Nat) : dones r (k + 1) = dones r k ++ [prev r k] := by
  unfold dones
  rw [List.range_succ, List.map_append]
  rfl
theorem dones_mem {r : List Nat} {k x : Nat} : x ∈ dones r k ↔ ∃ j, j < k ∧ prev r j = x := by
  unfold dones
  rw [List.mem_map]
  constructor
  · rintro ⟨j, hj, e⟩
    exact ⟨j, List.mem_range.mp hj, e⟩
  · rintro ⟨j, hj, e⟩
    exact ⟨j, List.mem_range.mpr hj, e⟩
theorem dones_all {r : List Nat} {x : Nat} : x ∈ dones r r.length ↔ x ∈ r := by
  rw [dones_mem]
  constructor
  · rintro ⟨j, hj, rfl⟩
    exact (prev_at hj).2.1
  · exact prev_all
theorem succ_prev {rs : List (List Nat)} (nd : rs.flatten.Nodup) {r : List Nat} (hr : r ∈ rs) {k : Nat} (hk : k < r.length) : r[k]? = some (succ rs (prev r k)) := by
  rw [succ_at nd hr (prev_at hk).2.2, Nat.mod_add_mod, show k + (r.length - 1) + 1 = k + r.length by omega, Nat.add_mod_right, Nat.mod_eq_of_lt hk, List.getD_eq_getElem?_getD, List.getElem?_eq_getElem hk]
  rfl
/-- the dict: of the guests in l their left neighbours -/
def Near (rs : List (List Nat)) (kvs : List (Key × V)) (l : List Nat) : Prop := kvs.length = l.length ∧ ∀ x : Nat, valV kvs (.inl (x : Int)) = if x ∈ l then some (.int (succ rs x : Nat)) else none
theorem Near.put {rs : List (List Nat)} {kvs : List (Key × V)} {l : List Nat} (N : Near rs kvs l) {x : Nat} (h : x ∉ l) : Near rs (putK kvs (.inl (x : Int)) (.int (succ rs x : Nat))) (l ++ [x]) := by
  have hv := N.2 x
  rw [if_neg h] at hv
  refine ⟨by rw [putK_new _ hv, List.length_append, List.length_append, N.1]; rfl, fun y => ?_⟩
  rw [valV_put]
  by_cases e : y = x
  · subst e
    rw [if_pos rfl, if_pos (by simp)]
  · rw [if_neg (fun z => e (by
      have := Sum.inl.inj z
      omega)), N.2 y]
    simp [e]
def sp_law_seat : Sp := fun vs H Q _ => ∃ (a : Addr) (ws : List V) (rs : List (List Nat)) (n : Nat), vs = [.ref a] ∧ H a = some (.lst ws) ∧ Paired (Lb H) ws rs ∧ rs.flatten.Perm (List.range n) ∧ n ≤ 20 ∧ RetL (nv (seat rs n)) H Q
theorem sl_seat {H : Hp} {a : Addr} {ws : List V} {rs : List (List Nat)} {n : Nat} (ha : H a = some (.lst ws)) (ht : Paired (Lb H) ws rs) (hp : rs.flatten.Perm (List.range n)) (hn : n ≤ 20) : SpL sp_law_seat ([.ref a] ++ []) H (nv (seat rs n)) := fun H1 e Q q E =>
  ⟨a, ws, rs, n, rfl, e a _ ha, paired_imp (fun _ _ x => Lb.ex e x) ht, hp, hn, q⟩
section
variable {P : Program} {w : World} {K : PySem.W.Frag} {mg : Str → Option Value} {base : Heap}
theorem ok_law_seat (T : Tx K mg) : FnOk P w K mg base CX0 1 T.f_law_seat T.d_law_seat ["rings"] sp_law_seat := by
  refine T.F_law_seat.ok sc_law_seat (fun vs H Q E h => ?_) (fun cdv A outer s H vs Q E hr h => ?_)
  · obtain ⟨a, ws, rs, n, rfl, _⟩ := h
    rfl
  · obtain ⟨a, ws, rs, n, rfl, ha, ht, hp, hn, k⟩ := h
    refine ⟨_, (pss_cons (ps_set (i := 1) sc_law_seat.nd rfl (Or.inr rfl) pe_dnewK)
      (pss_cons (ps_for PassesOwn.never rfl (pi_list (pv 0)) (pg_name (i := 2) sc_law_seat.nd rfl (Or.inl rfl)) (pss_one (ps_for PassesOwn.never rfl (pi_range1 (by rfl) T.m_range (pa_cons (pe_callB call_lenR (by rfl) T.m_len (by decide +kernel) (pa_cons (pv 2) pa_nil)) pa_nil)) (pg_name (i := 3) sc_law_seat.nd rfl (Or.inl rfl)) (pss_one (ps_dput (hu_of hr) (pv 1) (pe_ix ix_list (pv 2) (pe_op op_sub (pv 3) pe_int) (fun _ _ => rfl)) (pe_ix ix_list (pv 2) (pv 3) (fun _ _ => rfl)) rfl)))))
      (pss_one (ps_ret (pe_lc (own := [("one", 4)]) (g := (gName 4)) (tt := tYes) rfl sc_law_seat.nd (pi_range1 (by rfl) T.m_range (pa_cons (pe_callB (id := "len") (r := rLenK) call_lenK (by rfl) T.m_len (by decide +kernel) (pa_cons (pv 1) pa_nil)) pa_nil)) (blkOk_by (own := [("one", 4)]) (N := n_law_seat) (sc := defScope s_law_seat) (by decide +kernel)) (fun _ _ _ _ _ => (pg_name (i := 4) sc_law_seat.nd rfl (Or.inl rfl))) (fun _ _ _ _ _ => pts_nil) (fun _ _ _ _ _ => (pe_dget (hu_of hr) (pv 1) (pv 4) (fun _ _ => rfl)))))))), ?_⟩
    have nd : rs.flatten.Nodup := hp.nodup_iff.mpr List.nodup_range
    have hfl : rs.flatten.length = n := by rw [hp.length_eq, List.length_range]
    have hlen : ws.length = rs.length := Paired.length ht
    refine q_dnewK fun p H1 hp1 e1 h1 => ?_
    refine q_forLn (xs := ws) (K := K) (ev_var rfl) (sq_of (e1 a _ ha)) (fun i σ' H' => ∃ (kvs : List (Key × V)) (y2 y3 : Option V), σ' = [some (.ref a), some (.ref p), y2, y3, none] ∧ Ex H H' ∧ H' p = some (.dK kvs) ∧ Near rs kvs (rs.take i).flatten)
      (fun H2 e2 => ⟨[], none, none, rfl, e1.trans e2, e2 p _ h1, rfl, fun x => by simp [valV_nil]⟩) (fun i σ' H' _ ⟨_, _, _, _, e, _⟩ => sq_of (e a _ ha)) ?_ ?_
    · rintro i v σ' H' hv ⟨kvs, y2, y3, rfl, e, hk, N⟩
      obtain ⟨r, hr, b, rfl, hb⟩ := paired_get ht hv
      have hrm := List.mem_of_getElem? hr
      have ndr : r.Nodup := List.Pairwise.sublist (List.sublist_flatten_of_mem hrm) nd
      have hfn := flat_next hr
      have hsub : (rs.take (i + 1)).flatten.Nodup := by
        refine List.Pairwise.sublist ?_ nd
        conv => rhs; rw [← List.take_append_drop (i + 1) rs, List.flatten_append]
        exact List.sublist_append_left _ _
      rw [hfn, List.nodup_append] at hsub
      have hle : (rs.take i).flatten.length + r.length ≤ n := by
        rw [← List.length_append, ← hfn, ← hfl]
        conv => rhs; rw [← List.take_append_drop (i + 1) rs, List.flatten_append, List.length_append]
        omega
      refine s_forR1 (n := (r.length : Int)) (ea_cons (by
        have := ev_len (K := K) (ta := tVar 2) (σ := [some (V.ref a), some (.ref p), some (.ref b), y3, none]) (ev_var (i := 2) rfl) (sq_of (e b _ hb))
        rw [nv_len] at this
        exact this) ea_nil) (by omega) (fun j σ' H' => ∃ (kvs : List (Key × V)) (y3 : Option V), σ' = [some (.ref a), some (.ref p), some (.ref b), y3, none] ∧ Ex H H' ∧ H' p = some (.dK kvs) ∧ Near rs kvs ((rs.take i).flatten ++ dones r j))
        (fun H2 e2 => ⟨kvs, y3, rfl, e.trans e2, e2 p _ hk, by simpa [dones] using N⟩) ?_ ?_
      · rintro j σ' H2 hj ⟨kvs, y3, rfl, e2, hk2, N2⟩
        have hjl : j < r.length := by omega
        obtain ⟨p1, p2, p3⟩ := prev_at hjl
        have hb2 := e2 b _ hb
        have new : prev r j ∉ (rs.take i).flatten ++ dones r j := fun hm => by
          rcases List.mem_append.mp hm with z | z
          · exact hsub.2.2 _ z _ p2 rfl
          · obtain ⟨m, hm1, hm2⟩ := dones_mem.mp z
            have := prev_inj ndr (by omega) hjl hm2
            omega
        have kl := N2.1
        have kl2 : ((rs.take i).flatten ++ dones r j).length ≤ 20 := by
          rw [List.length_append]
          unfold dones
          rw [List.length_map, List.length_range]
          omega
        refine s_dputI (ev_var rfl) (ev_op (ev_var rfl) (ev_op (ev_var rfl) ev_c rv_I0) (rv_ixL (K := K) (sq_of hb2) p1)) (ev_op (ev_var rfl) (ev_var rfl) (rv_ixL (K := K) (sq_of hb2) (atI_nat (nv_get (succ_prev nd hrm hjl))))) hk2 (by omega) fun H3 e3 => ?_
        refine ⟨_, _, rfl, Ex.mut (e2.trans e3) hp1, upd_same, ?_⟩
        rw [dones_next, ← List.append_assoc]
        exact N2.put new
      · rintro σ' H2 ⟨kvs, y3, rfl, e2, hk2, N2⟩
        rw [Int.toNat_natCast] at N2
        refine ⟨kvs, _, _, rfl, e2, hk2, ?_, fun x => ?_⟩
        · rw [N2.1, hfn, List.length_append, List.length_append]
          unfold dones
          rw [List.length_map, List.length_range]
        · rw [N2.2 x, hfn]
          congr 1
          rw [List.mem_append, List.mem_append, dones_all]
    · rintro σ' H' ⟨kvs, y2, y3, rfl, e, hk, N⟩
      rw [hlen, List.take_of_length_le (Nat.le_refl _)] at N
      have kl : kvs.length = n := by rw [N.1, hfl]
      refine s_retL (xs := nv (seat rs n)) ?_ fun q H2 hq e2 h2 => k q H2 (fresh_back e hq) (e.trans e2) h2
      have el : nv (seat rs n) = given ((n : Int)).toNat (fun _ => true) (fun i => V.int (succ rs i : Nat)) := by
        rw [given_at, Int.toNat_natCast, nv_eq]
        unfold seat
        rw [List.map_map]
        rfl
      rw [el]
      refine el_lcR1 (n := (n : Int)) _ _ (ea_cons (by
        have := ev_lenK (ta := tVar 1) (σ := [some (V.ref a), some (.ref p), y2, y3, none]) (ev_var (i := 1) rfl) hk
        rw [kl] at this
        exact this) ea_nil) (by omega) (fun _ => rfl) (fun _ _ _ _ => et_yes) fun i H2 e2 hi _ => ?_
      have hx := N.2 i
      rw [if_pos (hp.mem_iff.mpr (List.mem_range.mpr (by omega)))] at hx
      exact ev_dgetI (ev_var rfl) (ev_var rfl) (e2 p _ hk) hx
end

/-! ### _law_cut -/
def EvLB (te : TE) (σ : L2.St) (H : Hp) (rs : List (List Nat)) : Prop := ∀ H1, Ex H H1 → ∀ Q : VK, (∀ p vs H2, H1 p = none → Ex H1 H2 → H2 p = some (.lst vs) → Paired (Lb H2) vs rs → Q (.ref p) H2) → te σ H1 Q
theorem s_retLB {te : TE} {σ : L2.St} {H : Hp} {D : Ends} {rs : List (List Nat)} (h : EvLB te σ H rs) (k : ∀ p vs H1, H p = none → Ex H H1 → H1 p = some (.lst vs) → Paired (Lb H1) vs rs → D.rt (.ref p) H1) : tRet te D σ H := h H (Ex.refl H) _ k
def Lc (Dl : Addr) (H : Hp) (v : V) (r : List Nat) : Prop := ∃ b, v = .ref b ∧ b ≠ Dl ∧ H b = some (.lst (nv r))
theorem Lc.ex {Dl : Addr} {H H' : Hp} {v : V} {r : List Nat} (e : Ex H H') (h : Lc Dl H v r) : Lc Dl H' v r := by
  obtain ⟨b, rfl, n, h⟩ := h
  exact ⟨b, rfl, n, e b _ h⟩
theorem Lc.upd {Dl : Addr} {H : Hp} {o : HO} {v : V} {r : List Nat} (h : Lc Dl H v r) : Lc Dl (upd H Dl o) v r := by
  obtain ⟨b, rfl, n, h⟩ := h
  exact ⟨b, rfl, n, by rw [upd_ne n]; exact h⟩
theorem Lc.lb {Dl : Addr} {H : Hp} {v : V} {r : List Nat} (h : Lc Dl H v r) : Lb H v r := by
  obtain ⟨b, rfl, n, h⟩ := h
  exact ⟨b, rfl, h⟩

/-! ### _law_right: rules -/
theorem LL.lb {H0 H : Hp} {p : Addr} {bs : List Addr} {rs : List (List Nat)} (L : LL H0 p H bs rs) : Paired (Lb H) (bs.map V.ref) rs := by
  have : ∀ (bs : List Addr) (rs : List (List Nat)), bs.length = rs.length → (∀ (i : Nat) (b : Addr) (r : List Nat), bs[i]? = some b → rs[i]? = some r → H b = some (.lst (nv r))) → Paired (Lb H) (bs.map V.ref) rs := fun bs => by
    induction bs with
    | nil =>
      intro rs hl _
      cases rs with
      | nil => exact .nil
      | cons r l => simp at hl
    | cons b bs ih =>
      intro rs hl ha
      cases rs with
      | nil => simp at hl
      | cons r l => exact .cons ⟨b, rfl, ha 0 b r rfl rfl⟩ (ih l (by simpa using hl) fun i c s h1 h2 => ha (i + 1) c s (by simpa using h1) (by simpa using h2))
  exact this bs rs L.len L.at_
theorem LL.weak {H0 H1 H : Hp} {p : Addr} {bs : List Addr} {rs : List (List Nat)} (L : LL H1 p H bs rs) (e : Ex H0 H1) : LL H0 p H bs rs := ⟨L.self, L.nd, L.np, fresh_back e L.fp, fun b hb => fresh_back e (L.fr b hb), L.len, L.at_⟩
def di (r : List Nat) : PyData := .list ((iz r).map PyData.int)
def dt (r : List Nat) : PyData := .tuple ((iz r).map PyData.int)
theorem canLay_ints : ∀ ms : List Int, PyData.canLayAll0 (ms.map PyData.int) = true
  | [] => rfl
  | m :: r => by simp [PyData.canLayAll0, PyData.canLay0, canLay_ints r]
theorem depth_ints : ∀ ms : List Int, PyData.depthAll (ms.map PyData.int) = 0
  | [] => rfl
  | m :: r => by simp [PyData.depthAll, PyData.depth, depth_ints r]
theorem canLay_dts : ∀ rs : List (List Nat), PyData.canLayAll0 (rs.map dt) = true
  | [] => rfl
  | m :: r => by simp [PyData.canLayAll0, PyData.canLay0, dt, canLay_ints, canLay_dts r]
theorem depth_dts : ∀ rs : List (List Nat), PyData.depthAll (rs.map dt) ≤ 1
  | [] => by simp [PyData.depthAll]
  | m :: r => by
    have := depth_dts r
    simp [PyData.depthAll, PyData.depth, dt, depth_ints]
    omega
theorem shaped_two (r s : List Nat) : SeqAt.shaped (.list [di r, di s]) = true := by
  simp [SeqAt.shaped, PyData.canLay0, PyData.canLayAll0, di, canLay_ints, PyData.depth, PyData.depthAll, depth_ints]
theorem shaped_kept (r : List Nat) (rs : List (List Nat)) : SeqAt.shaped (.list [di r, .list (rs.map dt)]) = true := by
  have := depth_dts rs
  simp [SeqAt.shaped, PyData.canLay0, PyData.canLayAll0, di, canLay_ints, canLay_dts, PyData.depth, PyData.depthAll, depth_ints]
  omega
theorem shaped_di (r : List Nat) : SeqAt.shaped (di r) = true := shaped_ints _
section
variable {K : PySem.W.Frag} {σ : L2.St} {H H' : Hp} {ta tb te : TE} {D : Ends} {tz : TS}
theorem dpa_nv (r : List Nat) : DpAll K H (nv r) ((iz r).map PyData.int) := dpa_ints _
theorem dpa_TL : ∀ {ws : List V} {rs : List (List Nat)}, TL H ws (rs.map nv) → DpAll K H ws (rs.map dt)
  | [], [], _ => .nil
  | _ :: _, r :: _, .cons ⟨b, e, h⟩ t => by
    subst e
    exact .cons (.tup (st_of h) (dpa_nv r)) (dpa_TL t)
theorem dp_L {a : Addr} {r : List Nat} (h : H a = some (.lst (nv r))) : Dp K H (.ref a) (di r) := .lst (sq_of h) (dpa_nv r)
theorem ed_L {r : List Nat} (h : EvL te σ H (nv r)) : EvD K te σ H (di r) := ed_ofL h (dpa_nv r)
theorem ed_two {r s : List Nat} (h : EvD K ta σ H (di r)) (h2 : EvD K tb σ H (di s)) : EvD K (tLst (tCons ta (tCons tb tNil))) σ H (.list [di r, di s]) := ed_lst (eda_cons h (eda_cons h2 eda_nil)) (Nat.le_of_ble_eq_true rfl)
theorem el_callK {sp : Sp} {gV : List V → List V → List V} {E : XK} {t tk : TA} {vs zs xs : List V} (h : EvA t σ H vs) (hk : EvA tk σ H zs) (hs : SpL sp (gV vs zs) H xs) : EvL (tCallK sp gV E t tk) σ H xs := fun H1 e Q q =>
  h H1 e _ fun H2 e2 => hk H2 (e.trans e2) _ fun H3 e3 => hs H3 ((e.trans e2).trans e3) Q (fun l H4 hl e4 h4 => q l H4 (fresh_back (e2.trans e3) hl) ((e2.trans e3).trans e4) h4) E
theorem el_catV {a b : Addr} {xs ys : List V} (h : Ev ta σ H (.ref a)) (h2 : Ev tb σ H (.ref b)) (ha : H a = some (.lst xs)) (hb : H b = some (.lst ys)) (hl : xs.length + ys.length ≤ 100000) : EvL (tOp rCat ta tb) σ H (xs ++ ys) := fun H1 e Q q =>
  h H1 e _ fun H2 e2 => h2 H2 (e.trans e2) _ fun H3 e3 => ⟨a, b, xs, ys, rfl, rfl, e3 a _ (e2 a _ (e a _ ha)), e3 b _ (e2 b _ (e b _ hb)), sz_of hl, fun l hl => q l _ (fresh_back (e2.trans e3) hl) ((e2.trans e3).trans (Ex.new hl)) upd_same⟩
theorem q_parLLT {i j : Nat} {xs : List V} {rs : List (List V)} (h : EvL ta σ H xs) (h2 : EvLT tb σ H rs) (k : ∀ p q ws H1, H p = none → H q = none → Ex H H1 → H1 p = some (.lst xs) → H1 q = some (.lst ws) → TL H1 ws rs → tz D ((σ.set i (some (.ref p))).set j (some (.ref q))) H1) :
    tSeq (tPar i j (tCons ta (tCons tb tNil))) tz D σ H := h H (Ex.refl H) _ fun p H1 hp e1 h1 => h2 H1 e1 _ fun q ws H2 hq e2 h3 ht => ⟨_, _, rfl, k p q ws H2 hp (fresh_back e1 hq) (e1.trans e2) (e2 p _ h1) h3 ht⟩
theorem q_parDL {i j : Nat} {d : PyData} {ys : List V} (h : EvD K ta σ H d) (h2 : EvL tb σ H ys) (k : ∀ v q H1, H q = none → Ex H H1 → Dp K H1 v d → H1 q = some (.lst ys) → tz D ((σ.set i (some v)).set j (some (.ref q))) H1) :
    tSeq (tPar i j (tCons ta (tCons tb tNil))) tz D σ H := h H (Ex.refl H) _ fun v H1 e1 h1 => h2 H1 e1 _ fun q H2 hq e2 h3 => ⟨_, _, rfl, k v q H2 (fresh_back e1 hq) (e1.trans e2) (Dp.ex e2 d v h1) h3⟩
theorem q_rings {i n m : Nat} {p : Addr} {E E' : XK} {t : TA} (h : EvA t σ H [.ref p, .int (m : Int)]) (hp : Po p n H) (hn : n + 3 * m + 1 < 1000000000) (hm : m ≤ 20)
    (k : ∀ l bs rs H1, RI m rs → LL (Hm p H) l H1 bs rs → l ≠ p → (∀ b ∈ bs, b ≠ p) → Po p (n + 3 * m + 1) H1 → Ex (Hm p H) H1 → tz D (σ.set i (some (.ref l))) H1) : tSeq (tAsg (tCall sp_law_rings [] E (tCons (tCall sp_law_entries [] E' t) tNil)) (gName i)) tz D σ H :=
  h H (Ex.refl H) _ fun H1 e1 => ⟨p, n, m, rfl, hp.ex e1, hn, hm, fun l f H2 hl h2 hlen hx p2 e2 => ⟨l, f, rfl, h2, by omega, hx, fun q bs H3 L e3 => by
    have R := ringsTo_ok hx f.length (Nat.le_refl _)
    have e12 := hm_trans (hm_of e1) e2
    refine k q bs _ H3 (hlen ▸ R) (L.weak e12) (p2.ne L.fp) (fun b hb => p2.ne (L.fr b hb)) (p2.ex e3) (hm_trans e12 (hm_of e3))⟩⟩
/-- a call whose argument is a new list of new lists -/
theorem el_call1LB {sp : Sp} {dvs ys : List V} {rs : List (List Nat)} {E : XK} (h : EvLB te σ H rs) (hs : ∀ p ws H1, Ex H H1 → H1 p = some (.lst ws) → Paired (Lb H1) ws rs → SpL sp ([.ref p] ++ dvs) H1 ys) : EvL (tCall sp dvs E (tCons te tNil)) σ H ys := fun H1 e Q q =>
  h H1 e _ fun p ws H2 _ e2 h2 hw => hs p ws H2 (e.trans e2) h2 hw H2 (Ex.refl _) Q (fun l H3 hl e3 h3 => q l H3 (fresh_back e2 hl) (e2.trans e3) h3) E
/-- [[..] for r in rs], rs an old list of lists -/
theorem elb_map {a : Addr} {ws : List V} {rs : List (List Nat)} {j : Nat} {vs : List Nat} (F : List Nat → List Nat) (h : Ev ta σ H (.ref a)) (ha : H a = some (.lst ws)) (hr : Paired (Lb H) ws rs) (hz : ws.length ≤ 40000) (hw : ∀ x, wipe ((wipe σ vs).set j (some x)) vs = wipe σ vs)
    (he : ∀ (b : Addr) (r : List Nat) H1, Ex H H1 → r ∈ rs → H1 b = some (.lst (nv r)) → EvL te ((wipe σ vs).set j (some (.ref b))) H1 (nv (F r))) : EvLB (tLc (iList K ta) (gName j) tYes te vs) σ H (rs.map F) := fun H0 e Q q => h H0 e _ fun H1 e1 => ⟨a, rfl, ⟨ws, sq_of (e1 a _ (e a _ ha))⟩, fun Dl hD =>
  lc_list (xs := ws) (fun i H' => Ex H1 H' ∧ ∃ us, H' Dl = some (.lst us) ∧ Paired (Lc Dl H') us ((rs.map F).take i)) ⟨Ex.new hD, [], upd_same, .nil⟩ (fun i H' _ p => sq_of (p.1 a _ (e1 a _ (e a _ ha)))) (fun i x H' hi p => by
    obtain ⟨p1, us, p2, p3⟩ := p
    obtain ⟨r, hr1, b, rfl, hb⟩ := paired_get hr hi
    have hl := Paired.length hr
    have hil := (List.getElem?_eq_some_iff.mp hi).1
    have ul : us.length = i := by
      have := Paired.length p3
      rw [List.length_take, List.length_map] at this
      omega
    show wipe ((wipe σ vs).set j (some (.ref b))) vs = wipe σ vs ∧ te ((wipe σ vs).set j (some (.ref b))) H' fun y H4 => ∃ acc, H4 Dl = some (.lst acc) ∧ acc.length < sizeLine ∧ _
    refine ⟨hw _, he b r H1 (e.trans e1) (List.mem_of_getElem? hr1) (e1 b _ (e b _ hb)) H' p1 _ fun l H4 hl4 e4 h4 => ?_⟩
    have lD : l ≠ Dl := fun z => by
      subst z
      rw [hl4] at p2
      cases p2
    refine ⟨us, e4 Dl _ p2, sz_lt (by omega), Ex.mut (p1.trans e4) hD, _, upd_same, ?_⟩
    have gz : (rs.map F)[i]? = some (F r) := by rw [List.getElem?_map, hr1]; rfl
    rw [List.take_add_one, gz]
    exact Paired.snoc (paired_imp (fun _ _ z => (z.ex e4).upd) p3) ⟨l, rfl, lD, by rw [upd_ne lD]; exact h4⟩) (fun H' p => by
      obtain ⟨p1, us, p2, p3⟩ := p
      rw [List.take_of_length_le (by rw [List.length_map]; have := Paired.length hr; omega)] at p3
      exact q Dl us H' (fresh_back e1 hD) (e1.trans p1) p2 (paired_imp (fun _ _ z => z.lb) p3))⟩
end


local macro_rules | `(tactic| walk_at "call") => `(tactic| (with_reducible exact sv_whole))

/-! ### the functions -/
section
variable {P : Program} {w : World} {K : PySem.W.Frag} {mg : Str → Option Value} {base : Heap}
theorem ok_seating_with (T : Tx K mg) : FnOk P w K mg base CX0 1 T.f_seating_with T.d_seating_with ["tables"] sp_seating_with := by
  refine T.F_seating_with.ok sc_seating_with (fun vs H Q E h => ?_) (fun cdv A outer s H vs Q E hr h => ?_)
  · obtain ⟨a, ws, rs, h, rfl, _⟩ := h
    rfl
  · obtain ⟨a, ws, rs, h, rfl, ha, ht, hp, hR, hn, k⟩ := h
    refine ⟨_, (pss_cons (ps_set (i := 2) sc_seating_with.nd rfl (Or.inl rfl) (pe_op op_rep (pe_lst (pa_cons pe_int pa_nil)) (pe_callB (cr_sum rfl) (by rfl) T.m_sum (by decide +kernel) (pa_cons (pe_lc (own := [("table", 1)]) (g := (gName 1)) (tt := tYes) rfl sc_seating_with.nd (pi_list (pv 0)) (blkOk_by (own := [("table", 1)]) (N := n_seating_with) (sc := defScope s_seating_with) (by decide +kernel)) (fun _ _ _ _ _ => (pg_name (i := 1) sc_seating_with.nd rfl (Or.inl rfl))) (fun _ _ _ _ _ => pts_nil) (fun _ _ _ _ _ => (pe_callB (id := "len") (r := rLenS K) call_lenR (by rfl) T.m_len (by decide +kernel) (pa_cons (pv 1) pa_nil)))) pa_nil))))
      (pss_cons (ps_for PassesOwn.never rfl (pi_list (pv 0)) (pg_name (i := 1) sc_seating_with.nd rfl (Or.inl rfl)) (pss_one (ps_for PassesOwn.never rfl (pi_enumS (by rfl) T.m_enumerate (pa_cons (pv 1) pa_nil)) (pg_tup rfl (pgs_cons (pg_name (i := 3) sc_seating_with.nd rfl (Or.inl rfl)) (pgs_cons (pg_name (i := 4) sc_seating_with.nd rfl (Or.inl rfl)) pgs_nil))) (pss_one (ps_asg (pe_ix ix_seq (pv 1) (pe_op op_mod (pe_op op_add (pv 3) pe_int) (pe_callB call_lenR (by rfl) T.m_len (by decide +kernel) (pa_cons (pv 1) pa_nil))) (fun _ _ => rfl)) (pg_sub (pv 2) (pv 4) set_list))))))
      (pss_one (ps_ret (pv 2))))), ?_⟩
    have hlen : ws.length = rs.length := Paired.length ht
    have hfl : rs.flatten.length = h.length := by rw [hp.length_eq, List.length_range]
    have short : ∀ r ∈ rs, r.length ≤ h.length := fun r hr => by
      have := List.Sublist.length_le (List.sublist_flatten_of_mem hr)
      omega
    have many : rs.length ≤ h.length := by
      have : ∀ l : List (List Nat), (∀ r ∈ l, 0 < r.length) → l.length ≤ l.flatten.length := fun l => by
        induction l with
        | nil => intro _; simp
        | cons r l ih =>
          intro hl
          have := ih fun x hx => hl x (by simp [hx])
          have := hl r (by simp)
          rw [List.flatten_cons, List.length_append, List.length_cons]
          omega
      have := this rs fun r hr => (hR r hr).ne
      omega
    have e0 : ((List.range ws.length).map fun i => V.int ((rs.getD i []).length : Int)) = (rs.map fun r => (r.length : Int)).map V.int := by
      rw [hlen, List.map_map]
      conv => rhs; rw [range_get rs []]
      rw [List.map_map]
      rfl
    refine q_asgL (xs := nv (List.replicate h.length 0)) ?_ fun p H1 hp1 e1 h1 => ?_
    · rw [← nv_rep, ← Int.toNat_natCast h.length]
      refine el_rep (by walk_at "el") ?_ (by omega) (by omega) (by simp)
      rw [← hfl, ← sum_len rs]
      refine ev_sumN (ns := rs.map fun r => (r.length : Int)) ?_
      rw [← e0]
      refine el_mapI _ (ev_var rfl) (sq_of ha) (by omega) (fun _ => rfl) fun i x H1 e1 hx => ?_
      obtain ⟨r, hr, b, rfl, hb⟩ := paired_get ht hx
      have g : rs.getD i [] = r := by rw [List.getD_eq_getElem?_getD, hr] <;> rfl
      rw [g, ← nv_len r]
      rcases hb with hb | hb
      · exact ev_len (K := K) (ev_var rfl) (sq_of (e1 b _ hb))
      · exact ev_lenT (K := K) (ev_var rfl) (st_of (e1 b _ hb))
    have pa : p ≠ a := fun z => by
      subst z
      rw [ha] at hp1
      cases hp1
    refine q_forLn (xs := ws) (K := K) (ev_var rfl) (sq_of (e1 a _ ha)) (fun i σ' H' => ∃ (c : List Nat) (y1 y3 y4 : Option V), σ' = [some (.ref a), y1, some (.ref p), y3, y4] ∧ Ex H H' ∧ H' p = some (.lst (nv c)) ∧ c.length = h.length ∧ ∀ x ∈ (rs.take i).flatten, c[x]? = h[x]?)
      (fun H2 e2 => ⟨List.replicate h.length 0, none, none, none, rfl, e1.trans e2, e2 p _ h1, by simp, by simp⟩) (fun i σ' H' _ ⟨_, _, _, _, _, e, _⟩ => sq_of (e a _ ha)) ?_ ?_
    · rintro i v σ' H' hv ⟨c, y1, y3, y4, rfl, e, hc, hcl, hdone⟩
      obtain ⟨r, hr, b, rfl, hb⟩ := paired_get ht hv
      have hrm : r ∈ rs := List.mem_of_getElem? hr
      have R := hR r hrm
      have bp : ∀ o, H b = some o → b ≠ p := fun o ho z => by
        subst z
        rw [hp1] at ho
        cases ho
      have hrl := short r hrm
      have body : ∀ (D : Ends), (∀ σ' H', (∃ (c : List Nat) (y1 y3 y4 : Option V), σ' = [some (.ref a), y1, some (.ref p), y3, y4] ∧ Ex H H' ∧ H' p = some (.lst (nv c)) ∧ c.length = h.length ∧ ∀ x ∈ (rs.take (i + 1)).flatten, c[x]? = h[x]?) → D.nx σ' H') → ∀ (G : Hp → Prop) (hG : (∀ H, G H → SqL K H b (nv r)) ∨ (∀ H, G H → SqT K H b (nv r))), (∀ H2, Ex H H2 → G H2) → tFor (iEnumS K (tCons (tVar 1) tNil)) (gTup K 2 (gCons (gName 3) (gCons (gName 4) gNil)))
          (tAsg (tOp (rIx K) (tVar 1) (tOp (rI (fun _ j => 0 < j) fun i j => .int (i % j)) (tOp (rI0 fun i j => .int (i + j)) (tVar 3) (tC (.int 1))) (tCB (rLenS K) (tCons (tVar 1) tNil)))) (gSub (tVar 2) (tVar 4) rSetL))
          D
          [some (.ref a), some (.ref b), some (.ref p), y3, y4] H' := fun D hD G hG hg => by
        refine s_forEnS (xs := nv r) (ea_cons (ev_var rfl) ea_nil) G hG (fun H2 e2 => hg H2 (e.trans e2)) (fun m σ' H2 => ∃ (c : List Nat) (y3 y4 : Option V), σ' = [some (.ref a), some (.ref b), some (.ref p), y3, y4] ∧ Ex H H2 ∧ H2 p = some (.lst (nv c)) ∧ c.length = h.length ∧ ∀ x ∈ (rs.take i).flatten ++ r.take m, c[x]? = h[x]?)
          (fun H2 e2 => ⟨c, y3, y4, rfl, e.trans e2, e2 p _ hc, hcl, by simpa using hdone⟩) (fun m σ' H2 _ ⟨_, _, _, _, e2, _⟩ => hg H2 e2) ?_ ?_
        · rintro m x σ' H2 H3 hx ⟨c, y3, y4, rfl, e2, hc2, hcl2, hd2⟩ e3
          have hml : m < r.length := by
            have := (List.getElem?_eq_some_iff.mp hx).1
            rw [nv_len] at this
            exact this
          obtain ⟨x0, y0, hx0, hy0, hxy⟩ := R.st m hml
          have ex0 : x = .int (x0 : Int) := by
            have := nv_get hx0
            rw [hx] at this
            exact Option.some.inj this
          subst ex0
          have hgH := hg H3 (e2.trans e3)
          have el : ((m : Int) + 1) % ((nv r).length : Int) = (((m + 1) % r.length : Nat) : Int) := by
            rw [nv_len]
            have := Int.natCast_emod (m + 1) r.length
            simpa using this.symm
          have evl : Ev (tCB (rLenS K) (tCons (tVar 1) tNil)) [some (.ref a), some (.ref b), some (.ref p), some (.int (m : Int)), some (.int (x0 : Int))] H3 (.int ((nv r).length : Int)) := by
            rcases hG with hG | hG
            · exact ev_len (K := K) (ev_var rfl) (hG _ hgH)
            · exact ev_lenT (K := K) (ev_var rfl) (hG _ hgH)
          have hix : RV (rIx K) (.ref b) (.int (((m + 1) % r.length : Nat) : Int)) H3 (.int (y0 : Int)) := fun H4 e4 Q q => by
            rcases hG with hG | hG
            · exact .inl ⟨b, nv r, _, _, rfl, rfl, ex_l e4 (hG _ hgH), atI_nat (nv_get hy0), q H4 (Ex.refl H4)⟩
            · exact .inr (.inl ⟨b, nv r, _, _, rfl, rfl, ex_t e4 (hG _ hgH), atI_nat (nv_get hy0), q H4 (Ex.refl H4)⟩)
          have hx0l : x0 < h.length := (List.getElem?_eq_some_iff.mp hxy).1
          refine s_setL (j := x0) (e3 p _ hc2) (ev_op (ev_var rfl) (ev_op (ev_op (ev_var rfl) ev_c rv_I0) evl (rv_I (by rw [nv_len]; omega))) (by rw [el]; exact hix)) (ev_var rfl) (ev_var rfl) (by rw [nv_len]; omega) fun H4 e4 => ?_
          refine ⟨c.set x0 y0, _, _, rfl, Ex.mut (e2.trans (e3.trans e4)) hp1, ?_, by simp [hcl2], ?_⟩
          · rw [upd_same, nv_set]
          · intro z hz
            by_cases ez : z = x0
            · rw [ez, List.getElem?_set_self (by omega)]
              exact hxy.symm
            · rw [List.getElem?_set_ne (Ne.symm ez)]
              refine hd2 z ?_
              rw [take_next hx0] at hz
              simp at hz ⊢
              rcases hz with hz | hz | hz
              · exact .inl hz
              · exact .inr hz
              · exact absurd hz ez
        · rintro σ' H2 ⟨c, y3, y4, rfl, e2, hc2, hcl2, hd2⟩
          refine hD _ _ ⟨c, _, _, _, rfl, e2, hc2, hcl2, ?_⟩
          rw [flat_next hr]
          rw [nv_len, List.take_of_length_le (Nat.le_refl _)] at hd2
          exact hd2
      rcases hb with hb | hb
      · exact body _ (fun _ _ q => q) (fun H2 => H2 b = some (.lst (nv r))) (.inl fun _ q => sq_of q) (fun H2 e2 => e2 b _ hb)
      · exact body _ (fun _ _ q => q) (fun H2 => H2 b = some (.tup (nv r))) (.inr fun _ q => st_of q) (fun H2 e2 => e2 b _ hb)
    · rintro σ' H' ⟨c, y1, y3, y4, rfl, e, hc, hcl, hdone⟩
      rw [hlen, List.take_of_length_le (Nat.le_refl _)] at hdone
      have eq : c = h := by
        refine List.ext_getElem? fun x => ?_
        by_cases hx : x < h.length
        · exact hdone x (hp.mem_iff.mpr (List.mem_range.mpr hx))
        · rw [List.getElem?_eq_none (by omega), List.getElem?_eq_none (by omega)]
      subst eq
      exact s_ret (ev_var rfl) fun H2 e2 => k p H2 hp1 (e.trans e2) (e2 p _ hc)
end
theorem it_gen {J : It} {n : Nat} {G : Hp → Prop} {Y : Nat → Hp → V → Hp → Prop} (w : Walk J n G Y) {S : Hp} {Qd : Hp → Prop} {B : (Hp → Prop) → V → Hp → Prop} (Pv : Nat → Hp → Prop) (h0 : Pv 0 S) (hG : ∀ i H, i ≤ n → Pv i H → G H)
    (hs : ∀ i x H H', i < n → Pv i H → Y i H x H' → B (Pv (i + 1)) x H') (hd : ∀ H, Pv n H → Qd H) :
    ∃ W : Nat → Nat → Hp → Prop, (∃ m, W 0 m S) ∧ ∀ i m H, W i m H →
      (J.stop i H ∧ Qd H) ∨ (J.go i H ∧ ∃ Nx : Hp → Prop, (∀ H', Nx H' → ∃ m', m' < m ∧ W (i + 1) m' H') ∧ ∀ x H', J.yld i H x H' → B Nx x H') := by
  refine ⟨fun i m H => m = n - i ∧ i ≤ n ∧ Pv i H, ⟨n, by simp, Nat.zero_le _, h0⟩, ?_⟩
  rintro i m H ⟨rfl, hi, p⟩
  have q := hG i H hi p
  by_cases hlt : i < n
  · exact .inr ⟨w.goes i H hlt q, Pv (i + 1), fun H' p' => ⟨n - (i + 1), by omega, rfl, hlt, p'⟩, fun x H' y => hs i x H H' hlt p (w.yields i H x H' hlt q y)⟩
  · have e : i = n := by omega
    subst e
    exact .inl ⟨w.stops H q, hd H p⟩
theorem elt_rev {K : PySem.W.Frag} {σ : L2.St} {H : Hp} {ta : TE} {rs : List (List V)} (h : EvLT ta σ H rs) : EvLT (tRevL K ta) σ H rs.reverse := fun H1 e Q q => h H1 e _ fun p vs H2 _ e2 h2 ht =>
  ⟨p, vs, rfl, sq_of h2, fun l hl => q l vs.reverse _ (fresh_back e2 hl) (e2.trans (Ex.new hl)) upd_same (ht.rev.ex (Ex.new hl))⟩
theorem flatV_next {rs : List (List V)} {i : Nat} {r : List V} (h : rs[i]? = some r) : (rs.take (i + 1)).flatten = (rs.take i).flatten ++ r := by
  rw [take_next h, List.flatten_append]
  simp
/-- [x for t in ts for x in t], ts a list of tuples -/
theorem el_lc2 {K : PySem.W.Frag} {σ : L2.St} {H : Hp} {tl : TE} {j l : Nat} {vs vs1 : List Nat} {rs : List (List V)} (h : EvLT tl σ H rs) (hz : rs.flatten.length ≤ 40000)
    (hw : ∀ x, wipe ((wipe σ vs).set j (some x)) vs = wipe σ vs) (hj : ∀ x, ((wipe σ vs).set j (some x))[j]? = some (some x))
    (hw1 : ∀ x y, wipe ((wipe ((wipe σ vs).set j (some x)) vs1).set l (some y)) vs1 = wipe ((wipe σ vs).set j (some x)) vs1) (hl : ∀ x y, ((wipe ((wipe σ vs).set j (some x)) vs1).set l (some y))[l]? = some (some y)) :
    EvL (tLc2 (iList K tl) (gName j) tYes (iTup K (tVar j)) (gName l) tYes (tVar l) vs vs1) σ H rs.flatten := fun H0 e Q q => h H0 e _ fun a ws H1 ha e1 h1 ht => ⟨a, rfl, ⟨ws, sq_of h1⟩, fun Dl hD => by
  have hlen := ht.len
  refine it_gen walk_list (fun i H' => Ex H1 H' ∧ H' Dl = some (.lst (rs.take i).flatten)) ⟨Ex.new hD, upd_same⟩ (fun i H' _ p => sq_of (p.1 a _ h1)) ?_ fun H' p => ?_
  · rintro i x Hh H' hi ⟨p1, p2⟩ ⟨rfl, hx⟩
    obtain ⟨b, r, rfl, hb, hr⟩ := ht.get hx
    have hlr : (rs.take (i + 1)).flatten.length ≤ 40000 := by
      have : (rs.take (i + 1)).flatten.length ≤ rs.flatten.length := by
        conv => rhs; rw [← List.take_append_drop (i + 1) rs, List.flatten_append, List.length_append]
        omega
      omega
    rw [flatV_next hr, List.length_append] at hlr
    refine ⟨hw _, ?_⟩
    simp only [tYes, ↓reduceIte]
    refine ⟨.ref b, hj _, b, rfl, ⟨r, st_of (p1 b _ hb)⟩, ?_⟩
    refine it_gen (walk_tup (K := K) (a := b) (xs := r)) (fun m H2 => Ex H1 H2 ∧ H2 Dl = some (.lst ((rs.take i).flatten ++ r.take m))) ⟨p1, by rw [p2]; simp⟩ (fun m H2 _ p => st_of (p.1 b _ hb)) ?_ fun H2 p => ?_
    · rintro m y H2 H3 hm ⟨p3, p4⟩ ⟨rfl, hy⟩
      refine ⟨hw1 _ _, ?_⟩
      simp only [tYes, ↓reduceIte]
      refine ⟨y, hl _ _, _, p4, sz_lt (by rw [List.length_append, List.length_take]; omega), Ex.mut p3 hD, ?_⟩
      rw [upd_same, take_next hy, List.append_assoc]
    · obtain ⟨p3, p4⟩ := p
      refine ⟨p3, ?_⟩
      rw [p4, flatV_next hr, List.take_of_length_le (Nat.le_refl _)]
  · obtain ⟨p1, p2⟩ := p
    rw [hlen, List.take_of_length_le (Nat.le_refl _)] at p2
    exact q Dl H' (fresh_back e1 hD) (e1.trans p1) p2⟩
theorem flat_nv : ∀ rs : List (List Nat), (rs.map nv).flatten = nv rs.flatten
  | [] => rfl
  | r :: l => by rw [List.map_cons, List.flatten_cons, flat_nv l, List.flatten_cons, nv_app]
/-! the tables of a record -/
def cstep (ts : List (List Nat)) (g : Nat) : List (List Nat) :=
  match ts.getLast? with
  | none => [[g]]
  | some r => if g < r.headD 0 then ts ++ [[g]] else ts.dropLast ++ [r ++ [g]]
def cuts (f : List Nat) : List (List Nat) := f.foldl cstep []
theorem cuts_next {f : List Nat} {i x : Nat} (h : f[i]? = some x) : cuts (f.take (i + 1)) = cstep (cuts (f.take i)) x := by
  unfold cuts
  rw [take_next h, List.foldl_append]
  rfl
theorem cstep_end (l : List (List Nat)) (r : List Nat) (g : Nat) : cstep (l ++ [r]) g = if g < r.headD 0 then l ++ [r] ++ [[g]] else l ++ [r ++ [g]] := by
  unfold cstep
  rw [List.getLast?_concat, List.dropLast_concat]
theorem cstep_nil (g : Nat) : cstep [] g = [[g]] := rfl
theorem cstep_flat (ts : List (List Nat)) (g : Nat) : (cstep ts g).flatten = ts.flatten ++ [g] := by
  rcases list_end ts with h | ⟨i, x, h⟩
  · rw [h]
    rfl
  · rw [h, cstep_end]
    by_cases q : g < x.headD 0
    · rw [if_pos q]; simp
    · rw [if_neg q]; simp
theorem cstep_ne {ts : List (List Nat)} (g : Nat) (h : ∀ r ∈ ts, 0 < r.length) : ∀ r ∈ cstep ts g, 0 < r.length := by
  rcases list_end ts with e | ⟨i, x, e⟩
  · rw [e]
    intro r hr
    rw [List.mem_singleton.mp hr]
    simp
  · rw [e] at h
    rw [e, cstep_end]
    by_cases q : g < x.headD 0
    · rw [if_pos q]
      intro r hr
      rcases List.mem_append.mp hr with k | k
      · exact h r k
      · rw [List.mem_singleton.mp k]; simp
    · rw [if_neg q]
      intro r hr
      rcases List.mem_append.mp hr with k | k
      · exact h r (List.mem_append.mpr (.inl k))
      · rw [List.mem_singleton.mp k]; simp
theorem cuts_inv (f : List Nat) : ∀ (ts : List (List Nat)), (∀ r ∈ ts, 0 < r.length) → (f.foldl cstep ts).flatten = ts.flatten ++ f ∧ ∀ r ∈ f.foldl cstep ts, 0 < r.length := by
  induction f with
  | nil => intro ts h; simpa using h
  | cons x l ih =>
    intro ts h
    obtain ⟨h1, h2⟩ := ih (cstep ts x) (cstep_ne x h)
    refine ⟨?_, h2⟩
    rw [List.foldl_cons, h1, cstep_flat]
    simp
theorem cuts_flat (f : List Nat) : (cuts f).flatten = f := by
  have := (cuts_inv f [] (by simp)).1
  rw [List.flatten_nil, List.nil_append] at this
  exact this
theorem cuts_ne (f : List Nat) : ∀ r ∈ cuts f, 0 < r.length := (cuts_inv f [] (by simp)).2
theorem cuts_len (f : List Nat) : (cuts f).length ≤ f.length := by
  have : ∀ l : List (List Nat), (∀ r ∈ l, 0 < r.length) → l.length ≤ l.flatten.length := fun l => by
    induction l with
    | nil => intro _; simp
    | cons r l ih =>
      intro hl
      have := ih fun x hx => hl x (by simp [hx])
      have := hl r (by simp)
      rw [List.flatten_cons, List.length_append, List.length_cons]
      omega
  have h := this (cuts f) (cuts_ne f)
  rw [cuts_flat] at h
  exact h
theorem sl_with {H : Hp} {a : Addr} {ws : List V} {rs : List (List Nat)} {h : List Nat} (ha : H a = some (.lst ws)) (ht : Paired (Tb H) ws rs) (hp : rs.flatten.Perm (List.range h.length)) (hR : ∀ r ∈ rs, Rg h r) (hn : h.length ≤ 20) : SpL sp_seating_with ([.ref a] ++ []) H (nv h) := fun H1 e Q q E =>
  ⟨a, ws, rs, h, rfl, e a _ ha, paired_imp (fun _ _ x => Tb.ex e x) ht, hp, hR, hn, q⟩
theorem Rg.lt {h r : List Nat} (R : Rg h r) {x : Nat} (hx : x ∈ r) : x < h.length := by
  obtain ⟨i, hi⟩ := List.mem_iff_getElem?.mp hx
  obtain ⟨a, b, h1, _, h3⟩ := R.st i (List.getElem?_eq_some_iff.mp hi).1
  rw [hi] at h1
  cases h1
  exact (List.getElem?_eq_some_iff.mp h3).1
/-- a guest of the seating h, with its ring from it on -/
def Gst (h r : List Nat) (g : Nat) : Prop := Ord h ∧ Rg h r ∧ r[0]? = some g ∧ g < h.length ∧ r.length ≤ 20
/-- the ring of a guest, from it on -/
theorem Ord.from_ {h : List Nat} {rs : List (List Nat)} (o : Ord h) (R : Rings h rs) {g : Nat} (hg : g < h.length) : ∃ r, Gst h r g := by
  obtain ⟨w, r, hr, k, hk, rfl⟩ := R.turn hg
  have hl := (List.getElem?_eq_some_iff.mp hk).1
  have Rr := R.rg r hr
  have len : r.length ≤ 20 := by
    have := Rr.nd.length_le_of_subset (l₂ := List.range h.length) fun x hx => List.mem_range.mpr (Rr.lt hx)
    rw [List.length_range] at this
    have := o.2.2
    omega
  refine ⟨rot r k, o, Rr.rot hl, ?_, hg, by rw [rot_len (by omega)]; exact len⟩
  unfold rot
  rw [List.getElem?_append_left (by rw [List.length_drop]; omega), List.getElem?_drop, Nat.add_zero]
  exact hk
theorem Ord.nd {h : List Nat} (o : Ord h) : h.Nodup := o.1.nodup_iff.mpr List.nodup_range
theorem Ord.mem {h : List Nat} (o : Ord h) {x : Nat} : x ∈ h ↔ x < h.length := by
  rw [o.1.mem_iff, List.mem_range]
theorem Ord.at_ {h : List Nat} (o : Ord h) {i x : Nat} (e : h[i]? = some x) : x < h.length := o.mem.mp (List.mem_of_getElem? e)
theorem idx_at {h : List Nat} (nd : h.Nodup) {x g : Nat} (hx : h[x]? = some g) : h.idxOf g = x := by
  obtain ⟨hl, e⟩ := List.getElem?_eq_some_iff.mp hx
  have m : g ∈ h := List.mem_of_getElem? hx
  have := List.idxOf_lt_length_of_mem m
  have : h[h.idxOf g]? = some g := by
    rw [List.getElem?_eq_getElem this, List.getElem_idxOf this]
  exact nd_ix nd this hx
theorem Ord.gst {h : List Nat} (o : Ord h) {x : Int} (h0 : 0 ≤ x) (h1 : x < (h.length : Int)) : ∃ (r : List Nat) (g : Nat), x = (g : Int) ∧ Gst h r g := by
  obtain ⟨rs, R, _⟩ := ord_rings o
  obtain ⟨r, G⟩ := o.from_ R (g := x.toNat) (by omega)
  exact ⟨r, x.toNat, by omega, G⟩
section
variable {P : Program} {w : World} {K : PySem.W.Frag} {mg : Str → Option Value} {base : Heap}
theorem ev_lenH {σ : L2.St} {H : Hp} {i : Nat} {a : Addr} {h : List Nat} (e : σ[i]? = some (some (.ref a))) (ha : H a = some (.lst (nv h))) : Ev (tCB (rLenS K) (tCons (tVar i) tNil)) σ H (.int (h.length : Int)) := by
  have := ev_len (K := K) (ev_var e) (sq_of ha)
  rw [nv_len] at this
  exact this
def sp_g2 (T : Tx K mg) : Sp := fun vs H Q E => ∃ (v : V) (o : Option (List PyData)) (x : Int), vs = [v, .int x] ∧ Th K H v o ∧ Out ((dG o x).map (erA T)) H Q E
def sp_g3 (T : Tx K mg) : Sp := fun vs H Q E => ∃ (v : V) (o : Option (List PyData)) (x y : Int), vs = [v, .int x, .int y] ∧ Th K H v o ∧ Out ((dG o x).map (erA T)) H Q E
def sp_m3 (T : Tx K mg) : Sp := fun vs H Q E => ∃ (v : V) (o : Option (List PyData)) (x y : Int), vs = [v, .int x, .int y] ∧ Th K H v o ∧ Out ((dM o x y).map (erA T)) H Q E
def sp_s1 (T : Tx K mg) : Sp := fun vs H Q E => ∃ (v : V) (o : Option (List PyData)), vs = [v] ∧ Th K H v o ∧ Out ((dS o).map (erA T)) H Q E
def sp_n1 (T : Tx K mg) : Sp := fun vs H Q E => ∃ (v : V) (o : Option (List PyData)), vs = [v] ∧ Th K H v o ∧ Out ((dN o).map (erA T)) H Q E
def sp_r2 (T : Tx K mg) : Sp := fun vs H Q E => ∃ (v u : V) (o z : Option (List PyData)), vs = [v, u] ∧ Th K H v o ∧ Th K H u z ∧ Out ((dR o z).map (erA T)) H Q E
theorem ok_table_from (T : Tx K mg) : FnOk P w K mg base (L2N.CX P w) 6 T.f_table_from T.d_table_from ["seating", "guest"] (sp_g2 T) := by
  refine Kit.okN T.F_table_from sc_table_from (fun vs H Q E h => ?_) (fun cdv A outer s H vs Q E hr h => ?_)
  · obtain ⟨v, o, x, rfl, _⟩ := h
    rfl
  · obtain ⟨v, o, x, rfl, hv, k⟩ := h
    refine ⟨_, (pss_cons (ps_expr (pe_call (ok_check_seating T) (hr.mono (by decide)) (by rfl) T.g_check_seating T.F_check_seating.kp T.b_check_seating .nil Kit.passN (pa_cons (pv 0) pa_nil)))
      (pss_cons (ps_expr (pe_call (ok_check_guest T) (hr.mono (by decide)) (by rfl) T.g_check_guest T.F_check_guest.kp T.b_check_guest .nil Kit.passN (pa_cons (pv 1) (pa_cons (pe_callB call_lenR (by rfl) T.m_len (by decide +kernel) (pa_cons (pv 0) pa_nil)) pa_nil))))
      (PSs.nox (pss_one (ps_ret (pe_call (ok_walk_left T) (hr.mono (by decide)) (by rfl) T.g_walk_left T.F_walk_left.kp T.b_walk_left .nil pass0 (pa_cons (pv 0) (pa_cons (pv 1) pa_nil)))))))), ?_⟩
    refine q_chk (ea_cons (ev_var rfl) ea_nil) (so_chkS hv) (fun hn H1 e1 => ?_) fun C hC H1 e1 => ?_
    · have hj := due_no hn
      obtain ⟨a, h, rfl, h1, o', lo⟩ := judge_get (hv.ex e1) hj
      have oo := o'.2
      refine q_chk (ea_cons (ev_var rfl) (ea_cons (ev_lenH rfl h1) ea_nil)) (so_chkI (by omega)) (fun hm H2 e2 => ?_) fun C hC H2 e2 => ?_
      · have hx := due_no hm
        obtain ⟨r, g, rfl, G⟩ := o'.gst hx.1 hx.2
        have h2 := e2 a _ h1
        have kn := k.no (by unfold dG; rw [if_pos hj, lo, if_pos hx]; rfl)
        exact s_retU (eu_call (ea_cons (ev_var rfl) (ea_cons (ev_var rfl) ea_nil)) (su_walk h2 G.2.1 G.2.2.1 G.2.2.2.2)) fun p H3 hp e3 h3 => kn _ _ (e1.trans (e2.trans e3))
      · obtain ⟨hx, rfl⟩ := due_yes hC
        exact k.yes _ (by unfold dG; rw [if_pos hj, lo, if_neg hx]; rfl) _ (e1.trans e2)
    · obtain ⟨hj, rfl⟩ := due_yes hC
      exact k.yes _ (by unfold dG; rw [if_neg (by simpa using hj)]; rfl) _ e1
theorem ok_right_of (T : Tx K mg) : FnOk P w K mg base (L2N.CX P w) 6 T.f_right_of T.d_right_of ["seating", "guest"] (sp_g2 T) := by
  refine Kit.okN T.F_right_of sc_right_of (fun vs H Q E h => ?_) (fun cdv A outer s H vs Q E hr h => ?_)
  · obtain ⟨v, o, x, rfl, _⟩ := h
    rfl
  · obtain ⟨v, o, x, rfl, hv, k⟩ := h
    refine ⟨_, (pss_cons (ps_expr (pe_call (ok_check_seating T) (hr.mono (by decide)) (by rfl) T.g_check_seating T.F_check_seating.kp T.b_check_seating .nil Kit.passN (pa_cons (pv 0) pa_nil)))
      (pss_cons (ps_expr (pe_call (ok_check_guest T) (hr.mono (by decide)) (by rfl) T.g_check_guest T.F_check_guest.kp T.b_check_guest .nil Kit.passN (pa_cons (pv 1) (pa_cons (pe_callB call_lenR (by rfl) T.m_len (by decide +kernel) (pa_cons (pv 0) pa_nil)) pa_nil))))
      (PSs.nox (pss_one (ps_ret (pe_bm PySem.F.plainAttrs_list PySem.F.slot_list_index PySem.F.type_list_index mt_index (pv 0) (pa_cons (pv 1) pa_nil))))))), ?_⟩
    refine q_chk (ea_cons (ev_var rfl) ea_nil) (so_chkS hv) (fun hn H1 e1 => ?_) fun C hC H1 e1 => ?_
    · have hj := due_no hn
      obtain ⟨a, h, rfl, h1, o', lo⟩ := judge_get (hv.ex e1) hj
      have oo := o'.2
      refine q_chk (ea_cons (ev_var rfl) (ea_cons (ev_lenH rfl h1) ea_nil)) (so_chkI (by omega)) (fun hm H2 e2 => ?_) fun C hC H2 e2 => ?_
      · have hx := due_no hm
        obtain ⟨r, g, rfl, G⟩ := o'.gst hx.1 hx.2
        have h2 := e2 a _ h1
        have kn := k.no (by unfold dG; rw [if_pos hj, lo, if_pos hx]; rfl)
        have := ev_index (K := K) (ta := tVar 0) (te := tVar 1) (σ := start n_right_of [.ref a, .int (g : Int)]) h2 (ev_var (i := 0) rfl) (ev_var (i := 1) rfl) (o'.mem.mpr G.2.2.2.1)
        exact s_ret this fun H3 e3 => kn _ _ (e1.trans (e2.trans e3))
      · obtain ⟨hx, rfl⟩ := due_yes hC
        exact k.yes _ (by unfold dG; rw [if_pos hj, lo, if_neg hx]; rfl) _ (e1.trans e2)
    · obtain ⟨hj, rfl⟩ := due_yes hC
      exact k.yes _ (by unfold dG; rw [if_neg (by simpa using hj)]; rfl) _ e1
theorem ok_steps_left (T : Tx K mg) : FnOk P w K mg base (L2N.CX P w) 6 T.f_steps_left T.d_steps_left ["seating", "guest", "number"] (sp_g3 T) := by
  refine Kit.okN T.F_steps_left sc_steps_left (fun vs H Q E h => ?_) (fun cdv A outer s H vs Q E hr h => ?_)
  · obtain ⟨v, o, x, y, rfl, _⟩ := h
    rfl
  · obtain ⟨v, o, x, y, rfl, hv, k⟩ := h
    refine ⟨_, (pss_cons (ps_expr (pe_call (ok_check_seating T) (hr.mono (by decide)) (by rfl) T.g_check_seating T.F_check_seating.kp T.b_check_seating .nil Kit.passN (pa_cons (pv 0) pa_nil)))
      (pss_cons (ps_expr (pe_call (ok_check_guest T) (hr.mono (by decide)) (by rfl) T.g_check_guest T.F_check_guest.kp T.b_check_guest .nil Kit.passN (pa_cons (pv 1) (pa_cons (pe_callB call_lenR (by rfl) T.m_len (by decide +kernel) (pa_cons (pv 0) pa_nil)) pa_nil))))
      (pss_cons (ps_expr (pe_call (ok_check_any_number T) (hr.mono (by decide)) (by rfl) T.g_check_any_number T.F_check_any_number.kp T.b_check_any_number .nil Kit.passN (pa_cons (pv 2) pa_nil)))
      (PSs.nox (pss_cons (ps_set (i := 3) sc_steps_left.nd rfl (Or.inl rfl) (pe_call (ok_walk_left T) (hr.mono (by decide)) (by rfl) T.g_walk_left T.F_walk_left.kp T.b_walk_left .nil pass0 (pa_cons (pv 0) (pa_cons (pv 1) pa_nil))))
      (pss_one (ps_ret (pe_ix ix_tup (pv 3) (pe_op op_mod (pv 2) (pe_callB call_lenR (by rfl) T.m_len (by decide +kernel) (pa_cons (pv 3) pa_nil))) (fun _ _ => rfl))))))))), ?_⟩
    refine q_chk (ea_cons (ev_var rfl) ea_nil) (so_chkS hv) (fun hn H1 e1 => ?_) fun C hC H1 e1 => ?_
    · have hj := due_no hn
      obtain ⟨a, h, rfl, h1, o', lo⟩ := judge_get (hv.ex e1) hj
      have oo := o'.2
      refine q_chk (ea_cons (ev_var rfl) (ea_cons (ev_lenH rfl h1) ea_nil)) (so_chkI (by omega)) (fun hm H2 e2 => ?_) fun C hC H2 e2 => ?_
      · have hx := due_no hm
        obtain ⟨r, g, rfl, G⟩ := o'.gst hx.1 hx.2
        have h2 := e2 a _ h1
        have kn := k.no (by unfold dG; rw [if_pos hj, lo, if_pos hx]; rfl)
        refine q_chk (ea_cons (ev_var rfl) ea_nil) so_any (fun _ H3 e3 => ?_) fun C hC _ _ => by cases hC
        refine q_asgU (eu_call (ea_cons (ev_var rfl) (ea_cons (ev_var rfl) ea_nil)) (su_walk (e3 a _ h2) G.2.1 G.2.2.1 G.2.2.2.2)) fun p H4 hp e4 h4 => ?_
        have ne := G.2.1.ne
        have lo2 := Int.emod_nonneg y (show (r.length : Int) ≠ 0 by omega)
        have lo3 := Int.emod_lt_of_pos y (show (0 : Int) < (r.length : Int) by omega)
        have lt := ev_lenT (K := K) (ta := tVar 3) (σ := [some (V.ref a), some (V.int g), some (.int y), some (.ref p)]) (ev_var (i := 3) rfl) (st_of h4)
        rw [nv_len] at lt
        obtain ⟨z, hz⟩ : ∃ z, r[(y % (r.length : Int)).toNat]? = some z := ⟨_, List.getElem?_eq_getElem (by omega)⟩
        have ei : (y % (r.length : Int)) = (((y % (r.length : Int)).toNat : Nat) : Int) := by omega
        refine s_ret (v := .int (z : Int)) (ev_op (ev_var rfl) (ev_op (ev_var rfl) lt (rv_I ?_)) (rv_ixT (K := K) (st_of h4) ?_)) fun H5 e5 => kn _ _ (e1.trans (e2.trans (e3.trans (e4.trans e5))))
        · first | omega | (constructor <;> omega) | trace_state
        · have := atI_nat (nv_get hz)
          rw [← ei] at this
          exact this
      · obtain ⟨hx, rfl⟩ := due_yes hC
        exact k.yes _ (by unfold dG; rw [if_pos hj, lo, if_neg hx]; rfl) _ (e1.trans e2)
    · obtain ⟨hj, rfl⟩ := due_yes hC
      exact k.yes _ (by unfold dG; rw [if_neg (by simpa using hj)]; rfl) _ e1
theorem ok_are_together (T : Tx K mg) : FnOk P w K mg base (L2N.CX P w) 6 T.f_are_together T.d_are_together ["seating", "guest", "mate"] (sp_m3 T) := by
  refine Kit.okN T.F_are_together sc_are_together (fun vs H Q E h => ?_) (fun cdv A outer s H vs Q E hr h => ?_)
  · obtain ⟨v, o, x, y, rfl, _⟩ := h
    rfl
  · obtain ⟨v, o, x, y, rfl, hv, k⟩ := h
    refine ⟨_, (pss_cons (ps_expr (pe_call (ok_check_seating T) (hr.mono (by decide)) (by rfl) T.g_check_seating T.F_check_seating.kp T.b_check_seating .nil Kit.passN (pa_cons (pv 0) pa_nil)))
      (pss_cons (ps_expr (pe_call (ok_check_guest T) (hr.mono (by decide)) (by rfl) T.g_check_guest T.F_check_guest.kp T.b_check_guest .nil Kit.passN (pa_cons (pv 1) (pa_cons (pe_callB call_lenR (by rfl) T.m_len (by decide +kernel) (pa_cons (pv 0) pa_nil)) pa_nil))))
      (pss_cons (ps_expr (pe_call (ok_check_guest T) (hr.mono (by decide)) (by rfl) T.g_check_guest T.F_check_guest.kp T.b_check_guest .nil Kit.passN (pa_cons (pv 2) (pa_cons (pe_callB call_lenR (by rfl) T.m_len (by decide +kernel) (pa_cons (pv 0) pa_nil)) pa_nil))))
      (PSs.nox (pss_one (ps_ret (pe_cmpR op_in_seq (pv 2) (pe_call (ok_walk_left T) (hr.mono (by decide)) (by rfl) T.g_walk_left T.F_walk_left.kp T.b_walk_left .nil pass0 (pa_cons (pv 0) (pa_cons (pv 1) pa_nil))) (by rfl)))))))), ?_⟩
    refine q_chk (ea_cons (ev_var rfl) ea_nil) (so_chkS hv) (fun hn H1 e1 => ?_) fun C hC H1 e1 => ?_
    · have hj := due_no hn
      obtain ⟨a, h, rfl, h1, o', lo⟩ := judge_get (hv.ex e1) hj
      have oo := o'.2
      refine q_chk (ea_cons (ev_var rfl) (ea_cons (ev_lenH rfl h1) ea_nil)) (so_chkI (by omega)) (fun hm H2 e2 => ?_) fun C hC H2 e2 => ?_
      · have hx := due_no hm
        obtain ⟨r, g, rfl, G⟩ := o'.gst hx.1 hx.2
        have h2 := e2 a _ h1
        refine q_chk (ea_cons (ev_var rfl) (ea_cons (ev_lenH rfl h2) ea_nil)) (so_chkI (by omega)) (fun hm H3 e3 => ?_) fun C hC H3 e3 => ?_
        · have hy := due_no hm
          have kn := k.no (by unfold dM; rw [if_pos hj, lo, if_pos hx, if_pos hy]; rfl)
          exact s_ret (ev_inU (K := K) (ev_var rfl) (eu_call (ea_cons (ev_var rfl) (ea_cons (ev_var rfl) ea_nil)) (su_walk (e3 a _ h2) G.2.1 G.2.2.1 G.2.2.2.2)) rfl (nv_flat r)) fun H4 e4 => kn _ _ (e1.trans (e2.trans (e3.trans e4)))
        · obtain ⟨hy, rfl⟩ := due_yes hC
          exact k.yes _ (by unfold dM; rw [if_pos hj, lo, if_pos hx, if_neg hy]; rfl) _ (e1.trans (e2.trans e3))
      · obtain ⟨hx, rfl⟩ := due_yes hC
        exact k.yes _ (by unfold dM; rw [if_pos hj, lo, if_neg hx]; rfl) _ (e1.trans e2)
    · obtain ⟨hj, rfl⟩ := due_yes hC
      exact k.yes _ (by unfold dM; rw [if_neg (by simpa using hj)]; rfl) _ e1
theorem ok_mirrored (T : Tx K mg) : FnOk P w K mg base (L2N.CX P w) 6 T.f_mirrored T.d_mirrored ["seating"] (sp_s1 T) := by
  refine Kit.okN T.F_mirrored sc_mirrored (fun vs H Q E h => ?_) (fun cdv A outer s H vs Q E hr h => ?_)
  · obtain ⟨v, o, rfl, _⟩ := h
    rfl
  · obtain ⟨v, o, rfl, hv, k⟩ := h
    refine ⟨_, (pss_cons (ps_expr (pe_call (ok_check_seating T) (hr.mono (by decide)) (by rfl) T.g_check_seating T.F_check_seating.kp T.b_check_seating .nil Kit.passN (pa_cons (pv 0) pa_nil)))
      (PSs.nox (pss_one (ps_ret (pe_lc (own := [("guest", 1)]) (g := (gName 1)) (tt := tYes) rfl sc_mirrored.nd (pi_range1 (by rfl) T.m_range (pa_cons (pe_callB (id := "len") (r := rLenS K) call_lenR (by rfl) T.m_len (by decide +kernel) (pa_cons (pv 0) pa_nil)) pa_nil)) (blkOk_by (own := [("guest", 1)]) (N := n_mirrored) (sc := defScope s_mirrored) (by decide +kernel)) (fun _ _ _ _ _ => (pg_name (i := 1) sc_mirrored.nd rfl (Or.inl rfl))) (fun _ _ _ _ _ => pts_nil) (fun _ _ _ _ _ => (pe_indexK (K := K) rfl (pv 0) (pv 1)))))))), ?_⟩
    refine q_chk (ea_cons (ev_var rfl) ea_nil) (so_chkS hv) (fun hn H1 e1 => ?_) fun C hC H1 e1 => ?_
    · have hj := due_no hn
      obtain ⟨a, h, rfl, h1, o', lo⟩ := judge_get (hv.ex e1) hj
      have oo := o'.2
      have kn := k.no (by unfold dS; rw [if_pos hj]; rfl)
      have g := el_lcR1 (te := tBM K "list" (rIndex K) (tVar 0) (tCons (tVar 1) tNil)) (ta := tCons (tCB (rLenS K) (tCons (tVar 0) tNil)) tNil) (t := tYes) (j := 1) (vs := [1]) (σ := start n_mirrored [.ref a]) (H := H1) (n := (h.length : Int)) (fun _ => true) (fun i => V.int (h.idxOf i : Nat)) (ea_cons (ev_lenH rfl h1) ea_nil) (by omega) (fun _ => rfl) (fun _ _ _ _ => et_yes) fun i H2 e2 hi _ =>
        ev_index (K := K) (ta := tVar 0) (te := tVar 1) (e2 a _ h1) (ev_var (i := 0) rfl) (ev_var (i := 1) rfl) (o'.mem.mpr (by omega))
      exact s_retL g fun p H2 hp e2 h2 => kn _ _ (e1.trans e2)
    · obtain ⟨hj, rfl⟩ := due_yes hC
      exact k.yes _ (by unfold dS; rw [if_neg (by simpa using hj)]; rfl) _ e1
theorem lc2_call {K : PySem.W.Frag} {g g1 : TG} {t t1 : TT} {te : TE} {wi1 : TI} {ns ns1 : List Nat} {Q : VK} {σ : L2.St} {H : Hp} {ta : TA} {sp : Sp} {vs dvs : List V} {E : XK} (ha : EvA ta σ H vs) (k : ∀ H1, Ex H H1 → sp (vs ++ dvs) H1 (fun x H2 => tLc2 (iList K (tRevL K fun _ H' Q' => Q' x H')) g t wi1 g1 t1 te ns ns1 σ H2 Q) E) :
    tLc2 (iList K (tRevL K (tCall sp dvs E ta))) g t wi1 g1 t1 te ns ns1 σ H Q := ha H (Ex.refl H) _ fun H1 e1 => k H1 e1
theorem ok_record_list (T : Tx K mg) : FnOk P w K mg base (L2N.CX P w) 6 T.f_record_list T.d_record_list ["seating"] (sp_s1 T) := by
  refine Kit.okN T.F_record_list sc_record_list (fun vs H Q E h => ?_) (fun cdv A outer s H vs Q E hr h => ?_)
  · obtain ⟨v, o, rfl, _⟩ := h
    rfl
  · obtain ⟨v, o, rfl, hv, k⟩ := h
    refine ⟨_, (pss_one (ps_ret (pe_lc2 (wi1 := iTup K (tVar 1)) (own := [("table", 1), ("guest", 2)]) (vs1 := [2]) (g := (gName 1)) (g1 := (gName 2)) (tt := tYes) (tt1 := tYes) rfl sc_record_list.nd (pi_list (pe_revLK (K := K) rfl (pe_call (ok_tables_of T) (hr.mono (by decide)) (by rfl) T.g_tables_of T.F_tables_of.kp T.b_tables_of .nil Kit.passN (pa_cons (pv 0) pa_nil)))) (blkOk_by (own := [("table", 1), ("guest", 2)]) (N := n_record_list) (sc := defScope s_record_list) (by decide +kernel)) (by decide) (fun _ _ _ _ _ => (pg_name (i := 1) sc_record_list.nd rfl (Or.inl rfl))) (fun _ _ _ _ _ => pts_nil) (fun _ _ _ _ _ => (pi_tup (pv 1))) (fun _ _ _ _ _ => (pg_name (i := 2) sc_record_list.nd rfl (Or.inl rfl))) (fun _ _ _ _ _ => pts_nil) (fun _ _ _ _ _ => (pv 2))))), ?_⟩
    refine lc2_call (vs := [v]) (ea_cons (ev_var rfl) ea_nil) fun H1 e1 => ?_
    refine ⟨v, o, rfl, hv.ex e1, fun hj H2 e2 => k.yes _ (by unfold dS; rw [if_neg (by simpa using hj)]; rfl) _ (e1.trans e2), fun a h rs p ws H2 hj eqv ha o' R rl np e2 hp ht => ?_⟩
    subst eqv
    have kn := k.no (by unfold dS; rw [if_pos hj]; rfl)
    have o2 := o'.2
    have h2 : rs.flatten.length = h.length := by rw [R.all.length_eq, List.length_range]
    have h3 : rs.reverse.flatten.length = rs.flatten.length := (List.Perm.flatten (List.reverse_perm rs)).length_eq
    have et : EvLT (tRevL K fun _ H' Q' => Q' (.ref p) H') (start n_record_list [.ref a]) H2 (rs.map nv).reverse := fun H3 e3 Q q =>
      ⟨p, ws, rfl, sq_of (e3 p _ hp), fun l hl => q l ws.reverse _ hl (Ex.new hl) upd_same ((ht.ex e3).rev.ex (Ex.new hl))⟩
    have g := el_lc2 (K := K) (tl := tRevL K fun _ H' Q' => Q' (.ref p) H') (j := 1) (l := 2) (vs := [1, 2]) (vs1 := [2]) et (by rw [← List.map_reverse, flat_nv, nv_len]; omega) (fun _ => rfl) (fun _ => rfl) (fun _ _ => rfl) (fun _ _ => rfl)
    exact g H2 (Ex.refl _) _ fun q H3 nq e3 h3 => kn _ _ (e1.trans (e2.trans e3))
theorem ok_renamed (T : Tx K mg) : FnOk P w K mg base (L2N.CX P w) 6 T.f_renamed T.d_renamed ["seating", "names"] (sp_r2 T) := by
  refine Kit.okN T.F_renamed sc_renamed (fun vs H Q E h => ?_) (fun cdv A outer s H vs Q E hr h => ?_)
  · obtain ⟨v, u, o, z, rfl, _⟩ := h
    rfl
  · obtain ⟨v, u, o, z, rfl, hv, hu, k⟩ := h
    refine ⟨_, (pss_cons (ps_expr (pe_call (ok_check_seating T) (hr.mono (by decide)) (by rfl) T.g_check_seating T.F_check_seating.kp T.b_check_seating .nil Kit.passN (pa_cons (pv 0) pa_nil)))
      (pss_cons (ps_expr (pe_call (ok_check_names T) (hr.mono (by decide)) (by rfl) T.g_check_names T.F_check_names.kp T.b_check_names .nil Kit.passN (pa_cons (pv 1) pa_nil)))
      (pss_cons (ps_if (pt_cmpR op_ne (pe_callB call_lenR (by rfl) T.m_len (by decide +kernel) (pa_cons (pv 1) pa_nil)) (pe_callB call_lenR (by rfl) T.m_len (by decide +kernel) (pa_cons (pv 0) pa_nil)) (nomark _)) (pss_one (Kit.ps_raiseN rfl Kit.takesN T.e_InvalidNames T.gc_InvalidNames (by rfl) pe_str)) pss_nil)
      (PSs.nox (pss_cons (ps_set (i := 2) sc_renamed.nd rfl (Or.inl rfl) (pe_op op_rep (pe_lst (pa_cons pe_int pa_nil)) (pe_callB call_lenR (by rfl) T.m_len (by decide +kernel) (pa_cons (pv 0) pa_nil))))
      (pss_cons (ps_for PassesOwn.never rfl (pi_enum (by rfl) T.m_enumerate (pa_cons (pv 0) pa_nil)) (pg_tup rfl (pgs_cons (pg_name (i := 3) sc_renamed.nd rfl (Or.inl rfl)) (pgs_cons (pg_name (i := 4) sc_renamed.nd rfl (Or.inl rfl)) pgs_nil))) (pss_one (ps_asg (pe_ix ix_list (pv 1) (pv 4) (fun _ _ => rfl)) (pg_sub (pv 2) (pe_ix ix_list (pv 1) (pv 3) (fun _ _ => rfl)) set_list))))
      (pss_one (ps_ret (pv 2))))))))), ?_⟩
    refine q_chk (ea_cons (ev_var rfl) ea_nil) (so_chkS hv) (fun hn H1 e1 => ?_) fun C hC H1 e1 => ?_
    · have hj := due_no hn
      refine q_chk (ea_cons (ev_var rfl) ea_nil) (so_chkS (hu.ex e1)) (fun hn2 H2 e2 => ?_) fun C hC H2 e2 => ?_
      · have hj2 := due_no hn2
        obtain ⟨a, h, rfl, ha2, o', lo⟩ := judge_get (hv.ex (e1.trans e2)) hj
        obtain ⟨b, f, rfl, hb2, of, lf⟩ := judge_get (hu.ex (e1.trans e2)) hj2
        have hn := o'.2.2
        have hn1 := o'.2.1
        refine q_when (b := !decide (f.length = h.length)) (et_is (et_test (ev_op (ev_len (K := K) (ev_var rfl) (sq_of hb2)) (ev_len (K := K) (ev_var rfl) (sq_of ha2)) (rv_ne rfl))) (by rw [nv_len, nv_len, dec_int, Bool.eq_iff_iff]; simp; omega)) (fun hb H3 e3 => ?_) fun hb H3 e3 => ?_
        · have hb : ¬ f.length = h.length := by simpa using hb
          exact k.yes _ (by unfold dR; rw [if_pos hj, if_pos hj2, lo, lf, if_neg (by omega)]; rfl) _ (e1.trans (e2.trans e3))
        · have hl : f.length = h.length := by simpa using hb
          have kn := k.no (by unfold dR; rw [if_pos hj, if_pos hj2, lo, lf, if_pos (by omega)]; rfl)
          have ha3 := e3 a _ ha2
          have hb3 := e3 b _ hb2
          refine q_asgL (xs := nv (List.replicate h.length 0)) ?_ fun p H4 hp e4 h4 => ?_
          · rw [← nv_rep, ← Int.toNat_natCast h.length]
            refine el_rep (el_lst (ea_cons ev_c ea_nil) (Nat.le_of_ble_eq_true rfl)) ?_ (by omega) (by omega) (by simp)
            have := ev_len (K := K) (ta := tVar 0) (σ := start n_renamed [.ref a, .ref b]) (ev_var (i := 0) (v := .ref a) rfl) (sq_of ha3)
            rw [nv_len] at this
            exact this
          have e03 := e1.trans (e2.trans e3)
          refine q_forEn (xs := nv h) (K := K) (ea_cons (ev_var rfl) ea_nil) (sq_of (e4 a _ ha3)) (fun m σ' H' => ∃ (c : List Nat) (y3 y4 : Option V), σ' = [some (.ref a), some (.ref b), some (.ref p), y3, y4] ∧ Ex H3 H' ∧ H' p = some (.lst (nv c)) ∧ c.length = h.length)
            (fun H5 e5 => ⟨List.replicate h.length 0, none, none, rfl, e4.trans e5, e5 p _ h4, by simp⟩) (fun m σ' H' _ ⟨_, _, _, _, e, _⟩ => sq_of (e a _ ha3)) ?_ ?_
          · rintro m v σ' H5 H6 hv ⟨c, y3, y4, rfl, e5, hc, hcl⟩ e6
            have hml : m < h.length := by
              have := (List.getElem?_eq_some_iff.mp hv).1
              rw [nv_len] at this
              exact this
            obtain ⟨x, hx⟩ : ∃ x, h[m]? = some x := ⟨h[m], List.getElem?_eq_getElem hml⟩
            have ev : v = .int (x : Int) := by
              have := nv_get hx
              rw [hv] at this
              exact Option.some.inj this
            subst ev
            have xl := o'.at_ hx
            obtain ⟨y, hy⟩ : ∃ y, f[m]? = some y := ⟨_, List.getElem?_eq_getElem (by omega)⟩
            obtain ⟨z, hz⟩ : ∃ z, f[x]? = some z := ⟨_, List.getElem?_eq_getElem (by omega)⟩
            have hyl := of.at_ hy
            have e06 := e5.trans e6
            refine s_setL (j := y) (e6 p _ hc) (ev_op (ev_var rfl) (ev_var rfl) (rv_ixL (K := K) (sq_of (e06 b _ hb3)) (atI_nat (nv_get hz)))) (ev_var rfl) (ev_op (ev_var rfl) (ev_var rfl) (rv_ixL (K := K) (sq_of (e06 b _ hb3)) (atI_nat (nv_get hy)))) (by rw [nv_len]; omega) fun H7 e7 => ?_
            exact ⟨c.set y z, _, _, rfl, Ex.mut (e06.trans e7) hp, by rw [upd_same, nv_set], by simp [hcl]⟩
          · rintro σ' H' ⟨c, y3, y4, rfl, e, hc, hcl⟩
            exact s_ret (ev_var rfl) fun H5 e5 => kn _ _ (e03.trans (e.trans e5))
      · obtain ⟨hj2, rfl⟩ := due_yes hC
        exact k.yes _ (by unfold dR; rw [if_pos hj, if_neg (by simpa using hj2)]; rfl) _ (e1.trans e2)
    · obtain ⟨hj, rfl⟩ := due_yes hC
      exact k.yes _ (by unfold dR; rw [if_neg (by simpa using hj)]; rfl) _ e1
theorem ok_seating_of_records (T : Tx K mg) : FnOk P w K mg base (L2N.CX P w) 6 T.f_seating_of_records T.d_seating_of_records ["names"] (sp_n1 T) := by
  refine Kit.okN T.F_seating_of_records sc_seating_of_records (fun vs H Q E h => ?_) (fun cdv A outer s H vs Q E hr h => ?_)
  · obtain ⟨v, o, rfl, _⟩ := h
    rfl
  · obtain ⟨v, o, rfl, hv, k⟩ := h
    refine ⟨_, (pss_cons (ps_expr (pe_call (ok_check_names T) (hr.mono (by decide)) (by rfl) T.g_check_names T.F_check_names.kp T.b_check_names .nil Kit.passN (pa_cons (pv 0) pa_nil)))
      (PSs.nox (pss_cons (ps_set (i := 1) sc_seating_of_records.nd rfl (Or.inl rfl) (pe_lst pa_nil))
      (pss_cons (ps_for PassesOwn.never rfl (pi_list (pv 0)) (pg_name (i := 2) sc_seating_of_records.nd rfl (Or.inl rfl)) (pss_one (ps_if (PW.pt (pw_or (pt_not (pt_truth (pv 1) (by intro _; rfl))) (pw_or1 (pt_cmpR op_lt (pv 2) (pe_ix ix_list (pe_ix ix_list (pv 1) (pe_un un_neg pe_int) (fun _ _ => rfl)) pe_int (fun _ _ => rfl)) (nomark _))))) (pss_one (ps_expr (pe_bm PySem.F.plainAttrs_list PySem.F.slot_list_append PySem.F.type_list_append mt_append (pv 1) (pa_cons (pe_lst (pa_cons (pv 2) pa_nil)) pa_nil)))) (pss_one (ps_expr (pe_bm PySem.F.plainAttrs_list PySem.F.slot_list_append PySem.F.type_list_append mt_append (pe_ix ix_list (pv 1) (pe_un un_neg pe_int) (fun _ _ => rfl)) (pa_cons (pv 2) pa_nil)))))))
      (pss_one (ps_ret (pe_call (ok_seating_with T) (hr.mono (by decide)) (by rfl) T.g_seating_with T.F_seating_with.kp T.b_seating_with .nil pass0 (pa_cons (pv 1) pa_nil)))))))), ?_⟩
    refine q_chk (ea_cons (ev_var rfl) ea_nil) (so_chkS hv) (fun hn H1 e1 => ?_) fun C hC H1 e1 => ?_
    · have hj := due_no hn
      obtain ⟨a, f, rfl, h1, o', lo⟩ := judge_get (hv.ex e1) hj
      have oo := o'.2
      have ho := oo.2
      have kn := k.no (by unfold dN; rw [if_pos hj]; rfl)
      have hl := seat_len (cuts f) f.length
      have hR : ∀ r ∈ cuts f, Rg (seat (cuts f) f.length) r := fun r hr => seat_rg (by rw [cuts_flat]; exact o'.1) hr (cuts_ne f r hr)
      refine q_asgL (el_lst ea_nil (Nat.le_of_ble_eq_true rfl)) fun p H2 hp e2 h2 => ?_
      have hp0 := hp
      refine q_forLn (xs := nv f) (K := K) (ev_var rfl) (sq_of (e2 a _ h1)) (fun i σ' H' => ∃ (bs : List Addr) (y : Option V), σ' = [some (.ref a), some (.ref p), y] ∧ Ex H1 H' ∧ LL H1 p H' bs (cuts (f.take i)))
        (fun H3 e3 => ⟨[], none, rfl, e2.trans e3, LL.nil (e3 p _ h2) hp0⟩) (fun i σ' H' _ ⟨_, _, _, e, _⟩ => sq_of (e a _ h1)) ?_ ?_
      · rintro i v σ' H' hv ⟨bs, y, rfl, e, L⟩
        have hil : i < f.length := by
          have := (List.getElem?_eq_some_iff.mp hv).1
          rw [nv_len] at this
          exact this
        obtain ⟨x, hx⟩ : ∃ x, f[i]? = some x := ⟨f[i], List.getElem?_eq_getElem hil⟩
        have ev : v = .int (x : Int) := by
          have := nv_get hx
          rw [hv] at this
          exact Option.some.inj this
        subst ev
        have hn := cuts_next hx
        have hne := cuts_ne (f.take i)
        have hle := cuts_len (f.take i)
        rw [List.length_take] at hle
        rcases list_end (cuts (f.take i)) with hz | ⟨ini, r, hz⟩
        · rw [hz] at L hn
          have b0 : bs = [] := List.eq_nil_of_length_eq_zero (by rw [L.len]; rfl)
          subst b0
          refine s_if (b := true) (et_is (et_or (et_not (et_tru (K := K) (ev_var rfl) (sq_of L.self))) (b := true) (fun hb => by cases hb)) rfl) (fun _ H3 e3 => ?_) (fun hb => Bool.noConfusion hb)
          refine s_appL (e3 p _ L.self) (ev_var rfl) (el_lst (ea_cons (ev_var rfl) ea_nil) (Nat.le_of_ble_eq_true rfl)) (by simp) fun q H4 hq e4 h4 => ?_
          exact ⟨[q], _, rfl, Ex.mut (e.trans (e3.trans e4)) hp0, by
            rw [hn, cstep_nil]
            exact (L.ex e3).push (e.trans e3) e4 hq h4⟩
        · rw [hz] at L hn hne hle
          have hrl := hne r (by simp)
          obtain ⟨b, hb, hbv, hbp, hb0⟩ := L.get (i := ini.length) (r := r) (by simp)
          obtain ⟨c, r', er⟩ : ∃ c r', r = c :: r' := by
            cases r with
            | nil => simp at hrl
            | cons c l => exact ⟨c, l, rfl⟩
          have hbl : bs.length = ini.length + 1 := by rw [L.len]; simp
          obtain ⟨bi, eb⟩ : ∃ bi, bs = bi ++ [b] := by
            rcases list_end bs with z | ⟨bi, b', z⟩
            · rw [z] at hbl; simp at hbl
            · refine ⟨bi, ?_⟩
              rw [z] at hb hbl
              have : bi.length = ini.length := by simpa using hbl
              rw [← this] at hb
              simp at hb
              rw [z, hb]
          have last : ∀ H3, Ex H' H3 → Ev (tOp (rIxL K) (tVar 1) (tUn (rU fun i => .int (-i)) (tC (.int 1)))) [some (.ref a), some (.ref p), some (.int (x : Int))] H3 (.ref b) := fun H3 e3 =>
            ev_op (ev_var rfl) (ev_un ev_c ru_neg) (rv_ixL (sq_of (e3 p _ L.self)) (by rw [eb, List.map_append]; exact atI_last _ _))
          have ne : (!(bs.map V.ref).isEmpty) = true := by rw [eb]; simp
          refine s_if (b := decide (x < c)) (et_is (et_or (et_not (et_tru (K := K) (ev_var rfl) (sq_of L.self))) (fun _ => et_test (ev_op (ev_var rfl) (ev_op (last H' (Ex.refl _)) ev_c (rv_ixL (K := K) (sq_of hbv) (atI_nat (j := 0) (nv_get (by rw [er]; rfl))))) rv_I0))) (by rw [ne]; simp)) (fun hc H3 e3 => ?_) (fun hc H3 e3 => ?_)
          · have hc := of_decide_eq_true hc
            refine s_appL (e3 p _ L.self) (ev_var rfl) (el_lst (ea_cons (ev_var rfl) ea_nil) (Nat.le_of_ble_eq_true rfl)) (by rw [List.length_map, hbl]; rw [List.length_append] at hle; simp at hle; omega) fun q H4 hq e4 h4 => ?_
            refine ⟨bs ++ [q], _, rfl, Ex.mut (e.trans (e3.trans e4)) hp0, ?_⟩
            rw [hn, cstep_end, if_pos (by rw [er]; exact hc)]
            exact (L.ex e3).push (e.trans e3) e4 hq h4
          · have hc := of_decide_eq_false hc
            refine s_app (e3 b _ hbv) (last H3 e3) (ev_var rfl) (by
              rw [nv_len]
              have h1 : (ini ++ [r]).flatten.length = (f.take i).length := by rw [← hz, cuts_flat]
              rw [List.flatten_append, List.length_append, List.length_take] at h1
              simp at h1
              omega) fun H4 e4 => ?_
            refine ⟨bs, _, rfl, Ex.mut (e.trans (e3.trans e4)) hb0, ?_⟩
            rw [hn, cstep_end, if_neg (by rw [er]; exact hc)]
            have g := ((L.ex e3).ex e4).put (r := r ++ [x]) hb
            rw [set_end, nv_app] at g
            exact g
      · rintro σ' H' ⟨bs, y, rfl, e, L⟩
        rw [nv_len, List.take_of_length_le (Nat.le_refl _)] at L
        refine s_retL (el_call (ea_cons (ev_var rfl) ea_nil) (sl_with L.self L.tb (h := seat (cuts f) f.length) (by rw [cuts_flat, hl]; exact o'.1) (fun r hr => hR r hr) (by rw [hl]; exact ho))) fun q H3 hq e3 h3 => kn _ _ (e1.trans (e.trans e3))
    · obtain ⟨hj, rfl⟩ := due_yes hC
      exact k.yes _ (by unfold dN; rw [if_neg (by simpa using hj)]; rfl) _ e1
end


local macro_rules | `(tactic| walk_at "call") => `(tactic| (with_reducible exact sv_whole))

/-! ### tables that are none -/
/-- an item of a table: a thing or a tuple -/
inductive Ti (K : PySem.W.Frag) (H : Hp) : V → PyData → Prop
  | int (i : Int) : Ti K H (.int i) (.int i)
  | bl (b : Bool) : Ti K H (.bl b) (.bool b)
  | str (x : Str) : Ti K H (.str x) (.str x)
  | non : Ti K H .non .none
  | tup {b : Addr} {xs : List V} (h : H b = some (.tup xs)) : Ti K H (.ref b) (.tuple [])
theorem Ti.imp {K : PySem.W.Frag} {H H' : Hp} {v : V} {d : PyData} (f : ∀ a r, H a = some (.tup r) → H' a = some (.tup r)) (h : Ti K H v d) : Ti K H' v d := by
  cases h with
  | int i => exact .int i
  | bl b => exact .bl b
  | str x => exact .str x
  | non => exact .non
  | tup h => exact .tup (f _ _ h)
theorem Ti.ex {K : PySem.W.Frag} {H H' : Hp} {v : V} {d : PyData} (e : Ex H H') (h : Ti K H v d) : Ti K H' v d := h.imp fun a r x => e a _ x
theorem sv_wholeT {K : PySem.W.Frag} {H : Hp} {v : V} {d : PyData} (h : Ti K H v d) : SpV (sp_is_whole K) ([v] ++ []) H (.bl (isI d)) := by
  cases h with
  | int i => exact sv_wholeD (.int i)
  | bl b => exact sv_wholeD (.bl b)
  | str x => exact sv_wholeD (.str x)
  | non => exact sv_wholeD .non
  | tup h => exact fun H1 e Q q E => .inr ⟨_, _, rfl, e _ _ h, q⟩
/-- what stands for a table -/
inductive Tc (K : PySem.W.Frag) (H : Hp) : V → Option (List PyData) → Prop
  | non : Tc K H .non none
  | int (i : Int) : Tc K H (.int i) none
  | lst {a : Addr} {xs : List V} (h : H a = some (.lst xs)) : Tc K H (.ref a) none
  | tup {b : Addr} {xs : List V} {ds : List PyData} (h : H b = some (.tup xs)) (hd : Paired (Ti K H) xs ds) (hl : ds.length ≤ 60) : Tc K H (.ref b) (some ds)
theorem Tc.imp {K : PySem.W.Frag} {H H' : Hp} {v : V} {o : Option (List PyData)} (f : ∀ a r, H a = some (.tup r) → H' a = some (.tup r)) (g : ∀ a r, H a = some (.lst r) → ∃ r', H' a = some (.lst r')) (h : Tc K H v o) : Tc K H' v o := by
  cases h with
  | non => exact .non
  | int i => exact .int i
  | lst h =>
    obtain ⟨r', h'⟩ := g _ _ h
    exact .lst h'
  | tup h hd hl => exact .tup (f _ _ h) (paired_imp (fun _ _ x => x.imp f) hd) hl
theorem Tc.ex {K : PySem.W.Frag} {H H' : Hp} {v : V} {o : Option (List PyData)} (e : Ex H H') (h : Tc K H v o) : Tc K H' v o := h.imp (fun a r x => e a _ x) fun a r x => ⟨r, e a _ x⟩
theorem Tc.upd {K : PySem.W.Frag} {H : Hp} {l : Addr} {xs zs : List V} {v : V} {o : Option (List PyData)} (hl : H l = some (.lst xs)) (h : Tc K H v o) : Tc K (upd H l (.lst zs)) v o := h.imp (fun a r x => by
  have : a ≠ l := fun z => by
    rw [z, hl] at x
    cases x
  rw [upd_ne this]
  exact x) fun a r x => by
  by_cases z : a = l
  · subst z
    exact ⟨zs, upd_same⟩
  · exact ⟨r, by rw [upd_ne z]; exact x⟩
/-- what stands for the list of tables -/
inductive Tt (K : PySem.W.Frag) (H : Hp) : V → Option (List (Option (List PyData))) → Prop
  | no {v : V} (h : Th K H v none) : Tt K H v none
  | lst {a : Addr} {xs : List V} {os : List (Option (List PyData))} (h : H a = some (.lst xs)) (hd : Paired (Tc K H) xs os) (hl : os.length ≤ 60) : Tt K H (.ref a) (some os)
theorem Tt.ex {K : PySem.W.Frag} {H H' : Hp} {v : V} {o : Option (List (Option (List PyData)))} (e : Ex H H') (h : Tt K H v o) : Tt K H' v o := by
  cases h with
  | no h => exact .no (h.ex e)
  | lst h hd hl => exact .lst (e _ _ h) (paired_imp (fun _ _ x => x.ex e) hd) hl
def leadI : List Int → Bool
  | [] => true
  | x :: l => decide (V.int x = V.int (l.foldl min x))
def tabB : Option (List PyData) → Bool
  | none => false
  | some ds => !decide (ds.length = 0) && (ds.all isI && leadI (intsOf ds))
def heads (os : List (Option (List PyData))) : List Int := os.map fun o => (intsOf (o.getD [])).headD 0
def flatO (os : List (Option (List PyData))) : List PyData := (os.map (·.getD [])).flatten
def eqS (ns : List Int) : Bool := PyData.eqv (.list (ns.map PyData.int)) (.list ((sortI ns).map PyData.int))
def tabsB : Option (List (Option (List PyData))) → Bool
  | none => false
  | some os => os.all tabB && (eqS (heads os) && judge (some (flatO os)))
theorem ti_ints {K : PySem.W.Frag} {H : Hp} : ∀ {xs : List V} {ds : List PyData}, Paired (Ti K H) xs ds → ds.all isI = true → xs = (intsOf ds).map V.int
  | _, _, .nil, _ => rfl
  | _, _, .cons h t, ha => by
    rw [List.all_cons, Bool.and_eq_true] at ha
    have := ti_ints t ha.2
    cases h with
    | int i =>
      rw [this]
      rfl
    | non => exact Bool.noConfusion ha.1
    | bl b => exact Bool.noConfusion ha.1
    | str x => exact Bool.noConfusion ha.1
    | tup h => exact Bool.noConfusion ha.1
theorem ints_back : ∀ {ds : List PyData}, ds.all isI = true → ds = (intsOf ds).map PyData.int
  | [], _ => rfl
  | d :: r, h => by
    rw [List.all_cons, Bool.and_eq_true] at h
    have ih := ints_back h.2
    cases d with
    | int i =>
      show PyData.int i :: r = PyData.int i :: (intsOf r).map PyData.int
      rw [← ih]
    | _ => exact Bool.noConfusion h.1
/-- tables of ints -/
theorem tc_rows {K : PySem.W.Frag} {H : Hp} : ∀ {xs : List V} {os : List (Option (List PyData))}, Paired (Tc K H) xs os → os.all tabB = true → ∃ rs : List (List Int), TL H xs (rs.map fun r => r.map V.int) ∧ os = rs.map (fun r => some (r.map PyData.int)) ∧ ∀ r ∈ rs, r ≠ [] ∧ r.length ≤ 60
  | _, _, .nil, _ => ⟨[], .nil, rfl, fun r hr => by cases hr⟩
  | _, _, .cons h t, ha => by
    rw [List.all_cons, Bool.and_eq_true] at ha
    obtain ⟨rs, h1, h2, h3⟩ := tc_rows t ha.2
    cases h with
    | non => exact Bool.noConfusion ha.1
    | int i => exact Bool.noConfusion ha.1
    | lst h => exact Bool.noConfusion ha.1
    | @tup b xs ds h hd hl =>
      have hb := ha.1
      unfold tabB at hb
      simp only [Bool.and_eq_true] at hb
      have ex := ti_ints hd hb.2.1
      have ed := ints_back hb.2.1
      refine ⟨intsOf ds :: rs, .cons ⟨b, rfl, by rw [h, ex]⟩ h1, by rw [List.map_cons, ← h2, ← ed], fun r hr => ?_⟩
      rcases List.mem_cons.mp hr with e | hr
      · rw [e]
        refine ⟨fun z => ?_, by simp [intsOf]; exact hl⟩
        have : (intsOf ds).length = ds.length := by simp [intsOf]
        rw [z] at this
        have h0 := hb.1
        simp only [List.length_nil] at this
        rw [← this] at h0
        exact Bool.noConfusion h0
      · exact h3 r hr
theorem intsOf_map (r : List Int) : intsOf (r.map PyData.int) = r := by
  unfold intsOf
  rw [List.map_map]
  exact List.map_id _
theorem flat_rows : ∀ rs : List (List Int), flatO (rs.map fun r => some (r.map PyData.int)) = rs.flatten.map PyData.int
  | [] => rfl
  | r :: l => by
    have := flat_rows l
    unfold flatO at this ⊢
    rw [List.map_cons, List.map_cons, List.flatten_cons, this, List.flatten_cons, List.map_append]
    rfl
theorem heads_rows (rs : List (List Int)) : heads (rs.map fun r => some (r.map PyData.int)) = rs.map (·.headD 0) := by
  unfold heads
  rw [List.map_map]
  refine List.map_congr_left fun r _ => ?_
  show (intsOf (r.map PyData.int)).headD 0 = _
  rw [intsOf_map]
theorem flat_vals : ∀ rs : List (List Int), (rs.map fun r => r.map V.int).flatten = rs.flatten.map V.int
  | [] => rfl
  | r :: l => by rw [List.map_cons, List.flatten_cons, flat_vals l, List.flatten_cons, List.map_append]
/-- [x for t in ts for x in t], ts an old list of tuples -/
theorem el_lc2O {K : PySem.W.Frag} {σ : L2.St} {H : Hp} {tl : TE} {j l : Nat} {vs vs1 : List Nat} {a : Addr} {ws : List V} {rs : List (List V)} (h : Ev tl σ H (.ref a)) (ha : H a = some (.lst ws)) (ht : TL H ws rs) (hz : rs.flatten.length ≤ 40000)
    (hw : ∀ x, wipe ((wipe σ vs).set j (some x)) vs = wipe σ vs) (hj : ∀ x, ((wipe σ vs).set j (some x))[j]? = some (some x))
    (hw1 : ∀ x y, wipe ((wipe ((wipe σ vs).set j (some x)) vs1).set l (some y)) vs1 = wipe ((wipe σ vs).set j (some x)) vs1) (hl : ∀ x y, ((wipe ((wipe σ vs).set j (some x)) vs1).set l (some y))[l]? = some (some y)) :
    EvL (tLc2 (iList K tl) (gName j) tYes (iTup K (tVar j)) (gName l) tYes (tVar l) vs vs1) σ H rs.flatten := fun H0 e Q q => h H0 e _ fun H1 e1 => ⟨a, rfl, ⟨ws, sq_of (e1 a _ (e a _ ha))⟩, fun Dl hD => by
  have ht := ht.ex (e.trans e1)
  have h1 := e1 a _ (e a _ ha)
  have hlen := ht.len
  refine it_gen walk_list (fun i H' => Ex H1 H' ∧ H' Dl = some (.lst (rs.take i).flatten)) ⟨Ex.new hD, upd_same⟩ (fun i H' _ p => sq_of (p.1 a _ h1)) ?_ fun H' p => ?_
  · rintro i x Hh H' hi ⟨p1, p2⟩ ⟨rfl, hx⟩
    obtain ⟨b, r, rfl, hb, hr⟩ := ht.get hx
    have hlr : (rs.take (i + 1)).flatten.length ≤ 40000 := by
      have : (rs.take (i + 1)).flatten.length ≤ rs.flatten.length := by
        conv => rhs; rw [← List.take_append_drop (i + 1) rs, List.flatten_append, List.length_append]
        omega
      omega
    rw [flatV_next hr, List.length_append] at hlr
    refine ⟨hw _, ?_⟩
    simp only [tYes, ↓reduceIte]
    refine ⟨.ref b, hj _, b, rfl, ⟨r, st_of (p1 b _ hb)⟩, ?_⟩
    refine it_gen (walk_tup (K := K) (a := b) (xs := r)) (fun m H2 => Ex H1 H2 ∧ H2 Dl = some (.lst ((rs.take i).flatten ++ r.take m))) ⟨p1, by rw [p2]; simp⟩ (fun m H2 _ p => st_of (p.1 b _ hb)) ?_ fun H2 p => ?_
    · rintro m y H2 H3 hm ⟨p3, p4⟩ ⟨rfl, hy⟩
      refine ⟨hw1 _ _, ?_⟩
      simp only [tYes, ↓reduceIte]
      refine ⟨y, hl _ _, _, p4, sz_lt (by rw [List.length_append, List.length_take]; omega), Ex.mut p3 hD, ?_⟩
      rw [upd_same, take_next hy, List.append_assoc]
    · obtain ⟨p3, p4⟩ := p
      refine ⟨p3, ?_⟩
      rw [p4, flatV_next hr, List.take_of_length_le (Nat.le_refl _)]
  · obtain ⟨p1, p2⟩ := p
    rw [hlen, List.take_of_length_le (Nat.le_refl _)] at p2
    exact q Dl H' (fresh_back e1 hD) (e1.trans p1) p2⟩
section
variable {K : PySem.W.Frag} {σ : L2.St} {H : Hp} {ta : TE}
/-- type(v) != t -/
theorem ev_neTyG {v : V} {n m : String} (h : Ev ta σ H v) (hn : ∀ H1, Ex H H1 → zTyV v H1 = some n) (mn : Meta n) (mm : Meta m) : Ev (tOp rNeTyG (tThenZ ta kTyp2) (tC (.ty m))) σ H (.bl (!decide (n = m))) := fun H1 e Q q =>
  h H1 e _ fun H2 e2 => ⟨n, .inl (hn H2 (e.trans e2)), n, m, rfl, rfl, mn, mm, q H2 e2⟩
end
def sp_is_table (K : PySem.W.Frag) : Sp := fun vs H Q _ => ∃ (v : V) (o : Option (List PyData)), vs = [v] ∧ Tc K H v o ∧ RetV (.bl (tabB o)) H Q
theorem sv_table {K : PySem.W.Frag} {H : Hp} {v : V} {o : Option (List PyData)} (h : Tc K H v o) : SpV (sp_is_table K) ([v] ++ []) H (.bl (tabB o)) := fun H1 e Q q E => ⟨v, o, rfl, h.ex e, q⟩
def sp_are_tables (K : PySem.W.Frag) : Sp := fun vs H Q _ => ∃ (v : V) (o : Option (List (Option (List PyData)))), vs = [v] ∧ Tt K H v o ∧ RetV (.bl (tabsB o)) H Q
theorem sv_tables {K : PySem.W.Frag} {H : Hp} {v : V} {o : Option (List (Option (List PyData)))} (h : Tt K H v o) : SpV (sp_are_tables K) ([v] ++ []) H (.bl (tabsB o)) := fun H1 e Q q E => ⟨v, o, rfl, h.ex e, q⟩
section
variable {P : Program} {w : World} {K : PySem.W.Frag} {mg : Str → Option Value} {base : Heap}
theorem ok_is_table (T : Tx K mg) : FnOk P w K mg base CX0 2 T.f_is_table T.d_is_table ["thing"] (sp_is_table K) := by
  refine T.F_is_table.ok sc_is_table (fun vs H Q E h => ?_) (fun cdv A outer s H vs Q E hr h => ?_)
  · obtain ⟨v, o, rfl, _⟩ := h
    rfl
  · obtain ⟨v, o, rfl, hv, k⟩ := h
    refine ⟨_, (pss_cons (ps_if (PW.pt (pw_or (pt_cmpR (op_neTyG (hu_of hr)) (pe_typeOf2 (by rfl) T.m_type (pv 0)) (pe_bltn (v := .ty "tuple") (by rfl) T.m_tuple (by decide +kernel) rfl) (nomark _)) (pw_or1 (pt_cmpR op_eq (pe_callB call_lenR (by rfl) T.m_len (by decide +kernel) (pa_cons (pv 0) pa_nil)) pe_int (nomark _))))) (pss_one (ps_ret pe_bl)) pss_nil)
      (pss_one (ps_ret (pe_and (pe_callB (cr_all rfl) (by rfl) T.m_all (by decide +kernel) (pa_cons (pe_lc (own := [("guest", 1)]) (g := (gName 1)) (tt := tYes) rfl sc_is_table.nd (pi_tup (pv 0)) (blkOk_by (own := [("guest", 1)]) (N := n_is_table) (sc := defScope s_is_table) (by decide +kernel)) (fun _ _ _ _ _ => (pg_name (i := 1) sc_is_table.nd rfl (Or.inl rfl))) (fun _ _ _ _ _ => pts_nil) (fun _ _ _ _ _ => (pe_call (ok_is_whole T) (hr.mono (by decide)) (by rfl) T.g_is_whole T.F_is_whole.kp T.b_is_whole .nil pass0 (pa_cons (pv 1) pa_nil)))) pa_nil)) (pe_one (pe_cmpR op_eq (pe_ix ix_tup (pv 0) pe_int (fun _ _ => rfl)) (pe_callB (id := "min") (r := rMinT K) (cr_minT rfl (hu_of hr)) (by rfl) T.m_min (by decide +kernel) (pa_cons (pv 0) pa_nil)) (nomark _))))))), ?_⟩
    cases hv with
    | non =>
      refine q_when (b := true) (et_is (et_or (b := false) (et_test (ev_neTyG (n := "NoneType") (ev_var rfl) (fun _ _ => rfl) PySem.TypeEq.meta_NoneType PySem.TypeEq.meta_tuple)) fun z => by cases z) rfl) (fun _ H1 e1 => ?_) fun hb => Bool.noConfusion hb
      exact s_ret ev_c fun H2 e2 => k _ (e1.trans e2)
    | int i =>
      refine q_when (b := true) (et_is (et_or (b := false) (et_test (ev_neTyG (n := "int") (ev_var rfl) (fun _ _ => rfl) PySem.TypeEq.meta_int PySem.TypeEq.meta_tuple)) fun z => by cases z) rfl) (fun _ H1 e1 => ?_) fun hb => Bool.noConfusion hb
      exact s_ret ev_c fun H2 e2 => k _ (e1.trans e2)
    | lst h =>
      refine q_when (b := true) (et_is (et_or (b := false) (et_test (ev_neTyG (n := "list") (ev_var rfl) (fun H1 e => by simp [zTyV, e _ _ h]) PySem.TypeEq.meta_list PySem.TypeEq.meta_tuple)) fun z => by cases z) rfl) (fun _ H1 e1 => ?_) fun hb => Bool.noConfusion hb
      exact s_ret ev_c fun H2 e2 => k _ (e1.trans e2)
    | @tup b xs ds h hd hl =>
      have hlen : xs.length = ds.length := Paired.length hd
      refine q_when (b := decide (ds.length = 0)) (et_is (et_or (et_test (ev_neTyG (n := "tuple") (ev_var rfl) (fun H1 e => by simp [zTyV, e _ _ h]) PySem.TypeEq.meta_tuple PySem.TypeEq.meta_tuple)) fun _ => et_test (ev_op (ev_lenT (K := K) (ev_var rfl) (st_of h)) ev_c (rv_eq rfl))) (by rw [dec_int, hlen, Bool.eq_iff_iff]; simp)) (fun hb H1 e1 => ?_) fun hb H1 e1 => ?_
      · have ej : tabB (some ds) = false := by
          show (!decide (ds.length = 0) && _) = false
          rw [hb]
          rfl
        rw [ej] at k
        exact s_ret ev_c fun H2 e2 => k _ (e1.trans e2)
      · have ej : tabB (some ds) = (ds.all isI && leadI (intsOf ds)) := by
          show (!decide (ds.length = 0) && _) = _
          rw [hb]
          rfl
        rw [ej] at k
        have h1 := e1 b _ h
        refine s_ret (ev_andV (ev_is (ev_allN (bs := ds.map isI) ?_) (by rw [List.all_map]; rfl)) fun hi => ?_) fun H2 e2 => k _ (e1.trans e2)
        · have g := el_lcT (K := K) (t := tYes) (te := tCall (sp_is_whole K) [] E0 (tCons (tVar 1) tNil)) (vs := [1]) (j := 1) (H := H1) (fun _ => true) (fun i => V.bl (isI (ds.getD i .none))) (ev_var (σ := start n_is_table [.ref b]) (i := 0) rfl) (st_of h1) (by omega) (fun _ => rfl) (fun _ _ _ _ _ => et_yes) fun i x H2 e2 hx _ => by
            obtain ⟨d, hd1, hd2⟩ := paired_get hd hx
            have gd : ds.getD i .none = d := by rw [List.getD_eq_getElem?_getD, hd1] <;> rfl
            show Ev _ _ _ (V.bl (isI (ds.getD i .none)))
            rw [gd]
            exact ev_call (ea_cons (ev_var rfl) ea_nil) (sv_wholeT (hd2.ex (e1.trans e2)))
          have e : given xs.length (fun _ => true) (fun i => V.bl (isI (ds.getD i .none))) = (ds.map isI).map V.bl := by
            rw [given_at, hlen]
            conv => rhs; rw [range_get ds .none]
            rw [List.map_map, List.map_map]
            rfl
          rw [e] at g
          exact g
        · have ex := ti_ints hd hi
          have il : (intsOf ds).length = ds.length := by simp [intsOf]
          have n0 : ds.length ≠ 0 := by simpa using hb
          obtain ⟨x, l, exl⟩ : ∃ x l, intsOf ds = x :: l := by
            cases hz : intsOf ds with
            | nil =>
              rw [hz] at il
              exact absurd il.symm n0
            | cons x l => exact ⟨x, l, rfl⟩
          rw [exl] at ex ⊢
          have hb2 : SqT K H1 b ((x :: l).map V.int) := st_of (by rw [h1, ex])
          exact ev_op (ev_op (ev_var rfl) ev_c (rv_ixT (K := K) hb2 (atI_nat (j := 0) rfl))) (ev_minT (ev_var rfl) hb2) (rv_eq rfl)
theorem ok_are_tables (T : Tx K mg) : FnOk P w K mg base CX0 3 T.f_are_tables T.d_are_tables ["thing"] (sp_are_tables K) := by
  refine T.F_are_tables.ok sc_are_tables (fun vs H Q E h => ?_) (fun cdv A outer s H vs Q E hr h => ?_)
  · obtain ⟨v, o, rfl, _⟩ := h
    rfl
  · obtain ⟨v, o, rfl, hv, k⟩ := h
    refine ⟨_, (pss_cons (ps_if (PW.pt (pw_or (pt_cmpR (op_neTyG (hu_of hr)) (pe_typeOf2 (by rfl) T.m_type (pv 0)) (pe_bltn (v := .ty "list") (by rfl) T.m_list (by decide +kernel) rfl) (nomark _)) (pw_or1 (pt_not (pt_val (pe_callB (cr_all rfl) (by rfl) T.m_all (by decide +kernel) (pa_cons (pe_lc (own := [("table", 1)]) (g := (gName 1)) (tt := tYes) rfl sc_are_tables.nd (pi_list (pv 0)) (blkOk_by (own := [("table", 1)]) (N := n_are_tables) (sc := defScope s_are_tables) (by decide +kernel)) (fun _ _ _ _ _ => (pg_name (i := 1) sc_are_tables.nd rfl (Or.inl rfl))) (fun _ _ _ _ _ => pts_nil) (fun _ _ _ _ _ => (pe_call (ok_is_table T) (hr.mono (by decide)) (by rfl) T.g_is_table T.F_is_table.kp T.b_is_table .nil pass0 (pa_cons (pv 1) pa_nil)))) pa_nil))))))) (pss_one (ps_ret pe_bl)) pss_nil)
      (pss_cons (ps_setLc (i := 2) (own := [("table", 1)]) (g := (gName 1)) (tt := tYes) rfl sc_are_tables.nd rfl rfl (sw_true rfl rfl rfl (by decide +kernel)) (pi_list (pv 0)) (blkOk_by (own := [("table", 1)]) (N := n_are_tables) (sc := defScope s_are_tables) (by decide +kernel)) (fun _ _ _ _ _ => (pg_name (i := 1) sc_are_tables.nd rfl (Or.inl rfl))) (fun _ _ _ _ _ => pts_nil) (fun _ _ _ _ _ => (pe_ix (r := rIxT K) ix_tup (pv 1) pe_int (fun _ _ => rfl))))
      (pss_one (ps_ret (pe_and (pe_cmpR (op_eqD hr.units) (pv 2) (pe_callB cr_sorted (by rfl) T.m_sorted (by decide +kernel) (pa_cons (pv 2) pa_nil)) (nomark _)) (pe_one (pe_call (ok_is_order T) (hr.mono (by decide)) (by rfl) T.g_is_order T.F_is_order.kp T.b_is_order .nil pass0 (pa_cons (pe_lc2 (wi1 := iTup K (tVar 1)) (own := [("table", 1), ("guest", 3)]) (vs1 := [3]) (g := (gName 1)) (g1 := (gName 3)) (tt := tYes) (tt1 := tYes) rfl sc_are_tables.nd (pi_list (pv 0)) (blkOk_by (own := [("table", 1), ("guest", 3)]) (N := n_are_tables) (sc := defScope s_are_tables) (by decide +kernel)) (by decide) (fun _ _ _ _ _ => (pg_name (i := 1) sc_are_tables.nd rfl (Or.inl rfl))) (fun _ _ _ _ _ => pts_nil) (fun _ _ _ _ _ => (pi_tup (pv 1))) (fun _ _ _ _ _ => (pg_name (i := 3) sc_are_tables.nd rfl (Or.inl rfl))) (fun _ _ _ _ _ => pts_nil) (fun _ _ _ _ _ => (pv 3))) pa_nil)))))))), ?_⟩
    cases hv with
    | no h =>
      refine q_when (b := true) (et_is (et_or (b := false) (et_test (ev_noList (ev_var rfl) h)) fun z => Bool.noConfusion z) rfl) (fun _ H1 e1 => ?_) fun hb => Bool.noConfusion hb
      exact s_ret ev_c fun H2 e2 => k _ (e1.trans e2)
    | @lst a xs os h hd hl =>
      have hlen : xs.length = os.length := Paired.length hd
      refine q_when (b := !(os.all tabB)) (et_is (et_or (et_test (ev_neTyG (n := "list") (ev_var rfl) (fun H1 e => by simp [zTyV, e _ _ h]) PySem.TypeEq.meta_list PySem.TypeEq.meta_list)) fun _ => et_not (et_B (ev_allN (bs := os.map tabB) ?_))) (by rw [List.all_map]; simp)) (fun hb H1 e1 => ?_) fun hb H1 e1 => ?_
      · have e : (List.range xs.length).map (fun i => V.bl (tabB (os.getD i none))) = (os.map tabB).map V.bl := by
          rw [hlen]
          conv => rhs; rw [range_get os none]
          rw [List.map_map, List.map_map]
          rfl
        rw [← e]
        refine el_mapI _ (ev_var rfl) (sq_of h) (by omega) (fun _ => rfl) fun i x H2 e2 hx => ?_
        obtain ⟨o, ho1, ho2⟩ := paired_get hd hx
        have gd : os.getD i none = o := by rw [List.getD_eq_getElem?_getD, ho1] <;> rfl
        rw [gd]
        exact ev_call (ea_cons (ev_var rfl) ea_nil) (sv_table (ho2.ex e2))
      · have hb : os.all tabB = false := by simpa using hb
        have ej : tabsB (some os) = false := by
          show (os.all tabB && _) = false
          rw [hb]
          rfl
        rw [ej] at k
        exact s_ret ev_c fun H2 e2 => k _ (e1.trans e2)
      · have hb : os.all tabB = true := by simpa using hb
        have ej : tabsB (some os) = (eqS (heads os) && judge (some (flatO os))) := by
          show (os.all tabB && _) = _
          rw [hb]
          rfl
        rw [ej] at k
        obtain ⟨rs, ht, eo, hr⟩ := tc_rows hd hb
        have rl : rs.length = xs.length := by
          have := ht.len
          rw [List.length_map] at this
          exact this.symm
        have h1 := e1 a _ h
        have ht1 := ht.ex e1
        rw [eo, heads_rows, flat_rows] at k
        have fl : rs.flatten.length ≤ 40000 := by
          have : ∀ l : List (List Int), (∀ r ∈ l, r ≠ [] ∧ r.length ≤ 60) → l.flatten.length ≤ 60 * l.length := fun l => by
            induction l with
            | nil => intro _; simp
            | cons r l ih =>
              intro hh
              have := ih fun x hx => hh x (by simp [hx])
              have := (hh r (by simp)).2
              rw [List.flatten_cons, List.length_append, List.length_cons]
              omega
          have := this rs hr
          omega
        have hs : (List.range xs.length).map (fun i => V.int ((rs.getD i []).headD 0)) = (rs.map (·.headD 0)).map V.int := by
          rw [← rl]
          conv => rhs; rw [range_get rs []]
          rw [List.map_map, List.map_map]
          rfl
        refine q_asgL (xs := (rs.map (·.headD 0)).map V.int) ?_ fun p H2 hp e2 h2 => ?_
        · rw [← hs]
          refine el_mapI _ (ev_var rfl) (sq_of h1) (by omega) (fun _ => rfl) fun i x H2 e2 hx => ?_
          obtain ⟨b, r, rfl, hb, hr1⟩ := ht1.get hx
          rw [List.getElem?_map] at hr1
          obtain ⟨r', hr', rfl⟩ := Option.map_eq_some_iff.mp hr1
          have g : rs.getD i [] = r' := by rw [List.getD_eq_getElem?_getD, hr'] <;> rfl
          rw [g]
          have ne := (hr r' (List.mem_of_getElem? hr')).1
          refine ev_op (ev_var rfl) ev_c (rv_ixT (K := K) (st_of (e2 b _ hb)) (atI_nat (j := 0) ?_))
          cases r' with
          | nil => exact absurd rfl ne
          | cons c l => rfl
        · have sr := ed_sorted (K := K) (ta := tVar 2) (ns := rs.map (·.headD 0)) (σ := [some (.ref a), none, some (.ref p), none]) (ev_var (i := 2) rfl) (sq_of h2) (by rw [List.length_map]; omega) (sortI_perm _) (sortI_sorted _)
          have vr : EvD K (tVar 2) [some (.ref a), none, some (.ref p), none] H2 (.list ((rs.map (·.headD 0)).map PyData.int)) := ed_of (ev_var rfl) (.lst (sq_of h2) (dpa_ints _))
          refine s_ret (ev_andV (ev_eqD vr sr (shaped_ints _) (shaped_ints _)) fun _ => ev_call1L (xs := rs.flatten.map V.int) ?_ fun q H3 e3 h3 => ?_) fun H3 e3 => k _ (e1.trans (e2.trans e3))
          · rw [← flat_vals]
            exact el_lc2O (ev_var rfl) (e2 a _ h1) (ht1.ex e2) (by rw [flat_vals, List.length_map]; exact fl) (fun _ => rfl) (fun _ => rfl) (fun _ _ => rfl) (fun _ _ => rfl)
          · exact sv_any (.lst h3 (ita_ints _) (fine_ints _))
/-- the tables of a seating are tables -/
theorem tabs_good {h : List Nat} {rs : List (List Nat)} (R : Rings h rs) (o : Ord h) : tabsB (some (rs.map fun r => some ((iz r).map PyData.int))) = true := by
  have e1 : (rs.map fun r => some ((iz r).map PyData.int)) = ((rs.map iz).map fun r => some (r.map PyData.int)) := by
    rw [List.map_map]
    rfl
  have fl : (rs.map iz).flatten = iz rs.flatten := by
    unfold iz
    rw [List.map_flatten]
  have hd : (rs.map iz).map (·.headD 0) = iz (rs.map (·.headD 0)) := by
    unfold iz
    rw [List.map_map, List.map_map]
    refine List.map_congr_left fun r _ => ?_
    cases r <;> rfl
  have hfl : rs.flatten.length = h.length := by rw [R.all.length_eq, List.length_range]
  have so : sortI (iz (rs.map (·.headD 0))) = iz (rs.map (·.headD 0)) := List.Perm.eq_of_pairwise (le := fun a b : Int => a ≤ b) (fun a b _ _ h1 h2 => by omega) (sortI_sorted _) (by
    unfold iz
    rw [List.pairwise_map]
    exact List.Pairwise.imp (fun {a b} h => by omega) R.asc) (sortI_perm _)
  have j := judge_ord (h := rs.flatten) ⟨by rw [hfl]; exact R.all, by rw [hfl]; exact o.2.1, by rw [hfl]; exact o.2.2⟩
  show (List.all _ tabB && (eqS (heads _) && judge (some (flatO _)))) = true
  rw [e1, heads_rows, flat_rows, fl, hd, j]
  unfold eqS
  rw [so, eqv_same (shaped_ints _), Bool.and_true, Bool.and_true, List.all_map, List.all_map, List.all_eq_true]
  intro r hr
  have ne := (R.rg r hr).ne
  show tabB (some ((iz r).map PyData.int)) = true
  obtain ⟨x, l, i1, i2, i3⟩ := lead_val ne
  unfold tabB
  have l0 : ¬ ((iz r).map PyData.int).length = 0 := by
    simp [iz]
    intro z
    rw [z] at ne
    simp at ne
  have ai : ((iz r).map PyData.int).all isI = true := by
    rw [List.all_map, List.all_eq_true]
    intro x _
    rfl
  simp only
  rw [decide_eq_false l0, ai, intsOf_map, i1]
  show (true && (true && decide (V.int (x : Int) = V.int (l.foldl min (x : Int))))) = true
  have lr : leads r = true := decide_eq_true (R.low r hr)
  rw [i3, lr]
  rfl
def sp_seating_of (T : Tx K mg) : Sp := fun vs H Q E => ∃ (v : V) (o : Option (List (Option (List PyData)))), vs = [v] ∧ Tt K H v o ∧ (tabsB o = false → ∀ H1, Ex H H1 → E (.ref T.cl_InvalidTables) none H1) ∧
  (tabsB o = true → ∃ (a : Addr) (ws : List V) (rs : List (List Nat)) (h : List Nat), v = .ref a ∧ H a = some (.lst ws) ∧ TL H ws (rs.map nv) ∧ Rings h rs ∧ Ord h ∧ ∀ x H1, Ex H H1 → Q x H1)
theorem TL.tb {H : Hp} : ∀ {ws : List V} {rs : List (List Nat)}, TL H ws (rs.map nv) → Paired (Tb H) ws rs
  | [], [], _ => .nil
  | _ :: _, _ :: _, .cons ⟨b, e, h⟩ t => .cons ⟨b, e, .inr h⟩ (TL.tb t)
theorem ok_seating_of (T : Tx K mg) : FnOk P w K mg base (L2N.CX P w) 6 T.f_seating_of T.d_seating_of ["tables"] (sp_seating_of T) := by
  refine Kit.okN T.F_seating_of sc_seating_of (fun vs H Q E h => ?_) (fun cdv A outer s H vs Q E hr h => ?_)
  · obtain ⟨v, o, rfl, _⟩ := h
    rfl
  · obtain ⟨v, o, rfl, hv, kE, k⟩ := h
    refine ⟨_, (pss_cons (ps_if (pt_not (pt_val (pe_call (ok_are_tables T) (hr.mono (by decide)) (by rfl) T.g_are_tables T.F_are_tables.kp T.b_are_tables .nil pass0 (pa_cons (pv 0) pa_nil)))) (pss_one (Kit.ps_raiseN rfl Kit.takesN T.e_InvalidTables T.gc_InvalidTables (by rfl) pe_str)) pss_nil)
      (PSs.nox (pss_one (ps_ret (pe_call (ok_seating_with T) (hr.mono (by decide)) (by rfl) T.g_seating_with T.F_seating_with.kp T.b_seating_with .nil pass0 (pa_cons (pv 0) pa_nil)))))), ?_⟩
    refine q_when (b := !tabsB o) (et_is (et_not (et_B (ev_call (ea_cons (ev_var rfl) ea_nil) (sv_tables hv)))) rfl) (fun hb H1 e1 => ?_) fun hb H1 e1 => ?_
    · exact kE (by simpa using hb) _ e1
    · obtain ⟨a, ws, rs, h, rfl, ha, ht, R, o', kn⟩ := k (by simpa using hb)
      exact s_retL (el_call (ea_cons (ev_var rfl) ea_nil) (sl_with (e1 a _ ha) (TL.tb (ht.ex e1)) R.all R.rg o'.2.2)) fun q H3 hq e3 h3 => kn _ _ (e1.trans e3)
end


local macro_rules | `(tactic| walk_at "call") => `(tactic| (with_reducible exact sv_whole))

/-! ### _law_word -/
section
variable {P : Program} {w : World} {K : PySem.W.Frag} {mg : Str → Option Value} {base : Heap}
def sp_law_word (T : Tx K mg) : Addr → Value → Option Addr → Sp := fun a cls d vs H Q _ => ∃ i, i < 4 ∧ cls = .ref (erA T i) ∧ d = none ∧ vs = [.ref a] ∧ RetV (.str (erW i)) H Q
theorem er_is (T : Tx K mg) {i : Nat} (hi : i < 4) : ExcD K (erA T i) ∧ PySem.W.exmOne K (.ref (erA T i)) (.ref T.cl_HallError) = some true ∧ (∀ j, j < 4 → PySem.W.kitOne K (.ref (erA T i)) (.ref (erA T j)) = some (decide (j = i))) ∧ PySem.W.kitOne K (.ref (erA T i)) (.type "ValueError") = some true := by
  have : i = 0 ∨ i = 1 ∨ i = 2 ∨ i = 3 := by omega
  rcases this with rfl | rfl | rfl | rfl
  · refine ⟨T.e_InvalidSeating, T.x_InvalidSeating, fun j hj => ?_, isRow_at T.t_InvalidSeating (by simp)⟩
    have : j = 0 ∨ j = 1 ∨ j = 2 ∨ j = 3 := by omega
    rcases this with rfl | rfl | rfl | rfl <;> exact isRow_at T.t_InvalidSeating (by simp [erA])
  · refine ⟨T.e_InvalidGuest, T.x_InvalidGuest, fun j hj => ?_, isRow_at T.t_InvalidGuest (by simp)⟩
    have : j = 0 ∨ j = 1 ∨ j = 2 ∨ j = 3 := by omega
    rcases this with rfl | rfl | rfl | rfl <;> exact isRow_at T.t_InvalidGuest (by simp [erA])
  · refine ⟨T.e_InvalidNames, T.x_InvalidNames, fun j hj => ?_, isRow_at T.t_InvalidNames (by simp)⟩
    have : j = 0 ∨ j = 1 ∨ j = 2 ∨ j = 3 := by omega
    rcases this with rfl | rfl | rfl | rfl <;> exact isRow_at T.t_InvalidNames (by simp [erA])
  · refine ⟨T.e_InvalidTables, T.x_InvalidTables, fun j hj => ?_, isRow_at T.t_InvalidTables (by simp)⟩
    have : j = 0 ∨ j = 1 ∨ j = 2 ∨ j = 3 := by omega
    rcases this with rfl | rfl | rfl | rfl <;> exact isRow_at T.t_InvalidTables (by simp [erA])
theorem ok_law_word (T : Tx K mg) : FnP P w K mg base CX0 1 T.f_law_word T.d_law_word ["caught"] (sp_law_word T) := by
  refine Kit.okP T.F_law_word sc_law_word (fun a cls d vs H Q E h => ?_) (fun cdv A outer s H vs Q E p cls d hot hz hr h => ?_)
  · obtain ⟨i, _, _, _, rfl, _⟩ := h
    rfl
  · obtain ⟨i, hi, rfl, rfl, rfl, k⟩ := h
    have hf : ∃ vs, p.2.data = .fields vs := hot.2.imp fun vs e => e.1
    have hp : p ∈ [p] := List.mem_cons_self
    obtain ⟨hC, _, hk, hv⟩ := er_is T hi
    generalize hCe : erA T i = C at hC hk hv hz
    refine ⟨_, (pss_cons (ps_set (i := 1) sc_law_word.nd rfl (Or.inl rfl) (pe_lst (pa_cons (pe_callB (id := "isinstance") (r := rIsE K C p.1) (Kit.call_isP hC hp hz hf) (by rfl) T.m_isinstance (by decide +kernel) (pa_cons (pv 0) (pa_cons (pe_gc (v := .ref T.cl_InvalidSeating) (by rfl) ⟨_, T.gc_InvalidSeating, rfl⟩) pa_nil))) (pa_cons (pe_callB (id := "isinstance") (r := rIsE K C p.1) (Kit.call_isP hC hp hz hf) (by rfl) T.m_isinstance (by decide +kernel) (pa_cons (pv 0) (pa_cons (pe_gc (v := .ref T.cl_InvalidGuest) (by rfl) ⟨_, T.gc_InvalidGuest, rfl⟩) pa_nil))) (pa_cons (pe_callB (id := "isinstance") (r := rIsE K C p.1) (Kit.call_isP hC hp hz hf) (by rfl) T.m_isinstance (by decide +kernel) (pa_cons (pv 0) (pa_cons (pe_gc (v := .ref T.cl_InvalidNames) (by rfl) ⟨_, T.gc_InvalidNames, rfl⟩) pa_nil))) pa_nil)))))
      (pss_cons (ps_expr (pe_bm PySem.F.plainAttrs_list PySem.F.slot_list_append PySem.F.type_list_append mt_append (pv 1) (pa_cons (pe_callB (id := "isinstance") (r := rIsE K C p.1) (Kit.call_isP hC hp hz hf) (by rfl) T.m_isinstance (by decide +kernel) (pa_cons (pv 0) (pa_cons (pe_gc (v := .ref T.cl_InvalidTables) (by rfl) ⟨_, T.gc_InvalidTables, rfl⟩) pa_nil))) pa_nil)))
      (pss_cons (ps_if (PW.pt (pw_or (pt_cmpR op_ne (pe_bm PySem.F.plainAttrs_list PySem.F.slot_list_count PySem.F.type_list_count Kit.mt_countF (pv 1) (pa_cons pe_bl pa_nil)) pe_int (nomark _)) (pw_or1 (pt_not (pt_val (pe_callB (id := "isinstance") (r := rIsE K C p.1) (Kit.call_isP hC hp hz hf) (by rfl) T.m_isinstance (by decide +kernel) (pa_cons (pv 0) (pa_cons (pe_bltn (v := .ty "ValueError") (by rfl) T.m_ValueError (by decide +kernel) rfl) pa_nil)))))))) (pss_one (ps_ret pe_str)) pss_nil)
      (pss_one (ps_ret (pe_ix ix_list (pe_lst (pa_cons pe_str (pa_cons pe_str (pa_cons pe_str (pa_cons pe_str pa_nil))))) (pe_bm PySem.F.plainAttrs_list PySem.F.slot_list_index PySem.F.type_list_index mt_index (pv 1) (pa_cons pe_bl pa_nil)) (fun _ _ => rfl))))))), ?_⟩
    have ref : ∀ (b : Addr) (u : Value), RelV (.ref b) u → u = .ref b := fun b u r => r
    have tyv : ∀ (n : String) (u : Value), RelV (.ty n) u → u = .type n := fun n u r => r
    refine q_asgL (xs := [V.bl (decide (0 = i)), .bl (decide (1 = i)), .bl (decide (2 = i))]) (el_lst (ea_cons (ev_isP (ev_var rfl) ev_c (ref _) (hk 0 (by decide))) (ea_cons (ev_isP (ev_var rfl) ev_c (ref _) (hk 1 (by decide))) (ea_cons (ev_isP (ev_var rfl) ev_c (ref _) (hk 2 (by decide))) ea_nil))) (Nat.le_of_ble_eq_true rfl)) fun m H1 hm e1 h1 => ?_
    refine q_app (K := K) h1 (ev_var rfl) (ev_isP (ev_var rfl) ev_c (ref _) (hk 3 (by decide))) (Nat.le_of_ble_eq_true rfl) fun H2 e2 => ?_
    have h3 : (upd H2 m (.lst ([V.bl (decide (0 = i)), .bl (decide (1 = i)), .bl (decide (2 = i))] ++ [V.bl (decide (3 = i))]))) m = some (.lst ([V.bl (decide (0 = i)), .bl (decide (1 = i)), .bl (decide (2 = i)), .bl (decide (3 = i))])) := upd_same
    have e3 : Ex H (upd H2 m (.lst ([V.bl (decide (0 = i)), .bl (decide (1 = i)), .bl (decide (2 = i))] ++ [V.bl (decide (3 = i))]))) := Ex.mut (e1.trans e2) hm
    generalize upd H2 m (.lst ([V.bl (decide (0 = i)), .bl (decide (1 = i)), .bl (decide (2 = i))] ++ [V.bl (decide (3 = i))])) = H3 at h3 e3 ⊢
    have ci : i = 0 ∨ i = 1 ∨ i = 2 ∨ i = 3 := by omega
    refine q_when (b := false) (et_is (et_or (b := false) (et_test (ev_op (ev_countF (K := K) (y := .bl true) (ev_var rfl) h3 ev_c rfl rfl) ev_c (rv_ne rfl))) fun _ => et_is (et_not (et_B (ev_isP (ev_var rfl) ev_c (tyv _) hv))) rfl) ?_) (fun hb => Bool.noConfusion hb) fun _ H4 e4 => ?_
    · rcases ci with rfl | rfl | rfl | rfl <;> decide +kernel
    · have h4 := e4 m _ h3
      refine s_ret (v := .str (erW i)) (ev_opL1 (xs := [V.str "seating", .str "guest", .str "names", .str "tables"]) (el_lst (ea_cons ev_c (ea_cons ev_c (ea_cons ev_c (ea_cons ev_c ea_nil)))) (Nat.le_of_ble_eq_true rfl)) (fun H5 e5 => ev_indexF (K := K) (y := .bl true) i (ev_var rfl) (e5 m _ h4) ev_c rfl rfl ?_ ?_) fun q H5 hq e5 => rv_ixL (sq_of hq) ?_) fun H5 e5 => k _ (e3.trans (e4.trans e5))
      · rcases ci with rfl | rfl | rfl | rfl <;> exact ⟨_, rfl, rfl⟩
      · intro j z hj hz
        have cj : j = 0 ∨ j = 1 ∨ j = 2 ∨ j = 3 := by omega
        rcases ci with rfl | rfl | rfl | rfl <;> rcases cj with rfl | rfl | rfl | rfl <;> first | omega | (cases hz; rfl)
      · rcases ci with rfl | rfl | rfl | rfl <;> rfl
end


local macro_rules | `(tactic| walk_at "call") => `(tactic| (with_reducible exact sv_whole))

/-! ### _law_told -/
def wordO : Option Nat → Str
  | none => "none"
  | some i => erW i
inductive Asked (K : PySem.W.Frag) (H : Hp) : Int → V → V → V → Option Nat → Prop
  | w0 (v y z : V) (o : Option (List PyData)) (h : Th K H v o) : Asked K H 0 v y z (dS o)
  | w1 (v z : V) (o : Option (List PyData)) (x : Int) (h : Th K H v o) : Asked K H 1 v (.int x) z (dG o x)
  | w2 (v z : V) (o : Option (List PyData)) (x : Int) (h : Th K H v o) : Asked K H 2 v (.int x) z (dG o x)
  | w3 (v : V) (o : Option (List PyData)) (x y : Int) (h : Th K H v o) : Asked K H 3 v (.int x) (.int y) (dG o x)
  | w4 (v : V) (o : Option (List PyData)) (x y : Int) (h : Th K H v o) : Asked K H 4 v (.int x) (.int y) (dM o x y)
  | w5 (v y z : V) (o : Option (List PyData)) (h : Th K H v o) : Asked K H 5 v y z (dS o)
  | w6 (v u z : V) (o t : Option (List PyData)) (h : Th K H v o) (h2 : Th K H u t) : Asked K H 6 v u z (dR o t)
  | w7 (v y z : V) (o : Option (List PyData)) (h : Th K H v o) : Asked K H 7 v y z (dS o)
  | w8 (v y z : V) (o : Option (List PyData)) (h : Th K H v o) : Asked K H 8 v y z (dN o)
  | w9b (v y z : V) (o : Option (List (Option (List PyData)))) (h : Tt K H v o) (hb : tabsB o = false) : Asked K H 9 v y z (some 3)
  | w9g (y z : V) (a : Addr) (ws : List V) (rs : List (List Nat)) (h : List Nat) (ha : H a = some (.lst ws)) (ht : TL H ws (rs.map nv)) (R : Rings h rs) (o : Ord h) : Asked K H 9 (.ref a) y z none
theorem Asked.lt {K : PySem.W.Frag} {H : Hp} {w : Int} {a b c : V} {d : Option Nat} (h : Asked K H w a b c d) : ∀ i, d = some i → i < 4 := by
  intro i hi
  cases h <;> first | unfold dS at hi | unfold dG at hi | unfold dM at hi | unfold dR at hi | unfold dN at hi | skip
  all_goals repeat (split at hi)
  all_goals first | (cases hi; done) | (have := Option.some.inj hi; omega)
/-- tables of guests stand for tables -/
theorem tl_tc {K : PySem.W.Frag} {H : Hp} : ∀ {ws : List V} {rs : List (List Nat)}, TL H ws (rs.map nv) → (∀ r ∈ rs, r.length ≤ 60) → Paired (Tc K H) ws (rs.map fun r => some ((iz r).map PyData.int))
  | [], [], _, _ => .nil
  | _ :: _, r :: l, .cons ⟨b, e, h⟩ t, hl => by
    subst e
    refine .cons (.tup h ?_ (by have := hl r (by simp); simp [iz]; omega)) (tl_tc t fun x hx => hl x (by simp [hx]))
    have : ∀ r : List Nat, Paired (Ti K H) (nv r) ((iz r).map PyData.int) := fun r => by
      induction r with
      | nil => exact .nil
      | cons x r ih => exact .cons (.int _) ih
    exact this r
def sp_law_told (K : PySem.W.Frag) : Sp := fun vs H Q _ => ∃ (w : Int) (a b c : V) (d : Option Nat), vs = [.int w, a, b, c] ∧ Asked K H w a b c d ∧ RetV (.str (wordO d)) H Q
theorem sv_told {K : PySem.W.Frag} {H : Hp} {w : Int} {a b c : V} {d : Option Nat} (h : ∀ H1, Ex H H1 → Asked K H1 w a b c d) : SpV (sp_law_told K) ([.int w, a, b, c] ++ []) H (.str (wordO d)) := fun H1 e Q q E => ⟨w, a, b, c, d, rfl, h H1 e, q⟩
theorem sv_toldI {K : PySem.W.Frag} {H : Hp} {w : Int} {a b c : V} {d : Option Nat} {z : Str} (h : ∀ H1, Ex H H1 → Asked K H1 w a b c d) (e : wordO d = z) : SpV (sp_law_told K) ([.int w, a, b, c] ++ []) H (.str z) := by
  subst e
  exact sv_told h
theorem many {h : List Nat} {rs : List (List Nat)} (R : Rings h rs) : rs.length ≤ h.length := by
  have : ∀ l : List (List Nat), (∀ r ∈ l, 0 < r.length) → l.length ≤ l.flatten.length := fun l => by
    induction l with
    | nil => intro _; simp
    | cons r l ih =>
      intro hl
      have := ih fun x hx => hl x (by simp [hx])
      have := hl r (by simp)
      rw [List.flatten_cons, List.length_append, List.length_cons]
      omega
  have t := this rs fun r hr => (R.rg r hr).ne
  have hfl : rs.flatten.length = h.length := by rw [R.all.length_eq, List.length_range]
  omega
section
variable {P : Program} {w : World} {K : PySem.W.Frag} {mg : Str → Option Value} {base : Heap}
theorem dS_no (T : Tx K mg) {o : Option (List PyData)} (h : judge o = false) : (dS o).map (erA T) = some T.cl_InvalidSeating := by
  unfold dS
  rw [if_neg (by simp [h])]
  rfl
theorem dS_yes (T : Tx K mg) {o : Option (List PyData)} (h : judge o = true) : (dS o).map (erA T) = none := by
  unfold dS
  rw [if_pos h]
  rfl
theorem ok_law_told (T : Tx K mg) : FnOk P w K mg base CX0 7 T.f_law_told T.d_law_told ["way", "one", "two", "three"] (sp_law_told K) := by
  refine T.F_law_told.ok sc_law_told (fun vs H Q E h => ?_) (fun cdv A outer s H vs Q E hr h => ?_)
  · obtain ⟨w, a, b, c, d, rfl, _⟩ := h
    rfl
  · obtain ⟨w, a, b, c, d, rfl, hA, k⟩ := h
    refine ⟨_, (pss_cons (L2N.ps_try_as (i := 4) (ts := fun a cls d => tRet (tCallP (sp_law_word T) a cls d (tCons (tVar 4) tNil))) rfl rfl sc_law_told.nd rfl rfl ⟨rfl, by decide, .inl T.gc_HallError⟩ Kit.takes0N (fun W pn xe tk _ => (pss_one (ps_if (pt_cmpR op_eq (pv 0) pe_int (nomark _)) (pss_one (ps_expr (pe_callS (ok_tables_of T) (hr.mono (by decide)) (by rfl) T.g_tables_of T.F_tables_of.kp T.b_tables_of (fun σ => L2N.passAt tk σ) (pa_cons (pv 1) pa_nil)))) (pss_one (ps_if (pt_cmpR op_eq (pv 0) pe_int (nomark _)) (pss_one (ps_expr (pe_callS (ok_table_from T) (hr.mono (by decide)) (by rfl) T.g_table_from T.F_table_from.kp T.b_table_from (fun σ => L2N.passAt tk σ) (pa_cons (pv 1) (pa_cons (pv 2) pa_nil))))) (pss_one (ps_if (pt_cmpR op_eq (pv 0) pe_int (nomark _)) (pss_one (ps_expr (pe_callS (ok_right_of T) (hr.mono (by decide)) (by rfl) T.g_right_of T.F_right_of.kp T.b_right_of (fun σ => L2N.passAt tk σ) (pa_cons (pv 1) (pa_cons (pv 2) pa_nil))))) (pss_one (ps_if (pt_cmpR op_eq (pv 0) pe_int (nomark _)) (pss_one (ps_expr (pe_callS (ok_steps_left T) (hr.mono (by decide)) (by rfl) T.g_steps_left T.F_steps_left.kp T.b_steps_left (fun σ => L2N.passAt tk σ) (pa_cons (pv 1) (pa_cons (pv 2) (pa_cons (pv 3) pa_nil)))))) (pss_one (ps_if (pt_cmpR op_eq (pv 0) pe_int (nomark _)) (pss_one (ps_expr (pe_callS (ok_are_together T) (hr.mono (by decide)) (by rfl) T.g_are_together T.F_are_together.kp T.b_are_together (fun σ => L2N.passAt tk σ) (pa_cons (pv 1) (pa_cons (pv 2) (pa_cons (pv 3) pa_nil)))))) (pss_one (ps_if (pt_cmpR op_eq (pv 0) pe_int (nomark _)) (pss_one (ps_expr (pe_callS (ok_mirrored T) (hr.mono (by decide)) (by rfl) T.g_mirrored T.F_mirrored.kp T.b_mirrored (fun σ => L2N.passAt tk σ) (pa_cons (pv 1) pa_nil)))) (pss_one (ps_if (pt_cmpR op_eq (pv 0) pe_int (nomark _)) (pss_one (ps_expr (pe_callS (ok_renamed T) (hr.mono (by decide)) (by rfl) T.g_renamed T.F_renamed.kp T.b_renamed (fun σ => L2N.passAt tk σ) (pa_cons (pv 1) (pa_cons (pv 2) pa_nil))))) (pss_one (ps_if (pt_cmpR op_eq (pv 0) pe_int (nomark _)) (pss_one (ps_expr (pe_callS (ok_record_list T) (hr.mono (by decide)) (by rfl) T.g_record_list T.F_record_list.kp T.b_record_list (fun σ => L2N.passAt tk σ) (pa_cons (pv 1) pa_nil)))) (pss_one (ps_if (pt_cmpR op_eq (pv 0) pe_int (nomark _)) (pss_one (ps_expr (pe_callS (ok_seating_of_records T) (hr.mono (by decide)) (by rfl) T.g_seating_of_records T.F_seating_of_records.kp T.b_seating_of_records (fun σ => L2N.passAt tk σ) (pa_cons (pv 1) pa_nil)))) (pss_one (ps_expr (pe_callS (ok_seating_of T) (hr.mono (by decide)) (by rfl) T.g_seating_of T.F_seating_of.kp T.b_seating_of (fun σ => L2N.passAt tk σ) (pa_cons (pv 1) pa_nil))))))))))))))))))))))) (fun a oe cls d pn hz hf => (pss_one (ps_ret (by exact (Kit.pe_callP (p := (a, oe)) (ok_law_word T) (Kit.roomS (hr.mono (by decide))) (Kit.hot_suite hz hf) hz.zc List.mem_cons_self (by rfl) T.g_law_word T.F_law_word.kp T.b_law_word (pa_cons (pv 4) pa_nil)))))))
      (pss_one (ps_ret pe_str))), ?_⟩
    refine unseq ?_
    have fin : ∀ (d : Option Nat), (∀ i, d = some i → i < 4) → RetV (.str (wordO d)) H Q → ∀ (C : Addr) (H1 : Hp), d.map (erA T) = some C → Ex H H1 → ∀ (s0 s1 s2 s3 : V) (D : Ends), D.rt = Q →
        wAs K (.ref T.cl_HallError) 4 (fun a cls d => tRet (tCallP (sp_law_word T) a cls d (tCons (tVar 4) tNil))) (fun _ _ _ _ => False) D (.ref C) none [some s0, some s1, some s2, some s3, none] H1 := by
      intro d hd k C H1 hC e1 s0 s1 s2 s3 D hD
      cases d with
      | none => cases hC
      | some i =>
        cases hC
        obtain ⟨_, hx, _⟩ := er_is T (hd i rfl)
        refine ⟨true, hx, fun _ e he => ⟨_, rfl, i, hd i rfl, rfl, rfl, rfl, fun H2 e2 => ?_⟩, fun z => nomatch z⟩
        show D.rt _ _
        rw [hD]
        exact k _ (e1.trans e2)
    have non : ∀ (d : Option Nat), d.map (erA T) = none → RetV (.str (wordO d)) H Q → RetV (.str "none") H Q := fun d hd k => by
      cases d with
      | none => exact k
      | some i => cases hd
    have hlt := hA.lt
    cases hA with
    | w0 v y z o hv =>
      refine s_if (b := true) (et_is (et_test (ev_op (ev_var rfl) ev_c (rv_eq rfl))) (by decide +kernel)) (fun _ H10 e10 => ?_) (fun z => Bool.noConfusion z)
      have ee := e10
      exact s_chkS (due := (dS o).map (erA T)) (ea_cons (ev_var rfl) ea_nil) (fun H2 e2 Q E q => ⟨_, o, rfl, (hv.ex ee).ex e2, fun hj H3 e3 => q.yes _ (dS_no T hj) _ e3, fun a h rs p ws H3 hj _ _ _ _ _ _ e3 _ _ => q.no (dS_yes T hj) _ _ e3⟩) (fun hd H2 e2 => by dsimp only; exact s_ret ev_c fun H3 e3 => non _ hd k _ (ee.trans (e2.trans e3))) fun C hC H2 e2 => fin _ hlt k C H2 hC (ee.trans e2) _ _ _ _ _ rfl
    | w1 v z o x hv =>
      refine s_if (b := false) (et_is (et_test (ev_op (ev_var rfl) ev_c (rv_eq rfl))) (by decide +kernel)) (fun z => Bool.noConfusion z) fun _ H10 e10 => ?_
      refine s_if (b := true) (et_is (et_test (ev_op (ev_var rfl) ev_c (rv_eq rfl))) (by decide +kernel)) (fun _ H11 e11 => ?_) (fun z => Bool.noConfusion z)
      have ee := e10.trans (e11)
      exact s_chkS (due := (dG o x).map (erA T)) (ea_cons (ev_var rfl) (ea_cons (ev_var rfl) ea_nil)) (fun H2 e2 Q E q => ⟨_, o, x, rfl, (hv.ex ee).ex e2, q⟩) (fun hd H2 e2 => by dsimp only; exact s_ret ev_c fun H3 e3 => non _ hd k _ (ee.trans (e2.trans e3))) fun C hC H2 e2 => fin _ hlt k C H2 hC (ee.trans e2) _ _ _ _ _ rfl
    | w2 v z o x hv =>
      refine s_if (b := false) (et_is (et_test (ev_op (ev_var rfl) ev_c (rv_eq rfl))) (by decide +kernel)) (fun z => Bool.noConfusion z) fun _ H10 e10 => ?_
      refine s_if (b := false) (et_is (et_test (ev_op (ev_var rfl) ev_c (rv_eq rfl))) (by decide +kernel)) (fun z => Bool.noConfusion z) fun _ H11 e11 => ?_
      refine s_if (b := true) (et_is (et_test (ev_op (ev_var rfl) ev_c (rv_eq rfl))) (by decide +kernel)) (fun _ H12 e12 => ?_) (fun z => Bool.noConfusion z)
      have ee := e10.trans (e11.trans (e12))
      exact s_chkS (due := (dG o x).map (erA T)) (ea_cons (ev_var rfl) (ea_cons (ev_var rfl) ea_nil)) (fun H2 e2 Q E q => ⟨_, o, x, rfl, (hv.ex ee).ex e2, q⟩) (fun hd H2 e2 => by dsimp only; exact s_ret ev_c fun H3 e3 => non _ hd k _ (ee.trans (e2.trans e3))) fun C hC H2 e2 => fin _ hlt k C H2 hC (ee.trans e2) _ _ _ _ _ rfl
    | w3 v o x y hv =>
      refine s_if (b := false) (et_is (et_test (ev_op (ev_var rfl) ev_c (rv_eq rfl))) (by decide +kernel)) (fun z => Bool.noConfusion z) fun _ H10 e10 => ?_
      refine s_if (b := false) (et_is (et_test (ev_op (ev_var rfl) ev_c (rv_eq rfl))) (by decide +kernel)) (fun z => Bool.noConfusion z) fun _ H11 e11 => ?_
      refine s_if (b := false) (et_is (et_test (ev_op (ev_var rfl) ev_c (rv_eq rfl))) (by decide +kernel)) (fun z => Bool.noConfusion z) fun _ H12 e12 => ?_
      refine s_if (b := true) (et_is (et_test (ev_op (ev_var rfl) ev_c (rv_eq rfl))) (by decide +kernel)) (fun _ H13 e13 => ?_) (fun z => Bool.noConfusion z)
      have ee := e10.trans (e11.trans (e12.trans (e13)))
      exact s_chkS (due := (dG o x).map (erA T)) (ea_cons (ev_var rfl) (ea_cons (ev_var rfl) (ea_cons (ev_var rfl) ea_nil))) (fun H2 e2 Q E q => ⟨_, o, x, y, rfl, (hv.ex ee).ex e2, q⟩) (fun hd H2 e2 => by dsimp only; exact s_ret ev_c fun H3 e3 => non _ hd k _ (ee.trans (e2.trans e3))) fun C hC H2 e2 => fin _ hlt k C H2 hC (ee.trans e2) _ _ _ _ _ rfl
    | w4 v o x y hv =>
      refine s_if (b := false) (et_is (et_test (ev_op (ev_var rfl) ev_c (rv_eq rfl))) (by decide +kernel)) (fun z => Bool.noConfusion z) fun _ H10 e10 => ?_
      refine s_if (b := false) (et_is (et_test (ev_op (ev_var rfl) ev_c (rv_eq rfl))) (by decide +kernel)) (fun z => Bool.noConfusion z) fun _ H11 e11 => ?_
      refine s_if (b := false) (et_is (et_test (ev_op (ev_var rfl) ev_c (rv_eq rfl))) (by decide +kernel)) (fun z => Bool.noConfusion z) fun _ H12 e12 => ?_
      refine s_if (b := false) (et_is (et_test (ev_op (ev_var rfl) ev_c (rv_eq rfl))) (by decide +kernel)) (fun z => Bool.noConfusion z) fun _ H13 e13 => ?_
      refine s_if (b := true) (et_is (et_test (ev_op (ev_var rfl) ev_c (rv_eq rfl))) (by decide +kernel)) (fun _ H14 e14 => ?_) (fun z => Bool.noConfusion z)
      have ee := e10.trans (e11.trans (e12.trans (e13.trans (e14))))
      exact s_chkS (due := (dM o x y).map (erA T)) (ea_cons (ev_var rfl) (ea_cons (ev_var rfl) (ea_cons (ev_var rfl) ea_nil))) (fun H2 e2 Q E q => ⟨_, o, x, y, rfl, (hv.ex ee).ex e2, q⟩) (fun hd H2 e2 => by dsimp only; exact s_ret ev_c fun H3 e3 => non _ hd k _ (ee.trans (e2.trans e3))) fun C hC H2 e2 => fin _ hlt k C H2 hC (ee.trans e2) _ _ _ _ _ rfl
    | w5 v y z o hv =>
      refine s_if (b := false) (et_is (et_test (ev_op (ev_var rfl) ev_c (rv_eq rfl))) (by decide +kernel)) (fun z => Bool.noConfusion z) fun _ H10 e10 => ?_
      refine s_if (b := false) (et_is (et_test (ev_op (ev_var rfl) ev_c (rv_eq rfl))) (by decide +kernel)) (fun z => Bool.noConfusion z) fun _ H11 e11 => ?_
      refine s_if (b := false) (et_is (et_test (ev_op (ev_var rfl) ev_c (rv_eq rfl))) (by decide +kernel)) (fun z => Bool.noConfusion z) fun _ H12 e12 => ?_
      refine s_if (b := false) (et_is (et_test (ev_op (ev_var rfl) ev_c (rv_eq rfl))) (by decide +kernel)) (fun z => Bool.noConfusion z) fun _ H13 e13 => ?_
      refine s_if (b := false) (et_is (et_test (ev_op (ev_var rfl) ev_c (rv_eq rfl))) (by decide +kernel)) (fun z => Bool.noConfusion z) fun _ H14 e14 => ?_
      refine s_if (b := true) (et_is (et_test (ev_op (ev_var rfl) ev_c (rv_eq rfl))) (by decide +kernel)) (fun _ H15 e15 => ?_) (fun z => Bool.noConfusion z)
      have ee := e10.trans (e11.trans (e12.trans (e13.trans (e14.trans (e15)))))
      exact s_chkS (due := (dS o).map (erA T)) (ea_cons (ev_var rfl) ea_nil) (fun H2 e2 Q E q => ⟨_, o, rfl, (hv.ex ee).ex e2, q⟩) (fun hd H2 e2 => by dsimp only; exact s_ret ev_c fun H3 e3 => non _ hd k _ (ee.trans (e2.trans e3))) fun C hC H2 e2 => fin _ hlt k C H2 hC (ee.trans e2) _ _ _ _ _ rfl
    | w6 v u z o t hv hu =>
      refine s_if (b := false) (et_is (et_test (ev_op (ev_var rfl) ev_c (rv_eq rfl))) (by decide +kernel)) (fun z => Bool.noConfusion z) fun _ H10 e10 => ?_
      refine s_if (b := false) (et_is (et_test (ev_op (ev_var rfl) ev_c (rv_eq rfl))) (by decide +kernel)) (fun z => Bool.noConfusion z) fun _ H11 e11 => ?_
      refine s_if (b := false) (et_is (et_test (ev_op (ev_var rfl) ev_c (rv_eq rfl))) (by decide +kernel)) (fun z => Bool.noConfusion z) fun _ H12 e12 => ?_
      refine s_if (b := false) (et_is (et_test (ev_op (ev_var rfl) ev_c (rv_eq rfl))) (by decide +kernel)) (fun z => Bool.noConfusion z) fun _ H13 e13 => ?_
      refine s_if (b := false) (et_is (et_test (ev_op (ev_var rfl) ev_c (rv_eq rfl))) (by decide +kernel)) (fun z => Bool.noConfusion z) fun _ H14 e14 => ?_
      refine s_if (b := false) (et_is (et_test (ev_op (ev_var rfl) ev_c (rv_eq rfl))) (by decide +kernel)) (fun z => Bool.noConfusion z) fun _ H15 e15 => ?_
      refine s_if (b := true) (et_is (et_test (ev_op (ev_var rfl) ev_c (rv_eq rfl))) (by decide +kernel)) (fun _ H16 e16 => ?_) (fun z => Bool.noConfusion z)
      have ee := e10.trans (e11.trans (e12.trans (e13.trans (e14.trans (e15.trans (e16))))))
      exact s_chkS (due := (dR o t).map (erA T)) (ea_cons (ev_var rfl) (ea_cons (ev_var rfl) ea_nil)) (fun H2 e2 Q E q => ⟨_, _, o, t, rfl, (hv.ex ee).ex e2, (hu.ex ee).ex e2, q⟩) (fun hd H2 e2 => by dsimp only; exact s_ret ev_c fun H3 e3 => non _ hd k _ (ee.trans (e2.trans e3))) fun C hC H2 e2 => fin _ hlt k C H2 hC (ee.trans e2) _ _ _ _ _ rfl
    | w7 v y z o hv =>
      refine s_if (b := false) (et_is (et_test (ev_op (ev_var rfl) ev_c (rv_eq rfl))) (by decide +kernel)) (fun z => Bool.noConfusion z) fun _ H10 e10 => ?_
      refine s_if (b := false) (et_is (et_test (ev_op (ev_var rfl) ev_c (rv_eq rfl))) (by decide +kernel)) (fun z => Bool.noConfusion z) fun _ H11 e11 => ?_
      refine s_if (b := false) (et_is (et_test (ev_op (ev_var rfl) ev_c (rv_eq rfl))) (by decide +kernel)) (fun z => Bool.noConfusion z) fun _ H12 e12 => ?_
      refine s_if (b := false) (et_is (et_test (ev_op (ev_var rfl) ev_c (rv_eq rfl))) (by decide +kernel)) (fun z => Bool.noConfusion z) fun _ H13 e13 => ?_
      refine s_if (b := false) (et_is (et_test (ev_op (ev_var rfl) ev_c (rv_eq rfl))) (by decide +kernel)) (fun z => Bool.noConfusion z) fun _ H14 e14 => ?_
      refine s_if (b := false) (et_is (et_test (ev_op (ev_var rfl) ev_c (rv_eq rfl))) (by decide +kernel)) (fun z => Bool.noConfusion z) fun _ H15 e15 => ?_
      refine s_if (b := false) (et_is (et_test (ev_op (ev_var rfl) ev_c (rv_eq rfl))) (by decide +kernel)) (fun z => Bool.noConfusion z) fun _ H16 e16 => ?_
      refine s_if (b := true) (et_is (et_test (ev_op (ev_var rfl) ev_c (rv_eq rfl))) (by decide +kernel)) (fun _ H17 e17 => ?_) (fun z => Bool.noConfusion z)
      have ee := e10.trans (e11.trans (e12.trans (e13.trans (e14.trans (e15.trans (e16.trans (e17)))))))
      exact s_chkS (due := (dS o).map (erA T)) (ea_cons (ev_var rfl) ea_nil) (fun H2 e2 Q E q => ⟨_, o, rfl, (hv.ex ee).ex e2, q⟩) (fun hd H2 e2 => by dsimp only; exact s_ret ev_c fun H3 e3 => non _ hd k _ (ee.trans (e2.trans e3))) fun C hC H2 e2 => fin _ hlt k C H2 hC (ee.trans e2) _ _ _ _ _ rfl
    | w8 v y z o hv =>
      refine s_if (b := false) (et_is (et_test (ev_op (ev_var rfl) ev_c (rv_eq rfl))) (by decide +kernel)) (fun z => Bool.noConfusion z) fun _ H10 e10 => ?_
      refine s_if (b := false) (et_is (et_test (ev_op (ev_var rfl) ev_c (rv_eq rfl))) (by decide +kernel)) (fun z => Bool.noConfusion z) fun _ H11 e11 => ?_
      refine s_if (b := false) (et_is (et_test (ev_op (ev_var rfl) ev_c (rv_eq rfl))) (by decide +kernel)) (fun z => Bool.noConfusion z) fun _ H12 e12 => ?_
      refine s_if (b := false) (et_is (et_test (ev_op (ev_var rfl) ev_c (rv_eq rfl))) (by decide +kernel)) (fun z => Bool.noConfusion z) fun _ H13 e13 => ?_
      refine s_if (b := false) (et_is (et_test (ev_op (ev_var rfl) ev_c (rv_eq rfl))) (by decide +kernel)) (fun z => Bool.noConfusion z) fun _ H14 e14 => ?_
      refine s_if (b := false) (et_is (et_test (ev_op (ev_var rfl) ev_c (rv_eq rfl))) (by decide +kernel)) (fun z => Bool.noConfusion z) fun _ H15 e15 => ?_
      refine s_if (b := false) (et_is (et_test (ev_op (ev_var rfl) ev_c (rv_eq rfl))) (by decide +kernel)) (fun z => Bool.noConfusion z) fun _ H16 e16 => ?_
      refine s_if (b := false) (et_is (et_test (ev_op (ev_var rfl) ev_c (rv_eq rfl))) (by decide +kernel)) (fun z => Bool.noConfusion z) fun _ H17 e17 => ?_
      refine s_if (b := true) (et_is (et_test (ev_op (ev_var rfl) ev_c (rv_eq rfl))) (by decide +kernel)) (fun _ H18 e18 => ?_) (fun z => Bool.noConfusion z)
      have ee := e10.trans (e11.trans (e12.trans (e13.trans (e14.trans (e15.trans (e16.trans (e17.trans (e18))))))))
      exact s_chkS (due := (dN o).map (erA T)) (ea_cons (ev_var rfl) ea_nil) (fun H2 e2 Q E q => ⟨_, o, rfl, (hv.ex ee).ex e2, q⟩) (fun hd H2 e2 => by dsimp only; exact s_ret ev_c fun H3 e3 => non _ hd k _ (ee.trans (e2.trans e3))) fun C hC H2 e2 => fin _ hlt k C H2 hC (ee.trans e2) _ _ _ _ _ rfl
    | w9b v y z o hv hb =>
      refine s_if (b := false) (et_is (et_test (ev_op (ev_var rfl) ev_c (rv_eq rfl))) (by decide +kernel)) (fun z => Bool.noConfusion z) fun _ H10 e10 => ?_
      refine s_if (b := false) (et_is (et_test (ev_op (ev_var rfl) ev_c (rv_eq rfl))) (by decide +kernel)) (fun z => Bool.noConfusion z) fun _ H11 e11 => ?_
      refine s_if (b := false) (et_is (et_test (ev_op (ev_var rfl) ev_c (rv_eq rfl))) (by decide +kernel)) (fun z => Bool.noConfusion z) fun _ H12 e12 => ?_
      refine s_if (b := false) (et_is (et_test (ev_op (ev_var rfl) ev_c (rv_eq rfl))) (by decide +kernel)) (fun z => Bool.noConfusion z) fun _ H13 e13 => ?_
      refine s_if (b := false) (et_is (et_test (ev_op (ev_var rfl) ev_c (rv_eq rfl))) (by decide +kernel)) (fun z => Bool.noConfusion z) fun _ H14 e14 => ?_
      refine s_if (b := false) (et_is (et_test (ev_op (ev_var rfl) ev_c (rv_eq rfl))) (by decide +kernel)) (fun z => Bool.noConfusion z) fun _ H15 e15 => ?_
      refine s_if (b := false) (et_is (et_test (ev_op (ev_var rfl) ev_c (rv_eq rfl))) (by decide +kernel)) (fun z => Bool.noConfusion z) fun _ H16 e16 => ?_
      refine s_if (b := false) (et_is (et_test (ev_op (ev_var rfl) ev_c (rv_eq rfl))) (by decide +kernel)) (fun z => Bool.noConfusion z) fun _ H17 e17 => ?_
      refine s_if (b := false) (et_is (et_test (ev_op (ev_var rfl) ev_c (rv_eq rfl))) (by decide +kernel)) (fun z => Bool.noConfusion z) fun _ H18 e18 => ?_
      have ee := e10.trans (e11.trans (e12.trans (e13.trans (e14.trans (e15.trans (e16.trans (e17.trans (e18))))))))
      exact s_chkS (due := ((some 3)).map (erA T)) (ea_cons (ev_var rfl) ea_nil) (fun H2 e2 Q E q => ⟨_, o, rfl, (hv.ex ee).ex e2, fun _ H3 e3 => q.yes _ rfl _ e3, fun z => by rw [hb] at z; exact Bool.noConfusion z⟩) (fun hd H2 e2 => by dsimp only; exact s_ret ev_c fun H3 e3 => non _ hd k _ (ee.trans (e2.trans e3))) fun C hC H2 e2 => fin _ hlt k C H2 hC (ee.trans e2) _ _ _ _ _ rfl
    | w9g y z a ws rs h ha ht R o =>
      refine s_if (b := false) (et_is (et_test (ev_op (ev_var rfl) ev_c (rv_eq rfl))) (by decide +kernel)) (fun z => Bool.noConfusion z) fun _ H10 e10 => ?_
      refine s_if (b := false) (et_is (et_test (ev_op (ev_var rfl) ev_c (rv_eq rfl))) (by decide +kernel)) (fun z => Bool.noConfusion z) fun _ H11 e11 => ?_
      refine s_if (b := false) (et_is (et_test (ev_op (ev_var rfl) ev_c (rv_eq rfl))) (by decide +kernel)) (fun z => Bool.noConfusion z) fun _ H12 e12 => ?_
      refine s_if (b := false) (et_is (et_test (ev_op (ev_var rfl) ev_c (rv_eq rfl))) (by decide +kernel)) (fun z => Bool.noConfusion z) fun _ H13 e13 => ?_
      refine s_if (b := false) (et_is (et_test (ev_op (ev_var rfl) ev_c (rv_eq rfl))) (by decide +kernel)) (fun z => Bool.noConfusion z) fun _ H14 e14 => ?_
      refine s_if (b := false) (et_is (et_test (ev_op (ev_var rfl) ev_c (rv_eq rfl))) (by decide +kernel)) (fun z => Bool.noConfusion z) fun _ H15 e15 => ?_
      refine s_if (b := false) (et_is (et_test (ev_op (ev_var rfl) ev_c (rv_eq rfl))) (by decide +kernel)) (fun z => Bool.noConfusion z) fun _ H16 e16 => ?_
      refine s_if (b := false) (et_is (et_test (ev_op (ev_var rfl) ev_c (rv_eq rfl))) (by decide +kernel)) (fun z => Bool.noConfusion z) fun _ H17 e17 => ?_
      refine s_if (b := false) (et_is (et_test (ev_op (ev_var rfl) ev_c (rv_eq rfl))) (by decide +kernel)) (fun z => Bool.noConfusion z) fun _ H18 e18 => ?_
      have ee := e10.trans (e11.trans (e12.trans (e13.trans (e14.trans (e15.trans (e16.trans (e17.trans (e18))))))))
      exact s_chkS (due := ((none : Option Nat)).map (erA T)) (ea_cons (ev_var rfl) ea_nil) (fun H2 e2 Q E q => ⟨_, some (rs.map fun r => some ((iz r).map PyData.int)), rfl, .lst (e2 a _ (ee a _ ha)) (tl_tc ((ht.ex ee).ex e2) fun r hr => by
        have := (R.short hr)
        have := o.2.2
        omega) (by
        have : rs.length ≤ h.length := many R
        have := o.2.2
        rw [List.length_map]
        omega), fun z => by rw [tabs_good R o] at z; exact Bool.noConfusion z, fun _ => ⟨a, ws, rs, h, rfl, e2 a _ (ee a _ ha), (ht.ex ee).ex e2, R, o, fun x H3 e3 => q.no rfl _ _ e3⟩⟩) (fun hd H2 e2 => by dsimp only; exact s_ret ev_c fun H3 e3 => non _ hd k _ (ee.trans (e2.trans e3))) fun C hC H2 e2 => fin _ hlt k C H2 hC (ee.trans e2) _ _ _ _ _ rfl
end


local macro_rules | `(tactic| walk_at "call") => `(tactic| (with_reducible exact sv_whole))

/-! ### _law_is_row -/
theorem eqv_nilD (ds : List PyData) : PyData.eqv (.list ds) (.list []) = ds.isEmpty := by
  cases ds with
  | nil => decide
  | cons n l => rfl
theorem none_odd : ∀ ds : List PyData, (ds.filter fun d => !isI d).isEmpty = ds.all isI
  | [] => rfl
  | d :: r => by
    have ih := none_odd r
    cases hi : isI d
    · simp [List.filter_cons, hi]
    · rw [List.filter_cons, hi, List.all_cons, hi]
      exact ih
theorem ita_given {K : PySem.W.Frag} {H : Hp} {xs : List V} {ds : List PyData} (hd : ItAll K H xs ds) (f : PyData → Bool) : ItAll K H (given xs.length (fun i => f (ds.getD i .none)) (fun i => xs.getD i .non)) (ds.filter f) := by
  have hl : xs.length = ds.length := hd.len
  have e : ds.filter f = ((List.range ds.length).filter fun i => f (ds.getD i .none)).map fun i => ds.getD i .none := by
    conv => lhs; rw [range_get ds .none, List.filter_map]
    rfl
  unfold given ItAll
  rw [e, hl]
  refine paired_map _ _ _ fun i hi => ?_
  have hi := List.mem_range.mp (List.mem_filter.mp hi).1
  have hix : i < xs.length := by omega
  obtain ⟨d, h1, h2⟩ := ita_get hd (List.getElem?_eq_getElem hix)
  rw [List.getD_eq_getElem?_getD, List.getElem?_eq_getElem hix, List.getD_eq_getElem?_getD, h1]
  exact h2
section
variable {P : Program} {w : World} {K : PySem.W.Frag} {mg : Str → Option Value} {base : Heap}
theorem ok_law_is_row (T : Tx K mg) : FnOk P w K mg base CX0 1 T.f_law_is_row T.d_law_is_row ["item"] (sp_any K) := by
  refine T.F_law_is_row.ok sc_law_is_row (fun vs H Q E h => ?_) (fun cdv A outer s H vs Q E hr h => ?_)
  · obtain ⟨v, o, rfl, _⟩ := h
    rfl
  · obtain ⟨v, o, rfl, hv, k⟩ := h
    refine ⟨_, (pss_cons (ps_if (PW.pt (pw_or (pt_not (pt_val (pe_callB call_isi (by rfl) T.m_isinstance (by decide +kernel) (pa_cons (pv 0) (pa_cons (pe_bltn (v := .ty "list") (by rfl) T.m_list (by decide +kernel) rfl) pa_nil))))) (pw_or1 (pt_not (pt_chain op_le op_le pe_int (pe_callB call_lenR (by rfl) T.m_len (by decide +kernel) (pa_cons (pv 0) pa_nil)) pe_int))))) (pss_one (ps_ret pe_bl)) pss_nil)
      (pss_cons (ps_if (pt_cmpR (op_neD hr.units) (pe_lc (own := [("one", 1)]) (g := (gName 1)) rfl sc_law_is_row.nd (pi_list (pv 0)) (blkOk_by (own := [("one", 1)]) (N := n_law_is_row) (sc := defScope s_law_is_row) (by decide +kernel)) (fun _ _ _ _ _ => (pg_name (i := 1) sc_law_is_row.nd rfl (Or.inl rfl))) (fun _ _ _ _ _ => (pts_one (PW.pt (pw_or (pt_val (pe_callB (id := "isinstance") (r := rIsi K) call_isi (by rfl) T.m_isinstance (by decide +kernel) (pa_cons (pv 1) (pa_cons (pe_bltn (v := .ty "bool") (by rfl) T.m_bool (by decide +kernel) rfl) pa_nil)))) (pw_or1 (pt_not (pt_val (pe_callB (id := "isinstance") (r := rIsi K) call_isi (by rfl) T.m_isinstance (by decide +kernel) (pa_cons (pv 1) (pa_cons (pe_bltn (v := .ty "int") (by rfl) T.m_int (by decide +kernel) rfl) pa_nil)))))))))) (fun _ _ _ _ _ => (pv 1))) (pe_lst pa_nil) (nomark _)) (pss_one (ps_ret pe_bl)) pss_nil)
      (pss_one (ps_ret (pe_cmpR (op_eqD hr.units) (pe_callB cr_sorted (by rfl) T.m_sorted (by decide +kernel) (pa_cons (pv 0) pa_nil)) (pe_listRg rfl (by rfl) T.m_list (prg_1 (by rfl) T.m_range (pe_callB call_lenR (by rfl) T.m_len (by decide +kernel) (pa_cons (pv 0) pa_nil)))) (nomark _)))))), ?_⟩
    cases o with
    | none =>
      refine q_when (b := true) (et_is (et_or (b := false) (et_not (et_B (ev_isList (ev_var rfl) hv))) fun z => Bool.noConfusion z) rfl) (fun _ H1 e1 => ?_) fun hb => Bool.noConfusion hb
      exact s_ret ev_c fun H2 e2 => k _ (e1.trans e2)
    | some ds =>
      have hv0 := hv
      cases hv with
      | @lst a xs _ ha hd hf =>
        have hl : xs.length = ds.length := hd.len
        refine q_when (b := !lenOk ds.length) (et_is (et_or (et_not (et_B (ev_isList (ev_var rfl) hv0))) fun _ => et_not (et_test (ev_chainI ev_c (ev_len (ev_var rfl) (sq_of ha)) ev_c))) (by rw [hl]; rfl)) (fun hb H1 e1 => ?_) fun hb H1 e1 => ?_
        · have hb : lenOk ds.length = false := by simpa using hb
          have ej : judge (some ds) = false := by
            unfold judge
            simp only
            rw [hb]
            rfl
          rw [ej] at k
          exact s_ret ev_c fun H2 e2 => k _ (e1.trans e2)
        · have hb : lenOk ds.length = true := by simpa using hb
          have hn : 1 ≤ ds.length ∧ ds.length ≤ 20 := by
            unfold lenOk at hb
            simp at hb
            omega
          have h1 := e1 a _ ha
          have odd : EvD K (tLc (iList K (tVar 0)) (gName 1) (tOr (tB (tCB (rIsi K) (tCons (tVar 1) (tCons (tC (.ty "bool")) tNil)))) (tNot (tB (tCB (rIsi K) (tCons (tVar 1) (tCons (tC (.ty "int")) tNil)))))) (tVar 1) [1]) (start n_law_is_row [.ref a]) H1 (.list (ds.filter fun d => !isI d)) := by
            have g := el_lcL (K := K) (te := tVar 1) (j := 1) (vs := [1]) (σ := start n_law_is_row [.ref a]) (H := H1) (t := tOr (tB (tCB (rIsi K) (tCons (tVar 1) (tCons (tC (.ty "bool")) tNil)))) (tNot (tB (tCB (rIsi K) (tCons (tVar 1) (tCons (tC (.ty "int")) tNil)))))) (fun i => !isI (ds.getD i .none)) (fun i => xs.getD i .non) (ev_var (i := 0) rfl) (sq_of h1) (by omega) (fun _ => rfl) (fun i x H2 e2 hx => ?_) (fun i x H2 e2 hx _ => ?_)
            · exact ed_ofL g (ita_given (hd.ex e1) fun d => !isI d).dp
            · obtain ⟨d, hd1, hd2⟩ := ita_get (hd.ex e1) hx
              have gd : ds.getD i .none = d := by rw [List.getD_eq_getElem?_getD, hd1] <;> rfl
              show EvT _ _ _ (!isI (ds.getD i .none))
              rw [gd]
              exact et_noInt (ev_var rfl) (hd2.ex e2)
            · have gx : xs.getD i .non = x := by rw [List.getD_eq_getElem?_getD, hx] <;> rfl
              show Ev _ _ _ (xs.getD i .non)
              rw [gx]
              exact ev_var rfl
          have fs : SeqAt.shaped (.list (ds.filter fun d => !isI d)) = true := (hf.sub fun x hx => (List.mem_filter.mp hx).1).shaped
          have em := none_odd ds
          refine q_when (b := !(ds.all isI)) (et_is (et_test (ev_neD odd (ed_lst eda_nil (by decide)) fs shaped_nil)) (by rw [eqv_nilD, em])) (fun hb2 H2 e2 => ?_) fun hb2 H2 e2 => ?_
          · have hb2 : ds.all isI = false := by simpa using hb2
            have ej : judge (some ds) = false := by
              unfold judge
              simp only
              rw [hb2, Bool.false_and, Bool.and_false]
            rw [ej] at k
            exact s_ret ev_c fun H3 e3 => k _ (e1.trans (e2.trans e3))
          · have hb2 : ds.all isI = true := by simpa using hb2
            have ex := ints_of hd hb2
            have il : (intsOf ds).length = ds.length := by simp [intsOf]
            have h2 := e2 a _ h1
            have sr : EvD K (tCB (rSorted K) (tCons (tVar 0) tNil)) (start n_law_is_row [.ref a]) H2 (.list ((sortI (intsOf ds)).map PyData.int)) :=
              ed_sorted (ns := intsOf ds) (ev_var rfl) (sq_of (by rw [← ex]; exact h2)) (by omega) (sortI_perm _) (sortI_sorted _)
            have rg : EvD K (tLstRg (tRg1 (tCB (rLenS K) (tCons (tVar 0) tNil)))) (start n_law_is_row [.ref a]) H2 (.list ((iz (List.range ds.length)).map PyData.int)) :=
              ed_ofL (xs := nv (List.range ds.length)) (by
                have g := el_rg1 (σ := start n_law_is_row [.ref a]) (ev_len (K := K) (ta := tVar 0) (ev_var (i := 0) (v := .ref a) rfl) (sq_of h2)) (RgOk.of_le (by decide) (by omega) (by decide) (by omega))
                rw [hl, range_iz] at g
                exact g) (dpa_ints _)
            have ej : judge (some ds) = sorts ds := by
              unfold judge
              simp only
              rw [hb, hb2, Bool.true_and, Bool.true_and]
            rw [ej] at k
            exact s_ret (ev_eqD sr rg (shaped_ints _) (shaped_ints _)) fun H3 e3 => k _ (e1.trans (e2.trans e3))
end

section
variable {K : PySem.W.Frag}
theorem hm_in {p a : Addr} {H : Hp} {o : HO} (ne : a ≠ p) (h : H a = some o) : Hm p H a = some o := by
  unfold Hm
  rw [if_neg ne]
  exact h
end

/-! ### _law_things -/
def Itm (K : PySem.W.Frag) (H : Hp) (v : V) : Prop := ∃ d, It K H v d ∧ d.canLay0 = true ∧ d.depth ≤ 5
theorem Itm.ex {K : PySem.W.Frag} {H H' : Hp} {v : V} (e : Ex H H') (h : Itm K H v) : Itm K H' v := h.imp fun d x => ⟨x.1.ex e, x.2⟩
theorem itm_int {K : PySem.W.Frag} {H : Hp} (i : Int) : Itm K H (.int i) := ⟨_, .int i, rfl, Nat.zero_le _⟩
theorem itm_bl {K : PySem.W.Frag} {H : Hp} (b : Bool) : Itm K H (.bl b) := ⟨_, .bl b, rfl, Nat.zero_le _⟩
theorem itm_non {K : PySem.W.Frag} {H : Hp} : Itm K H .non := ⟨_, .non, rfl, Nat.zero_le _⟩
theorem itm_str {K : PySem.W.Frag} {H : Hp} : Itm K H (.str (Str.ofString "0")) := ⟨_, .str _, by decide +kernel, Nat.zero_le _⟩
theorem itm_nv {K : PySem.W.Frag} {H : Hp} {r : List Nat} : ∀ v ∈ nv r, Itm K H v := fun v hv => by
  rw [nv_eq] at hv
  obtain ⟨x, _, rfl⟩ := List.mem_map.mp hv
  exact itm_int _
theorem itm_row {K : PySem.W.Frag} {H : Hp} {a : Addr} {r : List Nat} (ha : H a = some (.lst (nv r))) : Itm K H (.ref a) := ⟨_, .lst ha (dpa_nv r), canLay_ints _, by
  simp [PyData.depth, depth_ints]⟩
theorem itm_one {K : PySem.W.Frag} {H : Hp} {v : V} (h : Itm K H v) : ∀ x ∈ [v], Itm K H x := fun x hx => by
  rw [List.mem_singleton.mp hx]
  exact h
theorem itm_app {K : PySem.W.Frag} {H : Hp} {xs ys : List V} (h : ∀ v ∈ xs, Itm K H v) (h2 : ∀ v ∈ ys, Itm K H v) : ∀ v ∈ xs ++ ys, Itm K H v := fun v hv => (List.mem_append.mp hv).elim (h v) (h2 v)
theorem itm_cut {K : PySem.W.Frag} {H : Hp} {xs : List V} (h : ∀ v ∈ xs, Itm K H v) (lo hi : Option Int) : ∀ v ∈ cutV xs lo hi, Itm K H v := fun v hv => h v (by
  unfold cutV at hv
  exact List.mem_of_mem_drop (List.mem_of_mem_take hv))
theorem itm_two {K : PySem.W.Frag} {H : Hp} {v u : V} (h : Itm K H v) (h2 : Itm K H u) : ∀ x ∈ [v, u], Itm K H x := fun x hx => by
  rcases List.mem_cons.mp hx with e | hx
  · rw [e]
    exact h
  · rw [List.mem_singleton.mp hx]
    exact h2
theorem itm_rg {K : PySem.W.Frag} {H : Hp} (a b : Int) : ∀ v ∈ rgV a b, Itm K H v := fun v hv => by
  unfold rgV at hv
  obtain ⟨i, _, rfl⟩ := List.mem_map.mp hv
  exact itm_int _
theorem ita_all {K : PySem.W.Frag} {H : Hp} : ∀ {xs : List V}, (∀ v ∈ xs, Itm K H v) → ∃ ds, ItAll K H xs ds ∧ Fine ds
  | [], _ => ⟨[], .nil, fine_nil⟩
  | x :: r, h => by
    obtain ⟨ds, a, b⟩ := ita_all fun v hv => h v (List.mem_cons_of_mem _ hv)
    obtain ⟨d, c, e, f⟩ := h x List.mem_cons_self
    exact ⟨d :: ds, .cons c a, fine_cons e f b⟩
theorem at_paired {K : PySem.W.Frag} {H : Hp} : ∀ {ws : List V}, (∀ v ∈ ws, AT K H v) → ∃ os, Paired (Th K H) ws os
  | [], _ => ⟨[], .nil⟩
  | x :: r, h => by
    obtain ⟨os, a⟩ := at_paired fun v hv => h v (List.mem_cons_of_mem _ hv)
    obtain ⟨o, c⟩ := h x List.mem_cons_self
    exact ⟨o :: os, .cons c a⟩
theorem at_list {K : PySem.W.Frag} {H : Hp} {a : Addr} {xs : List V} (ha : H a = some (.lst xs)) (h : ∀ v ∈ xs, Itm K H v) : AT K H (.ref a) := by
  obtain ⟨ds, d, f⟩ := ita_all h
  exact ⟨_, .lst ha d f⟩
section
variable {K : PySem.W.Frag} {σ : L2.St} {H0 H H' : Hp} {p : Addr} {k k1 k2 : Nat} {te ta tb tc : TE} {t1 t2 t3 t4 t5 t6 : TE} {D : Ends} {tz : TS}
theorem th_I {xs : List V} (h : EvL te σ H xs) (hi : ∀ v ∈ xs, Itm K H v) : EvTh K te σ H := th_L h (ita_all hi)
theorem el_repO {a : Addr} {xs : List V} {n : Nat} (ha : Ev ta σ H (.ref a)) (h : H a = some (.lst xs)) (hb : Ev tb σ H (.int (n : Int))) (hn : n ≤ 50) (hx : xs.length ≤ 50) : EvL (tOp rRep ta tb) σ H (List.replicate n xs).flatten := fun H1 e Q q =>
  ha H1 e _ fun H2 e2 => hb H2 (e.trans e2) _ fun H3 e3 => ⟨a, (n : Int), xs, rfl, rfl, e3 a _ (e2 a _ (e a _ h)), by omega, by omega, sz_of (by
    rw [Int.toNat_natCast]
    exact Nat.le_trans (Nat.mul_le_mul hx hn) (by decide)), fun l hl => q l _ (fresh_back (e2.trans e3) hl) ((e2.trans e3).trans (Ex.new hl)) (by rw [upd_same, Int.toNat_natCast])⟩
theorem itm_rep {xs : List V} (h : ∀ v ∈ xs, Itm K H v) (n : Nat) : ∀ v ∈ (List.replicate n xs).flatten, Itm K H v := fun v hv => by
  obtain ⟨l, hl, hv⟩ := List.mem_flatten.mp hv
  rw [List.eq_of_mem_replicate hl] at hv
  exact h v hv
theorem pq_par3 {n i j l : Nat} {A B : V → Prop} {xs : List V} (h0 : H0 p = none) (h1 : EvP p k1 ta σ H0 (fun v _ => A v)) (h2 : EvP p k2 tb σ H0 (fun v _ => B v)) (h3 : EvL tc σ H0 xs) (e : Ex H0 H) (hp : Po p n H) (hn : n + (k1 + k2) ≤ 1000000000)
    (q : ∀ u v b H2 H3, A u → B v → b ≠ p → H2 b = none → Ex (Hm p H) H2 → Ex H2 H3 → H3 b = some (.lst xs) → Po p (n + (k1 + k2)) H3 → tz D (((σ.set i (some u)).set j (some v)).set l (some (.ref b))) H3) : tSeq (tPar3 i j l (tCons ta (tCons tb (tCons tc tNil)))) tz D σ H :=
  h1 n H e hp (by omega) _ fun u H1 au p1 e1 => h2 (n + k1) H1 (hm_next h0 e e1) p1 (by omega) _ fun v H2 bv p2 e2 => h3 H2 (hm_next h0 (hm_next h0 e e1) e2) _ fun b H3 hb e3 v3 =>
    ⟨u, v, .ref b, rfl, q u v b H2 H3 au bv (p2.ne hb) hb (hm_trans e1 e2) e3 v3 (by rw [← Nat.add_assoc]; exact p2.ex e3)⟩
/-- [n, -1, None, '0', [0], z][a draw] -/
theorem pq_odd {n i : Nat} {x1 x2 x6 : Int} (h0 : H0 p = none) (a1 : Ev t1 σ H0 (.int x1)) (a2 : Ev t2 σ H0 (.int x2)) (a3 : Ev t3 σ H0 .non) (a4 : Ev t4 σ H0 (.str (Str.ofString "0"))) (a5 : EvL t5 σ H0 (nv [0])) (a6 : Ev t6 σ H0 (.int x6))
    (hd : EvP p 1 tb σ H0 (fun v _ => ∃ r, v = .int r ∧ 0 ≤ r ∧ r < 6)) (e : Ex H0 H) (hp : Po p n H) (hn : n + 1 ≤ 1000000000) (q : ∀ v H2, ((∀ G, Itm K G v) ∨ ∃ l, v = .ref l ∧ H l = none ∧ l ≠ p ∧ H2 l = some (.lst (nv [0]))) → Po p (n + 1) H2 → Ex (Hm p H) H2 → tz D (σ.set i (some v)) H2) :
    tSeq (tAsg (tOp (rIxL K) (tLst (tCons t1 (tCons t2 (tCons t3 (tCons t4 (tCons t5 (tCons t6 tNil))))))) tb) (gName i)) tz D σ H :=
  a1 H e _ fun H1 e1 => a2 H1 (e.trans e1) _ fun H2 e2 => a3 H2 ((e.trans e1).trans e2) _ fun H3 e3 => a4 H3 (((e.trans e1).trans e2).trans e3) _ fun H4 e4 => a5 H4 ((((e.trans e1).trans e2).trans e3).trans e4) _ fun l5 H5 hl5 e5 h5 =>
    a6 H5 (((((e.trans e1).trans e2).trans e3).trans e4).trans e5) _ fun H6 e6 => ⟨sz_of (Nat.le_of_ble_eq_true rfl), fun l hl => by
      have e16 := e1.trans (e2.trans (e3.trans (e4.trans (e5.trans e6))))
      have p6 : Po p n (upd H6 l (.lst [V.int x1, V.int x2, V.non, V.str (Str.ofString "0"), V.ref l5, V.int x6])) := (hp.ex e16).ex (Ex.new hl)
      have lp := (hp.ex e16).ne hl
      have l5p := ((hp.ex e1).ex (e2.trans (e3.trans e4))).ne hl5
      refine hd n _ ((e.trans e16).trans (Ex.new hl)) p6 hn _ fun v H7 hv p7 e7 => ?_
      obtain ⟨r, rfl, r0, r1⟩ := hv
      have h7 := hm_at e7 lp upd_same
      have h57 := hm_at e7 l5p ((Ex.new hl) l5 _ (e6 l5 _ h5))
      have fin : ∀ z, atI [V.int x1, .int x2, .non, .str (Str.ofString "0"), .ref l5, .int x6] r = some z → ((∀ G, Itm K G z) ∨ ∃ l, z = .ref l ∧ H l = none ∧ l ≠ p ∧ H7 l = some (.lst (nv [0]))) → rIxL K (.ref l) (.int r) H7 fun v H8 => tz D (σ.set i (some v)) H8 := fun z hz it => ⟨l, _, r, z, rfl, rfl, sq_of h7, hz, q z H7 it p7 (hm_trans (hm_of (e16.trans (Ex.new hl))) e7)⟩
      have : r = 0 ∨ r = 1 ∨ r = 2 ∨ r = 3 ∨ r = 4 ∨ r = 5 := by omega
      rcases this with rfl | rfl | rfl | rfl | rfl | rfl
      · exact fin _ rfl (.inl fun _ => itm_int _)
      · exact fin _ rfl (.inl fun _ => itm_int _)
      · exact fin _ rfl (.inl fun _ => itm_non)
      · exact fin _ rfl (.inl fun _ => itm_str)
      · exact fin _ rfl (.inr ⟨l5, rfl, fresh_back (e1.trans (e2.trans (e3.trans e4))) hl5, l5p, h57⟩)
      · exact fin _ rfl (.inl fun _ => itm_int _)⟩
theorem q_asgTL {i n : Nat} (h : EvTL K te σ H n) (q : ∀ b vs H1, H b = none → Ex H H1 → H1 b = some (.lst vs) → vs.length = n → (∀ v ∈ vs, AT K H1 v) → tz D (σ.set i (some (.ref b))) H1) : tSeq (tAsg te (gName i)) tz D σ H := h H (Ex.refl H) _ q
theorem s_retTL {n : Nat} (h : EvTL K te σ H n) (q : ∀ b vs H1, H b = none → Ex H H1 → H1 b = some (.lst vs) → vs.length = n → (∀ v ∈ vs, AT K H1 v) → D.rt (.ref b) H1) : tRet te D σ H := h H (Ex.refl H) _ q
end
/-! ### any thing that is not the pouch, nor holds it -/
def InH (p : Addr) (H : Hp) : Prop := ∃ o, H p = some o
theorem InH.ex {p : Addr} {H H' : Hp} (h : InH p H) (e : Ex H H') : InH p H' := h.imp fun o z => e p o z
theorem InH.ne {p q : Addr} {H : Hp} (h : InH p H) (hq : H q = none) : q ≠ p := fun z => by
  subst z
  obtain ⟨o, e⟩ := h
  rw [hq] at e
  cases e
theorem Po.inH {p : Addr} {n : Nat} {H : Hp} (h : Po p n H) : InH p H := by
  obtain ⟨a, b, c, e, _⟩ := h
  exact ⟨_, e⟩
section
variable {K : PySem.W.Frag} {σ : L2.St} {H H' : Hp} {te ta tb : TE} {t tr : TA} {p : Addr} {D : Ends} {tz : TS}
theorem hm_in2 {a : Addr} {o : HO} (ap : a ≠ p) (h : H a = some o) : Hm p H a = some o := by
  unfold Hm
  rw [if_neg ap]
  exact h
def EvThP (p : Addr) (K : PySem.W.Frag) (te : TE) (σ : L2.St) (H : Hp) : Prop := ∀ H1, Ex H H1 → ∀ Q : VK, (∀ v H2, Ex H1 H2 → AT K (Hm p H2) v → Q v H2) → te σ H1 Q
def EvThAP (p : Addr) (K : PySem.W.Frag) (ta : TA) (σ : L2.St) (H : Hp) (n : Nat) : Prop := ∀ H1, Ex H H1 → ∀ Q : List V → Hp → Prop, (∀ vs H2, Ex H1 H2 → vs.length = n → (∀ v ∈ vs, AT K (Hm p H2) v) → Q vs H2) → ta σ H1 Q
theorem thap_nil : EvThAP p K tNil σ H 0 := fun H1 _ _ q => q [] H1 (Ex.refl H1) rfl (by simp)
theorem thap_cons {n : Nat} (h : EvThP p K te σ H) (hr : EvThAP p K tr σ H n) : EvThAP p K (tCons te tr) σ H (n + 1) := fun H1 e _ q =>
  h H1 e _ fun v H2 e2 hv => hr H2 (e.trans e2) _ fun vs H3 e3 hl hvs => q (v :: vs) H3 (e2.trans e3) (by simp [hl]) fun x hx => by
    rcases List.mem_cons.mp hx with z | z
    · rw [z]
      exact hv.ex (hm_mono e3)
    · exact hvs x z
theorem thp_non (h : Ev te σ H .non) : EvThP p K te σ H := fun H1 e Q q => h H1 e Q fun H2 e2 => q _ H2 e2 ⟨_, .non⟩
theorem thp_bl {b : Bool} (h : Ev te σ H (.bl b)) : EvThP p K te σ H := fun H1 e Q q => h H1 e Q fun H2 e2 => q _ H2 e2 ⟨_, .bl b⟩
theorem thp_int {i : Int} (h : Ev te σ H (.int i)) : EvThP p K te σ H := fun H1 e Q q => h H1 e Q fun H2 e2 => q _ H2 e2 ⟨_, .int i⟩
theorem thp_str {x : Str} (h : Ev te σ H (.str x)) : EvThP p K te σ H := fun H1 e Q q => h H1 e Q fun H2 e2 => q _ H2 e2 ⟨_, .str x⟩
theorem thp_U (hp : InH p H) {xs : List V} (h : EvU te σ H xs) : EvThP p K te σ H := fun H1 e Q q => h H1 e Q fun l H2 hl e2 h2 => q _ H2 e2 ⟨_, .tup (hm_in2 ((hp.ex e).ne hl) h2)⟩
theorem thp_I (hp : InH p H) {xs : List V} (h : EvL te σ H xs) (hi : ∀ v ∈ xs, Itm K (Hm p H) v) : EvThP p K te σ H := fun H1 e Q q => h H1 e Q fun l H2 hl e2 h2 => q _ H2 e2 (by
  obtain ⟨ds, d, f⟩ := ita_all hi
  exact ⟨_, .lst (hm_in2 ((hp.ex e).ne hl) h2) (d.ex (hm_mono (e.trans e2))) f⟩)
def EvIAP (p : Addr) (K : PySem.W.Frag) (ta : TA) (σ : L2.St) (H : Hp) (ds : List PyData) : Prop := ∀ H1, Ex H H1 → ∀ Q : List V → Hp → Prop, (∀ vs H2, Ex H1 H2 → ItAll K (Hm p H2) vs ds → Q vs H2) → ta σ H1 Q
def EvIP (p : Addr) (K : PySem.W.Frag) (te : TE) (σ : L2.St) (H : Hp) (d : PyData) : Prop := ∀ H1, Ex H H1 → ∀ Q : VK, (∀ v H2, Ex H1 H2 → It K (Hm p H2) v d → Q v H2) → te σ H1 Q
theorem iap_nil : EvIAP p K tNil σ H [] := fun H1 _ _ q => q [] H1 (Ex.refl H1) .nil
theorem iap_cons {d : PyData} {ds : List PyData} (h : EvIP p K te σ H d) (hr : EvIAP p K tr σ H ds) : EvIAP p K (tCons te tr) σ H (d :: ds) := fun H1 e _ q =>
  h H1 e _ fun v H2 e2 dv => hr H2 (e.trans e2) _ fun vs H3 e3 dvs => q (v :: vs) H3 (e2.trans e3) (.cons (dv.ex (hm_mono e3)) dvs)
theorem itp_int {i : Int} (h : Ev te σ H (.int i)) : EvIP p K te σ H (.int i) := fun H1 e Q q => h H1 e Q fun H2 e2 => q _ H2 e2 (.int i)
theorem itp_one (hp : InH p H) {i : Int} (h : Ev te σ H (.int i)) : EvIP p K (tLst (tCons te tNil)) σ H (.list [.int i]) := fun H1 e Q q =>
  h H1 e _ fun H2 e2 => ⟨sz_of (Nat.le_of_ble_eq_true rfl), fun l hl => q _ _ (e2.trans (Ex.new hl)) (.lst (hm_in2 (((hp.ex e).ex e2).ne hl) upd_same) (.cons (.int i) .nil))⟩
theorem thp_D (hp : InH p H) {ds : List PyData} (h : EvIAP p K t σ H ds) (hf : Fine ds) (hl : ds.length ≤ 100000) : EvThP p K (tLst t) σ H := fun H1 e Q q =>
  h H1 e _ fun vs H2 e2 dv => ⟨sz_of (by rw [dv.len]; exact hl), fun l hl' => q _ _ (e2.trans (Ex.new hl')) ⟨_, .lst (hm_in2 (((hp.ex e).ex e2).ne hl') upd_same) (dv.ex (hm_mono (Ex.new hl'))) hf⟩⟩
theorem thp_var {i : Nat} {v : V} (h : σ[i]? = some (some v)) (hv : AT K (Hm p H) v) : EvThP p K (tVar i) σ H := fun H1 e Q q => ⟨v, h, q v H1 (Ex.refl _) (hv.ex (hm_mono e))⟩
theorem thp_dnew (hp : InH p H) : EvThP p K tDNewK σ H := fun H1 e Q q l hl => q _ _ (Ex.new hl) ⟨_, .dct (hm_in2 ((hp.ex e).ne hl) upd_same)⟩
theorem thp_disp (hp : InH p H) {x : Str} {i : Int} : EvThP p K (tDisp [(tC (.str x), tC (.int i))]) σ H := fun H1 e Q q l hl =>
  ⟨upd_same, [(.inr x, .int i)], rfl, Nat.le_of_ble_eq_true rfl, q _ _ (Ex.mut (Ex.new hl) hl) ⟨_, .dct (hm_in2 ((hp.ex e).ne hl) upd_same)⟩⟩
def EvTLP (p : Addr) (K : PySem.W.Frag) (te : TE) (σ : L2.St) (H : Hp) (n : Nat) : Prop := ∀ H1, Ex H H1 → ∀ Q : VK, (∀ l vs H2, H1 l = none → Ex H1 H2 → H2 l = some (.lst vs) → vs.length = n → (∀ v ∈ vs, AT K (Hm p H2) v) → Q (.ref l) H2) → te σ H1 Q
theorem tlp_lst {n : Nat} (h : EvThAP p K t σ H n) (hn : n ≤ 100000) : EvTLP p K (tLst t) σ H n := fun H1 e Q q =>
  h H1 e _ fun vs H2 e2 hl hv => ⟨sz_of (by omega), fun l hl' => q l vs _ (fresh_back e2 hl') (e2.trans (Ex.new hl')) upd_same hl fun v z => (hv v z).ex (hm_mono (Ex.new hl'))⟩
theorem tlp_cat {a : Addr} {xs : List V} {n : Nat} (h : Ev ta σ H (.ref a)) (ha : H a = some (.lst xs)) (hx : ∀ v ∈ xs, AT K (Hm p H) v) (h2 : EvTLP p K tb σ H n) (hz : xs.length + n ≤ 1000) : EvTLP p K (tOp rCat ta tb) σ H (xs.length + n) := fun H1 e Q q =>
  h H1 e _ fun H2 e2 => h2 H2 (e.trans e2) _ fun b vs H3 _ e3 h3 hl hv =>
    ⟨a, b, xs, vs, rfl, rfl, e3 a _ (e2 a _ (e a _ ha)), h3, sz_of (by omega), fun l hl' => q l _ _ (fresh_back (e2.trans e3) hl') ((e2.trans e3).trans (Ex.new hl')) upd_same (by rw [List.length_append, hl]) fun v z => by
      rcases List.mem_append.mp z with z | z
      · exact (hx v z).ex (hm_mono (e.trans (e2.trans (e3.trans (Ex.new hl')))))
      · exact (hv v z).ex (hm_mono (Ex.new hl'))⟩
theorem qp_asgTL {i n : Nat} (h : EvTLP p K te σ H n) (q : ∀ b vs H1, H b = none → Ex H H1 → H1 b = some (.lst vs) → vs.length = n → (∀ v ∈ vs, AT K (Hm p H1) v) → tz D (σ.set i (some (.ref b))) H1) : tSeq (tAsg te (gName i)) tz D σ H := h H (Ex.refl H) _ q
theorem sp_retTL {n : Nat} (h : EvTLP p K te σ H n) (q : ∀ b vs H1, H b = none → Ex H H1 → H1 b = some (.lst vs) → vs.length = n → (∀ v ∈ vs, AT K (Hm p H1) v) → D.rt (.ref b) H1) : tRet te D σ H := h H (Ex.refl H) _ q
end

/-- a guest as a truth -/
def tru (x : Nat) : V := if x = 0 then .bl false else if x = 1 then .bl true else .int (x : Int)
def sp_law_things (K : PySem.W.Frag) : Sp := fun vs H Q _ => ∃ (p a : Addr) (n : Nat) (h : List Nat), vs = [.ref p, .ref a] ∧ Po p n H ∧ n + 3 < 1000000000 ∧ a ≠ p ∧ H a = some (.lst (nv h)) ∧ (1 ≤ h.length ∧ h.length ≤ 20) ∧
  ∀ l ws H', H l = none → H' l = some (.lst ws) → ws.length ≤ 100 → (∀ v ∈ ws, AT K (Hm p H') v) → Po p (n + 3) H' → Ex (Hm p H) H' → Q (.ref l) H'
section
variable {P : Program} {w : World} {K : PySem.W.Frag} {mg : Str → Option Value} {base : Heap}
theorem ok_law_things (T : Tx K mg) : FnOk P w K mg base CX0 2 T.f_law_things T.d_law_things ["pouch", "row"] (sp_law_things K) := by
  refine T.F_law_things.ok sc_law_things (fun vs H Q E h => ?_) (fun cdv A outer s H vs Q E hr h => ?_)
  · obtain ⟨p, a, n, h, rfl, _⟩ := h
    rfl
  · obtain ⟨p, a, n, h, rfl, hpo, hn, ap, ha, o, k⟩ := h
    refine ⟨_, (pss_cons (ps_par3 (i := 2) (j := 3) (l := 4) (by rfl) sc_law_things.nd rfl rfl rfl (by decide) (by decide) (by decide) rfl rfl rfl (pa_cons (pe_call (ok_law_dip T) (hr.mono (by decide)) (by rfl) T.g_law_dip T.F_law_dip.kp T.b_law_dip .nil pass0 (pa_cons (pv 0) (pa_cons (pe_callB call_lenR (by rfl) T.m_len (by decide +kernel) (pa_cons (pv 1) pa_nil)) pa_nil))) (pa_cons (pe_call (ok_law_dip T) (hr.mono (by decide)) (by rfl) T.g_law_dip T.F_law_dip.kp T.b_law_dip .nil pass0 (pa_cons (pv 0) (pa_cons (pe_callB call_lenR (by rfl) T.m_len (by decide +kernel) (pa_cons (pv 1) pa_nil)) pa_nil))) (pa_cons (pe_callTy call_listR (by rfl) T.m_list (by decide +kernel) (pa_cons (pv 1) pa_nil)) pa_nil))) (by rfl))
      (pss_cons (ps_set (i := 5) sc_law_things.nd rfl (Or.inl rfl) (pe_ix ix_list (pe_lst (pa_cons (pe_callB call_lenR (by rfl) T.m_len (by decide +kernel) (pa_cons (pv 1) pa_nil)) (pa_cons (pe_un un_neg pe_int) (pa_cons pe_non (pa_cons pe_str (pa_cons (pe_lst (pa_cons pe_int pa_nil)) (pa_cons (pe_op op_powX pe_int pe_int) pa_nil))))))) (pe_call (ok_law_dip T) (hr.mono (by decide)) (by rfl) T.g_law_dip T.F_law_dip.kp T.b_law_dip .nil pass0 (pa_cons (pv 0) (pa_cons pe_int pa_nil))) (fun _ _ => rfl)))
      (pss_cons (ps_asg (pe_ix ix_list (pv 1) (pv 3) (fun _ _ => rfl)) (pg_sub (pv 4) (pv 2) set_list))
      (pss_cons (ps_setLc (i := 7) (own := [("one", 6)]) (g := (gName 6)) (tt := tYes) rfl sc_law_things.nd rfl rfl (sw_true rfl rfl rfl (by decide +kernel)) (pi_list (pv 1)) (blkOk_by (own := [("one", 6)]) (N := n_law_things) (sc := defScope s_law_things) (by decide +kernel)) (fun _ _ _ _ _ => (pg_name (i := 6) sc_law_things.nd rfl (Or.inl rfl))) (fun _ _ _ _ _ => pts_nil) (fun _ _ _ _ _ => (pe_ifExp (pt_cmpR op_lt (pv 6) pe_int (nomark _)) (pe_ix (r := rIxL K) ix_list (pe_lst (pa_cons pe_bl (pa_cons pe_bl pa_nil))) (pv 6) (fun _ _ => rfl)) (pv 6))))
      (pss_cons (ps_set (i := 8) sc_law_things.nd rfl (Or.inl rfl) (pe_lst (pa_cons pe_non (pa_cons pe_bl (pa_cons pe_int (pa_cons pe_int (pa_cons pe_str (pa_cons pe_str (pa_cons pe_dnewK (pa_cons (pe_lst pa_nil) (pa_cons (pe_tup (pa_cons pe_int pa_nil)) (pa_cons (pe_callTy call_tupR (by rfl) T.m_tuple (by decide +kernel) (pa_cons (pv 1) pa_nil)) (pa_cons (pe_lst (pa_cons (pv 1) pa_nil)) (pa_cons (pe_lst (pa_cons pe_int pa_nil)) (pa_cons (pe_lst (pa_cons pe_bl pa_nil)) (pa_cons (pe_lst (pa_cons pe_bl pa_nil)) (pa_cons (pe_lst (pa_cons pe_non pa_nil)) (pa_cons (pe_lst (pa_cons (pe_lst (pa_cons pe_int pa_nil)) pa_nil)) (pa_cons (pe_disp (pps_cons pe_str pe_int pps_nil) rfl rfl (by simp) (by decide)) pa_nil)))))))))))))))))))
      (pss_cons (ps_set (i := 8) sc_law_things.nd rfl (Or.inl rfl) (pe_op op_cat (pv 8) (pe_lst (pa_cons (pe_op op_cat (pv 1) (pe_lst (pa_cons pe_int pa_nil))) (pa_cons (pe_op op_cat (pv 1) (pe_lst (pa_cons (pe_callB call_lenR (by rfl) T.m_len (by decide +kernel) (pa_cons (pv 1) pa_nil)) pa_nil))) (pa_cons (pe_slice sl_list (pv 1) po_none (po_some (pe_un un_neg pe_int))) (pa_cons (pe_op op_cat (pe_op op_cat (pe_slice sl_list (pv 1) po_none (po_some (pv 2))) (pe_lst (pa_cons (pv 5) pa_nil))) (pe_slice sl_list (pv 1) (po_some (pe_op op_add (pv 2) pe_int)) po_none)) (pa_cons (pv 4) (pa_cons (pv 7) (pa_cons (pe_lst (pa_cons (pe_un un_neg pe_int) (pa_cons pe_int pa_nil))) pa_nil))))))))))
      (pss_cons (ps_set (i := 8) sc_law_things.nd rfl (Or.inl rfl) (pe_op op_cat (pv 8) (pe_lst (pa_cons (pe_revL (pv 1)) (pa_cons (pe_listRg rfl (by rfl) T.m_list (prg_1 (by rfl) T.m_range pe_int)) (pa_cons (pe_listRg rfl (by rfl) T.m_list (prg_1 (by rfl) T.m_range pe_int)) (pa_cons (pe_lst (pa_cons pe_int (pa_cons pe_int pa_nil))) (pa_cons (pe_lst (pa_cons pe_int (pa_cons pe_int pa_nil))) (pa_cons (pe_lst (pa_cons pe_str pa_nil)) (pa_cons (pe_op op_cat (pv 1) (pe_lst (pa_cons pe_non pa_nil))) (pa_cons (pe_op op_rep (pv 1) pe_int) pa_nil)))))))))))
      (pss_one (ps_ret (pe_op op_cat (pv 8) (pe_lst (pa_cons (pe_lst (pa_cons (pe_op op_powX pe_int pe_int) pa_nil)) (pa_cons (pe_lst (pa_cons pe_int (pa_cons pe_int (pa_cons pe_int (pa_cons (pe_lst (pa_cons pe_int pa_nil)) pa_nil))))) (pa_cons pe_str pa_nil)))))))))))))), ?_⟩
    have o2 := o
    have dip : EvP p 1 (tCall sp_law_dip [] E0 (tCons (tVar 0) (tCons (tCB (rLenS K) (tCons (tVar 1) tNil)) tNil))) (start n_law_things [.ref p, .ref a]) (Hm p H) (fun v _ => ∃ x : Nat, v = .int (x : Int) ∧ x < h.length) :=
      ep_is (ep_dipI (w := (h.length : Int)) hm_p (ev_var (i := 0) rfl) (ev_lenH (i := 1) rfl (hm_in ap ha)) (by omega) (by omega)) fun v H ⟨r, e, r0, r1⟩ => ⟨r.toNat, by rw [e]; exact congrArg V.int (by omega), by omega⟩
    refine pq_par3 (p := p) (k1 := 1) (k2 := 1) (H0 := Hm p H) (A := fun v => ∃ x : Nat, v = .int (x : Int) ∧ x < h.length) (B := fun v => ∃ x : Nat, v = .int (x : Int) ∧ x < h.length) (xs := nv h) hm_p dip dip (el_list (K := K) (ev_var (i := 1) rfl) (sq_of (hm_in ap ha))) hm_sub hpo (by omega) ?_
    rintro u v b H1 H2 ⟨sp, rfl, hsp⟩ ⟨ot, rfl, hot⟩ bp hb1 e1 e2 hb2 p2
    have ha2 := e2 a _ (hm_at e1 ap ha)
    have ab : a ≠ b := ne_of_none (hm_at e1 ap ha) hb1
    refine pq_odd (K := K) (p := p) (H0 := Hm p H2) (x1 := (h.length : Int)) (x2 := -1) (x6 := (10 : Int) ^ (30 : Int).toNat) hm_p (ev_lenH rfl (hm_in ap ha2)) (ev_un ev_c ru_neg) ev_c ev_c (el_lst (ea_cons ev_c ea_nil) (Nat.le_of_ble_eq_true rfl)) (ev_op ev_c ev_c (rv_I (by constructor <;> decide +kernel))) (ep_dipI (w := 6) hm_p (ev_var rfl) ev_c (by decide) (by decide)) hm_sub p2 (by omega) ?_
    intro od H3 hod p3 e3
    have ha3 := hm_at e3 ap ha2
    have hb3 := hm_at e3 bp hb2
    obtain ⟨x, hx⟩ : ∃ x : Nat, h[ot]? = some x := ⟨h[ot], List.getElem?_eq_getElem hot⟩
    refine q_setL (xs := nv h) (j := sp) hb3 (ev_op (ev_var rfl) (ev_var rfl) (rv_ixL (K := K) (sq_of ha3) (atI_nat (nv_get hx)))) (ev_var rfl) (ev_var rfl) (by rw [nv_len]; exact hsp) fun H4 e4 => ?_
    -- from here on nothing is drawn
    have hH1b : Hm p H b = none := fresh_back e1 hb1
    have base4 : Ex (Hm p H) H4 := hm_trans (e1.trans e2) (hm_trans e3 (hm_of e4))
    generalize hG : upd H4 b (HO.lst ((nv h).set sp (.int (x : Int)))) = G
    have eG : Ex (Hm p H) G := hG ▸ Ex.mut base4 hH1b
    have pG : Po p (n + 3) G := by
      obtain ⟨y1, y2, y3, q1, q2⟩ := p3.ex e4
      exact ⟨y1, y2, y3, by rw [← hG, upd_ne (Ne.symm bp)]; exact q1, q2⟩
    have haG : G a = some (.lst (nv h)) := by
      rw [← hG, upd_ne ab]
      exact e4 a _ ha3
    have hbG : G b = some (.lst (nv (h.set sp x))) := by
      rw [← hG, upd_same, nv_set]
    have odG : Itm K (Hm p G) od := by
      rcases hod with h | ⟨l, rfl, hl0, lp, hl⟩
      · exact h _
      · have lb : l ≠ b := fun z => by
          rw [z, hb2] at hl0
          cases hl0
        exact itm_row (r := [0]) (hm_in2 lp (by rw [← hG, upd_ne lb]; exact e4 l _ hl))
    refine q_asgL (xs := (List.range (nv h).length).map fun i => tru (h.getD i 0)) (el_mapI (K := K) (te := tIf (tTest (tOp (rI0 fun i j => .bl (decide (i < j))) (tVar 6) (tC (.int 2)))) (tOp (rIxL K) (tLst (tCons (tC (.bl false)) (tCons (tC (.bl true)) tNil))) (tVar 6)) (tVar 6)) (fun i => tru (h.getD i 0)) (ev_var rfl) (sq_of haG) (by rw [nv_len]; omega) (fun _ => rfl) fun i v H5 e5 hv => ?_) fun t7 H5 ht7 e5 h7 => ?_
    · have hil : i < h.length := by
        have := (List.getElem?_eq_some_iff.mp hv).1
        rw [nv_len] at this
        exact this
      have hi2 : h[i]? = some (h.getD i 0) := by
        rw [List.getD_eq_getElem?_getD, List.getElem?_eq_getElem hil]
        rfl
      have ev : v = .int (h.getD i 0 : Nat) := by
        have := nv_get hi2
        rw [hv] at this
        exact Option.some.inj this
      subst ev
      generalize h.getD i 0 = y
      refine ev_if (b := decide ((y : Int) < 2)) (et_test (ev_op (ev_var rfl) ev_c rv_I0)) (fun hb => ?_) fun hb => ?_
      · have hb := of_decide_eq_true hb
        refine ev_opL1 (el_lst (ea_cons ev_c (ea_cons ev_c ea_nil)) (Nat.le_of_ble_eq_true rfl)) (fun H6 e6 => ev_var rfl) fun q H6 hq e6 => rv_ixL (sq_of hq) ?_
        have : y = 0 ∨ y = 1 := by omega
        rcases this with rfl | rfl
        · rfl
        · rfl
      · have hb := of_decide_eq_false hb
        have e : tru y = .int (y : Int) := by
          unfold tru
          rw [if_neg (by omega), if_neg (by omega)]
        rw [e]
        exact ev_var rfl
    have ha5 := e5 a _ haG
    have hb5 := e5 b _ hbG
    have od5 := odG.ex (hm_mono e5)
    have t7p : t7 ≠ p := pG.inH.ne ht7
    have i5 : InH p H5 := (pG.ex e5).inH
    have it7 : ∀ H : Hp, ∀ v ∈ (List.range (nv h).length).map fun i => tru (h.getD i 0), Itm K H v := fun H v hv => by
      obtain ⟨i, _, rfl⟩ := List.mem_map.mp hv
      unfold tru
      split
      · exact itm_bl _
      · split
        · exact itm_bl _
        · exact itm_int _
    have lenR : (nv h).length ≤ 20 := by rw [nv_len]; omega
    refine qp_asgTL (p := p) (K := K) (n := 17) (tlp_lst (thap_cons (thp_non ev_c) (thap_cons (thp_bl ev_c) (thap_cons (thp_int ev_c) (thap_cons (thp_int ev_c) (thap_cons (thp_str ev_c) (thap_cons (thp_str ev_c) (thap_cons (thp_dnew i5) (thap_cons (thp_I i5 (el_lst ea_nil (Nat.zero_le _)) (by simp)) (thap_cons (thp_U i5 (eu_tup (ea_cons ev_c ea_nil) (Nat.le_of_ble_eq_true rfl))) (thap_cons (thp_U i5 (eu_tupOf (K := K) (ev_var rfl) (sq_of ha5)))
      (thap_cons (thp_I i5 (el_lst (ea_cons (ev_var rfl) ea_nil) (Nat.le_of_ble_eq_true rfl)) (itm_one (itm_row (hm_in2 ap ha5)))) (thap_cons (thp_I i5 (el_lst (ea_cons ev_c ea_nil) (Nat.le_of_ble_eq_true rfl)) (itm_one (itm_int _))) (thap_cons (thp_I i5 (el_lst (ea_cons ev_c ea_nil) (Nat.le_of_ble_eq_true rfl)) (itm_one (itm_bl _))) (thap_cons (thp_I i5 (el_lst (ea_cons ev_c ea_nil) (Nat.le_of_ble_eq_true rfl)) (itm_one (itm_bl _))) (thap_cons (thp_I i5 (el_lst (ea_cons ev_c ea_nil) (Nat.le_of_ble_eq_true rfl)) (itm_one itm_non))
      (thap_cons (thp_D i5 (ds := [.list [.int 0]]) (iap_cons (itp_one i5 ev_c) iap_nil) (fine_cons rfl (by decide) fine_nil) (Nat.le_of_ble_eq_true rfl)) (thap_cons (thp_disp i5) thap_nil))))))))))))))))) (by decide)) fun f1 ws1 H6 hf1 e6 h6 l6 w6 => ?_
    have ha6 := e6 a _ ha5
    have od6 := od5.ex (hm_mono e6)
    have i6 := i5.ex e6
    refine qp_asgTL (p := p) (K := K) (n := ws1.length + 7) (tlp_cat (ev_var rfl) h6 w6 (tlp_lst (thap_cons (thp_I i6 (el_catO (ev_var rfl) ha6 (el_lst (ea_cons ev_c ea_nil) (Nat.le_of_ble_eq_true rfl)) (by simp; omega)) (itm_app itm_nv (itm_one (itm_int _)))) (thap_cons (thp_I i6 (el_catO (ev_var rfl) ha6 (el_lst (ea_cons (ev_lenH rfl ha6) ea_nil) (Nat.le_of_ble_eq_true rfl)) (by simp; omega)) (itm_app itm_nv (itm_one (itm_int _)))) (thap_cons (thp_I i6 (el_sl (K := K) (ev_var rfl) eo_none (eo_some (ev_un ev_c ru_neg)) (sq_of ha6)) (itm_cut itm_nv _ _))
      (thap_cons (thp_I i6 (el_cat (el_cat (el_sl (K := K) (ev_var rfl) eo_none (eo_some (ev_var rfl)) (sq_of ha6)) (el_lst (ea_cons (ev_var rfl) ea_nil) (Nat.le_of_ble_eq_true rfl)) ?_) (el_sl (K := K) (ev_var rfl) (eo_some (ev_op (ev_var rfl) ev_c rv_I0)) eo_none (sq_of ha6)) ?_) (itm_app (itm_app (itm_cut itm_nv _ _) (itm_one od6)) (itm_cut itm_nv _ _)))
      (thap_cons (thp_var rfl (at_list (hm_in2 bp (e6 b _ hb5)) itm_nv)) (thap_cons (thp_var rfl (at_list (hm_in2 t7p (e6 t7 _ h7)) (it7 _))) (thap_cons (thp_I i6 (el_lst (ea_cons (ev_un ev_c ru_neg) (ea_cons ev_c ea_nil)) (Nat.le_of_ble_eq_true rfl)) fun v hv => ?_) thap_nil))))))) (by decide)) (by omega)) fun f2 ws2 H7 hf2 e7 h7' l7 w7 => ?_
    · have := cutV_length (nv h) none (some (sp : Int))
      simp at this ⊢
      omega
    · have := cutV_length (nv h) none (some (sp : Int))
      have := cutV_length (nv h) (some ((sp : Int) + 1)) none
      simp at *
      omega
    · rcases List.mem_cons.mp hv with e | hv
      · rw [e]
        exact itm_int _
      · rw [List.mem_singleton.mp hv]
        exact itm_int _
    have ha7 := e7 a _ ha6
    have i7' := i6.ex e7
    refine qp_asgTL (p := p) (K := K) (n := ws2.length + 8) (tlp_cat (ev_var rfl) h7' w7 (tlp_lst (thap_cons (thp_I i7' (el_rev (K := K) (ev_var rfl) (sq_of ha7)) fun v hv => itm_nv v (List.mem_reverse.mp hv)) (thap_cons (thp_I i7' (el_rg1 (b := 21) ev_c (RgOk.of_le (by decide) (by decide) (by decide) (by decide))) (itm_rg 0 21)) (thap_cons (thp_I i7' (el_rg1 (b := 20) ev_c (RgOk.of_le (by decide) (by decide) (by decide) (by decide))) (itm_rg 0 20))
      (thap_cons (thp_I i7' (el_lst (ea_cons ev_c (ea_cons ev_c ea_nil)) (Nat.le_of_ble_eq_true rfl)) (itm_two (itm_int _) (itm_int _))) (thap_cons (thp_I i7' (el_lst (ea_cons ev_c (ea_cons ev_c ea_nil)) (Nat.le_of_ble_eq_true rfl)) (itm_two (itm_int _) (itm_int _))) (thap_cons (thp_I i7' (el_lst (ea_cons ev_c ea_nil) (Nat.le_of_ble_eq_true rfl)) (itm_one itm_str)) (thap_cons (thp_I i7' (el_catO (ev_var rfl) ha7 (el_lst (ea_cons ev_c ea_nil) (Nat.le_of_ble_eq_true rfl)) (by simp; omega)) (itm_app itm_nv (itm_one itm_non)))
      (thap_cons (thp_I i7' (el_repO (n := 2) (ev_var rfl) ha7 ev_c (by decide) (by omega)) (itm_rep itm_nv 2)) thap_nil)))))))) (by decide)) (by omega)) fun f3 ws3 H8 hf3 e8 h8 l8 w8 => ?_
    have i8 := i7'.ex e8
    refine sp_retTL (p := p) (K := K) (n := ws3.length + 3) (tlp_cat (ev_var rfl) h8 w8 (tlp_lst (thap_cons (thp_I i8 (el_lst (ea_cons (ev_op ev_c ev_c (rv_I (by constructor <;> decide +kernel))) ea_nil) (Nat.le_of_ble_eq_true rfl)) (itm_one (itm_int _))) (thap_cons (thp_D i8 (ds := [.int 0, .int 1, .int 2, .list [.int 3]]) (iap_cons (itp_int ev_c) (iap_cons (itp_int ev_c) (iap_cons (itp_int ev_c) (iap_cons (itp_one i8 ev_c) iap_nil)))) (fine_cons rfl (by decide) (fine_cons rfl (by decide) (fine_cons rfl (by decide) (fine_cons rfl (by decide) fine_nil)))) (Nat.le_of_ble_eq_true rfl))
      (thap_cons (thp_str ev_c) thap_nil))) (by decide)) (by omega)) fun l ws H9 hl e9 h9 l9 w9 => ?_
    have e59 := e5.trans (e6.trans (e7.trans (e8.trans e9)))
    have fr : H l = none := by
      have lp : l ≠ p := ((((pG.ex e5).ex e6).ex e7).ex e8).ne hl
      have := fresh_back (eG.trans (e5.trans (e6.trans (e7.trans e8)))) hl
      unfold Hm at this
      rw [if_neg lp] at this
      exact this
    exact k l ws H9 fr h9 (by omega) w9 (pG.ex e59) (eG.trans e59)
end

/-! ### draws of any ints -/
def AllI (n : Nat) (vs : List V) : Prop := vs.length = n ∧ ∀ v ∈ vs, ∃ x : Int, v = .int x
section
variable {K : PySem.W.Frag} {σ : L2.St} {H0 H : Hp} {p : Addr} {k k1 k2 : Nat} {te ta tb tm : TE} {tr : TA} {D : Ends} {tz : TS}
theorem p_ret {n : Nat} {R : V → Hp → Prop} (h : EvP p k te σ H0 R) (e : Ex H0 H) (hp : Po p n H) (hn : n + k ≤ 1000000000) (q : ∀ v H2, R v H2 → Po p (n + k) H2 → Ex (Hm p H) H2 → D.rt v H2) : tRet te D σ H := h n H e hp hn _ q
theorem epi_nil : EvPA p 0 tNil σ H0 (AllI 0) := fun n H1 e hp _ Q q => q [] H1 ⟨rfl, by simp⟩ hp (hm_of (Ex.refl _))
theorem epi_cons {m : Nat} (h0 : H0 p = none) (h : EvP p k1 te σ H0 (fun v _ => ∃ x : Int, v = .int x)) (hr : EvPA p k2 tr σ H0 (AllI m)) : EvPA p (k1 + k2) (tCons te tr) σ H0 (AllI (m + 1)) := fun n H1 e hp hn Q q =>
  epa_cons (A := fun v => ∃ x : Int, v = .int x) h0 h hr n H1 e hp hn Q fun vs H2 ⟨v, r, e1, hv, hl, ha⟩ p2 e2 => q vs H2 ⟨by rw [e1]; simp [hl], fun x hx => by
    rw [e1] at hx
    rcases List.mem_cons.mp hx with z | z
    · rw [z]
      exact hv
    · exact ha x z⟩ p2 e2
theorem epi_pure {m : Nat} {x : Int} (h0 : H0 p = none) (h : Ev te σ H0 (.int x)) (hr : EvPA p k2 tr σ H0 (AllI m)) : EvPA p (0 + k2) (tCons te tr) σ H0 (AllI (m + 1)) := epi_cons h0 (ep_is (ep_ev h) fun v _ e => ⟨x, e⟩) hr
theorem allI_at {m : Nat} {vs : List V} (h : AllI m vs) {i : Int} (i0 : 0 ≤ i) (i1 : i < m) : ∃ x : Int, atI vs i = some (.int x) := by
  have hl : i.toNat < vs.length := by rw [h.1]; omega
  obtain ⟨x, hx⟩ := h.2 _ (List.getElem_mem hl)
  refine ⟨x, ?_⟩
  have := atI_nat (xs := vs) (j := i.toNat) (v := .int x) (by rw [List.getElem?_eq_getElem hl, hx])
  rwa [Int.toNat_of_nonneg i0] at this
/-- [.., ..][a draw] -/
theorem epi_ix {m : Nat} (h0 : H0 p = none) (hm : m ≤ 100) (ha : EvPA p k1 tr σ H0 (AllI m)) (hb : EvP p k2 tb σ H0 (fun v _ => ∃ r : Int, v = .int r ∧ 0 ≤ r ∧ r < m)) : EvP p (k1 + k2) (tOp (rIxL K) (tLst tr) tb) σ H0 (fun v _ => ∃ x : Int, v = .int x) :=
  ep_ix (A := fun v => ∃ x : Int, v = .int x) (ix := fun v => ∃ r : Int, v = .int r ∧ 0 ≤ r ∧ r < m) (C := AllI m) h0 (ep_lst ha fun vs h => by rw [h.1]; omega) hb fun vs v h ⟨r, e, r0, r1⟩ => by
    obtain ⟨x, hx⟩ := allI_at h r0 r1
    exact ⟨r, .int x, e, hx, x, rfl⟩
/-- xs[a draw], xs an old list -/
theorem ep_ixO {l : Addr} {vs : List V} {m i : Nat} (h0 : H0 p = none) (hv : AllI m vs) (hs : σ[i]? = some (some (.ref l))) (lp : l ≠ p) (hl : H0 l = some (.lst vs)) (hb : EvP p k tb σ H0 (fun v _ => ∃ r : Int, v = .int r ∧ 0 ≤ r ∧ r < m)) : EvP p (0 + k) (tOp (rIxL K) (tVar i) tb) σ H0 (fun v _ => ∃ x : Int, v = .int x) :=
  ep_op (Ra := fun x H => x = .ref l ∧ H l = some (.lst vs)) (Rb := fun v _ => ∃ r : Int, v = .int r ∧ 0 ≤ r ∧ r < m) h0 (fun n H1 e hp _ Q q => ⟨_, hs, q _ H1 ⟨rfl, e l _ hl⟩ hp (hm_of (Ex.refl _))⟩) hb (fun v G G' ⟨e, h⟩ s => ⟨e, hm_at s lp h⟩) stb_c fun x y G ⟨e1, h1⟩ ⟨r, e2, r0, r1⟩ => by
    obtain ⟨z, hz⟩ := allI_at hv r0 r1
    subst e1
    subst e2
    exact ⟨_, ⟨z, rfl⟩, rv_ixL (sq_of h1) hz⟩
theorem ep_subI {c : Int} (h0 : H0 p = none) (ha : EvP p k ta σ H0 (fun v _ => ∃ r : Int, v = .int r)) (hb : Ev tb σ H0 (.int c)) : EvP p (k + 0) (tOp (rI0 fun i j => .int (i - j)) ta tb) σ H0 (fun v _ => ∃ x : Int, v = .int x) :=
  ep_op h0 ha (ep_ev hb) stb_c stb_c fun x y H ⟨r, e1⟩ e2 => ⟨.int (r - c), ⟨_, rfl⟩, by
    subst e1
    subst e2
    exact rv_I0⟩
theorem ep_addI {c : Int} (h0 : H0 p = none) (ha : Ev ta σ H0 (.int c)) (hb : EvP p k tb σ H0 (fun v _ => ∃ r : Int, v = .int r)) : EvP p (0 + k) (tOp (rI0 fun i j => .int (i + j)) ta tb) σ H0 (fun v _ => ∃ x : Int, v = .int x) :=
  ep_op h0 (ep_ev ha) hb stb_c stb_c fun x y H e1 ⟨r, e2⟩ => ⟨.int (c + r), ⟨_, rfl⟩, by
    subst e1
    subst e2
    exact rv_I0⟩
/-- a, b = two draws, a new tuple between -/
theorem pq_tup2 {n i j : Nat} {A B : V → Prop} (h0 : H0 p = none) (h1 : EvP p k1 ta σ H0 (fun v _ => A v)) (h2 : EvP p k2 tb σ H0 (fun v _ => B v)) (e : Ex H0 H) (hp : Po p n H) (hn : n + (k1 + k2) ≤ 1000000000)
    (q : ∀ u v H2, A u → B v → Po p (n + (k1 + k2)) H2 → Ex (Hm p H) H2 → tz D ((σ.set i (some u)).set j (some v)) H2) : tSeq (tAsg (tTup (tCons ta (tCons tb tNil))) (gTup K 2 (gCons (gName i) (gCons (gName j) gNil)))) tz D σ H :=
  h1 n H e hp (by omega) _ fun u H1 au p1 e1 => h2 (n + k1) H1 (hm_next h0 e e1) p1 (by omega) _ fun v H2 bv p2 e2 => ⟨sz_of (by simp), fun t ht =>
    ⟨t, [u, v], rfl, st_of upd_same, rfl, u, [v], rfl, v, [], rfl, rfl, q u v _ au bv (by rw [← Nat.add_assoc]; exact p2.ex (Ex.new ht)) (hm_trans e1 (hm_trans e2 (hm_of (Ex.new ht))))⟩⟩
end


local macro_rules | `(tactic| walk_at "call") => `(tactic| (with_reducible exact sv_whole))

/-! ### evaluated to what stands for tables -/
def BT (K : PySem.W.Frag) (H : Hp) (v : V) : Prop := ∃ o, Tt K H v o ∧ tabsB o = false
theorem BT.ex {K : PySem.W.Frag} {H H' : Hp} {v : V} (e : Ex H H') (h : BT K H v) : BT K H' v := h.imp fun o x => ⟨x.1.ex e, x.2⟩
theorem BT.ne {K : PySem.W.Frag} {H : Hp} {v : V} {f : Addr} (h : BT K H v) (hf : H f = none) : v ≠ .ref f := fun z => by
  obtain ⟨o, h, _⟩ := h
  subst z
  cases h with
  | no h =>
    cases h with
    | tup h => rw [hf] at h; cases h
    | dct h => rw [hf] at h; cases h
  | lst h _ _ => rw [hf] at h; cases h
theorem BT.upd {K : PySem.W.Frag} {H : Hp} {v : V} {f : Addr} {xs zs : List V} (hf : H f = some (.lst xs)) (h : BT K H v) (ne : v ≠ .ref f) : BT K (upd H f (.lst zs)) v := by
  obtain ⟨o, h, hb⟩ := h
  refine ⟨o, ?_, hb⟩
  cases h with
  | no h =>
    refine .no ?_
    cases h with
    | non => exact .non
    | bl b => exact .bl b
    | int i => exact .int i
    | str x => exact .str x
    | @tup a ys h =>
      have : a ≠ f := fun z => by
        rw [z, hf] at h
        cases h
      exact .tup (by rw [upd_ne this]; exact h)
    | @dct a ys h =>
      have : a ≠ f := fun z => by
        rw [z, hf] at h
        cases h
      exact .dct (by rw [upd_ne this]; exact h)
  | @lst a ys os h hd hl =>
    have : a ≠ f := fun z => ne (by rw [z])
    exact .lst (by rw [upd_ne this]; exact h) (paired_imp (fun _ _ x => x.upd hf) hd) hl
theorem paired_app {α β : Type} {F : α → β → Prop} : ∀ {l l' : List α} {m m' : List β}, Paired F l m → Paired F l' m' → Paired F (l ++ l') (m ++ m')
  | _, _, _, _, .nil, h => h
  | _, _, _, _, .cons h t, k => .cons h (paired_app t k)
theorem paired_rev {α β : Type} {F : α → β → Prop} : ∀ {l : List α} {m : List β}, Paired F l m → Paired F l.reverse m.reverse
  | _, _, .nil => .nil
  | _, _, .cons h t => by
    rw [List.reverse_cons, List.reverse_cons]
    exact paired_app (paired_rev t) (.cons h .nil)
theorem paired_take {α β : Type} {F : α → β → Prop} : ∀ {l : List α} {m : List β} (n : Nat), Paired F l m → Paired F (l.take n) (m.take n)
  | _, _, 0, _ => .nil
  | _, _, n + 1, .nil => .nil
  | _, _, n + 1, .cons h t => .cons h (paired_take n t)
theorem paired_drop {α β : Type} {F : α → β → Prop} : ∀ {l : List α} {m : List β} (n : Nat), Paired F l m → Paired F (l.drop n) (m.drop n)
  | _, _, 0, h => h
  | _, _, n + 1, .nil => .nil
  | _, _, n + 1, .cons h t => paired_drop n t
section
variable {K : PySem.W.Frag} {σ : L2.St} {H : Hp} {te ta tb tl : TE} {t tr : TA}
def EvTi (K : PySem.W.Frag) (te : TE) (σ : L2.St) (H : Hp) (d : PyData) : Prop := ∀ H1, Ex H H1 → ∀ Q : VK, (∀ v H2, Ex H1 H2 → Ti K H2 v d → Q v H2) → te σ H1 Q
def EaTi (K : PySem.W.Frag) (ta : TA) (σ : L2.St) (H : Hp) (ds : List PyData) : Prop := ∀ H1, Ex H H1 → ∀ Q : List V → Hp → Prop, (∀ vs H2, Ex H1 H2 → Paired (Ti K H2) vs ds → Q vs H2) → ta σ H1 Q
theorem ti_int {i : Int} (h : Ev te σ H (.int i)) : EvTi K te σ H (.int i) := fun H1 e Q q => h H1 e Q fun H2 e2 => q _ H2 e2 (.int i)
theorem ti_bl {b : Bool} (h : Ev te σ H (.bl b)) : EvTi K te σ H (.bool b) := fun H1 e Q q => h H1 e Q fun H2 e2 => q _ H2 e2 (.bl b)
theorem ti_str {x : Str} (h : Ev te σ H (.str x)) : EvTi K te σ H (.str x) := fun H1 e Q q => h H1 e Q fun H2 e2 => q _ H2 e2 (.str x)
theorem ti_non (h : Ev te σ H .non) : EvTi K te σ H .none := fun H1 e Q q => h H1 e Q fun H2 e2 => q _ H2 e2 .non
theorem ti_tup {xs : List V} (h : EvU te σ H xs) : EvTi K te σ H (.tuple []) := fun H1 e Q q => h H1 e Q fun b H2 _ e2 h2 => q _ H2 e2 (.tup h2)
theorem tia_nil : EaTi K tNil σ H [] := fun H1 _ _ q => q [] H1 (Ex.refl H1) .nil
theorem tia_cons {d : PyData} {ds : List PyData} (h : EvTi K te σ H d) (hr : EaTi K tr σ H ds) : EaTi K (tCons te tr) σ H (d :: ds) := fun H1 e _ q =>
  h H1 e _ fun v H2 e2 hv => hr H2 (e.trans e2) _ fun vs H3 e3 hvs => q (v :: vs) H3 (e2.trans e3) (.cons (hv.ex e3) hvs)
def EvTc (K : PySem.W.Frag) (te : TE) (σ : L2.St) (H : Hp) (o : Option (List PyData)) : Prop := ∀ H1, Ex H H1 → ∀ Q : VK, (∀ v H2, Ex H1 H2 → Tc K H2 v o → Q v H2) → te σ H1 Q
def EaTc (K : PySem.W.Frag) (ta : TA) (σ : L2.St) (H : Hp) (os : List (Option (List PyData))) : Prop := ∀ H1, Ex H H1 → ∀ Q : List V → Hp → Prop, (∀ vs H2, Ex H1 H2 → Paired (Tc K H2) vs os → Q vs H2) → ta σ H1 Q
theorem tc_non (h : Ev te σ H .non) : EvTc K te σ H none := fun H1 e Q q => h H1 e Q fun H2 e2 => q _ H2 e2 .non
theorem tc_int {i : Int} (h : Ev te σ H (.int i)) : EvTc K te σ H none := fun H1 e Q q => h H1 e Q fun H2 e2 => q _ H2 e2 (.int i)
theorem tc_L {xs : List V} (h : EvL te σ H xs) : EvTc K te σ H none := fun H1 e Q q => h H1 e Q fun p H2 _ e2 h2 => q _ H2 e2 (.lst h2)
theorem tc_tup {ds : List PyData} (h : EaTi K t σ H ds) (hl : ds.length ≤ 60) : EvTc K (tTup t) σ H (some ds) := fun H1 e Q q =>
  h H1 e _ fun vs H2 e2 hv => ⟨sz_of (by rw [Paired.length hv]; omega), fun p hp => q _ _ (e2.trans (Ex.new hp)) (.tup upd_same (paired_imp (fun _ _ x => x.ex (Ex.new hp)) hv) hl)⟩
theorem ti_row {H : Hp} : ∀ r : List Nat, Paired (Ti K H) (nv r) ((iz r).map PyData.int)
  | [] => .nil
  | _ :: r => .cons (.int _) (ti_row r)
/-- a table of guests -/
def cell (r : List Nat) : Option (List PyData) := some ((iz r).map PyData.int)
theorem tc_row {r : List Nat} (h : EvU te σ H (nv r)) (hl : r.length ≤ 60) : EvTc K te σ H (cell r) := fun H1 e Q q => h H1 e Q fun b H2 _ e2 h2 => q _ H2 e2 (.tup h2 (ti_row r) (by simp [iz]; exact hl))
theorem tca_nil : EaTc K tNil σ H [] := fun H1 _ _ q => q [] H1 (Ex.refl H1) .nil
theorem tca_cons {d : Option (List PyData)} {ds : List (Option (List PyData))} (h : EvTc K te σ H d) (hr : EaTc K tr σ H ds) : EaTc K (tCons te tr) σ H (d :: ds) := fun H1 e _ q =>
  h H1 e _ fun v H2 e2 hv => hr H2 (e.trans e2) _ fun vs H3 e3 hvs => q (v :: vs) H3 (e2.trans e3) (.cons (hv.ex e3) hvs)
/-- a list of what stands for tables -/
def EvR (K : PySem.W.Frag) (te : TE) (σ : L2.St) (H : Hp) (os : List (Option (List PyData))) : Prop := ∀ H1, Ex H H1 → ∀ Q : VK, (∀ l vs H2, Ex H1 H2 → H2 l = some (.lst vs) → Paired (Tc K H2) vs os → Q (.ref l) H2) → te σ H1 Q
theorem er_var {a : Addr} {xs : List V} {os : List (Option (List PyData))} (h : Ev te σ H (.ref a)) (ha : H a = some (.lst xs)) (hp : Paired (Tc K H) xs os) : EvR K te σ H os := fun H1 e Q q => h H1 e Q fun H2 e2 =>
  q a xs H2 e2 (e2 a _ (e a _ ha)) (paired_imp (fun _ _ x => x.ex (e.trans e2)) hp)
theorem er_lst {os : List (Option (List PyData))} (h : EaTc K t σ H os) (hl : os.length ≤ 1000) : EvR K (tLst t) σ H os := fun H1 e Q q =>
  h H1 e _ fun vs H2 e2 hv => ⟨sz_of (by rw [Paired.length hv]; omega), fun p hp => q p vs _ (e2.trans (Ex.new hp)) upd_same (paired_imp (fun _ _ x => x.ex (Ex.new hp)) hv)⟩
theorem er_cat {os os2 : List (Option (List PyData))} (h : EvR K ta σ H os) (h2 : EvR K tb σ H os2) (hz : os.length + os2.length ≤ 1000) : EvR K (tOp rCat ta tb) σ H (os ++ os2) := fun H1 e Q q =>
  h H1 e _ fun a xs H2 e2 ha hx => h2 H2 (e.trans e2) _ fun b ys H3 e3 hb hy =>
    ⟨a, b, xs, ys, rfl, rfl, e3 a _ ha, hb, sz_of (by rw [Paired.length hx, Paired.length hy]; omega), fun l hl => q l _ _ ((e2.trans e3).trans (Ex.new hl)) upd_same (paired_app (paired_imp (fun _ _ x => x.ex (e3.trans (Ex.new hl))) hx) (paired_imp (fun _ _ x => x.ex (Ex.new hl)) hy))⟩
def EvRF (K : PySem.W.Frag) (te : TE) (σ : L2.St) (H : Hp) (os : List (Option (List PyData))) : Prop := ∀ H1, Ex H H1 → ∀ Q : VK, (∀ l vs H2, H1 l = none → Ex H1 H2 → H2 l = some (.lst vs) → Paired (Tc K H2) vs os → Q (.ref l) H2) → te σ H1 Q
theorem er_catF {os os2 : List (Option (List PyData))} (h : EvR K ta σ H os) (h2 : EvR K tb σ H os2) (hz : os.length + os2.length ≤ 1000) : EvRF K (tOp rCat ta tb) σ H (os ++ os2) := fun H1 e Q q =>
  h H1 e _ fun a xs H2 e2 ha hx => h2 H2 (e.trans e2) _ fun b ys H3 e3 hb hy =>
    ⟨a, b, xs, ys, rfl, rfl, e3 a _ ha, hb, sz_of (by rw [Paired.length hx, Paired.length hy]; omega), fun l hl => q l _ _ (fresh_back (e2.trans e3) hl) ((e2.trans e3).trans (Ex.new hl)) upd_same (paired_app (paired_imp (fun _ _ x => x.ex (e3.trans (Ex.new hl))) hx) (paired_imp (fun _ _ x => x.ex (Ex.new hl)) hy))⟩
theorem er_revF {os : List (Option (List PyData))} (h : EvR K te σ H os) : EvRF K (tRevL K te) σ H os.reverse := fun H1 e Q q =>
  h H1 e _ fun a xs H2 e2 ha hx => ⟨a, xs, rfl, sq_of ha, fun l hl => q l _ _ (fresh_back e2 hl) (e2.trans (Ex.new hl)) upd_same (paired_rev (paired_imp (fun _ _ x => x.ex (Ex.new hl)) hx))⟩
theorem er_rev {os : List (Option (List PyData))} (h : EvR K te σ H os) : EvR K (tRevL K te) σ H os.reverse := fun H1 e Q q =>
  h H1 e _ fun a xs H2 e2 ha hx => ⟨a, xs, rfl, sq_of ha, fun l hl => q l _ _ (e2.trans (Ex.new hl)) upd_same (paired_rev (paired_imp (fun _ _ x => x.ex (Ex.new hl)) hx))⟩
/-- [e for x in xs] -/
theorem er_map {a : Addr} {xs : List V} {j : Nat} {vs : List Nat} (f : Nat → Option (List PyData)) (h : Ev tl σ H (.ref a)) (hx : SqL K H a xs) (hz : xs.length ≤ 40000) (hw : ∀ x, wipe ((wipe σ vs).set j (some x)) vs = wipe σ vs)
    (he : ∀ (i : Nat) (x : V) H1, Ex H H1 → xs[i]? = some x → EvTc K te ((wipe σ vs).set j (some x)) H1 (f i)) : EvR K (tLc (iList K tl) (gName j) tYes te vs) σ H ((List.range xs.length).map f) := fun H0 e Q q => h H0 e _ fun H1 e1 => ⟨a, rfl, ⟨xs, ex_l (e.trans e1) hx⟩, fun Dl hD =>
  lc_list (xs := xs) (fun i H' => Ex H1 H' ∧ ∃ ws, H' Dl = some (.lst ws) ∧ Paired (Tc K H') ws ((List.range i).map f)) ⟨Ex.new hD, [], upd_same, .nil⟩ (fun i H' _ p => ex_l ((e.trans e1).trans p.1) hx) (fun i x H' hi p => by
    obtain ⟨p1, ws, p2, p3⟩ := p
    show wipe ((wipe σ vs).set j (some x)) vs = wipe σ vs ∧ te ((wipe σ vs).set j (some x)) H' fun y H4 => ∃ acc, H4 Dl = some (.lst acc) ∧ acc.length < sizeLine ∧ _
    refine ⟨hw _, he i x H1 (e.trans e1) hi H' p1 _ fun v H4 e4 h4 => ⟨ws, e4 Dl _ p2, sz_lt (by
      have := Paired.length p3
      have := (List.getElem?_eq_some_iff.mp hi).1
      simp at *
      omega), Ex.mut (p1.trans e4) hD, ws ++ [v], upd_same, ?_⟩⟩
    rw [List.range_succ, List.map_append]
    exact paired_imp (fun _ _ x => x.upd (e4 Dl _ p2)) (paired_app (paired_imp (fun _ _ x => x.ex e4) p3) (.cons h4 .nil))) (fun H' p => by
      obtain ⟨p1, ws, p2, p3⟩ := p
      exact q Dl ws H' (e1.trans p1) p2 p3)⟩
/-- [e for x in range(n)] -/
theorem er_rg {n : Nat} {j : Nat} {vs : List Nat} (f : Nat → Option (List PyData)) (h : EvA t σ H [.int (n : Int)]) (hz : n ≤ 40000) (hw : ∀ x, wipe ((wipe σ vs).set j (some x)) vs = wipe σ vs)
    (he : ∀ (i : Nat) H1, Ex H H1 → i < n → EvTc K te ((wipe σ vs).set j (some (.int (i : Int)))) H1 (f i)) : EvR K (tLc (iRng1 t) (gName j) tYes te vs) σ H ((List.range n).map f) := fun H0 e Q q => h H0 e _ fun H1 e1 => ⟨(n : Int), rfl, by omega, by omega, fun Dl hD => by
  rw [Int.toNat_natCast]
  exact lc_range (lo := 0) (n := n) (fun i H' => Ex H1 H' ∧ ∃ ws, H' Dl = some (.lst ws) ∧ Paired (Tc K H') ws ((List.range i).map f)) ⟨Ex.new hD, [], upd_same, .nil⟩ (fun i H' hi p => by
    obtain ⟨p1, ws, p2, p3⟩ := p
    rw [Int.zero_add]
    show wipe ((wipe σ vs).set j (some (V.int (i : Int)))) vs = wipe σ vs ∧ te ((wipe σ vs).set j (some (V.int (i : Int)))) H' fun y H4 => ∃ acc, H4 Dl = some (.lst acc) ∧ acc.length < sizeLine ∧ _
    refine ⟨hw _, he i H1 (e.trans e1) hi H' p1 _ fun v H4 e4 h4 => ⟨ws, e4 Dl _ p2, sz_lt (by
      have := Paired.length p3
      simp at *
      omega), Ex.mut (p1.trans e4) hD, ws ++ [v], upd_same, ?_⟩⟩
    rw [List.range_succ, List.map_append]
    exact paired_imp (fun _ _ x => x.upd (e4 Dl _ p2)) (paired_app (paired_imp (fun _ _ x => x.ex e4) p3) (.cons h4 .nil))) (fun H' p => by
      obtain ⟨p1, ws, p2, p3⟩ := p
      exact q Dl ws H' (e1.trans p1) p2 p3)⟩
/-- evaluated to what is no list of tables -/
def EvB (K : PySem.W.Frag) (te : TE) (σ : L2.St) (H : Hp) : Prop := ∀ H1, Ex H H1 → ∀ Q : VK, (∀ v H2, Ex H1 H2 → BT K H2 v → Q v H2) → te σ H1 Q
def EaB (K : PySem.W.Frag) (ta : TA) (σ : L2.St) (H : Hp) (n : Nat) : Prop := ∀ H1, Ex H H1 → ∀ Q : List V → Hp → Prop, (∀ vs H2, Ex H1 H2 → vs.length = n → (∀ v ∈ vs, BT K H2 v) → Q vs H2) → ta σ H1 Q
theorem eb_R {os : List (Option (List PyData))} (h : EvR K te σ H os) (hb : tabsB (some os) = false) (hl : os.length ≤ 60) : EvB K te σ H := fun H1 e Q q => h H1 e Q fun l vs H2 e2 h2 hp => q _ H2 e2 ⟨_, .lst h2 hp hl, hb⟩
theorem eb_non (h : Ev te σ H .non) : EvB K te σ H := fun H1 e Q q => h H1 e Q fun H2 e2 => q _ H2 e2 ⟨_, .no .non, rfl⟩
theorem eb_int {i : Int} (h : Ev te σ H (.int i)) : EvB K te σ H := fun H1 e Q q => h H1 e Q fun H2 e2 => q _ H2 e2 ⟨_, .no (.int i), rfl⟩
theorem eb_str {x : Str} (h : Ev te σ H (.str x)) : EvB K te σ H := fun H1 e Q q => h H1 e Q fun H2 e2 => q _ H2 e2 ⟨_, .no (.str x), rfl⟩
theorem eb_U {xs : List V} (h : EvU te σ H xs) : EvB K te σ H := fun H1 e Q q => h H1 e Q fun p H2 _ e2 h2 => q _ H2 e2 ⟨_, .no (.tup h2), rfl⟩
theorem eb_dnew : EvB K tDNewK σ H := fun H1 e Q q p hp => q _ _ (Ex.new hp) ⟨_, .no (.dct upd_same), rfl⟩
theorem eba_nil : EaB K tNil σ H 0 := fun H1 _ _ q => q [] H1 (Ex.refl H1) rfl (by simp)
theorem eba_cons {n : Nat} (h : EvB K te σ H) (hr : EaB K tr σ H n) : EaB K (tCons te tr) σ H (n + 1) := fun H1 e _ q =>
  h H1 e _ fun v H2 e2 hv => hr H2 (e.trans e2) _ fun vs H3 e3 hl hvs => q (v :: vs) H3 (e2.trans e3) (by simp [hl]) fun x hx => by
    rcases List.mem_cons.mp hx with z | z
    · rw [z]
      exact hv.ex e3
    · exact hvs x z
def EvBL (K : PySem.W.Frag) (te : TE) (σ : L2.St) (H : Hp) (n : Nat) : Prop := ∀ H1, Ex H H1 → ∀ Q : VK, (∀ p vs H2, H1 p = none → Ex H1 H2 → H2 p = some (.lst vs) → vs.length = n → (∀ v ∈ vs, BT K H2 v ∧ v ≠ .ref p) → Q (.ref p) H2) → te σ H1 Q
theorem bl_lst {n : Nat} (h : EaB K t σ H n) (hn : n ≤ 100000) : EvBL K (tLst t) σ H n := fun H1 e Q q =>
  h H1 e _ fun vs H2 e2 hl hv => ⟨sz_of (by omega), fun p hp => q p vs _ (fresh_back e2 hp) (e2.trans (Ex.new hp)) upd_same hl fun v z => ⟨(hv v z).ex (Ex.new hp), (hv v z).ne hp⟩⟩
theorem bl_cat {a : Addr} {xs : List V} {n : Nat} (h : Ev ta σ H (.ref a)) (ha : H a = some (.lst xs)) (hx : ∀ v ∈ xs, BT K H v) (h2 : EvBL K tb σ H n) (hz : xs.length + n ≤ 1000) : EvBL K (tOp rCat ta tb) σ H (xs.length + n) := fun H1 e Q q =>
  h H1 e _ fun H2 e2 => h2 H2 (e.trans e2) _ fun p vs H3 _ e3 h3 hl hv =>
    ⟨a, p, xs, vs, rfl, rfl, e3 a _ (e2 a _ (e a _ ha)), h3, sz_of (by omega), fun l hl' => q l _ _ (fresh_back (e2.trans e3) hl') ((e2.trans e3).trans (Ex.new hl')) upd_same (by rw [List.length_append, hl]) fun v z => by
      rcases List.mem_append.mp z with z | z
      · exact ⟨(hx v z).ex (e.trans (e2.trans (e3.trans (Ex.new hl')))), ((hx v z).ex (e.trans (e2.trans e3))).ne hl'⟩
      · exact ⟨(hv v z).1.ex (Ex.new hl'), (hv v z).1.ne hl'⟩⟩
end
section
variable {K : PySem.W.Frag} {σ : L2.St} {H : Hp} {te : TE} {D : Ends} {tz : TS}
theorem q_asgBL {i n : Nat} (h : EvBL K te σ H n) (q : ∀ b vs H1, H b = none → Ex H H1 → H1 b = some (.lst vs) → vs.length = n → (∀ v ∈ vs, BT K H1 v ∧ v ≠ .ref b) → tz D (σ.set i (some (.ref b))) H1) : tSeq (tAsg te (gName i)) tz D σ H := h H (Ex.refl H) _ q
theorem s_retBL {n : Nat} (h : EvBL K te σ H n) (q : ∀ b vs H1, H b = none → Ex H H1 → H1 b = some (.lst vs) → vs.length = n → (∀ v ∈ vs, BT K H1 v ∧ v ≠ .ref b) → D.rt (.ref b) H1) : tRet te D σ H := h H (Ex.refl H) _ q
end


local macro_rules | `(tactic| walk_at "call") => `(tactic| (with_reducible exact sv_whole))

/-! ### what are no tables -/
def asO (R : List (List Int)) : List (Option (List PyData)) := R.map fun r => some (r.map PyData.int)
theorem judge_perm {xs : List Int} (hj : judge (some (xs.map PyData.int)) = true) : xs.Perm (iz (List.range xs.length)) ∧ 1 ≤ xs.length ∧ xs.length ≤ 20 := by
  unfold judge at hj
  simp only [Bool.and_eq_true] at hj
  obtain ⟨hl, _, hs⟩ := hj
  have e := eqv_ints_eq hs
  rw [intsOf_map, List.length_map] at e
  unfold lenOk at hl
  rw [List.length_map] at hl
  simp at hl
  refine ⟨?_, by omega, by omega⟩
  have p := (sortI_perm xs).symm
  rw [e] at p
  exact p
theorem tabs_perm {R : List (List Int)} (hb : tabsB (some (asO R)) = true) : (R.flatten.Perm (iz (List.range R.flatten.length)) ∧ 1 ≤ R.flatten.length ∧ R.flatten.length ≤ 20) ∧ (R.map (·.headD 0)).Pairwise (· ≤ ·) := by
  unfold tabsB at hb
  simp only [Bool.and_eq_true] at hb
  obtain ⟨_, h2, h3⟩ := hb
  unfold asO at h2 h3
  rw [heads_rows] at h2
  rw [flat_rows] at h3
  refine ⟨judge_perm h3, ?_⟩
  have e := eqv_ints_eq h2
  rw [e]
  exact sortI_sorted _
theorem tabs_nd {R : List (List Int)} (hb : tabsB (some (asO R)) = true) : R.flatten.Nodup := by
  have p := (tabs_perm hb).1.1
  rw [p.nodup_iff]
  unfold iz
  rw [List.nodup_iff_pairwise_ne, List.pairwise_map]
  exact List.Pairwise.imp (fun {a b} h => by omega) List.pairwise_lt_range
theorem tabs_mem {R : List (List Int)} (hb : tabsB (some (asO R)) = true) {z : Int} (hz : z ∈ R.flatten) : 0 ≤ z ∧ z < (R.flatten.length : Int) := by
  have p := (tabs_perm hb).1.1
  have := p.mem_iff.mp hz
  unfold iz at this
  obtain ⟨x, hx, rfl⟩ := List.mem_map.mp this
  have := List.mem_range.mp hx
  omega
theorem iz_flat : ∀ rs : List (List Nat), (rs.map iz).flatten = iz rs.flatten
  | [] => rfl
  | r :: l => by
    rw [List.map_cons, List.flatten_cons, iz_flat l, List.flatten_cons]
    unfold iz
    rw [List.map_append]
theorem asO_cell (rs : List (List Nat)) : rs.map cell = asO (rs.map iz) := by
  unfold asO
  rw [List.map_map]
  rfl
theorem asO_app (R S : List (List Int)) : asO (R ++ S) = asO R ++ asO S := by
  unfold asO
  rw [List.map_append]
theorem no_all {os : List (Option (List PyData))} (h : os.all tabB = false) : tabsB (some os) = false := by
  show (os.all tabB && _) = false
  rw [h]
  rfl
theorem no_end {os : List (Option (List PyData))} {o : Option (List PyData)} (h : tabB o = false) : tabsB (some (os ++ [o])) = false := no_all (by
  rw [List.all_append]
  simp [h])
theorem no_mid {os os2 : List (Option (List PyData))} {o : Option (List PyData)} (h : tabB o = false) : tabsB (some (os ++ [o] ++ os2)) = false := no_all (by
  rw [List.all_append, List.all_append]
  simp [h])
theorem iz_len (r : List Nat) : (iz r).length = r.length := by simp [iz]
theorem tabB_cell {r : List Nat} (ne : 0 < r.length) : tabB (cell r) = leads r := by
  obtain ⟨x, l, i1, i2, i3⟩ := lead_val ne
  have l0 : ¬ ((iz r).map PyData.int).length = 0 := by
    rw [List.length_map, iz_len]
    omega
  have ai : ((iz r).map PyData.int).all isI = true := by
    rw [List.all_map, List.all_eq_true]
    intro x _
    rfl
  unfold tabB cell
  simp only
  rw [decide_eq_false l0, ai, intsOf_map, i1]
  show (true && (true && decide (V.int (x : Int) = V.int (l.foldl min (x : Int))))) = leads r
  rw [i3]
  rfl
section
variable {h : List Nat} {rs : List (List Nat)}
theorem rl_flat (R : Rings h rs) : rs.flatten.length = h.length := by rw [R.all.length_eq, List.length_range]
theorem no_add (R : Rings h rs) {z : Int} (hz : z ≠ (h.length : Int)) : tabsB (some (rs.map cell ++ [some [PyData.int z]])) = false := Bool.eq_false_iff.mpr fun hb => by
  have e : rs.map cell ++ [some [PyData.int z]] = asO (rs.map iz ++ [[z]]) := by
    rw [asO_app, asO_cell]
    rfl
  rw [e] at hb
  have fl : (rs.map iz ++ [[z]]).flatten = iz rs.flatten ++ [z] := by
    rw [List.flatten_append, iz_flat]
    simp
  have nd := tabs_nd hb
  have m := tabs_mem hb (z := z) (by rw [fl]; simp)
  rw [fl] at nd m
  rw [List.length_append, iz_len, rl_flat R] at m
  simp only [List.length_cons, List.length_nil] at m
  have hlt : z < (h.length : Int) := by omega
  have : z.toNat ∈ rs.flatten := R.all.mem_iff.mpr (List.mem_range.mpr (by omega))
  have mz : z ∈ iz rs.flatten := List.mem_map.mpr ⟨z.toNat, this, by omega⟩
  exact (List.nodup_append.mp nd).2.2 z mz z (by simp) rfl
theorem no_cut (R : Rings h rs) {s : Nat} : tabsB (some ((rs.take s).map cell ++ (rs.drop (s + 1)).map cell ++ [some [PyData.int ((h.length : Int) + 1)]])) = false := Bool.eq_false_iff.mpr fun hb => by
  have e : (rs.take s).map cell ++ (rs.drop (s + 1)).map cell ++ [some [PyData.int ((h.length : Int) + 1)]] = asO ((rs.take s ++ rs.drop (s + 1)).map iz ++ [[(h.length : Int) + 1]]) := by
    rw [asO_app, ← asO_cell, List.map_append]
    rfl
  rw [e] at hb
  have fl : ((rs.take s ++ rs.drop (s + 1)).map iz ++ [[(h.length : Int) + 1]]).flatten = iz (rs.take s ++ rs.drop (s + 1)).flatten ++ [(h.length : Int) + 1] := by
    rw [List.flatten_append, iz_flat]
    simp
  have m := tabs_mem hb (z := (h.length : Int) + 1) (by rw [fl]; simp)
  rw [fl, List.length_append, iz_len] at m
  simp only [List.length_cons, List.length_nil] at m
  have le : (rs.take s ++ rs.drop (s + 1)).flatten.length ≤ rs.flatten.length := by
    conv => rhs; rw [← List.take_append_drop s rs]
    rw [List.flatten_append, List.flatten_append, List.length_append, List.length_append, ← List.drop_drop]
    cases rs.drop s with
    | nil => simp
    | cons a l =>
      rw [List.flatten_cons, List.length_append]
      show _ + l.flatten.length ≤ _
      omega
  rw [rl_flat R] at le
  omega
theorem no_twice (_R : Rings h rs) {one : List Nat} {s x : Nat} (hx : x ∈ one) : tabsB (some ((rs.take s).map cell ++ [cell (one ++ [x])] ++ (rs.drop (s + 1)).map cell)) = false := Bool.eq_false_iff.mpr fun hb => by
  have e : (rs.take s).map cell ++ [cell (one ++ [x])] ++ (rs.drop (s + 1)).map cell = asO ((rs.take s ++ [one ++ [x]] ++ rs.drop (s + 1)).map iz) := by
    rw [← asO_cell, List.map_append, List.map_append]
    rfl
  rw [e] at hb
  have nd := tabs_nd hb
  rw [iz_flat] at nd
  have sub : List.Sublist (one ++ [x]) (rs.take s ++ [one ++ [x]] ++ rs.drop (s + 1)).flatten := List.sublist_flatten_of_mem (by simp)
  have nd2 := List.Pairwise.sublist (sub.map (fun x : Nat => (x : Int))) nd
  have nd3 := List.pairwise_map.mp nd2
  have := (List.pairwise_append.mp nd3).2.2 x hx x (by simp)
  exact this rfl
theorem no_rot (R : Rings h rs) {one : List Nat} {s t : Nat} (ho : one ∈ rs) (t0 : 1 ≤ t) (t1 : t < one.length) : tabsB (some ((rs.take s).map cell ++ [cell (one.drop t ++ one.take t)] ++ (rs.drop (s + 1)).map cell)) = false := by
  have Rr := R.rg one ho
  have len : (one.drop t ++ one.take t).length = one.length := by
    rw [List.length_append, List.length_drop, List.length_take]
    omega
  refine no_mid ?_
  rw [tabB_cell (by omega)]
  refine decide_eq_false fun hle => ?_
  have h0 : one[0]? = some (one.headD 0) := by
    cases one with
    | nil => simp at t1
    | cons a l => rfl
  have ht : one[t]? = some one[t] := List.getElem?_eq_getElem t1
  have hd : (one.drop t ++ one.take t).headD 0 = one[t] := by
    rw [List.drop_eq_getElem_cons t1]
    rfl
  have lo := R.low one ho one[t] (List.getElem_mem t1)
  have m0 : one.headD 0 ∈ one.drop t ++ one.take t := by
    refine List.mem_append.mpr (.inr (List.mem_iff_getElem?.mpr ⟨0, ?_⟩))
    rw [List.getElem?_take_of_lt (by omega)]
    exact h0
  have := hle _ m0
  rw [hd] at this
  have eq : one.headD 0 = one[t] := by omega
  rw [eq] at h0
  have := nd_ix Rr.nd h0 ht
  omega
theorem no_rev (R : Rings h rs) (hl : 2 ≤ rs.length) : tabsB (some (rs.map cell).reverse) = false := Bool.eq_false_iff.mpr fun hb => by
  have e : (rs.map cell).reverse = asO (rs.reverse.map iz) := by
    rw [← asO_cell, List.map_reverse]
  rw [e] at hb
  have p := (tabs_perm hb).2
  have e2 : (rs.reverse.map iz).map (·.headD 0) = (iz (rs.map (·.headD 0))).reverse := by
    unfold iz
    rw [List.map_reverse, List.map_reverse, List.map_map, List.map_map]
    congr 1
    refine List.map_congr_left fun r _ => ?_
    cases r <;> rfl
  rw [e2, List.pairwise_reverse] at p
  have q := R.asc
  match rs, hl, p, q with
  | a :: b :: l, _, p, q =>
    have p := (List.pairwise_cons.mp p).1 ((b.headD 0 : Nat) : Int) (by simp [iz])
    have q := (List.pairwise_cons.mp q).1 (b.headD 0) (by simp)
    have p : ((b.headD 0 : Nat) : Int) ≤ ((a.headD 0 : Nat) : Int) := p
    have q : a.headD 0 < b.headD 0 := q
    omega
theorem no_dbl (R : Rings h rs) (o : Ord h) : tabsB (some (rs.map cell ++ rs.map cell)) = false := Bool.eq_false_iff.mpr fun hb => by
  have e : rs.map cell ++ rs.map cell = asO ((rs ++ rs).map iz) := by
    rw [← asO_cell, List.map_append]
  rw [e] at hb
  have nd := tabs_nd hb
  rw [iz_flat, List.flatten_append] at nd
  have nd3 := List.pairwise_map.mp nd
  have o1 := o.2.1
  have m0 : 0 ∈ rs.flatten := R.all.mem_iff.mpr (List.mem_range.mpr (by omega))
  exact (List.pairwise_append.mp nd3).2.2 0 m0 0 m0 rfl
end
theorem no_mem {R : List (List Int)} (z : Int) (hz : z ∈ R.flatten) (hl : (R.flatten.length : Int) ≤ z ∨ z < 0) : tabsB (some (asO R)) = false := Bool.eq_false_iff.mpr fun hb => by
  have := tabs_mem hb hz
  omega
theorem no_len {R : List (List Int)} (hl : R.flatten.length < 1 ∨ 20 < R.flatten.length) : tabsB (some (asO R)) = false := Bool.eq_false_iff.mpr fun hb => by
  have := (tabs_perm hb).1.2
  omega
theorem no_00 : tabsB (some [some [PyData.int 0, .int 0]]) = false := Bool.eq_false_iff.mpr fun hb => by
  have := tabs_nd (R := [[0, 0]]) hb
  simp at this


local macro_rules | `(tactic| walk_at "call") => `(tactic| (with_reducible exact sv_whole))

/-! ### _law_wrong_tables -/
section
variable {K : PySem.W.Frag} {σ : L2.St} {H0 H : Hp} {ta tb tc te : TE} {tl th : TO} {D : Ends} {tz tu : TS} {t : TT} {p : Addr} {k1 : Nat}
theorem pq_par2 {n i j : Nat} {A : V → Prop} {u2 : V} (h0 : H0 p = none) (h1 : EvP p k1 ta σ H0 (fun v _ => A v)) (h2 : Ev tb σ H0 u2) (e : Ex H0 H) (hp : Po p n H) (hn : n + k1 ≤ 1000000000)
    (q : ∀ u H2, A u → Ex (Hm p H) H2 → Po p (n + k1) H2 → tz D ((σ.set i (some u)).set j (some u2)) H2) : tSeq (tPar i j (tCons ta (tCons tb tNil))) tz D σ H :=
  h1 n H e hp hn _ fun u H1 au p1 e1 => h2 H1 (hm_next h0 e e1) _ fun H2 e2 => ⟨u, u2, rfl, q u H2 au (hm_trans e1 (hm_of e2)) (p1.ex e2)⟩
theorem q_par3L {i j l : Nat} {xs ys : List V} {v : V} (h1 : EvL ta σ H xs) (h2 : Ev tb σ H v) (h3 : EvL tc σ H ys)
    (q : ∀ a b H2 H3, H a = none → Ex H H2 → H2 b = none → Ex H2 H3 → H2 a = some (.lst xs) → H3 b = some (.lst ys) → tz D (((σ.set i (some (.ref a))).set j (some v)).set l (some (.ref b))) H3) : tSeq (tPar3 i j l (tCons ta (tCons tb (tCons tc tNil)))) tz D σ H :=
  h1 H (Ex.refl H) _ fun a H2 na e2 ha => h2 H2 e2 _ fun H3 e3 => h3 H3 (e2.trans e3) _ fun b H4 nb e4 hb => ⟨.ref a, v, .ref b, rfl, q a b H3 H4 na (e2.trans e3) nb e4 (e3 a _ ha) hb⟩
theorem cutV_to (xs : List V) {k : Nat} (h : k ≤ xs.length) : cutV xs none (some (k : Int)) = xs.take k := by
  unfold cutV
  rw [HT.sIx_none, HT.sIx_nat, List.drop_zero, Nat.min_eq_left h, Nat.sub_zero]
theorem cutV_from (xs : List V) {k : Nat} (h : k ≤ xs.length) : cutV xs (some (k : Int)) none = xs.drop k := by
  unfold cutV
  rw [HT.sIx_none, HT.sIx_nat, Nat.min_eq_left h]
  exact List.take_of_length_le (by rw [List.length_drop]; omega)
theorem eu_slT {a : Addr} {xs : List V} {lo hi : Option Int} (h : Ev te σ H (.ref a)) (h1 : EvO tl σ H lo) (h2 : EvO th σ H hi) (hs : SqT K H a xs) (hn : ¬ (HT.sIx xs.length 0 lo = 0 ∧ HT.sIx xs.length xs.length hi = xs.length)) : EvU (tSl (rSlT K) te tl th) σ H (cutV xs lo hi) := fun H1 e _ q =>
  h H1 e _ fun H2 e2 => h1 H2 (e.trans e2) _ fun H3 e3 => h2 H3 ((e.trans e2).trans e3) _ fun H4 e4 =>
    ⟨a, xs, rfl, ex_t (((e.trans e2).trans e3).trans e4) hs, hn, fun p hp => q p _ (fresh_back ((e2.trans e3).trans e4) hp) (((e2.trans e3).trans e4).trans (Ex.new hp)) upd_same⟩
theorem eu_cat {xs ys : List V} (ha : EvU ta σ H xs) (hb : EvU tb σ H ys) (hl : xs.length + ys.length ≤ 100000) (h0 : xs ≠ []) (h1 : ys ≠ []) : EvU (tOp (rCatT K) ta tb) σ H (xs ++ ys) := fun H1 e Q q =>
  ha H1 e _ fun a H2 _ e2 h2 => hb H2 (e.trans e2) _ fun b H3 _ e3 h3 => ⟨a, b, xs, ys, rfl, rfl, st_of (e3 a _ h2), st_of h3, h0, sz_of hl, fun z => absurd z h1, fun _ l hl' => q l _ (fresh_back (e2.trans e3) hl') ((e2.trans e3).trans (Ex.new hl')) upd_same⟩
theorem eu_catO {a : Addr} {xs ys : List V} (ha : Ev ta σ H (.ref a)) (hv : H a = some (.tup xs)) (hb : EvU tb σ H ys) (hl : xs.length + ys.length ≤ 100000) (h0 : xs ≠ []) (h1 : ys ≠ []) : EvU (tOp (rCatT K) ta tb) σ H (xs ++ ys) := fun H1 e Q q =>
  ha H1 e _ fun H2 e2 => hb H2 (e.trans e2) _ fun b H3 _ e3 h3 => ⟨a, b, xs, ys, rfl, rfl, st_of (e3 a _ (e2 a _ (e a _ hv))), st_of h3, h0, sz_of hl, fun z => absurd z h1, fun _ l hl' => q l _ (fresh_back (e2.trans e3) hl') ((e2.trans e3).trans (Ex.new hl')) upd_same⟩
theorem el_listT {a : Addr} {xs : List V} (ha : Ev ta σ H (.ref a)) (h : SqT K H a xs) : EvL (tCB (rListS K) (tCons ta tNil)) σ H xs := fun H1 e Q q =>
  ha H1 e _ fun H2 e2 => ⟨a, xs, rfl, Or.inr (ex_t (e.trans e2) h), fun l hl => q l _ (fresh_back e2 hl) (e2.trans (Ex.new hl)) upd_same⟩
theorem eu_rgN {m : Nat} (h : Ev tb σ H (.int (m : Int))) (hm : m ≤ 30 := by decide) : EvU (tTupRg (tRg1 tb)) σ H (nv (List.range m)) := by
  rw [← range_iz]
  exact fun H1 e Q q => h H1 e _ fun H2 e2 => ⟨m, rfl, RgOk.of_le (by decide) (by omega) (by decide) (by omega), fun l hl => q l _ (fresh_back e2 hl) (e2.trans (Ex.new hl)) upd_same⟩
/-- found as it stands -/
def Fd (K : PySem.W.Frag) (f : Addr) (n : Nat) (G H : Hp) : Prop := Ex G H ∧ ∃ ws, H f = some (.lst ws) ∧ ws.length ≤ n ∧ ∀ v ∈ ws, BT K H v ∧ v ≠ .ref f
theorem Fd.ex {f : Addr} {n : Nat} {G H H' : Hp} (h : Fd K f n G H) (e : Ex H H') : Fd K f n G H' := by
  obtain ⟨e0, ws, h1, h2, h3⟩ := h
  exact ⟨e0.trans e, ws, e f _ h1, h2, fun v hv => ⟨(h3 v hv).1.ex e, (h3 v hv).2⟩⟩
theorem q_whenJ {b : Bool} (h : EvT t σ H b) (Pv : Hp → Prop) (h1 : b = true → ∀ H1, Ex H H1 → (∀ H2, Pv H2 → tz D σ H2) → tu { D with nx := tz D } σ H1) (h2 : b = false → ∀ H1, Ex H H1 → Pv H1) (k : ∀ H2, Pv H2 → tz D σ H2) : tSeq (tIfS t tu tNext) tz D σ H :=
  q_when h (fun hb H1 e => h1 hb H1 e k) fun hb H1 e => k _ (h2 hb H1 e)
theorem s_appR {f : Addr} {n : Nat} {G : Hp} {os : List (Option (List PyData))} (hf : Fd K f n G H) (gf : G f = none) (hn : n ≤ 1000) (ha : Ev ta σ H (.ref f)) (h : EvRF K te σ H os) (hb : tabsB (some os) = false) (hl : os.length ≤ 60) (k : ∀ H2, Fd K f (n + 1) G H2 → D.nx σ H2) :
    tDrop (tBM K "list" rAppend ta (tCons te tNil)) D σ H := by
  obtain ⟨e0, ws, h1, h2, h3⟩ := hf
  exact ha H (Ex.refl H) _ fun H1 e1 => ⟨Or.inl ⟨rfl, ws, sq_of (e1 f _ h1)⟩, h H1 e1 _ fun l vs H2 hl' e2 hv ht => ⟨f, ws, .ref l, rfl, rfl, e2 f _ (e1 f _ h1), sz_lt (by omega), k _ (by
    have hf2 := e2 f _ (e1 f _ h1)
    have lf : V.ref l ≠ .ref f := fun z => by
      have z : l = f := by simpa using z
      rw [z, e1 f _ h1] at hl'
      cases hl'
    refine ⟨Ex.mut (e0.trans (e1.trans e2)) gf, ws ++ [.ref l], upd_same, by rw [List.length_append]; simp; omega, fun v z => ?_⟩
    rcases List.mem_append.mp z with z | z
    · exact ⟨((h3 v z).1.ex (e1.trans e2)).upd hf2 (h3 v z).2, (h3 v z).2⟩
    · rw [List.mem_singleton.mp z]
      exact ⟨BT.upd hf2 ⟨_, .lst hv ht hl, hb⟩ lf, lf⟩)⟩⟩
end
def sp_law_wrong (K : PySem.W.Frag) : Sp := fun vs H Q _ => ∃ (p a : Addr) (n : Nat) (ws : List V) (rs : List (List Nat)) (h : List Nat), vs = [.ref p, .ref a] ∧ Po p n H ∧ n + 2 < 1000000000 ∧ a ≠ p ∧ H a = some (.lst ws) ∧ Paired (Lb (Hm p H)) ws rs ∧ Rings h rs ∧ Ord h ∧
  ∀ l ws' H', H' l = some (.lst ws') → (∀ v ∈ ws', BT K H' v) → Po p (n + 2) H' → Ex (Hm p H) H' → Q (.ref l) H'
section
variable {P : Program} {w : World} {K : PySem.W.Frag} {mg : Str → Option Value} {base : Heap}
theorem ok_law_wrong_tables (T : Tx K mg) : FnOk P w K mg base CX0 2 T.f_law_wrong_tables T.d_law_wrong_tables ["pouch", "rings"] (sp_law_wrong K) := by
  refine T.F_law_wrong_tables.ok sc_law_wrong_tables (fun vs H Q E h => ?_) (fun cdv A outer s H vs Q E hr h => ?_)
  · obtain ⟨p, a, n, ws, rs, h, rfl, _⟩ := h
    rfl
  · obtain ⟨p, a, n, ws, rs, h, rfl, hpo, hn, ap, ha, hL, R, o, k⟩ := h
    refine ⟨_, (pss_cons (ps_setLc (i := 3) (own := [("ring", 2)]) (g := (gName 2)) (tt := tYes) rfl sc_law_wrong_tables.nd rfl rfl (sw_true rfl rfl rfl (by decide +kernel)) (pi_list (pv 1)) (blkOk_by (own := [("ring", 2)]) (N := n_law_wrong_tables) (sc := defScope s_law_wrong_tables) (by decide +kernel)) (fun _ _ _ _ _ => (pg_name (i := 2) sc_law_wrong_tables.nd rfl (Or.inl rfl))) (fun _ _ _ _ _ => pts_nil) (fun _ _ _ _ _ => (pe_callTy (T := "tuple") (r := rTupS K) call_tupR (by rfl) T.m_tuple (by decide +kernel) (pa_cons (pv 2) pa_nil))))
      (pss_cons (ps_par (i := 4) (j := 5) (by rfl) sc_law_wrong_tables.nd rfl rfl (by decide) rfl rfl (pa_cons (pe_call (ok_law_dip T) (hr.mono (by decide)) (by rfl) T.g_law_dip T.F_law_dip.kp T.b_law_dip .nil pass0 (pa_cons (pv 0) (pa_cons (pe_callB call_lenR (by rfl) T.m_len (by decide +kernel) (pa_cons (pv 3) pa_nil)) pa_nil))) (pa_cons (pe_callB (cr_sum rfl) (by rfl) T.m_sum (by decide +kernel) (pa_cons (pe_lc (own := [("ring", 2)]) (g := (gName 2)) (tt := tYes) rfl sc_law_wrong_tables.nd (pi_list (pv 1)) (blkOk_by (own := [("ring", 2)]) (N := n_law_wrong_tables) (sc := defScope s_law_wrong_tables) (by decide +kernel)) (fun _ _ _ _ _ => (pg_name (i := 2) sc_law_wrong_tables.nd rfl (Or.inl rfl))) (fun _ _ _ _ _ => pts_nil) (fun _ _ _ _ _ => (pe_callB (id := "len") (r := rLenS K) call_lenR (by rfl) T.m_len (by decide +kernel) (pa_cons (pv 2) pa_nil)))) pa_nil)) pa_nil)) (by rfl))
      (pss_cons (ps_par3 (i := 6) (j := 7) (l := 8) (by rfl) sc_law_wrong_tables.nd rfl rfl rfl (by decide) (by decide) (by decide) rfl rfl rfl (pa_cons (pe_slice sl_list (pv 3) po_none (po_some (pv 4))) (pa_cons (pe_ix ix_list (pv 3) (pv 4) (fun _ _ => rfl)) (pa_cons (pe_slice sl_list (pv 3) (po_some (pe_op op_add (pv 4) pe_int)) po_none) pa_nil))) (by rfl))
      (pss_cons (ps_set (i := 9) sc_law_wrong_tables.nd rfl (Or.inl rfl) (pe_op op_add pe_int (pe_call (ok_law_dip T) (hr.mono (by decide)) (by rfl) T.g_law_dip T.F_law_dip.kp T.b_law_dip .nil pass0 (pa_cons (pv 0) (pa_cons (pe_callB call_lenR (by rfl) T.m_len (by decide +kernel) (pa_cons (pv 7) pa_nil)) pa_nil)))))
      (pss_cons (ps_set (i := 11) sc_law_wrong_tables.nd rfl (Or.inl rfl) (pe_lst (pa_cons pe_non (pa_cons (pe_tup pa_nil) (pa_cons (pe_lst pa_nil) (pa_cons pe_dnewK (pa_cons pe_int (pa_cons pe_str (pa_cons (pe_callTy call_tupR (by rfl) T.m_tuple (by decide +kernel) (pa_cons (pv 3) pa_nil)) (pa_cons (pe_lst (pa_cons (pe_tup pa_nil) pa_nil)) (pa_cons (pe_op op_cat (pv 3) (pe_lst (pa_cons (pe_tup pa_nil) pa_nil))) (pa_cons (pe_op op_cat (pv 3) (pe_lst (pa_cons (pe_tup (pa_cons pe_int pa_nil)) pa_nil))) (pa_cons (pe_lc (own := [("table", 10)]) (g := (gName 10)) (tt := tYes) rfl sc_law_wrong_tables.nd (pi_list (pv 3)) (blkOk_by (own := [("table", 10)]) (N := n_law_wrong_tables) (sc := defScope s_law_wrong_tables) (by decide +kernel)) (fun _ _ _ _ _ => (pg_name (i := 10) sc_law_wrong_tables.nd rfl (Or.inl rfl))) (fun _ _ _ _ _ => pts_nil) (fun _ _ _ _ _ => (pe_callTy (r := rListS K) call_listR (by rfl) T.m_list (by decide +kernel) (pa_cons (pv 10) pa_nil)))) pa_nil)))))))))))))
      (pss_cons (ps_set (i := 11) sc_law_wrong_tables.nd rfl (Or.inl rfl) (pe_op op_cat (pv 11) (pe_lst (pa_cons (pe_op op_cat (pe_op op_cat (pv 6) (pv 8)) (pe_lst (pa_cons (pe_tup (pa_cons (pe_op op_add (pv 5) pe_int) pa_nil)) pa_nil))) (pa_cons (pe_op op_cat (pv 3) (pe_lst (pa_cons (pe_tup (pa_cons pe_bl pa_nil)) pa_nil))) (pa_cons (pe_op op_cat (pv 3) (pe_lst (pa_cons (pe_tup (pa_cons (pe_un un_neg pe_int) pa_nil)) pa_nil))) (pa_cons (pe_lst (pa_cons (pe_tup (pa_cons pe_int pa_nil)) pa_nil)) (pa_cons (pe_lst (pa_cons (pe_tup (pa_cons pe_int (pa_cons pe_int pa_nil))) pa_nil)) (pa_cons (pe_lst (pa_cons (pe_tup (pa_cons pe_bl pa_nil)) pa_nil)) pa_nil)))))))))
      (pss_cons (ps_set (i := 11) sc_law_wrong_tables.nd rfl (Or.inl rfl) (pe_op op_cat (pv 11) (pe_lst (pa_cons (pe_op op_cat (pv 3) (pe_lst (pa_cons (pe_tup (pa_cons (pe_op op_add (pv 5) pe_int) pa_nil)) pa_nil))) (pa_cons (pe_op op_cat (pe_op op_cat (pv 6) (pe_lst (pa_cons (pe_op op_catT (pv 7) (pe_tup (pa_cons (pe_ix ix_tup (pv 7) pe_int (fun _ _ => rfl)) pa_nil))) pa_nil))) (pv 8)) (pa_cons (pe_op op_cat (pv 3) (pe_lst (pa_cons pe_non pa_nil))) (pa_cons (pe_lst (pa_cons (pe_tup (pa_cons pe_str pa_nil)) pa_nil)) (pa_cons (pe_lst (pa_cons (pe_tup (pa_cons (pe_tup (pa_cons pe_int pa_nil)) pa_nil)) pa_nil)) pa_nil))))))))
      (pss_cons (ps_if (pt_cmpR op_lt (pv 9) (pe_callB call_lenR (by rfl) T.m_len (by decide +kernel) (pa_cons (pv 7) pa_nil)) (nomark _)) (pss_one (ps_expr (pe_bm PySem.F.plainAttrs_list PySem.F.slot_list_append PySem.F.type_list_append mt_append (pv 11) (pa_cons (pe_op op_cat (pe_op op_cat (pv 6) (pe_lst (pa_cons (pe_op op_catT (pe_slice sl_tup (pv 7) (po_some (pv 9)) po_none) (pe_slice sl_tup (pv 7) po_none (po_some (pv 9)))) pa_nil))) (pv 8)) pa_nil)))) pss_nil)
      (pss_cons (ps_if (pt_cmpR op_gt (pe_callB call_lenR (by rfl) T.m_len (by decide +kernel) (pa_cons (pv 3) pa_nil)) pe_int (nomark _)) (pss_one (ps_expr (pe_bm PySem.F.plainAttrs_list PySem.F.slot_list_append PySem.F.type_list_append mt_append (pv 11) (pa_cons (pe_revL (pv 3)) pa_nil)))) pss_nil)
      (pss_cons (ps_set (i := 11) sc_law_wrong_tables.nd rfl (Or.inl rfl) (pe_op op_cat (pv 11) (pe_lst (pa_cons (pe_lst (pa_cons (pe_tupRg rfl (by rfl) T.m_tuple (prg_1 (by rfl) T.m_range pe_int)) pa_nil)) (pa_cons (pe_lc (own := [("one", 7)]) (g := (gName 7)) (tt := tYes) rfl sc_law_wrong_tables.nd (pi_range1 (by rfl) T.m_range (pa_cons pe_int pa_nil)) (blkOk_by (own := [("one", 7)]) (N := n_law_wrong_tables) (sc := defScope s_law_wrong_tables) (by decide +kernel)) (fun _ _ _ _ _ => (pg_name (i := 7) sc_law_wrong_tables.nd rfl (Or.inl rfl))) (fun _ _ _ _ _ => pts_nil) (fun _ _ _ _ _ => (pe_tup (pa_cons (pv 7) pa_nil)))) (pa_cons (pe_lst (pa_cons (pe_tup (pa_cons pe_int (pa_cons pe_non pa_nil))) pa_nil)) pa_nil))))))
      (pss_one (ps_ret (pe_op op_cat (pv 11) (pe_lst (pa_cons (pe_lst (pa_cons (pe_tup (pa_cons pe_int (pa_cons (pe_op op_powX pe_int pe_int) pa_nil))) pa_nil)) (pa_cons (pe_lst (pa_cons pe_int pa_nil)) (pa_cons (pe_lst (pa_cons (pe_tup (pa_cons pe_int (pa_cons pe_int pa_nil))) (pa_cons pe_int pa_nil))) (pa_cons (pe_op op_cat (pv 3) (pv 3)) pa_nil)))))))))))))))))), ?_⟩
    have wl : ws.length = rs.length := Paired.length hL
    have rl := many R
    have o1 := o.2.1
    have o2 := o.2.2
    have fl := rl_flat R
    have r1 : 1 ≤ rs.length := by
      cases rs with
      | nil =>
        simp at fl
        omega
      | cons x l => simp
    refine q_asgLT (rs := rs.map nv) ?_ fun g gws H1 ng e1 hg ht => ?_
    · have x := elt_map (K := K) (te := tCB (rTupS K) (tCons (tVar 2) tNil)) (tl := tVar 1) (σ := start n_law_wrong_tables [.ref p, .ref a]) (H := H) (j := 2) (vs := [2]) (fun i => nv (rs.getD i [])) (ev_var rfl) (sq_of ha) (by omega) (fun _ => rfl) fun i x H2 e2 hx => by
        obtain ⟨r, hr, b, rfl, hb⟩ := paired_get hL hx
        have g : rs.getD i [] = r := by rw [List.getD_eq_getElem?_getD, hr] <;> rfl
        rw [g]
        exact eu_tupOf (ev_var rfl) (sq_of (e2 b _ (hm_sub b _ hb)))
      have e : (List.range ws.length).map (fun i => nv (rs.getD i [])) = rs.map nv := by
        rw [wl]
        conv => rhs; rw [range_get rs []]
        rw [List.map_map]
        rfl
      rw [e] at x
      exact x
    have gl : gws.length = rs.length := by
      have := ht.len
      rw [List.length_map] at this
      exact this
    have gp : g ≠ p := hpo.ne ng
    have p1 := hpo.ex e1
    refine pq_par2 (p := p) (k1 := 1) (H0 := Hm p H1) (A := fun v => ∃ s : Nat, v = .int (s : Int) ∧ s < rs.length) (u2 := .int (h.length : Int)) hm_p (ep_is (ep_dipI (w := (gws.length : Int)) hm_p (ev_var rfl) (ev_len (K := K) (ev_var (i := 3) rfl) (sq_of (hm_in gp hg))) (by omega) (by omega)) fun v H ⟨r, e, r0, r1⟩ => ⟨r.toNat, by rw [e]; exact congrArg V.int (by omega), by omega⟩) ?_ hm_sub p1 (by omega) ?_
    · have hL1 : Paired (Lb (Hm p H1)) ws rs := paired_imp (fun _ _ x => Lb.ex (hm_mono e1) x) hL
      have e0 : ((List.range ws.length).map fun i => V.int ((rs.getD i []).length : Int)) = (rs.map fun r => (r.length : Int)).map V.int := by
        rw [wl, List.map_map]
        conv => rhs; rw [range_get rs []]
        rw [List.map_map]
        rfl
      rw [← fl, ← sum_len rs]
      refine ev_sumN (ns := rs.map fun r => (r.length : Int)) ?_
      rw [← e0]
      refine el_mapI _ (ev_var rfl) (sq_of (hm_in ap (e1 a _ ha))) (by omega) (fun _ => rfl) fun i x H2 e2 hx => ?_
      obtain ⟨r, hr, b, rfl, hb⟩ := paired_get hL1 hx
      have g : rs.getD i [] = r := by rw [List.getD_eq_getElem?_getD, hr] <;> rfl
      rw [g, ← nv_len r]
      exact ev_len (K := K) (ev_var rfl) (sq_of (e2 b _ hb))
    rintro u H2 ⟨s, rfl, hs⟩ e2 p2
    have hg2 := hm_at e2 gp hg
    have gb : ∀ (H' : Hp), TL H' gws (rs.map nv) → ∀ {i : Nat} {v : V}, gws[i]? = some v → ∃ b r, v = .ref b ∧ H' b = some (.tup (nv r)) ∧ rs[i]? = some r := fun H' t i v hv => by
      obtain ⟨b, r, rfl, hb, hr⟩ := t.get hv
      rw [List.getElem?_map] at hr
      obtain ⟨r', hr', rfl⟩ := Option.map_eq_some_iff.mp hr
      exact ⟨b, r', rfl, hb, hr'⟩
    have ht2 : TL H2 gws (rs.map nv) := ht.imp fun b r x => hm_at e2 (fun z => by
      obtain ⟨y1, y2, y3, q1, _⟩ := p1
      rw [z, q1] at x
      cases x) x
    obtain ⟨v1, hv1⟩ : ∃ v, gws[s]? = some v := ⟨_, List.getElem?_eq_getElem (by omega)⟩
    obtain ⟨ob, r, rfl, hob, hr⟩ := gb H2 ht2 hv1
    have hrm : r ∈ rs := List.mem_of_getElem? hr
    have Rr := R.rg r hrm
    have rne := Rr.ne
    have rsh := R.short hrm
    refine q_par3L (xs := gws.take s) (ys := gws.drop (s + 1)) (v := .ref ob) ?_ (ev_op (ev_var rfl) (ev_var rfl) (rv_ixL (K := K) (sq_of hg2) (atI_nat hv1))) ?_ fun hd tl H3 H4 nhd e3 ntl e4 hhd htl => ?_
    · have x := el_sl (K := K) (te := tVar 3) (tl := tNoPart) (th := tPart (tVar 4)) (σ := [some (V.ref p), some (.ref a), none, some (.ref g), some (.int (s : Int)), some (.int (h.length : Int)), none, none, none, none, none, none]) (H := H2) (ev_var (i := 3) (v := .ref g) rfl) eo_none (eo_some (ev_var (i := 4) (v := .int (s : Int)) rfl)) (sq_of hg2)
      rw [cutV_to _ (by omega)] at x
      exact x
    · have x := el_sl (K := K) (te := tVar 3) (tl := tPart (tOp (rI0 fun i j => .int (i + j)) (tVar 4) (tC (.int 1)))) (th := tNoPart) (σ := [some (V.ref p), some (.ref a), none, some (.ref g), some (.int (s : Int)), some (.int (h.length : Int)), none, none, none, none, none, none]) (H := H2) (ev_var (i := 3) (v := .ref g) rfl) (eo_some (i := ((s + 1 : Nat) : Int)) (ev_is (ev_op (ev_var (i := 4) (v := .int (s : Int)) rfl) ev_c rv_I0) rfl)) eo_none (sq_of hg2)
      rw [cutV_from _ (by omega)] at x
      exact x
    have p4 := p2.ex (e3.trans e4)
    have hg4 := e4 g _ (e3 g _ hg2)
    have hob4 := e4 ob _ (e3 ob _ hob)
    have obp : ob ≠ p := fun z => by
      obtain ⟨y1, y2, y3, q1, _⟩ := p4
      rw [z, q1] at hob4
      cases hob4
    have hdp : hd ≠ p := p2.ne nhd
    have tlp : tl ≠ p := (p2.ex e3).ne ntl
    refine pq_asg (p := p) (k := 0 + 1) (H0 := Hm p H4) (R := fun v _ => ∃ t : Nat, v = .int (t : Int) ∧ 1 ≤ t ∧ t ≤ r.length) (ep_is (ep_add hm_p ev_c (ep_dipI (w := ((nv r).length : Int)) hm_p (ev_var rfl) (ev_lenT (K := K) (ev_var (i := 7) rfl) (st_of (hm_in obp hob4))) (by rw [nv_len]; omega) (by rw [nv_len]; omega))) fun v H ⟨r', e, r0, r1⟩ => ⟨(1 + r').toNat, by rw [e]; exact congrArg V.int (by omega), by omega, by rw [nv_len] at r1; omega⟩) hm_sub p4 (by omega) ?_
    rintro v5 H5 ⟨t, rfl, t1, tl2⟩ p5 e5
    have hg5 := hm_at e5 gp hg4
    have hob5 := hm_at e5 obp hob4
    have hhd5 := hm_at e5 hdp (e4 hd _ hhd)
    have htl5 := hm_at e5 tlp htl
    have ht5 : TL H5 gws (rs.map nv) := (ht2.ex (e3.trans e4)).imp fun b r x => hm_at e5 (fun z => by
      obtain ⟨y1, y2, y3, q1, _⟩ := p4
      rw [z, q1] at x
      cases x) x
    have e05 : Ex (Hm p H) H5 := hm_trans (hm_of e1) (hm_trans e2 (hm_trans (hm_of (e3.trans e4)) e5))
    have T5 : Paired (Tc K H5) gws (rs.map cell) := tl_tc ht5 fun x hx => by
      have := R.short hx
      omega
    have Th5 : Paired (Tc K H5) (gws.take s) ((rs.take s).map cell) := by
      rw [List.map_take]
      exact paired_take s T5
    have Tt5 : Paired (Tc K H5) (gws.drop (s + 1)) ((rs.drop (s + 1)).map cell) := by
      rw [List.map_drop]
      exact paired_drop (s + 1) T5
    have gV : ∀ {σ : L2.St} {H' : Hp}, σ[3]? = some (some (.ref g)) → Ex H5 H' → EvR K (tVar 3) σ H' (rs.map cell) := fun h3 e => er_var (ev_var h3) (e g _ hg5) (paired_imp (fun _ _ x => x.ex e) T5)
    have hV : ∀ {σ : L2.St} {H' : Hp}, σ[6]? = some (some (.ref hd)) → Ex H5 H' → EvR K (tVar 6) σ H' ((rs.take s).map cell) := fun h3 e => er_var (ev_var h3) (e hd _ hhd5) (paired_imp (fun _ _ x => x.ex e) Th5)
    have tV : ∀ {σ : L2.St} {H' : Hp}, σ[8]? = some (some (.ref tl)) → Ex H5 H' → EvR K (tVar 8) σ H' ((rs.drop (s + 1)).map cell) := fun h3 e => er_var (ev_var h3) (e tl _ htl5) (paired_imp (fun _ _ x => x.ex e) Tt5)
    have lG : (rs.map cell).length ≤ 20 := by rw [List.length_map]; omega
    have lH : ((rs.take s).map cell).length ≤ 20 := by rw [List.length_map, List.length_take]; omega
    have lT : ((rs.drop (s + 1)).map cell).length ≤ 20 := by rw [List.length_map, List.length_drop]; omega
    have lst1 : tabsB (some ((List.range gws.length).map fun _ => (none : Option (List PyData)))) = false := no_all (by
      obtain ⟨m, hm⟩ : ∃ m, gws.length = m + 1 := ⟨gws.length - 1, by omega⟩
      rw [hm, List.range_succ, List.map_append, List.all_append]
      simp [tabB])
    refine q_asgBL (K := K) (n := 11) (bl_lst (eba_cons (eb_non ev_c) (eba_cons (eb_U (eu_tup ea_nil (Nat.le_of_ble_eq_true rfl))) (eba_cons (eb_R (er_lst tca_nil (by decide)) (no_len (R := []) (by decide)) (by decide)) (eba_cons eb_dnew (eba_cons (eb_int ev_c) (eba_cons (eb_str ev_c) (eba_cons (eb_U (eu_tupOf (K := K) (ev_var rfl) (sq_of hg5)))
      (eba_cons (eb_R (er_lst (tca_cons (tc_tup tia_nil (by decide)) tca_nil) (by decide)) (no_all rfl) (by decide)) (eba_cons (eb_R (er_cat (gV rfl (Ex.refl _)) (er_lst (tca_cons (tc_tup tia_nil (by decide)) tca_nil) (by decide)) (by simp; omega)) (no_end rfl) (by simp; omega))
      (eba_cons (eb_R (er_cat (gV rfl (Ex.refl _)) (er_lst (tca_cons (tc_tup (tia_cons (ti_int ev_c) tia_nil) (by decide)) tca_nil) (by decide)) (by simp; omega)) (no_add R (by omega)) (by simp; omega))
      (eba_cons (eb_R (er_map (K := K) (j := 10) (vs := [10]) (fun _ => none) (ev_var rfl) (sq_of hg5) (by omega) (fun _ => rfl) fun i x H6 e6 hx => ?_) lst1 (by simp; omega)) eba_nil))))))))))) (by decide)) fun f1 ws1 H6 nf1 e6 hf1 l1 b1 => ?_
    · obtain ⟨b, r, rfl, hb, hr⟩ := gb H5 ht5 hx
      exact tc_L (el_listT (ev_var rfl) (st_of (e6 b _ hb)))
    refine q_asgBL (K := K) (n := ws1.length + 6) (bl_cat (ev_var rfl) hf1 (fun v hv => (b1 v hv).1) (bl_lst (eba_cons (eb_R (er_cat (er_cat (hV rfl e6) (tV rfl e6) (by omega)) (er_lst (tca_cons (tc_tup (tia_cons (ti_int (ev_op (ev_var rfl) ev_c rv_I0)) tia_nil) (Nat.le_of_ble_eq_true rfl)) tca_nil) (Nat.le_of_ble_eq_true rfl)) (by simp; omega)) (no_cut R) (by simp; omega))
      (eba_cons (eb_R (er_cat (gV rfl e6) (er_lst (tca_cons (tc_tup (tia_cons (ti_bl ev_c) tia_nil) (by decide)) tca_nil) (by decide)) (by simp; omega)) (no_end rfl) (by simp; omega))
      (eba_cons (eb_R (er_cat (gV rfl e6) (er_lst (tca_cons (tc_tup (tia_cons (ti_int (ev_un ev_c ru_neg)) tia_nil) (by decide)) tca_nil) (by decide)) (by simp; omega)) (no_add R (by omega)) (by simp; omega))
      (eba_cons (eb_R (er_lst (tca_cons (tc_tup (tia_cons (ti_int ev_c) tia_nil) (by decide)) tca_nil) (by decide)) (no_mem (R := [[1]]) 1 (by simp) (by decide)) (by decide))
      (eba_cons (eb_R (er_lst (tca_cons (tc_tup (tia_cons (ti_int ev_c) (tia_cons (ti_int ev_c) tia_nil)) (by decide)) tca_nil) (by decide)) no_00 (by decide))
      (eba_cons (eb_R (er_lst (tca_cons (tc_tup (tia_cons (ti_bl ev_c) tia_nil) (by decide)) tca_nil) (by decide)) (no_all rfl) (by decide)) eba_nil)))))) (by decide)) (by omega)) fun f2 ws2 H7 nf2 e7 hf2 l2 b2 => ?_
    have e57 := e6.trans e7
    have hob7 := e57 ob _ hob5
    obtain ⟨x0, hx0⟩ : ∃ x, r[0]? = some x := ⟨_, List.getElem?_eq_getElem rne⟩
    have rne0 : nv r ≠ [] := fun z => by
      have := nv_len r
      rw [z] at this
      simp at this
      omega
    have oneE : EvU (tOp (rCatT K) (tVar 7) (tTup (tCons (tOp (rIxT K) (tVar 7) (tC (.int 0))) tNil))) [some (V.ref p), some (.ref a), none, some (.ref g), some (.int (s : Int)), some (.int (h.length : Int)), some (.ref hd), some (.ref ob), some (.ref tl), some (.int (t : Int)), none, some (.ref f2)] H7 (nv (r ++ [x0])) := by
      rw [nv_app]
      exact eu_catO (ev_var rfl) hob7 (eu_tup (ea_cons (ev_op (ev_var rfl) ev_c (rv_ixT (K := K) (st_of hob7) (atI_nat (j := 0) (nv_get hx0)))) ea_nil) (Nat.le_of_ble_eq_true rfl)) (by rw [nv_len, nv_len]; simp; omega) rne0 (by simp [nv, iz])
    refine q_asgBL (K := K) (n := ws2.length + 5) (bl_cat (ev_var rfl) hf2 (fun v hv => (b2 v hv).1) (bl_lst (eba_cons (eb_R (er_cat (gV rfl e57) (er_lst (tca_cons (tc_tup (tia_cons (ti_int (ev_op (ev_var rfl) ev_c rv_I0)) tia_nil) (Nat.le_of_ble_eq_true rfl)) tca_nil) (Nat.le_of_ble_eq_true rfl)) (by simp; omega)) (no_add R (by omega)) (by simp; omega))
      (eba_cons (eb_R (er_cat (er_cat (hV rfl e57) (er_lst (tca_cons (tc_row oneE (by simp; omega)) tca_nil) (by simp)) (by simp; omega)) (tV rfl e57) (by simp; omega)) (no_twice R (List.mem_of_getElem? hx0)) (by simp; omega))
      (eba_cons (eb_R (er_cat (gV rfl e57) (er_lst (tca_cons (tc_non ev_c) tca_nil) (by decide)) (by simp; omega)) (no_end rfl) (by simp; omega))
      (eba_cons (eb_R (er_lst (tca_cons (tc_tup (tia_cons (ti_str ev_c) tia_nil) (by decide)) tca_nil) (by decide)) (no_all rfl) (by decide))
      (eba_cons (eb_R (er_lst (tca_cons (tc_tup (tia_cons (ti_tup (eu_tup (ea_cons ev_c ea_nil) (Nat.le_of_ble_eq_true rfl))) tia_nil) (by decide)) tca_nil) (by decide)) (no_all rfl) (by decide)) eba_nil))))) (by decide)) (by omega)) fun f ws3 H8 nf e8 hf l3 b3 => ?_
    have e58 := e57.trans e8
    have gf : H5 f = none := fresh_back e57 nf
    have F8 : Fd K f 22 H5 H8 := ⟨e58, ws3, hf, by omega, b3⟩
    refine q_whenJ (et_test (ev_op (ev_var rfl) (ev_lenT (K := K) (ev_var (i := 7) rfl) (st_of (e58 ob _ hob5))) rv_I0)) (Fd K f 23 H5) (fun hb H9 e9 kk => ?_) (fun _ H9 e9 => by
      obtain ⟨y0, ws, y1, y2, y3⟩ := F8.ex e9
      exact ⟨y0, ws, y1, by omega, y3⟩) fun H9 F9 => ?_
    · have F9 := F8.ex e9
      have e59 := F9.1
      have hb := of_decide_eq_true hb
      rw [nv_len] at hb
      have hob9 := e59 ob _ hob5
      have tlt : t < r.length := by omega
      have rotE : EvU (tOp (rCatT K) (tSl (rSlT K) (tVar 7) (tPart (tVar 9)) tNoPart) (tSl (rSlT K) (tVar 7) tNoPart (tPart (tVar 9)))) [some (V.ref p), some (.ref a), none, some (.ref g), some (.int (s : Int)), some (.int (h.length : Int)), some (.ref hd), some (.ref ob), some (.ref tl), some (.int (t : Int)), none, some (.ref f)] H9 (nv (r.drop t ++ r.take t)) := by
        have c1 := eu_slT (K := K) (te := tVar 7) (tl := tPart (tVar 9)) (th := tNoPart) (σ := [some (V.ref p), some (.ref a), none, some (.ref g), some (.int (s : Int)), some (.int (h.length : Int)), some (.ref hd), some (.ref ob), some (.ref tl), some (.int (t : Int)), none, some (.ref f)]) (H := H9) (ev_var (i := 7) (v := .ref ob) rfl) (eo_some (ev_var (i := 9) (v := .int (t : Int)) rfl)) eo_none (st_of hob9) (by rw [HT.sIx_none, HT.sIx_nat, nv_len]; omega)
        have c2 := eu_slT (K := K) (te := tVar 7) (tl := tNoPart) (th := tPart (tVar 9)) (σ := [some (V.ref p), some (.ref a), none, some (.ref g), some (.int (s : Int)), some (.int (h.length : Int)), some (.ref hd), some (.ref ob), some (.ref tl), some (.int (t : Int)), none, some (.ref f)]) (H := H9) (ev_var (i := 7) (v := .ref ob) rfl) eo_none (eo_some (ev_var (i := 9) (v := .int (t : Int)) rfl)) (st_of hob9) (by rw [HT.sIx_none, HT.sIx_nat, nv_len]; omega)
        rw [cutV_from _ (by rw [nv_len]; omega)] at c1
        rw [cutV_to _ (by rw [nv_len]; omega)] at c2
        have n1 : nv (r.drop t ++ r.take t) = (nv r).drop t ++ (nv r).take t := by
          rw [nv_app, nv_eq, nv_eq, nv_eq, List.map_drop, List.map_take]
        rw [n1]
        exact eu_cat c1 c2 (by simp [nv_len]; omega) (fun z => by
          have := congrArg List.length z
          rw [List.length_drop, nv_len] at this
          have : r.length - t = 0 := this
          omega) fun z => by
          have := congrArg List.length z
          rw [List.length_take, nv_len] at this
          have : min t r.length = 0 := this
          omega
      exact s_appR (K := K) F9 gf (by omega) (ev_var rfl) (er_catF (er_cat (hV rfl e59) (er_lst (tca_cons (tc_row rotE (by simp; omega)) tca_nil) (by simp)) (by simp; omega)) (tV rfl e59) (by simp; omega)) (no_rot R hrm t1 tlt) (by simp; omega) fun H2 F2 => kk _ F2
    refine q_whenJ (et_test (ev_op (ev_len (K := K) (ev_var (i := 3) rfl) (sq_of (F9.1 g _ hg5))) ev_c rv_I0)) (Fd K f 24 H5) (fun hb H10 e10 kk => ?_) (fun _ H10 e10 => by
      obtain ⟨y0, ws, y1, y2, y3⟩ := F9.ex e10
      exact ⟨y0, ws, y1, by omega, y3⟩) fun H10 F10 => ?_
    · have F10 := F9.ex e10
      have hb := of_decide_eq_true hb
      exact s_appR (K := K) F10 gf (by omega) (ev_var rfl) (er_revF (gV rfl F10.1)) (no_rev R (by omega)) (by simp; omega) fun H2 F2 => kk _ F2
    obtain ⟨e510, ws4, hf4, l4, b4⟩ := F10
    refine q_asgBL (K := K) (n := ws4.length + 3) (bl_cat (ev_var rfl) hf4 (fun v hv => (b4 v hv).1) (bl_lst (eba_cons (eb_R (er_lst (tca_cons (tc_row (eu_rgN (m := 21) ev_c) (by decide)) tca_nil) (by simp)) (no_len (R := [iz (List.range 21)]) (by decide)) (by decide))
      (eba_cons (eb_R (er_rg (K := K) (n := 21) (j := 7) (vs := [7]) (fun i => some [PyData.int (i : Int)]) (ea_cons ev_c ea_nil) (by decide) (fun _ => rfl) fun i H11 e11 hi => tc_tup (tia_cons (ti_int (ev_var rfl)) tia_nil) (by simp)) (no_len (R := (List.range 21).map fun i : Nat => [(i : Int)]) (by decide)) (by decide))
      (eba_cons (eb_R (er_lst (tca_cons (tc_tup (tia_cons (ti_int ev_c) (tia_cons (ti_non ev_c) tia_nil)) (by decide)) tca_nil) (by decide)) (no_all rfl) (by decide)) eba_nil))) (by decide)) (by omega)) fun f5 ws5 H11 nf5 e11 hf5 l5 b5 => ?_
    have e511 := e510.trans e11
    refine s_retBL (K := K) (n := ws5.length + 4) (bl_cat (ev_var rfl) hf5 (fun v hv => (b5 v hv).1) (bl_lst (eba_cons (eb_R (er_lst (tca_cons (tc_tup (tia_cons (ti_int ev_c) (tia_cons (ti_int (ev_op ev_c ev_c (rv_I (by constructor <;> decide +kernel)))) tia_nil)) (by decide)) tca_nil) (by decide)) (no_mem (R := [[0, (10 : Int) ^ (30 : Int).toNat]]) ((10 : Int) ^ (30 : Int).toNat) (by simp) (.inl (by decide +kernel))) (by decide))
      (eba_cons (eb_R (er_lst (tca_cons (tc_int ev_c) tca_nil) (by decide)) (no_all rfl) (by decide))
      (eba_cons (eb_R (er_lst (tca_cons (tc_tup (tia_cons (ti_int ev_c) (tia_cons (ti_int ev_c) tia_nil)) (by decide)) (tca_cons (tc_int ev_c) tca_nil)) (by decide)) (no_end (os := [some [PyData.int 0, .int 1]]) rfl) (by decide))
      (eba_cons (eb_R (er_cat (gV rfl e511) (gV rfl e511) (by omega)) (no_dbl R o) (by simp; omega)) eba_nil)))) (by decide)) (by omega)) fun l ws6 H12 nl e12 hl l6 b6 => ?_
    exact k l ws6 H12 hl (fun v hv => (b6 v hv).1) ((p5.ex (e511.trans e12)).mono (by omega)) (e05.trans (e511.trans e12))
end


local macro_rules | `(tactic| walk_at "call") => `(tactic| (with_reducible exact sv_whole))

theorem dpa_strs {K : PySem.W.Frag} {H : Hp} : ∀ l : List Str, DpAll K H (l.map V.str) (l.map PyData.str)
  | [] => .nil
  | _ :: r => .cons (.str _) (dpa_strs r)
theorem replicate_get {n i : Nat} {z : Str} : (List.range n).map (fun _ => V.str z) = (List.replicate n z).map V.str := by
  rw [List.map_const', List.length_range, List.map_replicate]
section
variable {K : PySem.W.Frag} {σ : L2.St} {H : Hp} {ta tb te tl : TE} {D : Ends} {tz : TS} {t : TA}
/-- [e for x in (a, b, ..)] -/
theorem el_lcNU {xs : List V} {j : Nat} {ns : List Nat} (f : Nat → V) (h : EvU tl σ H xs) (hz : xs.length ≤ 40000) (hw : ∀ x, wipe ((wipe σ ns).set j (some x)) ns = wipe σ ns)
    (he : ∀ (i : Nat) (x : V) H1, Ex H H1 → xs[i]? = some x → Ev te ((wipe σ ns).set j (some x)) H1 (f i)) : EvL (tLc (iTup K tl) (gName j) tYes te ns) σ H ((List.range xs.length).map f) := by
  rw [← given_at]
  exact fun H0 e Q q => h H0 e _ fun a H1 ha e1 hx => ⟨a, rfl, ⟨xs, st_of hx⟩, fun L hL => lc_tup (xs := xs) (Cw H1 (fun _ => true) f L) ⟨hL, Ex.new hL, upd_same⟩ (fun i G _ c => st_of (c.2.1 a _ hx))
    (fun i x G hi c => ⟨hw x, cw_turn c (by have := (List.getElem?_eq_some_iff.mp hi).1; omega) et_yes fun _ => he i x H1 (e.trans e1) hi⟩) fun G c => q L G (fresh_back e1 c.1) (e1.trans c.2.1) c.2.2⟩
/-- [the same text, so many times] -/
theorem ed_repS {z : Str} {n : Int} (h : Ev te σ H (.str z)) (hb : Ev tb σ H (.int n)) (h0 : 0 ≤ n) (h1 : n ≤ 1000) : EvD K (tOp rRep (tLst (tCons te tNil)) tb) σ H (.list ((List.replicate n.toNat z).map PyData.str)) := by
  have g := el_rep (el_lst (ea_cons h ea_nil) (Nat.le_of_ble_eq_true rfl)) hb h0 h1 (Nat.le_of_ble_eq_true rfl)
  have e : (List.replicate n.toNat [V.str z]).flatten = (List.replicate n.toNat z).map V.str := by
    generalize n.toNat = k
    induction k with
    | zero => rfl
    | succ k ih => rw [List.replicate_succ, List.replicate_succ, List.flatten_cons, List.map_cons, ih]; rfl
  rw [e] at g
  exact ed_ofL g (dpa_strs _)
theorem op_callE {r : R2} {sp : Sp} {vs dvs : List V} {E : XK} {Q : VK} (ha : EvA t σ H vs) (k : ∀ H1, Ex H H1 → sp (vs ++ dvs) H1 (fun x H2 => tb σ H2 fun y H3 => r x y H3 Q) E) : tOp r (tCall sp dvs E t) tb σ H Q := ha H (Ex.refl H) _ fun H1 e1 => k H1 e1
theorem callE {sp : Sp} {vs dvs : List V} {E : XK} {Q : VK} (ha : EvA t σ H vs) (k : ∀ H1, Ex H H1 → sp (vs ++ dvs) H1 Q E) : tCall sp dvs E t σ H Q := ha H (Ex.refl H) _ fun H1 e1 => k H1 e1
theorem q_forE {g : TG} {tu : TS} (h : te σ H (ForQ K g tu { D with nx := tz D } σ)) : tSeq (tFor (iList K te) g tu) tz D σ H := h
end

/-! ### _law_guests_right -/
theorem dG_in {o : Option (List PyData)} {x : Int} (hj : judge o = true) (hx : 0 ≤ x ∧ x < lenO o) : wordO (dG o x) = "none" := by
  unfold dG
  rw [if_pos hj, if_pos hx]
  rfl
theorem dG_out {o : Option (List PyData)} {x : Int} (hj : judge o = true) (hx : ¬ (0 ≤ x ∧ x < lenO o)) : wordO (dG o x) = "guest" := by
  unfold dG
  rw [if_pos hj, if_neg hx]
  rfl
theorem dM_o1 {o : Option (List PyData)} {x y : Int} (hj : judge o = true) (hx : ¬ (0 ≤ x ∧ x < lenO o)) : wordO (dM o x y) = "guest" := by
  unfold dM
  rw [if_pos hj, if_neg hx]
  rfl
theorem dM_o2 {o : Option (List PyData)} {x y : Int} (hj : judge o = true) (hx : 0 ≤ x ∧ x < lenO o) (hy : ¬ (0 ≤ y ∧ y < lenO o)) : wordO (dM o x y) = "guest" := by
  unfold dM
  rw [if_pos hj, if_pos hx, if_neg hy]
  rfl
theorem lenO_ints (h : List Nat) : lenO (some ((iz h).map PyData.int)) = (h.length : Int) := by
  unfold lenO
  simp [iz]
def sp_law_guests_right : Sp := fun vs H Q _ => ∃ (p a : Addr) (n : Nat) (h : List Nat), vs = [.ref p, .ref a] ∧ Po p n H ∧ n + 1 < 1000000000 ∧ a ≠ p ∧ H a = some (.lst (nv h)) ∧ Ord h ∧ ∀ H', Po p (n + 1) H' → Ex (Hm p H) H' → Q (.bl true) H'
section
variable {P : Program} {w : World} {K : PySem.W.Frag} {mg : Str → Option Value} {base : Heap}
theorem ok_law_guests_right (T : Tx K mg) : FnOk P w K mg base CX0 8 T.f_law_guests_right T.d_law_guests_right ["pouch", "hall"] sp_law_guests_right := by
  refine T.F_law_guests_right.ok sc_law_guests_right (fun vs H Q E h => ?_) (fun cdv A outer s H vs Q E hr h => ?_)
  · obtain ⟨p, a, n, h, rfl, _⟩ := h
    rfl
  · obtain ⟨p, a, n, h, rfl, hpo, hn, ap, ha, oh, k⟩ := h
    refine ⟨_, (pss_cons (ps_set (i := 2) sc_law_guests_right.nd rfl (Or.inl rfl) (pe_callB call_lenR (by rfl) T.m_len (by decide +kernel) (pa_cons (pv 1) pa_nil)))
      (pss_cons (ps_set (i := 3) sc_law_guests_right.nd rfl (Or.inl rfl) (pe_call (ok_law_dip T) (hr.mono (by decide)) (by rfl) T.g_law_dip T.F_law_dip.kp T.b_law_dip .nil pass0 (pa_cons (pv 0) (pa_cons (pv 2) pa_nil))))
      (pss_cons (ps_for PassesOwn.never rfl (pi_tup (pe_tup (pa_cons (pe_un un_neg pe_int) (pa_cons (pv 2) (pa_cons (pe_op op_add (pv 2) pe_int) (pa_cons (pe_op op_powX pe_int pe_int) (pa_cons (pe_op op_sub pe_int (pe_op op_powX pe_int pe_int)) pa_nil))))))) (pg_name (i := 4) sc_law_guests_right.nd rfl (Or.inr rfl)) (pss_cons (ps_if (pt_cmpR (op_neD hr.units) (pe_lc (own := [("way", 5)]) (g := (gName 5)) (tt := tYes) rfl sc_law_guests_right.nd (pi_tup (pe_tup (pa_cons pe_int (pa_cons pe_int (pa_cons pe_int (pa_cons pe_int pa_nil)))))) (blkOk_by (own := [("way", 5)]) (N := n_law_guests_right) (sc := defScope s_law_guests_right) (by decide +kernel)) (fun _ _ _ _ _ => (pg_name (i := 5) sc_law_guests_right.nd rfl (Or.inl rfl))) (fun _ _ _ _ _ => pts_nil) (fun _ _ _ _ _ => (pe_call (ok_law_told T) (hr.mono (by decide)) (by rfl) T.g_law_told T.F_law_told.kp T.b_law_told .nil pass0 (pa_cons (pv 5) (pa_cons (pv 1) (pa_cons (pv 4) (pa_cons (pv 4) pa_nil))))))) (pe_op op_rep (pe_lst (pa_cons pe_str pa_nil)) pe_int) (nomark _)) (pss_one (ps_ret pe_bl)) pss_nil)
      (pss_one (ps_if (PW.pt (pw_or (pt_cmpR op_ne (pe_call (ok_law_told T) (hr.mono (by decide)) (by rfl) T.g_law_told T.F_law_told.kp T.b_law_told .nil pass0 (pa_cons pe_int (pa_cons (pv 1) (pa_cons (pv 3) (pa_cons (pv 4) pa_nil))))) pe_str (nomark _)) (pw_or1 (pt_cmpR op_ne (pe_call (ok_law_told T) (hr.mono (by decide)) (by rfl) T.g_law_told T.F_law_told.kp T.b_law_told .nil pass0 (pa_cons pe_int (pa_cons (pv 1) (pa_cons (pv 3) (pa_cons (pv 4) pa_nil))))) pe_str (nomark _))))) (pss_one (ps_ret pe_bl)) pss_nil))))
      (pss_one (ps_ret pe_bl))))), ?_⟩
    have o2 := oh.2
    have b30 : (100 : Int) < (10 : Int) ^ (30 : Int).toNat := by decide +kernel
    have big : ∀ (σ : L2.St) (H1 : Hp), Ev (tOp (rI CPowX fun i j => .int (i ^ j.toNat)) (tC (.int 10)) (tC (.int 30))) σ H1 (.int ((10 : Int) ^ (30 : Int).toNat)) := fun σ H1 => ev_op ev_c ev_c (rv_I (by constructor <;> decide +kernel))
    generalize hB : (10 : Int) ^ (30 : Int).toNat = B at b30 big
    have s4 : SeqAt.shaped (.list ((List.replicate 4 ("guest" : Str)).map PyData.str)) = true := by decide +kernel
    have hj := judge_ord oh
    have lo := lenO_ints h
    have th : ∀ {G : Hp}, Ex (Hm p H) G → Th K G (.ref a) (some ((iz h).map PyData.int)) := fun e => Ord.th (e a _ (hm_in ap ha))
    generalize (some ((iz h).map PyData.int) : Option (List PyData)) = ho at hj lo th
    refine q_asg (v := .int (h.length : Int)) (ev_lenH rfl ha) fun H1 e1 => ?_
    refine pq_asg (p := p) (k := 1) (H0 := Hm p H1) (ep_dipI (w := (h.length : Int)) hm_p (ev_var rfl) (ev_var rfl) (by omega) (by omega)) hm_sub (hpo.ex e1) (by omega) ?_
    rintro _ H2 ⟨r, rfl, r0, r1⟩ p2 e2
    have e02 : Ex (Hm p H) H2 := hm_trans (hm_of e1) e2
    refine q_forNU (K := K) (xs := [V.int (-1), .int h.length, .int ((h.length : Int) + 3), .int B, .int (0 - B)]) (eu_tup (ea_cons (ev_un ev_c ru_neg) (ea_cons (ev_var rfl) (ea_cons (ev_op (ev_var rfl) ev_c rv_I0) (ea_cons (big _ _) (ea_cons (ev_op ev_c (big _ _) rv_I0) ea_nil))))) (Nat.le_of_ble_eq_true rfl))
      (fun t i σ2 H3 => ∃ y : Option V, σ2 = [some (.ref p), some (.ref a), some (.int h.length), some (.int r), y, none] ∧ Ex H2 H3 ∧ H3 t = some (.tup [V.int (-1), .int h.length, .int ((h.length : Int) + 3), .int B, .int (0 - B)])) (fun t H3 nt e3 ht => ⟨_, rfl, e3, ht⟩) (fun t i σ2 H3 _ ⟨_, _, _, ht⟩ => st_of ht) ?_ ?_
    · rintro t i x σ2 H3 hi ⟨y, rfl, e3, ht⟩
      have e03 := e02.trans e3
      have : ∃ z : Int, x = .int z ∧ ¬ (0 ≤ z ∧ z < lenO ho) := by
        have i5 : i < 5 := (List.getElem?_eq_some_iff.mp hi).1
        have : i = 0 ∨ i = 1 ∨ i = 2 ∨ i = 3 ∨ i = 4 := by omega
        rcases this with rfl | rfl | rfl | rfl | rfl
        · exact ⟨_, (Option.some.inj hi).symm, by omega⟩
        · exact ⟨_, (Option.some.inj hi).symm, by omega⟩
        · exact ⟨_, (Option.some.inj hi).symm, by omega⟩
        · exact ⟨_, (Option.some.inj hi).symm, by omega⟩
        · exact ⟨_, (Option.some.inj hi).symm, by omega⟩
      obtain ⟨z, rfl, hz⟩ := this
      refine q_when (b := false) (et_is (et_test (ev_neD (d := .list ((List.replicate 4 ("guest" : Str)).map PyData.str)) (e := .list ((List.replicate 4 ("guest" : Str)).map PyData.str)) (ed_ofL (xs := (List.replicate 4 ("guest" : Str)).map V.str) ?_ (dpa_strs _)) (ed_repS (n := 4) ev_c ev_c (by decide) (by decide)) s4 s4)) (by rw [eqv_same s4]; rfl)) (fun hb => Bool.noConfusion hb) fun _ H4 e4 => ?_
      · rw [← replicate_get (i := 0)]
        refine el_lcNU (xs := [V.int 1, .int 2, .int 3, .int 4]) (fun _ => V.str "guest") (eu_tup (ea_cons ev_c (ea_cons ev_c (ea_cons ev_c (ea_cons ev_c ea_nil)))) (Nat.le_of_ble_eq_true rfl)) (by decide) (fun _ => rfl) fun i x G eG hx => ?_
        have i4 : i < 4 := (List.getElem?_eq_some_iff.mp hx).1
        have : i = 0 ∨ i = 1 ∨ i = 2 ∨ i = 3 := by omega
        rcases this with rfl | rfl | rfl | rfl
        · cases hx
          exact ev_call (ea_cons (ev_var rfl) (ea_cons (ev_var rfl) (ea_cons (ev_var rfl) (ea_cons (ev_var rfl) ea_nil)))) (sv_toldI (fun G2 e2 => .w1 _ _ ho z (th (e03.trans (eG.trans e2)))) (dG_out hj hz))
        · cases hx
          exact ev_call (ea_cons (ev_var rfl) (ea_cons (ev_var rfl) (ea_cons (ev_var rfl) (ea_cons (ev_var rfl) ea_nil)))) (sv_toldI (fun G2 e2 => .w2 _ _ ho z (th (e03.trans (eG.trans e2)))) (dG_out hj hz))
        · cases hx
          exact ev_call (ea_cons (ev_var rfl) (ea_cons (ev_var rfl) (ea_cons (ev_var rfl) (ea_cons (ev_var rfl) ea_nil)))) (sv_toldI (fun G2 e2 => .w3 _ ho z z (th (e03.trans (eG.trans e2)))) (dG_out hj hz))
        · cases hx
          exact ev_call (ea_cons (ev_var rfl) (ea_cons (ev_var rfl) (ea_cons (ev_var rfl) (ea_cons (ev_var rfl) ea_nil)))) (sv_toldI (fun G2 e2 => .w4 _ ho z z (th (e03.trans (eG.trans e2)))) (dM_o1 hj hz))
      have e04 := e03.trans e4
      refine s_when (b := false) (et_is (et_or (et_test (ev_op (ev_call (ea_cons ev_c (ea_cons (ev_var rfl) (ea_cons (ev_var rfl) (ea_cons (ev_var rfl) ea_nil)))) (sv_toldI (z := "guest") (fun G2 e2 => .w4 _ ho r z (th (e04.trans e2))) (dM_o2 hj ⟨r0, by omega⟩ hz))) ev_c (rv_ne rfl))) fun _ => et_test (ev_op (ev_call (ea_cons ev_c (ea_cons (ev_var rfl) (ea_cons (ev_var rfl) (ea_cons (ev_var rfl) ea_nil)))) (sv_toldI (z := "none") (fun G2 e2 => .w3 _ ho r z (th (e04.trans e2))) (dG_in hj ⟨r0, by omega⟩))) ev_c (rv_ne rfl))) (by simp)) (fun hb => Bool.noConfusion hb) fun _ H5 e5 => ⟨_, rfl, e3.trans (e4.trans e5), e5 t _ (e4 t _ ht)⟩
    · rintro t σ2 H3 ⟨y, rfl, e3, ht⟩
      exact s_ret ev_c fun H4 e4 => k _ (p2.ex (e3.trans e4)) (e02.trans (e3.trans e4))
end
/-! ### _law_right -/
theorem dG_0 {K : PySem.W.Frag} {H : Hp} {v : V} {o : Option (List PyData)} (hv : Th K H v o) : dG o 0 = dS o := by
  unfold dG dS
  by_cases hj : judge o = true
  · obtain ⟨a, h, _, _, oh, lo⟩ := judge_get hv hj
    have := oh.2
    rw [if_pos hj, if_pos hj, if_pos ⟨by omega, by omega⟩]
  · rw [if_neg hj, if_neg hj]
theorem dM_0 {K : PySem.W.Frag} {H : Hp} {v : V} {o : Option (List PyData)} (hv : Th K H v o) : dM o 0 0 = dS o := by
  unfold dM dS
  by_cases hj : judge o = true
  · obtain ⟨a, h, _, _, oh, lo⟩ := judge_get hv hj
    have := oh.2
    rw [if_pos hj, if_pos hj, if_pos ⟨by omega, by omega⟩, if_pos ⟨by omega, by omega⟩]
  · rw [if_neg hj, if_neg hj]
theorem dG_bad {o : Option (List PyData)} {x : Int} (hj : judge o = false) : dG o x = dS o := by
  unfold dG dS
  rw [if_neg (by simp [hj]), if_neg (by simp [hj])]
theorem dM_bad {o : Option (List PyData)} {x y : Int} (hj : judge o = false) : dM o x y = dS o := by
  unfold dM dS
  rw [if_neg (by simp [hj]), if_neg (by simp [hj])]
theorem dR_bad {o u : Option (List PyData)} (hj : judge o = false) : dR o u = dS o := by
  unfold dR dS
  rw [if_neg (by simp [hj]), if_neg (by simp [hj])]
theorem dS_lt {o : Option (List PyData)} : ∀ i, dS o = some i → i < 4 := fun i h => by
  unfold dS at h
  split at h
  · cases h
  · have := Option.some.inj h
    omega
theorem shaped7 {d : Option Nat} (h : ∀ i, d = some i → i < 4) : SeqAt.shaped (.list ((List.replicate 7 (wordO d)).map PyData.str)) = true ∧ SeqAt.shaped (.list ((List.replicate 5 (wordO d)).map PyData.str)) = true := by
  cases d with
  | none => decide +kernel
  | some i =>
    have := h i rfl
    have : i = 0 ∨ i = 1 ∨ i = 2 ∨ i = 3 := by omega
    rcases this with rfl | rfl | rfl | rfl <;> decide +kernel
theorem q_asgE {i : Nat} {te : TE} {tz : TS} {D : Ends} {σ : L2.St} {H : Hp} (h : te σ H fun v H2 => tz D (σ.set i (some v)) H2) : tSeq (tAsg te (gName i)) tz D σ H := h
theorem call_callE {sp1 sp2 : Sp} {dvs dvs2 vs : List V} {E1 E2 : XK} {Q : VK} {ta : TA} {σ : L2.St} {H : Hp} (ha : EvA ta σ H vs) (k : ∀ H1, Ex H H1 → sp2 (vs ++ dvs2) H1 (fun x H2 => sp1 ([x] ++ dvs) H2 Q E1) E2) : tCall sp1 dvs E1 (tCons (tCall sp2 dvs2 E2 ta) tNil) σ H Q := ha H (Ex.refl H) _ fun H1 e1 => k H1 e1
theorem ev_told9 {K : PySem.W.Frag} {te : TE} {σ : L2.St} {H : Hp} {rs : List (List Nat)} {h : List Nat} {E : XK} (ht : EvLT te σ H (rs.map nv)) (R : Rings h rs) (o : Ord h) : Ev (tCall (sp_law_told K) [] E (tCons (tC (.int 9)) (tCons te (tCons (tC (.int 0)) (tCons (tC (.int 0)) tNil))))) σ H (.str "none") := fun H1 e Q q =>
  ht H1 e _ fun p vs H2 _ e2 h2 t => ⟨9, .ref p, .int 0, .int 0, none, rfl, .w9g _ _ p vs rs h h2 t R o, fun H3 e3 => q H3 (e2.trans e3)⟩
theorem ep_guests {K : PySem.W.Frag} {σ : L2.St} {H : Hp} {ta tb : TE} {p a : Addr} {h : List Nat} {E : XK} (ha : Ev ta σ H (.ref p)) (hb : Ev tb σ H (.ref a)) (ap : a ≠ p) (hv : H a = some (.lst (nv h))) (oh : Ord h) : EvP p 2 (tCall sp_law_guests_right [] E (tCons ta (tCons tb tNil))) σ H (fun v _ => v = .bl true) := fun n H1 e hp hn Q q =>
  ha H1 e _ fun H2 e2 => hb H2 (e.trans e2) _ fun H3 e3 => ⟨p, a, n, h, rfl, hp.ex (e2.trans e3), by omega, ap, e3 a _ (e2 a _ (e a _ hv)), oh, fun H4 p4 e4 => q _ H4 rfl (p4.mono (by omega)) (hm_trans (hm_of (e2.trans e3)) e4)⟩
def sp_law_right : Sp := fun vs H Q _ => ∃ (p : Addr) (n m : Nat), vs = [.ref p, .int (m : Int)] ∧ Po p n H ∧ n + 100 < 1000000000 ∧ 1 ≤ m ∧ m ≤ 20 ∧ ∀ H', Po p (n + 100) H' → Ex (Hm p H) H' → Q (.bl true) H'
section
variable {P : Program} {w : World} {K : PySem.W.Frag} {mg : Str → Option Value} {base : Heap}
theorem ok_law_right (T : Tx K mg) : FnOk P w K mg base CX0 9 T.f_law_right T.d_law_right ["pouch", "many"] sp_law_right := by
  refine T.F_law_right.ok sc_law_right (fun vs H Q E h => ?_) (fun cdv A outer s H vs Q E hr h => ?_)
  · obtain ⟨p, n, m, rfl, _⟩ := h
    rfl
  · obtain ⟨p, n, m, rfl, hpo, hn, m1, m20, k⟩ := h
    refine ⟨_, (pss_cons (ps_set (i := 2) sc_law_right.nd rfl (Or.inl rfl) (pe_call (ok_law_rings T) (hr.mono (by decide)) (by rfl) T.g_law_rings T.F_law_rings.kp T.b_law_rings .nil pass0 (pa_cons (pe_call (ok_law_entries T) (hr.mono (by decide)) (by rfl) T.g_law_entries T.F_law_entries.kp T.b_law_entries .nil pass0 (pa_cons (pv 0) (pa_cons (pv 1) pa_nil))) pa_nil)))
      (pss_cons (ps_set (i := 3) sc_law_right.nd rfl (Or.inl rfl) (pe_call (ok_law_seat T) (hr.mono (by decide)) (by rfl) T.g_law_seat T.F_law_seat.kp T.b_law_seat .nil pass0 (pa_cons (pv 2) pa_nil)))
      (pss_cons (ps_set (i := 4) sc_law_right.nd rfl (Or.inl rfl) (pe_callTy call_listR (by rfl) T.m_list (by decide +kernel) (pa_cons (pv 3) pa_nil)))
      (pss_cons (ps_for PassesOwn.never rfl (pi_list (pe_call (ok_law_things T) (hr.mono (by decide)) (by rfl) T.g_law_things T.F_law_things.kp T.b_law_things .nil pass0 (pa_cons (pv 0) (pa_cons (pv 3) pa_nil)))) (pg_name (i := 5) sc_law_right.nd rfl (Or.inr rfl)) (pss_cons (ps_set (i := 6) sc_law_right.nd rfl (Or.inl rfl) (pe_ifExp (pt_val (pe_call (ok_law_is_row T) (hr.mono (by decide)) (by rfl) T.g_law_is_row T.F_law_is_row.kp T.b_law_is_row .nil pass0 (pa_cons (pv 5) pa_nil))) pe_str pe_str))
      (pss_cons (ps_if (pt_cmpR (op_neD hr.units) (pe_lc (own := [("way", 7)]) (g := (gName 7)) (tt := tYes) rfl sc_law_right.nd (pi_tup (pe_tup (pa_cons pe_int (pa_cons pe_int (pa_cons pe_int (pa_cons pe_int (pa_cons pe_int (pa_cons pe_int (pa_cons pe_int pa_nil))))))))) (blkOk_by (own := [("way", 7)]) (N := n_law_right) (sc := defScope s_law_right) (by decide +kernel)) (fun _ _ _ _ _ => (pg_name (i := 7) sc_law_right.nd rfl (Or.inl rfl))) (fun _ _ _ _ _ => pts_nil) (fun _ _ _ _ _ => (pe_call (ok_law_told T) (hr.mono (by decide)) (by rfl) T.g_law_told T.F_law_told.kp T.b_law_told .nil pass0 (pa_cons (pv 7) (pa_cons (pv 5) (pa_cons pe_int (pa_cons pe_int pa_nil))))))) (pe_op op_rep (pe_lst (pa_cons (pv 6) pa_nil)) pe_int) (nomark _)) (pss_one (ps_ret pe_bl)) pss_nil)
      (pss_cons (ps_if (PW.pt (pw_and (pt_cmpR op_eq (pv 6) pe_str (nomark _)) (pw_and1 (pt_cmpR (op_neD hr.units) (pe_lc (own := [("way", 7)]) (g := (gName 7)) (tt := tYes) rfl sc_law_right.nd (pi_tup (pe_tup (pa_cons pe_int (pa_cons pe_int (pa_cons pe_int (pa_cons pe_int (pa_cons pe_int pa_nil))))))) (blkOk_by (own := [("way", 7)]) (N := n_law_right) (sc := defScope s_law_right) (by decide +kernel)) (fun _ _ _ _ _ => (pg_name (i := 7) sc_law_right.nd rfl (Or.inl rfl))) (fun _ _ _ _ _ => pts_nil) (fun _ _ _ _ _ => (pe_call (ok_law_told T) (hr.mono (by decide)) (by rfl) T.g_law_told T.F_law_told.kp T.b_law_told .nil pass0 (pa_cons (pv 7) (pa_cons (pv 5) (pa_cons (pe_un un_neg pe_int) (pa_cons (pe_un un_neg pe_int) pa_nil))))))) (pe_op op_rep (pe_lst (pa_cons (pv 6) pa_nil)) pe_int) (nomark _))))) (pss_one (ps_ret pe_bl)) pss_nil)
      (pss_cons (ps_set (i := 6) sc_law_right.nd rfl (Or.inl rfl) (pe_ifExp (PW.pt (pw_and (pt_val (pe_call (ok_law_is_row T) (hr.mono (by decide)) (by rfl) T.g_law_is_row T.F_law_is_row.kp T.b_law_is_row .nil pass0 (pa_cons (pv 5) pa_nil))) (pw_and1 (pt_cmpR op_eq (pe_callB call_lenR (by rfl) T.m_len (by decide +kernel) (pa_cons (pv 5) pa_nil)) (pv 1) (nomark _))))) pe_str pe_str))
      (pss_one (ps_if (PW.pt (pw_or (pt_cmpR op_ne (pe_call (ok_law_told T) (hr.mono (by decide)) (by rfl) T.g_law_told T.F_law_told.kp T.b_law_told .nil pass0 (pa_cons pe_int (pa_cons (pv 3) (pa_cons (pv 5) (pa_cons pe_int pa_nil))))) (pv 6) (nomark _)) (pw_or1 (pt_cmpR op_ne (pe_cmpR op_eq (pe_call (ok_law_told T) (hr.mono (by decide)) (by rfl) T.g_law_told T.F_law_told.kp T.b_law_told .nil pass0 (pa_cons pe_int (pa_cons (pv 5) (pa_cons pe_int (pa_cons pe_int pa_nil))))) pe_str (nomark _)) (pe_not (pe_call (ok_law_is_row T) (hr.mono (by decide)) (by rfl) T.g_law_is_row T.F_law_is_row.kp T.b_law_is_row .nil pass0 (pa_cons (pv 5) pa_nil))) (nomark _))))) (pss_one (ps_ret pe_bl)) pss_nil)))))))
      (pss_cons (ps_if (pt_not (pt_val (pe_call (ok_law_guests_right T) (hr.mono (by decide)) (by rfl) T.g_law_guests_right T.F_law_guests_right.kp T.b_law_guests_right .nil pass0 (pa_cons (pv 0) (pa_cons (pv 3) pa_nil))))) (pss_one (ps_ret pe_bl)) pss_nil)
      (pss_cons (ps_for PassesOwn.never rfl (pi_list (pe_call (ok_law_wrong_tables T) (hr.mono (by decide)) (by rfl) T.g_law_wrong_tables T.F_law_wrong_tables.kp T.b_law_wrong_tables .nil pass0 (pa_cons (pv 0) (pa_cons (pv 2) pa_nil)))) (pg_name (i := 5) sc_law_right.nd rfl (Or.inr rfl)) (pss_one (ps_if (pt_cmpR op_ne (pe_call (ok_law_told T) (hr.mono (by decide)) (by rfl) T.g_law_told T.F_law_told.kp T.b_law_told .nil pass0 (pa_cons pe_int (pa_cons (pv 5) (pa_cons pe_int (pa_cons pe_int pa_nil))))) pe_str (nomark _)) (pss_one (ps_ret pe_bl)) pss_nil)))
      (pss_one (ps_ret (pe_and (pe_cmpR op_eq (pe_call (ok_law_told T) (hr.mono (by decide)) (by rfl) T.g_law_told T.F_law_told.kp T.b_law_told .nil pass0 (pa_cons pe_int (pa_cons (pe_lc (own := [("ring", 8)]) (g := (gName 8)) (tt := tYes) rfl sc_law_right.nd (pi_list (pv 2)) (blkOk_by (own := [("ring", 8)]) (N := n_law_right) (sc := defScope s_law_right) (by decide +kernel)) (fun _ _ _ _ _ => (pg_name (i := 8) sc_law_right.nd rfl (Or.inl rfl))) (fun _ _ _ _ _ => pts_nil) (fun _ _ _ _ _ => (pe_callTy (T := "tuple") (r := rTupS K) call_tupR (by rfl) T.m_tuple (by decide +kernel) (pa_cons (pv 8) pa_nil)))) (pa_cons pe_int (pa_cons pe_int pa_nil))))) pe_str (nomark _)) (pe_one (pe_cmpR (op_eqD hr.units) (pv 3) (pv 4) (nomark _)))))))))))), ?_⟩
    refine q_asgE (call_callE (vs := [.ref p, .int (m : Int)]) (ea_cons (ev_var rfl) (ea_cons (ev_var rfl) ea_nil)) fun H1 e1 => ?_)
    refine ⟨p, n, m, rfl, hpo.ex e1, by omega, m20, fun l f H2 nl hl hlen hx p2 e2 => ?_⟩
    refine ⟨l, f, rfl, hl, by omega, hx, fun r bs H3 L e3 => ?_⟩
    have RI := ringsTo_ok hx f.length (Nat.le_refl _)
    have rp : r ≠ p := p2.ne L.fp
    have L' : LL H2 r (Hm p H3) bs (ringsTo f f.length) := ⟨hm_in rp L.self, L.nd, L.np, L.fp, L.fr, L.len, fun i b x h1 h2 => hm_in (p2.ne (L.fr b (List.mem_of_getElem? h1))) (L.at_ i b x h1 h2)⟩
    have Lb3 := L'.lb
    have hr3 := L.self
    generalize hrs : ringsTo f f.length = rs at RI Lb3
    have R := RI.rings
    have oh := seat_ord RI.all RI.ne (by omega : 1 ≤ f.length) (by omega : f.length ≤ 20)
    have e03 : Ex (Hm p H) H3 := hm_trans (hm_of e1) (hm_trans e2 (hm_of e3))
    have p3 := p2.ex e3
    refine q_asgL (xs := nv (seat rs f.length)) (el_call (ea_cons (ev_var rfl) ea_nil) (sl_seat hr3 (paired_imp (fun _ _ x => Lb.ex hm_sub x) Lb3) RI.all (by omega))) fun a H4 na e4 ha => ?_
    have shl := seat_len rs f.length
    generalize hgh : seat rs f.length = h at R oh ha shl
    have hm0 : h.length = m := by omega
    refine q_asgL (el_list (K := K) (ev_var rfl) (sq_of ha)) fun b H5 nb e5 hb => ?_
    have ha5 := e5 a _ ha
    have ap : a ≠ p := p3.ne na
    have bp : b ≠ p := (p3.ex e4).ne nb
    have e35 := e4.trans e5
    have e05 : Ex (Hm p H) H5 := hm_trans e03 (hm_of e35)
    have p5 := p3.ex e35
    have hr5 := e35 r _ hr3
    -- all that is looked at again, without the pouch
    have kr : Hm p H5 r = some (.lst (bs.map V.ref)) := hm_in rp hr5
    have ka : Hm p H5 a = some (.lst (nv h)) := hm_in ap ha5
    have kb : Hm p H5 b = some (.lst (nv h)) := hm_in bp hb
    have kL : Paired (Lb (Hm p H5)) (bs.map V.ref) rs := paired_imp (fun _ _ x => Lb.ex (hm_mono e35) x) Lb3
    have hj := judge_ord oh
    have lo := lenO_ints h
    have th : ∀ {G : Hp}, Ex (Hm p H5) G → Th K G (.ref a) (some ((iz h).map PyData.int)) := fun e => Ord.th (e a _ ka)
    generalize hho : (some ((iz h).map PyData.int) : Option (List PyData)) = ho at hj lo th
    refine q_forCall (vs := [.ref p, .ref a]) (ea_cons (ev_var rfl) (ea_cons (ev_var rfl) ea_nil)) fun H6 e6 => ?_
    refine ⟨p, a, n + 3 * m + 1, h, rfl, p5.ex e6, by omega, ap, e6 a _ ha5, oh.2, fun l2 ws2 H7 nl2 hl2 wl2 hw2 p7 e7 => ?_⟩
    have e57 : Ex (Hm p H5) H7 := hm_trans (hm_of e6) e7
    have at7 : ∀ v ∈ ws2, AT K H7 v := fun v hv => (hw2 v hv).ex hm_sub
    refine forQ_of (xs := ws2) (fun i σ' H' => ∃ y5 y6 : Option V, σ' = [some (.ref p), some (.int m), some (.ref r), some (.ref a), some (.ref b), y5, y6, none, none] ∧ Ex H7 H') ⟨none, none, rfl, Ex.refl _⟩ (fun i σ' H' _ ⟨_, _, _, e⟩ => sq_of (e l2 _ hl2)) ?_ ?_
    · rintro i v σ' H' hi ⟨y5, y6, rfl, e⟩
      obtain ⟨o, hv⟩ := at7 v (List.mem_of_getElem? hi)
      have hv := hv.ex e
      have e5' := e57.trans e
      refine q_asg (v := .str (wordO (dS o))) (ev_if (b := judge o) (et_B (ev_call (ea_cons (ev_var rfl) ea_nil) (fun G eG Q q E => ⟨v, o, rfl, hv.ex eG, q⟩))) (fun hb => ev_is ev_c ?_) (fun hb => ev_is ev_c ?_)) fun H9 e9 => ?_
      · unfold dS
        rw [if_pos hb]
        rfl
      · unfold dS
        rw [if_neg (by simpa using hb)]
        rfl
      have hv9 := hv.ex e9
      have sh := shaped7 (dS_lt (o := o))
      refine q_when (b := false) (et_is (et_test (ev_neD (d := .list ((List.replicate 7 (wordO (dS o))).map PyData.str)) (e := .list ((List.replicate 7 (wordO (dS o))).map PyData.str)) (ed_ofL (xs := (List.replicate 7 (wordO (dS o))).map V.str) ?_ (dpa_strs _)) (ed_repS (n := 7) (ev_var rfl) ev_c (by decide) (by decide)) sh.1 sh.1)) (by rw [eqv_same sh.1]; rfl)) (fun hb => Bool.noConfusion hb) fun _ H10 e10 => ?_
      · rw [← replicate_get (i := 0)]
        refine el_lcNU (xs := [V.int 0, .int 1, .int 2, .int 3, .int 4, .int 5, .int 7]) (fun _ => V.str (wordO (dS o))) (eu_tup (ea_cons ev_c (ea_cons ev_c (ea_cons ev_c (ea_cons ev_c (ea_cons ev_c (ea_cons ev_c (ea_cons ev_c ea_nil))))))) (Nat.le_of_ble_eq_true rfl)) (by decide) (fun _ => rfl) fun i x G eG hx => ?_
        have i7 : i < 7 := (List.getElem?_eq_some_iff.mp hx).1
        have : i = 0 ∨ i = 1 ∨ i = 2 ∨ i = 3 ∨ i = 4 ∨ i = 5 ∨ i = 6 := by omega
        rcases this with rfl | rfl | rfl | rfl | rfl | rfl | rfl
        · cases hx
          exact ev_call (ea_cons (ev_var rfl) (ea_cons (ev_var rfl) (ea_cons ev_c (ea_cons ev_c ea_nil)))) (sv_told fun G2 e2 => .w0 _ _ _ o (hv9.ex (eG.trans e2)))
        · cases hx
          exact ev_call (ea_cons (ev_var rfl) (ea_cons (ev_var rfl) (ea_cons ev_c (ea_cons ev_c ea_nil)))) (sv_toldI (fun G2 e2 => .w1 _ _ o 0 (hv9.ex (eG.trans e2))) (by rw [dG_0 hv]))
        · cases hx
          exact ev_call (ea_cons (ev_var rfl) (ea_cons (ev_var rfl) (ea_cons ev_c (ea_cons ev_c ea_nil)))) (sv_toldI (fun G2 e2 => .w2 _ _ o 0 (hv9.ex (eG.trans e2))) (by rw [dG_0 hv]))
        · cases hx
          exact ev_call (ea_cons (ev_var rfl) (ea_cons (ev_var rfl) (ea_cons ev_c (ea_cons ev_c ea_nil)))) (sv_toldI (fun G2 e2 => .w3 _ o 0 0 (hv9.ex (eG.trans e2))) (by rw [dG_0 hv]))
        · cases hx
          exact ev_call (ea_cons (ev_var rfl) (ea_cons (ev_var rfl) (ea_cons ev_c (ea_cons ev_c ea_nil)))) (sv_toldI (fun G2 e2 => .w4 _ o 0 0 (hv9.ex (eG.trans e2))) (by rw [dM_0 hv]))
        · cases hx
          exact ev_call (ea_cons (ev_var rfl) (ea_cons (ev_var rfl) (ea_cons ev_c (ea_cons ev_c ea_nil)))) (sv_told fun G2 e2 => .w5 _ _ _ o (hv9.ex (eG.trans e2)))
        · cases hx
          exact ev_call (ea_cons (ev_var rfl) (ea_cons (ev_var rfl) (ea_cons ev_c (ea_cons ev_c ea_nil)))) (sv_told fun G2 e2 => .w7 _ _ _ o (hv9.ex (eG.trans e2)))
      have hv10 := hv9.ex e10
      refine q_when (b := false) (et_is (et_and (et_test (ev_op (ev_var rfl) ev_c (rv_eq rfl))) fun hz => et_test (ev_neD (d := .list ((List.replicate 5 (wordO (dS o))).map PyData.str)) (e := .list ((List.replicate 5 (wordO (dS o))).map PyData.str)) (ed_ofL (xs := (List.replicate 5 (wordO (dS o))).map V.str) ?_ (dpa_strs _)) (ed_repS (n := 5) (ev_var rfl) ev_c (by decide) (by decide)) sh.2 sh.2)) (by rw [eqv_same sh.2]; simp)) (fun hb => Bool.noConfusion hb) fun _ H11 e11 => ?_
      · have hbad : judge o = false := by
          cases hq : judge o with
          | false => rfl
          | true =>
            exfalso
            unfold dS at hz
            rw [if_pos hq] at hz
            exact Bool.noConfusion hz
        rw [← replicate_get (i := 0)]
        refine el_lcNU (xs := [V.int 1, .int 2, .int 3, .int 4, .int 6]) (fun _ => V.str (wordO (dS o))) (eu_tup (ea_cons ev_c (ea_cons ev_c (ea_cons ev_c (ea_cons ev_c (ea_cons ev_c ea_nil))))) (Nat.le_of_ble_eq_true rfl)) (by decide) (fun _ => rfl) fun i x G eG hx => ?_
        have i5 : i < 5 := (List.getElem?_eq_some_iff.mp hx).1
        have : i = 0 ∨ i = 1 ∨ i = 2 ∨ i = 3 ∨ i = 4 := by omega
        rcases this with rfl | rfl | rfl | rfl | rfl
        · cases hx
          exact ev_call (ea_cons (ev_var rfl) (ea_cons (ev_var rfl) (ea_cons (ev_un ev_c ru_neg) (ea_cons (ev_un ev_c ru_neg) ea_nil)))) (sv_toldI (fun G2 e2 => .w1 _ _ o (-1) (hv10.ex (eG.trans e2))) (by rw [dG_bad hbad]))
        · cases hx
          exact ev_call (ea_cons (ev_var rfl) (ea_cons (ev_var rfl) (ea_cons (ev_un ev_c ru_neg) (ea_cons (ev_un ev_c ru_neg) ea_nil)))) (sv_toldI (fun G2 e2 => .w2 _ _ o (-1) (hv10.ex (eG.trans e2))) (by rw [dG_bad hbad]))
        · cases hx
          exact ev_call (ea_cons (ev_var rfl) (ea_cons (ev_var rfl) (ea_cons (ev_un ev_c ru_neg) (ea_cons (ev_un ev_c ru_neg) ea_nil)))) (sv_toldI (fun G2 e2 => .w3 _ o (-1) (-1) (hv10.ex (eG.trans e2))) (by rw [dG_bad hbad]))
        · cases hx
          exact ev_call (ea_cons (ev_var rfl) (ea_cons (ev_var rfl) (ea_cons (ev_un ev_c ru_neg) (ea_cons (ev_un ev_c ru_neg) ea_nil)))) (sv_toldI (fun G2 e2 => .w4 _ o (-1) (-1) (hv10.ex (eG.trans e2))) (by rw [dM_bad hbad]))
        · cases hx
          exact ev_call (ea_cons (ev_var rfl) (ea_cons (ev_var rfl) (ea_cons (ev_un ev_c ru_neg) (ea_cons (ev_un ev_c ru_neg) ea_nil)))) (sv_toldI (fun G2 e2 => .w6 _ _ _ o none (hv10.ex (eG.trans e2)) (.int (-1))) (by rw [dR_bad hbad]))
      have hv11 := hv10.ex e11
      refine q_asg (v := .str (wordO (dR ho o))) ?_ fun H12 e12 => ?_
      · cases hq : judge o with
        | false =>
          have ew : wordO (dR ho o) = "names" := by
            unfold dR
            rw [if_pos hj, if_neg (by simp [hq])]
            rfl
          refine ev_if (b := false) (et_is (et_and (a := false) (b := false) (et_B (ev_is (ev_call (ea_cons (ev_var rfl) ea_nil) (fun G eG Q q E => ⟨v, o, rfl, hv11.ex eG, q⟩)) (by rw [hq]))) fun z => Bool.noConfusion z) rfl) (fun z => Bool.noConfusion z) fun _ => ev_is ev_c (by rw [ew])
        | true =>
          obtain ⟨av, hv', rfl, hav, ov, lv⟩ := judge_get hv11 hq
          refine ev_if (b := true && decide (V.int (hv'.length : Int) = V.int (m : Int))) (et_and (et_B (ev_is (ev_call (ea_cons (ev_var rfl) ea_nil) (fun G eG Q q E => ⟨.ref av, o, rfl, hv11.ex eG, q⟩)) (by rw [hq]))) fun _ => et_test (ev_op (ev_is (ev_len (K := K) (ev_var rfl) (sq_of hav)) (by rw [nv_len])) (ev_var rfl) (rv_eq rfl))) (fun z => ev_is ev_c ?_) fun z => ev_is ev_c ?_
          · rw [Bool.true_and, dec_int] at z
            have z : (hv'.length : Int) = (m : Int) := by simpa using z
            unfold dR
            rw [if_pos hj, if_pos hq, if_pos (by omega)]
            rfl
          · rw [Bool.true_and, dec_int] at z
            have z : ¬ (hv'.length : Int) = (m : Int) := by simpa using z
            unfold dR
            rw [if_pos hj, if_pos hq, if_neg (by omega)]
            rfl
      have hv12 := hv11.ex e12
      have e512 := e5'.trans (e9.trans (e10.trans (e11.trans e12)))
      refine s_when (b := false) (et_is (et_or (et_test (ev_op (ev_call (ea_cons ev_c (ea_cons (ev_var rfl) (ea_cons (ev_var rfl) (ea_cons ev_c ea_nil)))) (sv_told fun G2 e2 => .w6 _ _ _ ho o (th (e512.trans e2)) (hv12.ex e2))) (ev_var rfl) (rv_ne rfl))) fun _ => et_test (ev_op (ev_op (ev_call (ea_cons ev_c (ea_cons (ev_var rfl) (ea_cons ev_c (ea_cons ev_c ea_nil)))) (sv_told fun G2 e2 => .w8 _ _ _ o (hv12.ex e2))) ev_c (rv_eq rfl)) (ev_notV (ev_call (ea_cons (ev_var rfl) ea_nil) (fun G eG Q q E => ⟨v, o, rfl, hv12.ex eG, q⟩))) (rv_ne rfl))) ?_) (fun hb => Bool.noConfusion hb) fun _ H13 e13 => ⟨_, _, rfl, e.trans (e9.trans (e10.trans (e11.trans (e12.trans e13))))⟩
      unfold dN
      cases judge o with
      | true => simp; decide +kernel
      | false => simp; decide +kernel
    · rintro σ' H' ⟨y5, y6, rfl, e⟩
      have e5' := e57.trans e
      have p8 := p7.ex e
      have eM : Ex (Hm p H5) (Hm p H') := ex_hm e5' hm_p
      refine pq_no (p := p) (k := 2) (H0 := Hm p H') (tp_is (b := !true) (tp_not (tp_B (ep_guests (K := K) (ev_var rfl) (ev_var rfl) ap (eM a _ ka) oh))) rfl) hm_sub p8 (by omega) fun H9 p9 e9 => ?_
      have e59 : Ex (Hm p H5) H9 := eM.trans e9
      refine q_forCall (vs := [.ref p, .ref r]) (ea_cons (ev_var rfl) (ea_cons (ev_var rfl) ea_nil)) fun H10 e10 => ?_
      have e510 := e59.trans e10
      have eM10 : Ex (Hm p H5) (Hm p H10) := ex_hm e510 hm_p
      refine ⟨p, r, n + 3 * m + 1 + 3 + 2, bs.map V.ref, rs, h, rfl, p9.ex e10, by omega, rp, e510 r _ kr, paired_imp (fun _ _ x => Lb.ex eM10 x) kL, R, oh, fun l3 ws3 H11 hl3 hb3 p11 e11 => ?_⟩
      have e511 : Ex (Hm p H5) H11 := eM10.trans e11
      refine forQ_of (xs := ws3) (fun i σ' H' => ∃ y5 y6 : Option V, σ' = [some (.ref p), some (.int m), some (.ref r), some (.ref a), some (.ref b), y5, y6, none, none] ∧ Ex H11 H') ⟨_, _, rfl, Ex.refl _⟩ (fun i σ' H' _ ⟨_, _, _, e⟩ => sq_of (e l3 _ hl3)) ?_ ?_
      · rintro i v σ' H' hi ⟨y5, y6, rfl, e12⟩
        obtain ⟨o, hv, hbad⟩ := (hb3 v (List.mem_of_getElem? hi)).ex e12
        exact s_when (b := false) (et_is (et_test (ev_op (ev_call (ea_cons ev_c (ea_cons (ev_var rfl) (ea_cons ev_c (ea_cons ev_c ea_nil)))) (sv_toldI (z := "tables") (fun G2 e2 => .w9b _ _ _ o (hv.ex e2) hbad) rfl)) ev_c (rv_ne rfl))) (by simp)) (fun hb => Bool.noConfusion hb) fun _ H13 e13 => ⟨_, _, rfl, e12.trans e13⟩
      · rintro σ' H' ⟨y5, y6, rfl, e12⟩
        dsimp only
        have e512 := e511.trans e12
        have sh := shaped_ints (iz h)
        have good := elt_map (K := K) (te := tCB (rTupS K) (tCons (tVar 8) tNil)) (tl := tVar 2) (σ := [some (.ref p), some (.int m), some (.ref r), some (.ref a), some (.ref b), y5, y6, none, none]) (H := H') (j := 8) (vs := [8]) (fun i => nv (rs.getD i [])) (ev_var rfl) (sq_of (e512 r _ kr)) (by have := many R; have := Paired.length kL; have := oh.2.2; omega) (fun _ => rfl) fun i x H2 e2 hx => by
          obtain ⟨q, hr, b, rfl, hb⟩ := paired_get kL hx
          have g : rs.getD i [] = q := by rw [List.getD_eq_getElem?_getD, hr] <;> rfl
          rw [g]
          exact eu_tupOf (ev_var rfl) (sq_of (e2 b _ (e512 b _ hb)))
        have e : (List.range (bs.map V.ref).length).map (fun i => nv (rs.getD i [])) = rs.map nv := by
          rw [Paired.length kL]
          conv => rhs; rw [range_get rs []]
          rw [List.map_map]
          rfl
        rw [e] at good
        refine s_ret (v := .bl true) (ev_is (ev_andV (a := true) (b := true) (ev_is (ev_op (ev_told9 good R oh) ev_c (rv_eq rfl)) rfl) fun _ => ev_is (ev_eqD (d := .list ((iz h).map PyData.int)) (e := .list ((iz h).map PyData.int)) (ed_of (ev_var rfl) (.lst (sq_of (e512 a _ ka)) (dpa_ints _))) (ed_of (ev_var rfl) (.lst (sq_of (e512 b _ kb)) (dpa_ints _))) sh sh) (by rw [eqv_same sh])) rfl) fun H13 e13 => ?_
        exact k _ ((p11.ex (e12.trans e13)).mono (by omega)) (hm_trans e05 (e512.trans e13))
end


local macro_rules | `(tactic| walk_at "call") => `(tactic| (with_reducible exact sv_whole))

/-! ### the law -/
def EvLTA (ta : TA) (σ : L2.St) (H : Hp) (rs : List (List V)) : Prop := ∀ H1, Ex H H1 → ∀ Q : List V → Hp → Prop, (∀ vs H2, Ex H1 H2 → TL H2 vs rs → Q vs H2) → ta σ H1 Q
section
variable {σ : L2.St} {H : Hp} {te : TE} {tr : TA}
theorem lta_nil : EvLTA tNil σ H [] := fun H1 _ _ q => q [] H1 (Ex.refl _) .nil
theorem lta_cons {x : List V} {xs : List (List V)} (h : EvU te σ H x) (hr : EvLTA tr σ H xs) : EvLTA (tCons te tr) σ H (x :: xs) := fun H1 e _ q => h H1 e _ fun p H2 _ e2 h2 => hr H2 (e.trans e2) _ fun vs H3 e3 hv => q _ H3 (e2.trans e3) (.cons ⟨p, rfl, e3 p _ h2⟩ hv)
theorem elt_lst {xs : List (List V)} (h : EvLTA tr σ H xs) (hl : xs.length ≤ 1000) : EvLT (tLst tr) σ H xs := fun H1 e Q q => h H1 e _ fun vs H2 e2 hv => ⟨sz_of (by have := hv.len; omega), fun l hl => q l vs _ (fresh_back e2 hl) (e2.trans (Ex.new hl)) upd_same (hv.ex (Ex.new hl))⟩
end
section
variable {K : PySem.W.Frag} {σ : L2.St} {H : Hp} {ta tm te : TE} {p : Addr} {k : Nat}
theorem ep_right {E : XK} (ha : Ev ta σ H (.ref p)) (hm : EvP p k tm σ H (fun v _ => ∃ m : Nat, v = .int m ∧ 1 ≤ m ∧ m ≤ 20)) : EvP p (k + 101) (tCall sp_law_right [] E (tCons ta (tCons tm tNil))) σ H (fun v _ => v = .bl true) := fun n H1 e hp hn Q q =>
  ha H1 e _ fun H2 e2 => hm n H2 (e.trans e2) (hp.ex e2) (by omega) _ fun v H3 hv p3 e3 => by
    obtain ⟨m, rfl, m1, m2⟩ := hv
    exact ⟨p, n + k, m, rfl, p3, by omega, m1, m2, fun H4 p4 e4 => q _ H4 rfl (p4.mono (by omega)) (hm_trans (hm_trans (hm_of e2) e3) e4)⟩
theorem ev_told9b {os : List (Option (List PyData))} {E : XK} (h : EvR K te σ H os) (hb : tabsB (some os) = false) (hl : os.length ≤ 60) : Ev (tCall (sp_law_told K) [] E (tCons (tC (.int 9)) (tCons te (tCons (tC (.int 0)) (tCons (tC (.int 0)) tNil))))) σ H (.str "tables") := fun H1 e Q q =>
  h H1 e _ fun l vs H2 e2 h2 hp => ⟨9, .ref l, .int 0, .int 0, some 3, rfl, .w9b _ _ _ _ (.lst h2 hp hl) hb, fun H3 e3 => q H3 (e2.trans e3)⟩
end
theorem max_min4 {m : Int} (h0 : 0 ≤ m) : 0 ≤ (if (if m < 4 then m else 4) > 1 then (if m < 4 then m else 4) else 1) ∧ (if (if m < 4 then m else 4) > 1 then (if m < 4 then m else 4) else 1) ≤ (4 : Int) := by
  split <;> split <;> omega
theorem rings_one : Rings [0] [[0]] := ⟨fun r hr => by
  rw [List.mem_singleton.mp hr]
  exact ⟨by decide, by simp, fun i hi => by
    have hi : i < 1 := hi
    have : i = 0 := by omega
    subst this
    exact ⟨0, 0, rfl, rfl, rfl⟩⟩, fun r hr x hx => by
  rw [List.mem_singleton.mp hr] at hx ⊢
  simp, by simp, by decide +kernel⟩
theorem ord_one : Ord [0] := ⟨by decide +kernel, by decide, by decide⟩
def sp_law (K : PySem.W.Frag) : Sp := fun vs H Q _ => ∃ (a : Addr) (ns : List Int), vs = [.ref a] ∧ SqL K H a (ns.map V.int) ∧ ns.length ≤ 63 ∧ ∀ H', Q (.bl true) H'
section
variable {P : Program} {w : World} {K : PySem.W.Frag} {mg : Str → Option Value} {base : Heap}
theorem ok_law (T : Tx K mg) : FnOk P w K mg base CX0 10 T.f_law T.d_law ["script"] (sp_law K) := by
  refine T.F_law.ok sc_law (fun vs H Q E h => ?_) (fun cdv A outer s H vs Q E hr h => ?_)
  · obtain ⟨a, ns, rfl, _⟩ := h
    rfl
  · obtain ⟨a, ns, rfl, hs, hl, k⟩ := h
    refine ⟨_, (pss_cons (ps_for PassesOwn.never rfl (pi_range1 (by rfl) T.m_range (pa_cons (pe_callB (call_maxR rfl) (by rfl) T.m_max (by decide +kernel) (pa_cons pe_int (pa_cons (pe_callB (call_minR rfl) (by rfl) T.m_min (by decide +kernel) (pa_cons pe_int (pa_cons (pe_callB call_lenR (by rfl) T.m_len (by decide +kernel) (pa_cons (pv 0) pa_nil)) pa_nil))) pa_nil))) pa_nil)) (pg_name (i := 1) sc_law.nd rfl (Or.inl rfl)) (pss_cons (ps_set (i := 2) sc_law.nd rfl (Or.inl rfl) (pe_call (ok_law_pouch T) (hr.mono (by decide)) (by rfl) T.g_law_pouch T.F_law_pouch.kp T.b_law_pouch .nil pass0 (pa_cons (pv 0) (pa_cons (pv 1) pa_nil))))
      (pss_one (ps_if (pt_not (pt_val (pe_call (ok_law_right T) (hr.mono (by decide)) (by rfl) T.g_law_right T.F_law_right.kp T.b_law_right .nil pass0 (pa_cons (pv 2) (pa_cons (pe_op op_add pe_int (pe_call (ok_law_dip T) (hr.mono (by decide)) (by rfl) T.g_law_dip T.F_law_dip.kp T.b_law_dip .nil pass0 (pa_cons (pv 2) (pa_cons pe_int pa_nil)))) pa_nil))))) (pss_one (ps_ret pe_bl)) pss_nil))))
      (pss_one (ps_ret (pe_and (pe_cmpR op_eq (pe_call (ok_law_told T) (hr.mono (by decide)) (by rfl) T.g_law_told T.F_law_told.kp T.b_law_told .nil pass0 (pa_cons pe_int (pa_cons (pe_lst (pa_cons (pe_tup (pa_cons pe_int pa_nil)) pa_nil)) (pa_cons pe_int (pa_cons pe_int pa_nil))))) pe_str (nomark _)) (pe_one (pe_cmpR op_eq (pe_call (ok_law_told T) (hr.mono (by decide)) (by rfl) T.g_law_told T.F_law_told.kp T.b_law_told .nil pass0 (pa_cons pe_int (pa_cons (pe_lst (pa_cons (pe_tup (pa_cons pe_int (pa_cons pe_int pa_nil))) pa_nil)) (pa_cons pe_int (pa_cons pe_int pa_nil))))) pe_str (nomark _))))))), ?_⟩
    have mm := max_min4 (m := ((ns.map V.int).length : Int)) (by omega)
    refine q_forR1 (by walk_at "ea") ⟨mm.1, Int.le_trans mm.2 (by decide)⟩ (fun i σ' H' => ∃ y1 y2 : Option V, σ' = [some (.ref a), y1, y2] ∧ Ex H H') (fun H1 e1 => ⟨none, none, rfl, e1⟩) ?_ ?_
    · rintro i σ' H' hi ⟨y1, y2, rfl, e⟩
      have hi3 : (i : Int) < 4 := Int.lt_of_lt_of_le hi mm.2
      have many : ∀ (p : Addr) (H1 : Hp), H1 p = none → EvP p (0 + 1) (tOp (rI0 fun i j => .int (i + j)) (tC (.int 1)) (tCall sp_law_dip [] E0 (tCons (tVar 2) (tCons (tC (.int 20)) tNil)))) [some (V.ref a), some (V.int i), some (V.ref p)] H1 (fun v _ => ∃ m : Nat, v = .int m ∧ 1 ≤ m ∧ m ≤ 20) := fun p H1 hp =>
        ep_is (ep_add hp ev_c (ep_dipI (w := 20) hp (ev_var rfl) ev_c (by decide) (by decide))) fun v H4 ⟨r', e', r0', r1'⟩ => ⟨(1 + r').toNat, by rw [e']; exact congrArg V.int (by omega), by omega, by omega⟩
      refine pq_pouch (by walk_at "ea") (ex_l e hs) (by omega) fun p H1 hp e1 hpo => ?_
      refine ps_no (p := p) (k := 0 + 1 + 101) (H0 := H') (tp_is (b := !true) (tp_not (tp_B (ep_right (ev_var rfl) (many p H' hp)))) rfl) e1 hpo (by decide) fun H3 p3 e3 => ?_
      exact ⟨_, _, rfl, e.trans (hm_next hp e1 e3)⟩
    · rintro σ' H' ⟨y1, y2, rfl, e⟩
      refine s_ret (v := .bl true) (ev_is (ev_andV (a := true) (b := true) (ev_is (ev_op (ev_told9 (K := K) (rs := [[0]]) (elt_lst (lta_cons (eu_tup (ea_cons ev_c ea_nil) (Nat.le_of_ble_eq_true rfl)) lta_nil) (by decide)) rings_one ord_one) ev_c (rv_eq rfl)) rfl) fun _ =>
        ev_is (ev_op (ev_told9b (K := K) (er_lst (tca_cons (tc_tup (tia_cons (ti_int ev_c) (tia_cons (ti_int ev_c) tia_nil)) (by decide)) tca_nil) (by decide)) (no_all rfl) (by decide)) ev_c (rv_eq rfl)) rfl) rfl) fun H2 e2 => k H2
end


theorem all_mk {l : PySem.W.OpenLaw} {w : World} {K : PySem.W.Frag} {h : Heap} {mg : Str → Option Value} {fa : Addr} (X : K.In h) (G : h.Ns mainGlobals mg) (hfa : mg "law" = some (.ref fa))
    {f1 : Addr} {od1 an1 : Option Addr} {sl1 : Array (Option Value)} {oc1 kV1 dc1 pm1 cd1 ct1 : Value}
    {f2 : Addr} {od2 an2 : Option Addr} {sl2 : Array (Option Value)} {oc2 kV2 dc2 pm2 cd2 ct2 : Value}
    {f3 : Addr} {od3 an3 : Option Addr} {sl3 : Array (Option Value)} {oc3 kV3 dc3 pm3 cd3 ct3 : Value}
    {f4 : Addr} {od4 an4 : Option Addr} {sl4 : Array (Option Value)} {oc4 kV4 dc4 pm4 cd4 ct4 : Value}
    {f5 : Addr} {od5 an5 : Option Addr} {sl5 : Array (Option Value)} {oc5 kV5 dc5 pm5 cd5 ct5 : Value}
    {f6 : Addr} {od6 an6 : Option Addr} {sl6 : Array (Option Value)} {oc6 kV6 dc6 pm6 cd6 ct6 : Value}
    {f7 : Addr} {od7 an7 : Option Addr} {sl7 : Array (Option Value)} {oc7 kV7 dc7 pm7 cd7 ct7 : Value}
    {f8 : Addr} {od8 an8 : Option Addr} {sl8 : Array (Option Value)} {oc8 kV8 dc8 pm8 cd8 ct8 : Value}
    {f9 : Addr} {od9 an9 : Option Addr} {sl9 : Array (Option Value)} {oc9 kV9 dc9 pm9 cd9 ct9 : Value}
    {f10 : Addr} {od10 an10 : Option Addr} {sl10 : Array (Option Value)} {oc10 kV10 dc10 pm10 cd10 ct10 : Value}
    {f11 : Addr} {od11 an11 : Option Addr} {sl11 : Array (Option Value)} {oc11 kV11 dc11 pm11 cd11 ct11 : Value}
    {f12 : Addr} {od12 an12 : Option Addr} {sl12 : Array (Option Value)} {oc12 kV12 dc12 pm12 cd12 ct12 : Value}
    {f13 : Addr} {od13 an13 : Option Addr} {sl13 : Array (Option Value)} {oc13 kV13 dc13 pm13 cd13 ct13 : Value}
    {f14 : Addr} {od14 an14 : Option Addr} {sl14 : Array (Option Value)} {oc14 kV14 dc14 pm14 cd14 ct14 : Value}
    {f15 : Addr} {od15 an15 : Option Addr} {sl15 : Array (Option Value)} {oc15 kV15 dc15 pm15 cd15 ct15 : Value}
    {f16 : Addr} {od16 an16 : Option Addr} {sl16 : Array (Option Value)} {oc16 kV16 dc16 pm16 cd16 ct16 : Value}
    {f17 : Addr} {od17 an17 : Option Addr} {sl17 : Array (Option Value)} {oc17 kV17 dc17 pm17 cd17 ct17 : Value}
    {f18 : Addr} {od18 an18 : Option Addr} {sl18 : Array (Option Value)} {oc18 kV18 dc18 pm18 cd18 ct18 : Value}
    {f19 : Addr} {od19 an19 : Option Addr} {sl19 : Array (Option Value)} {oc19 kV19 dc19 pm19 cd19 ct19 : Value}
    {f20 : Addr} {od20 an20 : Option Addr} {sl20 : Array (Option Value)} {oc20 kV20 dc20 pm20 cd20 ct20 : Value}
    {f21 : Addr} {od21 an21 : Option Addr} {sl21 : Array (Option Value)} {oc21 kV21 dc21 pm21 cd21 ct21 : Value}
    {f22 : Addr} {od22 an22 : Option Addr} {sl22 : Array (Option Value)} {oc22 kV22 dc22 pm22 cd22 ct22 : Value}
    {f23 : Addr} {od23 an23 : Option Addr} {sl23 : Array (Option Value)} {oc23 kV23 dc23 pm23 cd23 ct23 : Value}
    {f24 : Addr} {od24 an24 : Option Addr} {sl24 : Array (Option Value)} {oc24 kV24 dc24 pm24 cd24 ct24 : Value}
    {f25 : Addr} {od25 an25 : Option Addr} {sl25 : Array (Option Value)} {oc25 kV25 dc25 pm25 cd25 ct25 : Value}
    {f26 : Addr} {od26 an26 : Option Addr} {sl26 : Array (Option Value)} {oc26 kV26 dc26 pm26 cd26 ct26 : Value}
    {f27 : Addr} {od27 an27 : Option Addr} {sl27 : Array (Option Value)} {oc27 kV27 dc27 pm27 cd27 ct27 : Value}
    {f28 : Addr} {od28 an28 : Option Addr} {sl28 : Array (Option Value)} {oc28 kV28 dc28 pm28 cd28 ct28 : Value}
    {f29 : Addr} {od29 an29 : Option Addr} {sl29 : Array (Option Value)} {oc29 kV29 dc29 pm29 cd29 ct29 : Value}
    {f30 : Addr} {od30 an30 : Option Addr} {sl30 : Array (Option Value)} {oc30 kV30 dc30 pm30 cd30 ct30 : Value}
    {f31 : Addr} {od31 an31 : Option Addr} {sl31 : Array (Option Value)} {oc31 kV31 dc31 pm31 cd31 ct31 : Value}
    {f32 : Addr} {od32 an32 : Option Addr} {sl32 : Array (Option Value)} {oc32 kV32 dc32 pm32 cd32 ct32 : Value}
    {f33 : Addr} {od33 an33 : Option Addr} {sl33 : Array (Option Value)} {oc33 kV33 dc33 pm33 cd33 ct33 : Value}
    {f34 : Addr} {od34 an34 : Option Addr} {sl34 : Array (Option Value)} {oc34 kV34 dc34 pm34 cd34 ct34 : Value}
    {f35 : Addr} {od35 an35 : Option Addr} {sl35 : Array (Option Value)} {oc35 kV35 dc35 pm35 cd35 ct35 : Value}
    {f36 : Addr} {od36 an36 : Option Addr} {sl36 : Array (Option Value)} {oc36 kV36 dc36 pm36 cd36 ct36 : Value}
    {c_HallError : Addr}
    {c_InvalidGuest : Addr}
    {c_InvalidSeating : Addr}
    {c_InvalidNames : Addr}
    {c_InvalidTables : Addr}
    {c_InvalidNumber : Addr}
    {t_MOST_GUESTS : Tok}
    (a1 : PySem.W.nsIn K mainGlobals "is_whole" = some (some (.ref f1))) (l1 : K.lookup f1 = some ⟨oc1, od1, .func (PySem.W.fnOf "is_whole" "is_whole" (defArgs s_is_whole) (defBody s_is_whole) (defScope s_is_whole) .none kV1 dc1 pm1 an1 cd1 ct1), sl1⟩) (c1 : PySem.W.codeIn K cd1 "is_whole" = true) (k1 : PySem.W.keepIn K (.ref f1) = true)
    (a2 : PySem.W.nsIn K mainGlobals "is_within" = some (some (.ref f2))) (l2 : K.lookup f2 = some ⟨oc2, od2, .func (PySem.W.fnOf "is_within" "is_within" (defArgs s_is_within) (defBody s_is_within) (defScope s_is_within) .none kV2 dc2 pm2 an2 cd2 ct2), sl2⟩) (c2 : PySem.W.codeIn K cd2 "is_within" = true) (k2 : PySem.W.keepIn K (.ref f2) = true)
    (a3 : PySem.W.nsIn K mainGlobals "is_order" = some (some (.ref f3))) (l3 : K.lookup f3 = some ⟨oc3, od3, .func (PySem.W.fnOf "is_order" "is_order" (defArgs s_is_order) (defBody s_is_order) (defScope s_is_order) .none kV3 dc3 pm3 an3 cd3 ct3), sl3⟩) (c3 : PySem.W.codeIn K cd3 "is_order" = true) (k3 : PySem.W.keepIn K (.ref f3) = true)
    (a4 : PySem.W.nsIn K mainGlobals "check_guest" = some (some (.ref f4))) (l4 : K.lookup f4 = some ⟨oc4, od4, .func (PySem.W.fnOf "check_guest" "check_guest" (defArgs s_check_guest) (defBody s_check_guest) (defScope s_check_guest) .none kV4 dc4 pm4 an4 cd4 ct4), sl4⟩) (c4 : PySem.W.codeIn K cd4 "check_guest" = true) (k4 : PySem.W.keepIn K (.ref f4) = true)
    (a5 : PySem.W.nsIn K mainGlobals "check_any_number" = some (some (.ref f5))) (l5 : K.lookup f5 = some ⟨oc5, od5, .func (PySem.W.fnOf "check_any_number" "check_any_number" (defArgs s_check_any_number) (defBody s_check_any_number) (defScope s_check_any_number) .none kV5 dc5 pm5 an5 cd5 ct5), sl5⟩) (c5 : PySem.W.codeIn K cd5 "check_any_number" = true) (k5 : PySem.W.keepIn K (.ref f5) = true)
    (a6 : PySem.W.nsIn K mainGlobals "is_seating" = some (some (.ref f6))) (l6 : K.lookup f6 = some ⟨oc6, od6, .func (PySem.W.fnOf "is_seating" "is_seating" (defArgs s_is_seating) (defBody s_is_seating) (defScope s_is_seating) .none kV6 dc6 pm6 an6 cd6 ct6), sl6⟩) (c6 : PySem.W.codeIn K cd6 "is_seating" = true) (k6 : PySem.W.keepIn K (.ref f6) = true)
    (a7 : PySem.W.nsIn K mainGlobals "tables_of" = some (some (.ref f7))) (l7 : K.lookup f7 = some ⟨oc7, od7, .func (PySem.W.fnOf "tables_of" "tables_of" (defArgs s_tables_of) (defBody s_tables_of) (defScope s_tables_of) .none kV7 dc7 pm7 an7 cd7 ct7), sl7⟩) (c7 : PySem.W.codeIn K cd7 "tables_of" = true) (k7 : PySem.W.keepIn K (.ref f7) = true)
    (a8 : PySem.W.nsIn K mainGlobals "seating_of" = some (some (.ref f8))) (l8 : K.lookup f8 = some ⟨oc8, od8, .func (PySem.W.fnOf "seating_of" "seating_of" (defArgs s_seating_of) (defBody s_seating_of) (defScope s_seating_of) .none kV8 dc8 pm8 an8 cd8 ct8), sl8⟩) (c8 : PySem.W.codeIn K cd8 "seating_of" = true) (k8 : PySem.W.keepIn K (.ref f8) = true)
    (a9 : PySem.W.nsIn K mainGlobals "table_from" = some (some (.ref f9))) (l9 : K.lookup f9 = some ⟨oc9, od9, .func (PySem.W.fnOf "table_from" "table_from" (defArgs s_table_from) (defBody s_table_from) (defScope s_table_from) .none kV9 dc9 pm9 an9 cd9 ct9), sl9⟩) (c9 : PySem.W.codeIn K cd9 "table_from" = true) (k9 : PySem.W.keepIn K (.ref f9) = true)
    (a10 : PySem.W.nsIn K mainGlobals "right_of" = some (some (.ref f10))) (l10 : K.lookup f10 = some ⟨oc10, od10, .func (PySem.W.fnOf "right_of" "right_of" (defArgs s_right_of) (defBody s_right_of) (defScope s_right_of) .none kV10 dc10 pm10 an10 cd10 ct10), sl10⟩) (c10 : PySem.W.codeIn K cd10 "right_of" = true) (k10 : PySem.W.keepIn K (.ref f10) = true)
    (a11 : PySem.W.nsIn K mainGlobals "steps_left" = some (some (.ref f11))) (l11 : K.lookup f11 = some ⟨oc11, od11, .func (PySem.W.fnOf "steps_left" "steps_left" (defArgs s_steps_left) (defBody s_steps_left) (defScope s_steps_left) .none kV11 dc11 pm11 an11 cd11 ct11), sl11⟩) (c11 : PySem.W.codeIn K cd11 "steps_left" = true) (k11 : PySem.W.keepIn K (.ref f11) = true)
    (a12 : PySem.W.nsIn K mainGlobals "are_together" = some (some (.ref f12))) (l12 : K.lookup f12 = some ⟨oc12, od12, .func (PySem.W.fnOf "are_together" "are_together" (defArgs s_are_together) (defBody s_are_together) (defScope s_are_together) .none kV12 dc12 pm12 an12 cd12 ct12), sl12⟩) (c12 : PySem.W.codeIn K cd12 "are_together" = true) (k12 : PySem.W.keepIn K (.ref f12) = true)
    (a13 : PySem.W.nsIn K mainGlobals "mirrored" = some (some (.ref f13))) (l13 : K.lookup f13 = some ⟨oc13, od13, .func (PySem.W.fnOf "mirrored" "mirrored" (defArgs s_mirrored) (defBody s_mirrored) (defScope s_mirrored) .none kV13 dc13 pm13 an13 cd13 ct13), sl13⟩) (c13 : PySem.W.codeIn K cd13 "mirrored" = true) (k13 : PySem.W.keepIn K (.ref f13) = true)
    (a14 : PySem.W.nsIn K mainGlobals "renamed" = some (some (.ref f14))) (l14 : K.lookup f14 = some ⟨oc14, od14, .func (PySem.W.fnOf "renamed" "renamed" (defArgs s_renamed) (defBody s_renamed) (defScope s_renamed) .none kV14 dc14 pm14 an14 cd14 ct14), sl14⟩) (c14 : PySem.W.codeIn K cd14 "renamed" = true) (k14 : PySem.W.keepIn K (.ref f14) = true)
    (a15 : PySem.W.nsIn K mainGlobals "record_list" = some (some (.ref f15))) (l15 : K.lookup f15 = some ⟨oc15, od15, .func (PySem.W.fnOf "record_list" "record_list" (defArgs s_record_list) (defBody s_record_list) (defScope s_record_list) .none kV15 dc15 pm15 an15 cd15 ct15), sl15⟩) (c15 : PySem.W.codeIn K cd15 "record_list" = true) (k15 : PySem.W.keepIn K (.ref f15) = true)
    (a16 : PySem.W.nsIn K mainGlobals "seating_of_records" = some (some (.ref f16))) (l16 : K.lookup f16 = some ⟨oc16, od16, .func (PySem.W.fnOf "seating_of_records" "seating_of_records" (defArgs s_seating_of_records) (defBody s_seating_of_records) (defScope s_seating_of_records) .none kV16 dc16 pm16 an16 cd16 ct16), sl16⟩) (c16 : PySem.W.codeIn K cd16 "seating_of_records" = true) (k16 : PySem.W.keepIn K (.ref f16) = true)
    (a17 : PySem.W.nsIn K mainGlobals "check_seating" = some (some (.ref f17))) (l17 : K.lookup f17 = some ⟨oc17, od17, .func (PySem.W.fnOf "check_seating" "check_seating" (defArgs s_check_seating) (defBody s_check_seating) (defScope s_check_seating) .none kV17 dc17 pm17 an17 cd17 ct17), sl17⟩) (c17 : PySem.W.codeIn K cd17 "check_seating" = true) (k17 : PySem.W.keepIn K (.ref f17) = true)
    (a18 : PySem.W.nsIn K mainGlobals "check_names" = some (some (.ref f18))) (l18 : K.lookup f18 = some ⟨oc18, od18, .func (PySem.W.fnOf "check_names" "check_names" (defArgs s_check_names) (defBody s_check_names) (defScope s_check_names) .none kV18 dc18 pm18 an18 cd18 ct18), sl18⟩) (c18 : PySem.W.codeIn K cd18 "check_names" = true) (k18 : PySem.W.keepIn K (.ref f18) = true)
    (a19 : PySem.W.nsIn K mainGlobals "are_tables" = some (some (.ref f19))) (l19 : K.lookup f19 = some ⟨oc19, od19, .func (PySem.W.fnOf "are_tables" "are_tables" (defArgs s_are_tables) (defBody s_are_tables) (defScope s_are_tables) .none kV19 dc19 pm19 an19 cd19 ct19), sl19⟩) (c19 : PySem.W.codeIn K cd19 "are_tables" = true) (k19 : PySem.W.keepIn K (.ref f19) = true)
    (a20 : PySem.W.nsIn K mainGlobals "is_table" = some (some (.ref f20))) (l20 : K.lookup f20 = some ⟨oc20, od20, .func (PySem.W.fnOf "is_table" "is_table" (defArgs s_is_table) (defBody s_is_table) (defScope s_is_table) .none kV20 dc20 pm20 an20 cd20 ct20), sl20⟩) (c20 : PySem.W.codeIn K cd20 "is_table" = true) (k20 : PySem.W.keepIn K (.ref f20) = true)
    (a21 : PySem.W.nsIn K mainGlobals "walk_left" = some (some (.ref f21))) (l21 : K.lookup f21 = some ⟨oc21, od21, .func (PySem.W.fnOf "walk_left" "walk_left" (defArgs s_walk_left) (defBody s_walk_left) (defScope s_walk_left) .none kV21 dc21 pm21 an21 cd21 ct21), sl21⟩) (c21 : PySem.W.codeIn K cd21 "walk_left" = true) (k21 : PySem.W.keepIn K (.ref f21) = true)
    (a22 : PySem.W.nsIn K mainGlobals "tables_among" = some (some (.ref f22))) (l22 : K.lookup f22 = some ⟨oc22, od22, .func (PySem.W.fnOf "tables_among" "tables_among" (defArgs s_tables_among) (defBody s_tables_among) (defScope s_tables_among) .none kV22 dc22 pm22 an22 cd22 ct22), sl22⟩) (c22 : PySem.W.codeIn K cd22 "tables_among" = true) (k22 : PySem.W.keepIn K (.ref f22) = true)
    (a23 : PySem.W.nsIn K mainGlobals "seating_with" = some (some (.ref f23))) (l23 : K.lookup f23 = some ⟨oc23, od23, .func (PySem.W.fnOf "seating_with" "seating_with" (defArgs s_seating_with) (defBody s_seating_with) (defScope s_seating_with) .none kV23 dc23 pm23 an23 cd23 ct23), sl23⟩) (c23 : PySem.W.codeIn K cd23 "seating_with" = true) (k23 : PySem.W.keepIn K (.ref f23) = true)
    (a24 : PySem.W.nsIn K mainGlobals "_law_pouch" = some (some (.ref f24))) (l24 : K.lookup f24 = some ⟨oc24, od24, .func (PySem.W.fnOf "_law_pouch" "_law_pouch" (defArgs s_law_pouch) (defBody s_law_pouch) (defScope s_law_pouch) .none kV24 dc24 pm24 an24 cd24 ct24), sl24⟩) (c24 : PySem.W.codeIn K cd24 "_law_pouch" = true) (k24 : PySem.W.keepIn K (.ref f24) = true)
    (a25 : PySem.W.nsIn K mainGlobals "_law_dip" = some (some (.ref f25))) (l25 : K.lookup f25 = some ⟨oc25, od25, .func (PySem.W.fnOf "_law_dip" "_law_dip" (defArgs s_law_dip) (defBody s_law_dip) (defScope s_law_dip) .none kV25 dc25 pm25 an25 cd25 ct25), sl25⟩) (c25 : PySem.W.codeIn K cd25 "_law_dip" = true) (k25 : PySem.W.keepIn K (.ref f25) = true)
    (a26 : PySem.W.nsIn K mainGlobals "_law_entries" = some (some (.ref f26))) (l26 : K.lookup f26 = some ⟨oc26, od26, .func (PySem.W.fnOf "_law_entries" "_law_entries" (defArgs s_law_entries) (defBody s_law_entries) (defScope s_law_entries) .none kV26 dc26 pm26 an26 cd26 ct26), sl26⟩) (c26 : PySem.W.codeIn K cd26 "_law_entries" = true) (k26 : PySem.W.keepIn K (.ref f26) = true)
    (a27 : PySem.W.nsIn K mainGlobals "_law_rings" = some (some (.ref f27))) (l27 : K.lookup f27 = some ⟨oc27, od27, .func (PySem.W.fnOf "_law_rings" "_law_rings" (defArgs s_law_rings) (defBody s_law_rings) (defScope s_law_rings) .none kV27 dc27 pm27 an27 cd27 ct27), sl27⟩) (c27 : PySem.W.codeIn K cd27 "_law_rings" = true) (k27 : PySem.W.keepIn K (.ref f27) = true)
    (a28 : PySem.W.nsIn K mainGlobals "_law_seat" = some (some (.ref f28))) (l28 : K.lookup f28 = some ⟨oc28, od28, .func (PySem.W.fnOf "_law_seat" "_law_seat" (defArgs s_law_seat) (defBody s_law_seat) (defScope s_law_seat) .none kV28 dc28 pm28 an28 cd28 ct28), sl28⟩) (c28 : PySem.W.codeIn K cd28 "_law_seat" = true) (k28 : PySem.W.keepIn K (.ref f28) = true)
    (a29 : PySem.W.nsIn K mainGlobals "_law_things" = some (some (.ref f29))) (l29 : K.lookup f29 = some ⟨oc29, od29, .func (PySem.W.fnOf "_law_things" "_law_things" (defArgs s_law_things) (defBody s_law_things) (defScope s_law_things) .none kV29 dc29 pm29 an29 cd29 ct29), sl29⟩) (c29 : PySem.W.codeIn K cd29 "_law_things" = true) (k29 : PySem.W.keepIn K (.ref f29) = true)
    (a30 : PySem.W.nsIn K mainGlobals "_law_is_row" = some (some (.ref f30))) (l30 : K.lookup f30 = some ⟨oc30, od30, .func (PySem.W.fnOf "_law_is_row" "_law_is_row" (defArgs s_law_is_row) (defBody s_law_is_row) (defScope s_law_is_row) .none kV30 dc30 pm30 an30 cd30 ct30), sl30⟩) (c30 : PySem.W.codeIn K cd30 "_law_is_row" = true) (k30 : PySem.W.keepIn K (.ref f30) = true)
    (a31 : PySem.W.nsIn K mainGlobals "_law_word" = some (some (.ref f31))) (l31 : K.lookup f31 = some ⟨oc31, od31, .func (PySem.W.fnOf "_law_word" "_law_word" (defArgs s_law_word) (defBody s_law_word) (defScope s_law_word) .none kV31 dc31 pm31 an31 cd31 ct31), sl31⟩) (c31 : PySem.W.codeIn K cd31 "_law_word" = true) (k31 : PySem.W.keepIn K (.ref f31) = true)
    (a32 : PySem.W.nsIn K mainGlobals "_law_told" = some (some (.ref f32))) (l32 : K.lookup f32 = some ⟨oc32, od32, .func (PySem.W.fnOf "_law_told" "_law_told" (defArgs s_law_told) (defBody s_law_told) (defScope s_law_told) .none kV32 dc32 pm32 an32 cd32 ct32), sl32⟩) (c32 : PySem.W.codeIn K cd32 "_law_told" = true) (k32 : PySem.W.keepIn K (.ref f32) = true)
    (a33 : PySem.W.nsIn K mainGlobals "_law_wrong_tables" = some (some (.ref f33))) (l33 : K.lookup f33 = some ⟨oc33, od33, .func (PySem.W.fnOf "_law_wrong_tables" "_law_wrong_tables" (defArgs s_law_wrong_tables) (defBody s_law_wrong_tables) (defScope s_law_wrong_tables) .none kV33 dc33 pm33 an33 cd33 ct33), sl33⟩) (c33 : PySem.W.codeIn K cd33 "_law_wrong_tables" = true) (k33 : PySem.W.keepIn K (.ref f33) = true)
    (a34 : PySem.W.nsIn K mainGlobals "_law_guests_right" = some (some (.ref f34))) (l34 : K.lookup f34 = some ⟨oc34, od34, .func (PySem.W.fnOf "_law_guests_right" "_law_guests_right" (defArgs s_law_guests_right) (defBody s_law_guests_right) (defScope s_law_guests_right) .none kV34 dc34 pm34 an34 cd34 ct34), sl34⟩) (c34 : PySem.W.codeIn K cd34 "_law_guests_right" = true) (k34 : PySem.W.keepIn K (.ref f34) = true)
    (a35 : PySem.W.nsIn K mainGlobals "_law_right" = some (some (.ref f35))) (l35 : K.lookup f35 = some ⟨oc35, od35, .func (PySem.W.fnOf "_law_right" "_law_right" (defArgs s_law_right) (defBody s_law_right) (defScope s_law_right) .none kV35 dc35 pm35 an35 cd35 ct35), sl35⟩) (c35 : PySem.W.codeIn K cd35 "_law_right" = true) (k35 : PySem.W.keepIn K (.ref f35) = true)
    (a36 : PySem.W.nsIn K mainGlobals "law" = some (some (.ref f36))) (l36 : K.lookup f36 = some ⟨oc36, od36, .func (PySem.W.fnOf "law" "law" (defArgs s_law) (defBody s_law) (defScope s_law) .none kV36 dc36 pm36 an36 cd36 ct36), sl36⟩) (c36 : PySem.W.codeIn K cd36 "law" = true) (k36 : PySem.W.keepIn K (.ref f36) = true)
    (q_HallError : PySem.W.nsIn K mainGlobals "HallError" = some (some (.ref c_HallError)))
    (q_InvalidGuest : PySem.W.nsIn K mainGlobals "InvalidGuest" = some (some (.ref c_InvalidGuest)))
    (q_InvalidSeating : PySem.W.nsIn K mainGlobals "InvalidSeating" = some (some (.ref c_InvalidSeating)))
    (q_InvalidNames : PySem.W.nsIn K mainGlobals "InvalidNames" = some (some (.ref c_InvalidNames)))
    (q_InvalidTables : PySem.W.nsIn K mainGlobals "InvalidTables" = some (some (.ref c_InvalidTables)))
    (q_InvalidNumber : PySem.W.nsIn K mainGlobals "InvalidNumber" = some (some (.ref c_InvalidNumber)))
    (e_InvalidSeating : Kit.excB K c_InvalidSeating = true) (x_InvalidSeating : PySem.W.exmOne K (.ref c_InvalidSeating) (.ref c_HallError) = some true) (t_InvalidSeating : Kit.isRow K c_InvalidSeating [((.ref c_InvalidSeating : Value), true), ((.ref c_InvalidGuest : Value), false), ((.ref c_InvalidNames : Value), false), ((.ref c_InvalidTables : Value), false), ((.type "ValueError" : Value), true)] = true)
    (e_InvalidGuest : Kit.excB K c_InvalidGuest = true) (x_InvalidGuest : PySem.W.exmOne K (.ref c_InvalidGuest) (.ref c_HallError) = some true) (t_InvalidGuest : Kit.isRow K c_InvalidGuest [((.ref c_InvalidSeating : Value), false), ((.ref c_InvalidGuest : Value), true), ((.ref c_InvalidNames : Value), false), ((.ref c_InvalidTables : Value), false), ((.type "ValueError" : Value), true)] = true)
    (e_InvalidNames : Kit.excB K c_InvalidNames = true) (x_InvalidNames : PySem.W.exmOne K (.ref c_InvalidNames) (.ref c_HallError) = some true) (t_InvalidNames : Kit.isRow K c_InvalidNames [((.ref c_InvalidSeating : Value), false), ((.ref c_InvalidGuest : Value), false), ((.ref c_InvalidNames : Value), true), ((.ref c_InvalidTables : Value), false), ((.type "ValueError" : Value), true)] = true)
    (e_InvalidTables : Kit.excB K c_InvalidTables = true) (x_InvalidTables : PySem.W.exmOne K (.ref c_InvalidTables) (.ref c_HallError) = some true) (t_InvalidTables : Kit.isRow K c_InvalidTables [((.ref c_InvalidSeating : Value), false), ((.ref c_InvalidGuest : Value), false), ((.ref c_InvalidNames : Value), false), ((.ref c_InvalidTables : Value), true), ((.type "ValueError" : Value), true)] = true)
    (e_InvalidNumber : Kit.excB K c_InvalidNumber = true) (x_InvalidNumber : PySem.W.exmOne K (.ref c_InvalidNumber) (.ref c_HallError) = some true) (t_InvalidNumber : Kit.isRow K c_InvalidNumber [((.ref c_InvalidSeating : Value), false), ((.ref c_InvalidGuest : Value), false), ((.ref c_InvalidNames : Value), false), ((.ref c_InvalidTables : Value), false), ((.type "ValueError" : Value), true)] = true)
    (z_ValueError : PySem.W.nsIn K mainGlobals "ValueError" = some none)
    (z_abs : PySem.W.nsIn K mainGlobals "abs" = some none)
    (z_all : PySem.W.nsIn K mainGlobals "all" = some none)
    (z_bool : PySem.W.nsIn K mainGlobals "bool" = some none)
    (z_enumerate : PySem.W.nsIn K mainGlobals "enumerate" = some none)
    (z_int : PySem.W.nsIn K mainGlobals "int" = some none)
    (z_isinstance : PySem.W.nsIn K mainGlobals "isinstance" = some none)
    (z_len : PySem.W.nsIn K mainGlobals "len" = some none)
    (z_list : PySem.W.nsIn K mainGlobals "list" = some none)
    (z_max : PySem.W.nsIn K mainGlobals "max" = some none)
    (z_min : PySem.W.nsIn K mainGlobals "min" = some none)
    (z_range : PySem.W.nsIn K mainGlobals "range" = some none)
    (z_sorted : PySem.W.nsIn K mainGlobals "sorted" = some none)
    (z_sum : PySem.W.nsIn K mainGlobals "sum" = some none)
    (z_tuple : PySem.W.nsIn K mainGlobals "tuple" = some none)
    (z_type : PySem.W.nsIn K mainGlobals "type" = some none)
    (y_MOST_GUESTS : PySem.W.nsIn K mainGlobals "MOST_GUESTS" = some (some (.int 20 t_MOST_GUESTS)))
    : ∃ fd : FuncData, (∀ (s : Shared) (v : Value), BindsTo s fd ⟨[v], []⟩ [("script", v)]) ∧ ∀ base : Heap, K.In base → base.Ns mainGlobals mg → FnOk l.prog w K mg base CX0 10 fa fd ["script"] (sp_law K) := by
  have e := hfa.symm.trans (PySem.W.mg_of X G a36)
  cases e
  have F1 := fun_mk (st := s_is_whole) l1 c1 k1
  have F2 := fun_mk (st := s_is_within) l2 c2 k2
  have F3 := fun_mk (st := s_is_order) l3 c3 k3
  have F4 := fun_mk (st := s_check_guest) l4 c4 k4
  have F5 := fun_mk (st := s_check_any_number) l5 c5 k5
  have F6 := fun_mk (st := s_is_seating) l6 c6 k6
  have F7 := fun_mk (st := s_tables_of) l7 c7 k7
  have F8 := fun_mk (st := s_seating_of) l8 c8 k8
  have F9 := fun_mk (st := s_table_from) l9 c9 k9
  have F10 := fun_mk (st := s_right_of) l10 c10 k10
  have F11 := fun_mk (st := s_steps_left) l11 c11 k11
  have F12 := fun_mk (st := s_are_together) l12 c12 k12
  have F13 := fun_mk (st := s_mirrored) l13 c13 k13
  have F14 := fun_mk (st := s_renamed) l14 c14 k14
  have F15 := fun_mk (st := s_record_list) l15 c15 k15
  have F16 := fun_mk (st := s_seating_of_records) l16 c16 k16
  have F17 := fun_mk (st := s_check_seating) l17 c17 k17
  have F18 := fun_mk (st := s_check_names) l18 c18 k18
  have F19 := fun_mk (st := s_are_tables) l19 c19 k19
  have F20 := fun_mk (st := s_is_table) l20 c20 k20
  have F21 := fun_mk (st := s_walk_left) l21 c21 k21
  have F22 := fun_mk (st := s_tables_among) l22 c22 k22
  have F23 := fun_mk (st := s_seating_with) l23 c23 k23
  have F24 := fun_mk (st := s_law_pouch) l24 c24 k24
  have F25 := fun_mk (st := s_law_dip) l25 c25 k25
  have F26 := fun_mk (st := s_law_entries) l26 c26 k26
  have F27 := fun_mk (st := s_law_rings) l27 c27 k27
  have F28 := fun_mk (st := s_law_seat) l28 c28 k28
  have F29 := fun_mk (st := s_law_things) l29 c29 k29
  have F30 := fun_mk (st := s_law_is_row) l30 c30 k30
  have F31 := fun_mk (st := s_law_word) l31 c31 k31
  have F32 := fun_mk (st := s_law_told) l32 c32 k32
  have F33 := fun_mk (st := s_law_wrong_tables) l33 c33 k33
  have F34 := fun_mk (st := s_law_guests_right) l34 c34 k34
  have F35 := fun_mk (st := s_law_right) l35 c35 k35
  have F36 := fun_mk (st := s_law) l36 c36 k36
  let T : Tx K mg :=
    { f_is_whole := f1, d_is_whole := _, F_is_whole := F1, g_is_whole := PySem.W.mg_of X G a1, b_is_whole := F1.binds (ps := ["thing"]) fun _ _ _ _ _ _ us hl => match us, hl with | [_], _ => rfl,
      f_is_within := f2, d_is_within := _, F_is_within := F2, g_is_within := PySem.W.mg_of X G a2, b_is_within := F2.binds (ps := ["thing", "least", "most"]) fun _ _ _ _ _ _ us hl => match us, hl with | [_, _, _], _ => rfl,
      f_is_order := f3, d_is_order := _, F_is_order := F3, g_is_order := PySem.W.mg_of X G a3, b_is_order := F3.binds (ps := ["thing"]) fun _ _ _ _ _ _ us hl => match us, hl with | [_], _ => rfl,
      f_check_guest := f4, d_check_guest := _, F_check_guest := F4, g_check_guest := PySem.W.mg_of X G a4, b_check_guest := F4.binds (ps := ["guest", "guests"]) fun _ _ _ _ _ _ us hl => match us, hl with | [_, _], _ => rfl,
      f_check_any_number := f5, d_check_any_number := _, F_check_any_number := F5, g_check_any_number := PySem.W.mg_of X G a5, b_check_any_number := F5.binds (ps := ["number"]) fun _ _ _ _ _ _ us hl => match us, hl with | [_], _ => rfl,
      f_is_seating := f6, d_is_seating := _, F_is_seating := F6, g_is_seating := PySem.W.mg_of X G a6, b_is_seating := F6.binds (ps := ["thing"]) fun _ _ _ _ _ _ us hl => match us, hl with | [_], _ => rfl,
      f_tables_of := f7, d_tables_of := _, F_tables_of := F7, g_tables_of := PySem.W.mg_of X G a7, b_tables_of := F7.binds (ps := ["seating"]) fun _ _ _ _ _ _ us hl => match us, hl with | [_], _ => rfl,
      f_seating_of := f8, d_seating_of := _, F_seating_of := F8, g_seating_of := PySem.W.mg_of X G a8, b_seating_of := F8.binds (ps := ["tables"]) fun _ _ _ _ _ _ us hl => match us, hl with | [_], _ => rfl,
      f_table_from := f9, d_table_from := _, F_table_from := F9, g_table_from := PySem.W.mg_of X G a9, b_table_from := F9.binds (ps := ["seating", "guest"]) fun _ _ _ _ _ _ us hl => match us, hl with | [_, _], _ => rfl,
      f_right_of := f10, d_right_of := _, F_right_of := F10, g_right_of := PySem.W.mg_of X G a10, b_right_of := F10.binds (ps := ["seating", "guest"]) fun _ _ _ _ _ _ us hl => match us, hl with | [_, _], _ => rfl,
      f_steps_left := f11, d_steps_left := _, F_steps_left := F11, g_steps_left := PySem.W.mg_of X G a11, b_steps_left := F11.binds (ps := ["seating", "guest", "number"]) fun _ _ _ _ _ _ us hl => match us, hl with | [_, _, _], _ => rfl,
      f_are_together := f12, d_are_together := _, F_are_together := F12, g_are_together := PySem.W.mg_of X G a12, b_are_together := F12.binds (ps := ["seating", "guest", "mate"]) fun _ _ _ _ _ _ us hl => match us, hl with | [_, _, _], _ => rfl,
      f_mirrored := f13, d_mirrored := _, F_mirrored := F13, g_mirrored := PySem.W.mg_of X G a13, b_mirrored := F13.binds (ps := ["seating"]) fun _ _ _ _ _ _ us hl => match us, hl with | [_], _ => rfl,
      f_renamed := f14, d_renamed := _, F_renamed := F14, g_renamed := PySem.W.mg_of X G a14, b_renamed := F14.binds (ps := ["seating", "names"]) fun _ _ _ _ _ _ us hl => match us, hl with | [_, _], _ => rfl,
      f_record_list := f15, d_record_list := _, F_record_list := F15, g_record_list := PySem.W.mg_of X G a15, b_record_list := F15.binds (ps := ["seating"]) fun _ _ _ _ _ _ us hl => match us, hl with | [_], _ => rfl,
      f_seating_of_records := f16, d_seating_of_records := _, F_seating_of_records := F16, g_seating_of_records := PySem.W.mg_of X G a16, b_seating_of_records := F16.binds (ps := ["names"]) fun _ _ _ _ _ _ us hl => match us, hl with | [_], _ => rfl,
      f_check_seating := f17, d_check_seating := _, F_check_seating := F17, g_check_seating := PySem.W.mg_of X G a17, b_check_seating := F17.binds (ps := ["seating"]) fun _ _ _ _ _ _ us hl => match us, hl with | [_], _ => rfl,
      f_check_names := f18, d_check_names := _, F_check_names := F18, g_check_names := PySem.W.mg_of X G a18, b_check_names := F18.binds (ps := ["names"]) fun _ _ _ _ _ _ us hl => match us, hl with | [_], _ => rfl,
      f_are_tables := f19, d_are_tables := _, F_are_tables := F19, g_are_tables := PySem.W.mg_of X G a19, b_are_tables := F19.binds (ps := ["thing"]) fun _ _ _ _ _ _ us hl => match us, hl with | [_], _ => rfl,
      f_is_table := f20, d_is_table := _, F_is_table := F20, g_is_table := PySem.W.mg_of X G a20, b_is_table := F20.binds (ps := ["thing"]) fun _ _ _ _ _ _ us hl => match us, hl with | [_], _ => rfl,
      f_walk_left := f21, d_walk_left := _, F_walk_left := F21, g_walk_left := PySem.W.mg_of X G a21, b_walk_left := F21.binds (ps := ["lefts", "guest"]) fun _ _ _ _ _ _ us hl => match us, hl with | [_, _], _ => rfl,
      f_tables_among := f22, d_tables_among := _, F_tables_among := F22, g_tables_among := PySem.W.mg_of X G a22, b_tables_among := F22.binds (ps := ["lefts", "guests"]) fun _ _ _ _ _ _ us hl => match us, hl with | [_, _], _ => rfl,
      f_seating_with := f23, d_seating_with := _, F_seating_with := F23, g_seating_with := PySem.W.mg_of X G a23, b_seating_with := F23.binds (ps := ["tables"]) fun _ _ _ _ _ _ us hl => match us, hl with | [_], _ => rfl,
      f_law_pouch := f24, d_law_pouch := _, F_law_pouch := F24, g_law_pouch := PySem.W.mg_of X G a24, b_law_pouch := F24.binds (ps := ["script", "at"]) fun _ _ _ _ _ _ us hl => match us, hl with | [_, _], _ => rfl,
      f_law_dip := f25, d_law_dip := _, F_law_dip := F25, g_law_dip := PySem.W.mg_of X G a25, b_law_dip := F25.binds (ps := ["pouch", "wide"]) fun _ _ _ _ _ _ us hl => match us, hl with | [_, _], _ => rfl,
      f_law_entries := f26, d_law_entries := _, F_law_entries := F26, g_law_entries := PySem.W.mg_of X G a26, b_law_entries := F26.binds (ps := ["pouch", "many"]) fun _ _ _ _ _ _ us hl => match us, hl with | [_, _], _ => rfl,
      f_law_rings := f27, d_law_rings := _, F_law_rings := F27, g_law_rings := PySem.W.mg_of X G a27, b_law_rings := F27.binds (ps := ["entries"]) fun _ _ _ _ _ _ us hl => match us, hl with | [_], _ => rfl,
      f_law_seat := f28, d_law_seat := _, F_law_seat := F28, g_law_seat := PySem.W.mg_of X G a28, b_law_seat := F28.binds (ps := ["rings"]) fun _ _ _ _ _ _ us hl => match us, hl with | [_], _ => rfl,
      f_law_things := f29, d_law_things := _, F_law_things := F29, g_law_things := PySem.W.mg_of X G a29, b_law_things := F29.binds (ps := ["pouch", "row"]) fun _ _ _ _ _ _ us hl => match us, hl with | [_, _], _ => rfl,
      f_law_is_row := f30, d_law_is_row := _, F_law_is_row := F30, g_law_is_row := PySem.W.mg_of X G a30, b_law_is_row := F30.binds (ps := ["item"]) fun _ _ _ _ _ _ us hl => match us, hl with | [_], _ => rfl,
      f_law_word := f31, d_law_word := _, F_law_word := F31, g_law_word := PySem.W.mg_of X G a31, b_law_word := F31.binds (ps := ["caught"]) fun _ _ _ _ _ _ us hl => match us, hl with | [_], _ => rfl,
      f_law_told := f32, d_law_told := _, F_law_told := F32, g_law_told := PySem.W.mg_of X G a32, b_law_told := F32.binds (ps := ["way", "one", "two", "three"]) fun _ _ _ _ _ _ us hl => match us, hl with | [_, _, _, _], _ => rfl,
      f_law_wrong_tables := f33, d_law_wrong_tables := _, F_law_wrong_tables := F33, g_law_wrong_tables := PySem.W.mg_of X G a33, b_law_wrong_tables := F33.binds (ps := ["pouch", "rings"]) fun _ _ _ _ _ _ us hl => match us, hl with | [_, _], _ => rfl,
      f_law_guests_right := f34, d_law_guests_right := _, F_law_guests_right := F34, g_law_guests_right := PySem.W.mg_of X G a34, b_law_guests_right := F34.binds (ps := ["pouch", "hall"]) fun _ _ _ _ _ _ us hl => match us, hl with | [_, _], _ => rfl,
      f_law_right := f35, d_law_right := _, F_law_right := F35, g_law_right := PySem.W.mg_of X G a35, b_law_right := F35.binds (ps := ["pouch", "many"]) fun _ _ _ _ _ _ us hl => match us, hl with | [_, _], _ => rfl,
      f_law := fa, d_law := _, F_law := F36, g_law := PySem.W.mg_of X G a36, b_law := F36.binds (ps := ["script"]) fun _ _ _ _ _ _ us hl => match us, hl with | [_], _ => rfl,
      cl_HallError := c_HallError, gc_HallError := PySem.W.mg_of X G q_HallError,
      cl_InvalidGuest := c_InvalidGuest, gc_InvalidGuest := PySem.W.mg_of X G q_InvalidGuest,
      cl_InvalidSeating := c_InvalidSeating, gc_InvalidSeating := PySem.W.mg_of X G q_InvalidSeating,
      cl_InvalidNames := c_InvalidNames, gc_InvalidNames := PySem.W.mg_of X G q_InvalidNames,
      cl_InvalidTables := c_InvalidTables, gc_InvalidTables := PySem.W.mg_of X G q_InvalidTables,
      cl_InvalidNumber := c_InvalidNumber, gc_InvalidNumber := PySem.W.mg_of X G q_InvalidNumber,
      e_InvalidSeating := Kit.excD_of e_InvalidSeating, x_InvalidSeating := x_InvalidSeating, t_InvalidSeating := t_InvalidSeating,
      e_InvalidGuest := Kit.excD_of e_InvalidGuest, x_InvalidGuest := x_InvalidGuest, t_InvalidGuest := t_InvalidGuest,
      e_InvalidNames := Kit.excD_of e_InvalidNames, x_InvalidNames := x_InvalidNames, t_InvalidNames := t_InvalidNames,
      e_InvalidTables := Kit.excD_of e_InvalidTables, x_InvalidTables := x_InvalidTables, t_InvalidTables := t_InvalidTables,
      e_InvalidNumber := Kit.excD_of e_InvalidNumber, x_InvalidNumber := x_InvalidNumber, t_InvalidNumber := t_InvalidNumber,
      m_ValueError := PySem.W.mg_none_of X G z_ValueError,
      m_abs := PySem.W.mg_none_of X G z_abs,
      m_all := PySem.W.mg_none_of X G z_all,
      m_bool := PySem.W.mg_none_of X G z_bool,
      m_enumerate := PySem.W.mg_none_of X G z_enumerate,
      m_int := PySem.W.mg_none_of X G z_int,
      m_isinstance := PySem.W.mg_none_of X G z_isinstance,
      m_len := PySem.W.mg_none_of X G z_len,
      m_list := PySem.W.mg_none_of X G z_list,
      m_max := PySem.W.mg_none_of X G z_max,
      m_min := PySem.W.mg_none_of X G z_min,
      m_range := PySem.W.mg_none_of X G z_range,
      m_sorted := PySem.W.mg_none_of X G z_sorted,
      m_sum := PySem.W.mg_none_of X G z_sum,
      m_tuple := PySem.W.mg_none_of X G z_tuple,
      m_type := PySem.W.mg_none_of X G z_type,
      c_MOST_GUESTS := ⟨_, PySem.W.mg_of X G y_MOST_GUESTS, ⟨_, rfl⟩⟩ }
  exact ⟨PySem.W.fnOf "law" "law" (defArgs s_law) (defBody s_law) (defScope s_law) .none kV36 dc36 pm36 an36 cd36 ct36, fun s v => .of_eq rfl, fun base _ _ => ok_law T⟩
end K02
open PySem PySem.W PyProof.Rows
set_option maxRecDepth 100000 in
set_option maxHeartbeats 0 in
theorem PySem.Challenge.cw_newtables_k02_errors_of_seatings_holds : PySem.Challenge.rw_newtables_k02_errors_of_seatings.Holds := by
  w_on; o_law; k_head; (case hw => w_witness2)
  k_fill
  refine L2.walk_of (l := PySem.Challenge.rw_newtables_k02_errors_of_seatings) (n := 63) (k := 10) (x := "script") (CX := fun _ => L2.CX0) (sp := fun w => K02.sp_law _) rfl (by decide) rfl ⟨rfl, by decide, by decide⟩ (fun w h Y => PySem.W.kIn_of Y) ?F (fun _ _ a ns hl _ hS => ⟨a, ns, rfl, hS, hl, fun _ => rfl⟩) (fun _ _ _ _ _ h => h)
  case F =>
    intro w mg fa h KX G hmg
    refine' K02.all_mk KX G hmg ?a1 ?l1 ?c1 ?k1 ?a2 ?l2 ?c2 ?k2 ?a3 ?l3 ?c3 ?k3 ?a4 ?l4 ?c4 ?k4 ?a5 ?l5 ?c5 ?k5 ?a6 ?l6 ?c6 ?k6 ?a7 ?l7 ?c7 ?k7 ?a8 ?l8 ?c8 ?k8 ?a9 ?l9 ?c9 ?k9 ?a10 ?l10 ?c10 ?k10 ?a11 ?l11 ?c11 ?k11 ?a12 ?l12 ?c12 ?k12 ?a13 ?l13 ?c13 ?k13 ?a14 ?l14 ?c14 ?k14 ?a15 ?l15 ?c15 ?k15 ?a16 ?l16 ?c16 ?k16 ?a17 ?l17 ?c17 ?k17 ?a18 ?l18 ?c18 ?k18 ?a19 ?l19 ?c19 ?k19 ?a20 ?l20 ?c20 ?k20 ?a21 ?l21 ?c21 ?k21 ?a22 ?l22 ?c22 ?k22 ?a23 ?l23 ?c23 ?k23 ?a24 ?l24 ?c24 ?k24 ?a25 ?l25 ?c25 ?k25 ?a26 ?l26 ?c26 ?k26 ?a27 ?l27 ?c27 ?k27 ?a28 ?l28 ?c28 ?k28 ?a29 ?l29 ?c29 ?k29 ?a30 ?l30 ?c30 ?k30 ?a31 ?l31 ?c31 ?k31 ?a32 ?l32 ?c32 ?k32 ?a33 ?l33 ?c33 ?k33 ?a34 ?l34 ?c34 ?k34 ?a35 ?l35 ?c35 ?k35 ?a36 ?l36 ?c36 ?k36 ?q_HallError ?q_InvalidGuest ?q_InvalidSeating ?q_InvalidNames ?q_InvalidTables ?q_InvalidNumber ?e_InvalidSeating ?x_InvalidSeating ?t_InvalidSeating ?e_InvalidGuest ?x_InvalidGuest ?t_InvalidGuest ?e_InvalidNames ?x_InvalidNames ?t_InvalidNames ?e_InvalidTables ?x_InvalidTables ?t_InvalidTables ?e_InvalidNumber ?x_InvalidNumber ?t_InvalidNumber ?z_ValueError ?z_abs ?z_all ?z_bool ?z_enumerate ?z_int ?z_isinstance ?z_len ?z_list ?z_max ?z_min ?z_range ?z_sorted ?z_sum ?z_tuple ?z_type ?y_MOST_GUESTS
    (case a1 => k_is); (case l1 => k_is); (case c1 => k_is); (case k1 => k_is); (case a2 => k_is); (case l2 => k_is)
    (case c2 => k_is); (case k2 => k_is); (case a3 => k_is); (case l3 => k_is); (case c3 => k_is); (case k3 => k_is)
    (case a4 => k_is); (case l4 => k_is); (case c4 => k_is); (case k4 => k_is); (case a5 => k_is); (case l5 => k_is)
    (case c5 => k_is); (case k5 => k_is); (case a6 => k_is); (case l6 => k_is); (case c6 => k_is); (case k6 => k_is)
    (case a7 => k_is); (case l7 => k_is); (case c7 => k_is); (case k7 => k_is); (case a8 => k_is); (case l8 => k_is)
    (case c8 => k_is); (case k8 => k_is); (case a9 => k_is); (case l9 => k_is); (case c9 => k_is); (case k9 => k_is)
    (case a10 => k_is); (case l10 => k_is); (case c10 => k_is); (case k10 => k_is); (case a11 => k_is); (case l11 => k_is)
    (case c11 => k_is); (case k11 => k_is); (case a12 => k_is); (case l12 => k_is); (case c12 => k_is); (case k12 => k_is)
    (case a13 => k_is); (case l13 => k_is); (case c13 => k_is); (case k13 => k_is); (case a14 => k_is); (case l14 => k_is)
    (case c14 => k_is); (case k14 => k_is); (case a15 => k_is); (case l15 => k_is); (case c15 => k_is); (case k15 => k_is)
    (case a16 => k_is); (case l16 => k_is); (case c16 => k_is); (case k16 => k_is); (case a17 => k_is); (case l17 => k_is)
    (case c17 => k_is); (case k17 => k_is); (case a18 => k_is); (case l18 => k_is); (case c18 => k_is); (case k18 => k_is)
    (case a19 => k_is); (case l19 => k_is); (case c19 => k_is); (case k19 => k_is); (case a20 => k_is); (case l20 => k_is)
    (case c20 => k_is); (case k20 => k_is); (case a21 => k_is); (case l21 => k_is); (case c21 => k_is); (case k21 => k_is)
    (case a22 => k_is); (case l22 => k_is); (case c22 => k_is); (case k22 => k_is); (case a23 => k_is); (case l23 => k_is)
    (case c23 => k_is); (case k23 => k_is); (case a24 => k_is); (case l24 => k_is); (case c24 => k_is); (case k24 => k_is)
    (case a25 => k_is); (case l25 => k_is); (case c25 => k_is); (case k25 => k_is); (case a26 => k_is); (case l26 => k_is)
    (case c26 => k_is); (case k26 => k_is); (case a27 => k_is); (case l27 => k_is); (case c27 => k_is); (case k27 => k_is)
    (case a28 => k_is); (case l28 => k_is); (case c28 => k_is); (case k28 => k_is); (case a29 => k_is); (case l29 => k_is)
    (case c29 => k_is); (case k29 => k_is); (case a30 => k_is); (case l30 => k_is); (case c30 => k_is); (case k30 => k_is)
    (case a31 => k_is); (case l31 => k_is); (case c31 => k_is); (case k31 => k_is); (case a32 => k_is); (case l32 => k_is)
    (case c32 => k_is); (case k32 => k_is); (case a33 => k_is); (case l33 => k_is); (case c33 => k_is); (case k33 => k_is)
    (case a34 => k_is); (case l34 => k_is); (case c34 => k_is); (case k34 => k_is); (case a35 => k_is); (case l35 => k_is)
    (case c35 => k_is); (case k35 => k_is); (case a36 => k_is); (case l36 => k_is); (case c36 => k_is); (case k36 => k_is)
    (case q_HallError => k_is); (case q_InvalidGuest => k_is); (case q_InvalidSeating => k_is); (case q_InvalidNames => k_is); (case q_InvalidTables => k_is); (case q_InvalidNumber => k_is)
    (case e_InvalidSeating => kernel_rfl); (case x_InvalidSeating => kernel_rfl); (case t_InvalidSeating => kernel_rfl); (case e_InvalidGuest => kernel_rfl); (case x_InvalidGuest => kernel_rfl); (case t_InvalidGuest => kernel_rfl)
    (case e_InvalidNames => kernel_rfl); (case x_InvalidNames => kernel_rfl); (case t_InvalidNames => kernel_rfl); (case e_InvalidTables => kernel_rfl); (case x_InvalidTables => kernel_rfl); (case t_InvalidTables => kernel_rfl)
    (case e_InvalidNumber => kernel_rfl); (case x_InvalidNumber => kernel_rfl); (case t_InvalidNumber => kernel_rfl); (case z_ValueError => k_is); (case z_abs => k_is); (case z_all => k_is)
    (case z_bool => k_is); (case z_enumerate => k_is); (case z_int => k_is); (case z_isinstance => k_is); (case z_len => k_is); (case z_list => k_is)
    (case z_max => k_is); (case z_min => k_is); (case z_range => k_is); (case z_sorted => k_is); (case z_sum => k_is); (case z_tuple => k_is)
    (case z_type => k_is); (case y_MOST_GUESTS => k_is)