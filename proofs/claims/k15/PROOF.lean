import PyProof.Rows.All
import Wide.All
import OpenK.AllK
import Wide.FinOn
import PyProof.TypeEq
import HandS.ForMost
import HandS.Evl
import HandS.Wide
import HandS.WideBits
import HandS.Gcd
import HandS.Codes
import HandS.Conv
import HandS.IsInst
import HandS.More
import HandS.Walk
import HandS.Style
import PyProof.InstEq
import HandS.Sort
import KE.DataMinMax
import KE.GoesEnum
import KE.GoesMore
import HandS.Iter
import HandS.WordsDict
import HandS.Exc
import HandS.ExcOwn
import HandS.ExcCtx
import HandS.HotCalls
import HandS.ExcIs
import HandS.FStr
import HandS.RaiseMore
import PyProof.ReprLen
import PyProof.Rows.RegStrFacts
import KE.KMathGC
import HandS.RevRange
import HandS.Deep
import HandS.Strs
import HandS.SetFor
import PySem.Challenge.RW_newtables_k15_errors_of_sizes
set_option Elab.async false
set_option linter.all false
set_option maxRecDepth 100000
set_option maxHeartbeats 4000000
namespace Kit
open PySem PySem.Spec PyProof.Rows L2 Evl
/-! rules that the layer lacks -/
section
variable {X : Cx} {a b c d : Expr} {ta tb tc td : TE} {pos : Pos}
def CPowX (i j : Int) : Prop := 0 ≤ j ∧ (Builtin.Int.intBits i : Int) * j ≤ 2 ^ 27
theorem op_powX : OpR X (binaryOp .Pow) (rI CPowX fun i j => .int (i ^ j.toNat)) := opI fun _ _ _ _ _ _ _ hc q => pow_int hc.1 hc.2 q
/-- the types that are compared by == -/
def Meta (n : String) : Prop := ∀ s : Shared, s.TypeIs (.type n) "type"
def rEqTy : R2 := fun x y H Q => ∃ m n, x = .ty m ∧ y = .ty n ∧ Meta m ∧ Meta n ∧ Q (.bl (decide (m = n))) H
theorem op_eqTy : OpR X (compareOp .Eq) rEqTy := by
  intro pins s σ H x y v u Q I rx ry h
  obtain ⟨m, n, rfl, rfl, hm, hn, q⟩ := h
  cases (show v = Value.type m from rx)
  cases (show u = Value.type n from ry)
  by_cases e : m = n
  · subst e
    exact PySem.TypeEq.eq_type_same hm ⟨.bl true, H, I, rfl, by simpa using q⟩
  · exact PySem.TypeEq.eq_type_other hm hn (by rw [beq_eq_false_iff_ne]; exact fun z => e (Value.type.inj z)) ⟨.bl false, H, I, rfl, by simpa [e] using q⟩
/-- a op b op c op d -/
def tChain3 (r r' r'' : R2) (ta tb tc td : TE) : TE := fun σ H Q => ta σ H fun x H1 => tb σ H1 fun y H2 => r x y H2 fun z H3 => ∃ k, z = .bl k ∧
  (if k = true then tc σ H3 fun w' H4 => r' y w' H4 fun z' H5 => ∃ k', z' = .bl k' ∧ (if k' = true then td σ H5 fun w'' H6 => r'' w' w'' H6 Q else Q (.bl false) H5) else Q (.bl false) H3)
theorem pe_chain3 {op op' op'' : CmpOp} {r r' r'' : R2} (ho : OpR X (compareOp op) r) (ho' : OpR X (compareOp op') r') (ho'' : OpR X (compareOp op'') r'') (ha : PE X a ta) (hb : PE X b tb) (hc : PE X c tc) (hd : PE X d td)
    (hm : lastMarks [op, op', op''] [b, c, d] = false := by with_unfolding_all rfl) : PE X (.Compare a [op, op', op''] [b, c, d] pos) (tChain3 r r' r'' ta tb tc td) := by
  refine ⟨fun pins s σ H Q I h => ?_⟩
  refine Compare_chain (thn (ha.run pins s σ H _ I h) fun v s1 ⟨x, H1, I1, r1, q1⟩ => chain_link (thn (hb.run pins s1 σ H1 _ I1 q1) fun u s2 ⟨y, H2, I2, r2, q2⟩ =>
    thn (ho pins s2 σ H2 x y v u _ I2 r1 r2 q2) fun d s3 ⟨z, H3, I3, r3, k, e, q3⟩ => ?_)) hm
  subst e
  cases r3
  refine wpAny_truthy_bool ?_
  cases k with
  | false => exact ite_ff ⟨.bl false, H3, I3, rfl, q3⟩
  | true =>
    refine ite_tt (chain_link (thn (hc.run pins s3 σ H3 _ I3 q3) fun w' s4 ⟨z', H4, I4, r4, q4⟩ => thn (ho' pins s4 σ H4 y z' u w' _ I4 r2 r4 q4) fun d' s5 ⟨z5, H5, I5, r5, k5, e5, q5⟩ => ?_))
    subst e5
    cases r5
    refine wpAny_truthy_bool ?_
    cases k5 with
    | false => exact ite_ff ⟨.bl false, H5, I5, rfl, q5⟩
    | true => exact ite_tt (chain_last (thn (hd.run pins s5 σ H5 _ I5 q5) fun w6 s6 ⟨z6, H6, I6, r6, q6⟩ => ho'' pins s6 σ H6 z' z6 w' w6 Q I6 r4 r6 q6))
theorem pt_chain3 {op op' op'' : CmpOp} {r r' r'' : R2} (ho : OpR X (compareOp op) r) (ho' : OpR X (compareOp op') r') (ho'' : OpR X (compareOp op'') r'') (ha : PE X a ta) (hb : PE X b tb) (hc : PE X c tc) (hd : PE X d td)
    (hm : lastMarks [op, op', op''] [b, c, d] = false := by with_unfolding_all rfl) : PT X (.Compare a [op, op', op''] [b, c, d] pos) (tTest (tChain3 r r' r'' ta tb tc td)) := by
  refine ⟨fun pins s σ H Q I h => ?_⟩
  refine isTrue_chain (thn (ha.run pins s σ H _ I h) fun v s1 ⟨x, H1, I1, r1, q1⟩ => test_link (thn (hb.run pins s1 σ H1 _ I1 q1) fun u s2 ⟨y, H2, I2, r2, q2⟩ =>
    thn (ho pins s2 σ H2 x y v u _ I2 r1 r2 q2) fun d s3 ⟨z, H3, I3, r3, k, e, q3⟩ => ?_)) hm
  subst e
  cases r3
  refine wpAny_truthy_bool ?_
  cases k with
  | false =>
    obtain ⟨k', e', q'⟩ := q3
    cases e'
    exact ite_ff ⟨H3, I3, q'⟩
  | true =>
    refine ite_tt (test_link (thn (hc.run pins s3 σ H3 _ I3 q3) fun w' s4 ⟨z', H4, I4, r4, q4⟩ => thn (ho' pins s4 σ H4 y z' u w' _ I4 r2 r4 q4) fun d' s5 ⟨z5, H5, I5, r5, k5, e5, q5⟩ => ?_))
    subst e5
    cases r5
    refine wpAny_truthy_bool ?_
    cases k5 with
    | false =>
      obtain ⟨k', e', q'⟩ := q5
      cases e'
      exact ite_ff ⟨H5, I5, q'⟩
    | true =>
      refine ite_tt (test_last (thn (hd.run pins s5 σ H5 _ I5 q5) fun w6 s6 ⟨z6, H6, I6, r6, q6⟩ => thn (ho'' pins s6 σ H6 z' z6 w' w6 _ I6 r4 r6 q6) fun d7 s7 ⟨z7, H7, I7, r7, k7, e7, q7⟩ => ?_))
      subst e7
      cases r7
      exact wpAny_truthy_bool ⟨H7, I7, q7⟩
end
/-! f(k = v, ..): keywords alone -/
section
variable {X : Cx} {CX : CXT} {k : Nat} {f C : Addr} {fd : FuncData} {ps ks : List Str} {sp : Sp} {E : XK} {x m : Str} {p pos apos kpos : Pos} {kws : List Keyword} {tk : TA}
variable {g : List Value → List Value → List Value} {gV : List V → List V → List V}
theorem pe_callK0 (F : FnOk X.prog X.w X.K X.mg X.base CX k f fd ps sp) (hr : Room k X.A) (hg : Gl X x) (hm : X.mg x = some (.ref f)) (hk : PySem.W.keepIn X.K (.ref f) = true) (hb : KBinds X.K fd ps ks g gV) (hx : Passes CX X E)
    (hkw : PK X kws tk) (hall : (backToKw pos (keywordEach kws X.env)).all (·.1.isSome) = true := by rfl) (hks : (backToKw pos (keywordEach kws X.env)).filterMap (·.1) = ks := by rfl)
    (hdb : (x == ("__debug__" : Str)) = false := by decide)
    (hpl : ((backTo pos (starEach [] X.env)).any (·.1) || (backToKw pos (keywordEach kws X.env)).any (·.1.isNone)) = false := by rfl) :
    PE X (.Call (.Name x p) [] kws pos) (tCallK sp gV E tNil tk) := by
  refine ⟨fun pins s σ H Q I h => ?_⟩
  refine wpAny_Call_Name_kw (ld_glob I hg hm ?_ hdb)
  refine PySem.W.callWith_KW0 (h₀ := X.base) I.ok.mod.kin hk hall ?_ hpl
  refine thn (hkw.run pos pins s σ H _ I h) fun ws s2 ⟨zs, H2, I2, rz, q2⟩ => ⟨I2.kIn, ?_⟩
  rw [hks]
  exact run_fnk F hr hb hx I2 (us := []) (vs := []) .nil rz q2
end
theorem pe_gc {X : Cx} {x : Str} {pos : Pos} {v : V} (hg : Gl X x) (h : ∃ u, X.mg x = some u ∧ RelV v u) (hd : (x == ("__debug__" : Str)) = false := by decide) : PE X (.Name x pos) (tC v) := by
  obtain ⟨u, hm, r⟩ := h
  exact pe_glob hg hm r hd
/-! built-ins by name, with readings that have names -/
section
variable {X : Cx}
def rAbs : List V → Hp → VK → Prop := fun xs H Q => ∃ i, xs = [.int i] ∧ Q (.int (if i < 0 then -i else i)) H
def rMin2 : List V → Hp → VK → Prop := fun xs H Q => ∃ i j, xs = [.int i, .int j] ∧ Q (.int (if j < i then j else i)) H
def rIntI : List V → Hp → VK → Prop := fun xs H Q => ∃ i, xs = [.int i] ∧ Q (.int i) H
def rIntB : List V → Hp → VK → Prop := fun xs H Q => ∃ b, xs = [.bl b] ∧ Q (.int (if b then 1 else 0)) H
theorem call_absR : CallR X (.builtin "abs") rAbs := call_abs
theorem call_maxR (hc : X.calm = true) : CallR X (.builtin "max") rMax2 := call_max2 hc
theorem call_minR (hc : X.calm = true) : CallR X (.builtin "min") rMin2 := call_min2 hc
theorem call_intI : CallR X (.type "int") rIntI := by
  intro pins s σ H xs us Q I r h
  obtain ⟨i, e, q⟩ := h
  exact call_int1 pins s σ H xs us Q I r (.inl ⟨i, e, q⟩)
theorem call_intB : CallR X (.type "int") rIntB := by
  intro pins s σ H xs us Q I r h
  obtain ⟨i, e, q⟩ := h
  exact call_int1 pins s σ H xs us Q I r (.inr ⟨i, e, q⟩)
theorem call_lenR : CallR X (.builtin "len") (rLenS X.K) := call_len_seq
theorem call_listR : CallR X (.type "list") (rListS X.K) := call_list_of
def rTupS (K : PySem.W.Frag) : List V → Hp → VK → Prop := fun xs H Q => ∃ p ys, xs = [.ref p] ∧ SqL K H p ys ∧ ∀ l, H l = none → Q (.ref l) (upd H l (.tup ys))
theorem call_tupR : CallR X (.type "tuple") (rTupS X.K) := by
  intro pins s σ H xs us Q I r h
  obtain ⟨p, ys, e, hs, q⟩ := h
  exact call_tuple_of pins s σ H xs us Q I r ⟨p, ys, e, .inl ⟨hs, q⟩⟩
def rIsN1 : R2 := fun x y H Q => y = .non ∧ Q (.bl (decide (x = .non))) H
def rNotN1 : R2 := fun x y H Q => y = .non ∧ Q (.bl (!decide (x = .non))) H
theorem op_isNR : OpR X (compareOp .Is) rIsN1 := op_isN
theorem op_notNR : OpR X (compareOp .IsNot) rNotN1 := op_notN
end
/-! evaluations of these -/
section
variable {K : PySem.W.Frag} {σ : L2.St} {H H' : Hp} {ta tb tc td te : TE} {x y z v : V} {r : R2} {i j : Int}
theorem ev_abs (h : Ev ta σ H (.int i)) : Ev (tCB rAbs (tCons ta tNil)) σ H (.int (if i < 0 then -i else i)) := fun H1 e Q q => h H1 e _ fun H2 e2 => ⟨i, rfl, q H2 e2⟩
theorem ev_min2 (ha : Ev ta σ H (.int i)) (hb : Ev tb σ H (.int j)) : Ev (tCB rMin2 (tCons ta (tCons tb tNil))) σ H (.int (if j < i then j else i)) := fun H1 e Q q =>
  ha H1 e _ fun H2 e2 => hb H2 (e.trans e2) _ fun H3 e3 => ⟨i, j, rfl, q H3 (e2.trans e3)⟩
theorem ev_intI (h : Ev ta σ H (.int i)) : Ev (tCB rIntI (tCons ta tNil)) σ H (.int i) := fun H1 e Q q => h H1 e _ fun H2 e2 => ⟨i, rfl, q H2 e2⟩
theorem ev_intB {b : Bool} (h : Ev ta σ H (.bl b)) : Ev (tCB rIntB (tCons ta tNil)) σ H (.int (if b then 1 else 0)) := fun H1 e Q q => h H1 e _ fun H2 e2 => ⟨b, rfl, q H2 e2⟩
theorem rv_isN : RV rIsN1 x .non H (.bl (decide (x = .non))) := fun H1 _ _ q => ⟨rfl, q H1 (Ex.refl H1)⟩
theorem rv_notN : RV rNotN1 x .non H (.bl (!decide (x = .non))) := fun H1 _ _ q => ⟨rfl, q H1 (Ex.refl H1)⟩
theorem ev_chain {r r' : R2} {k : Bool} {k' : Bool} (ha : Ev ta σ H x) (hb : Ev tb σ H y) (hr : RV r x y H (.bl k)) (hc : k = true → ∃ z, Ev tc σ H z ∧ RV r' y z H (.bl k')) : Ev (tChain r r' ta tb tc) σ H (.bl (k && k')) := fun H1 e Q q =>
  ha H1 e _ fun H2 e2 => hb H2 (e.trans e2) _ fun H3 e3 => hr H3 ((e.trans e2).trans e3) _ fun H4 e4 => ⟨k, rfl, by
    cases k with
    | true =>
      obtain ⟨z, h1, h2⟩ := hc rfl
      exact h1 H4 (((e.trans e2).trans e3).trans e4) _ fun H5 e5 => h2 H5 ((((e.trans e2).trans e3).trans e4).trans e5) _ fun H6 e6 => q H6 ((((e2.trans e3).trans e4).trans e5).trans e6)
    | false => exact q H4 ((e2.trans e3).trans e4)⟩
theorem ev_chainI {C C' : Int → Int → Bool} {i j l : Int} (ha : Ev ta σ H (.int i)) (hb : Ev tb σ H (.int j)) (hc : Ev tc σ H (.int l)) :
    Ev (tChain (rI0 fun i j => .bl (C i j)) (rI0 fun i j => .bl (C' i j)) ta tb tc) σ H (.bl (C i j && C' j l)) := ev_chain ha hb rv_I0 fun _ => ⟨_, hc, rv_I0⟩
theorem ev_chain3I {C C' C'' : Int → Int → Bool} {i j l m : Int} (ha : Ev ta σ H (.int i)) (hb : Ev tb σ H (.int j)) (hc : Ev tc σ H (.int l)) (hd : Ev td σ H (.int m)) :
    Ev (tChain3 (rI0 fun i j => .bl (C i j)) (rI0 fun i j => .bl (C' i j)) (rI0 fun i j => .bl (C'' i j)) ta tb tc td) σ H (.bl (C i j && (C' j l && C'' l m))) := fun H1 e Q q =>
  ha H1 e _ fun H2 e2 => hb H2 (e.trans e2) _ fun H3 e3 => ⟨i, j, rfl, rfl, C i j, rfl, by
    have e23 := e2.trans e3
    generalize C i j = k1 at q ⊢
    cases k1 with
    | false => exact q H3 e23
    | true =>
      refine hc H3 (e.trans e23) _ fun H4 e4 => ⟨j, l, rfl, rfl, C' j l, rfl, ?_⟩
      generalize C' j l = k2 at q ⊢
      cases k2 with
      | false => exact q H4 (e23.trans e4)
      | true => exact hd H4 ((e.trans e23).trans e4) _ fun H5 e5 => ⟨l, m, rfl, rfl, q H5 ((e23.trans e4).trans e5)⟩⟩
theorem rv_eqTy {m n : String} (hm : Meta m) (hn : Meta n) : RV rEqTy (.ty m) (.ty n) H (.bl (decide (m = n))) := fun H1 _ _ q => ⟨m, n, rfl, rfl, hm, hn, q H1 (Ex.refl H1)⟩
theorem ev_typeI (h : Ev ta σ H (.int i)) : Ev (tThenZ ta kTyp) σ H (.ty "int") := fun H1 e Q q => h H1 e _ fun H2 e2 => ⟨"int", rfl, q H2 e2⟩
/-- a tuple that was made is read as two names -/
theorem s_tup2 {D : Ends} {i j : Nat} {p : Addr} (ha : Ev ta σ H (.ref p)) (hp : SqT K H p [x, y]) (k : ∀ H1, Ex H H1 → D.nx ((σ.set i (some x)).set j (some y)) H1) : tAsg ta (gTup K 2 (gCons (gName i) (gCons (gName j) gNil))) D σ H :=
  ha H (Ex.refl H) _ fun H1 e => ⟨p, [x, y], rfl, ex_t e hp, rfl, x, [y], rfl, y, [], rfl, rfl, k H1 e⟩
end
/-- a new tuple that is handed back -/
def RetU (xs : List V) (H : Hp) (Q : VK) : Prop := ∀ p H2, H p = none → Ex H H2 → H2 p = some (.tup xs) → Q (.ref p) H2
def SpU (sp : Sp) (vs : List V) (H : Hp) (xs : List V) : Prop := ∀ H1, Ex H H1 → ∀ Q : VK, (∀ p H2, H1 p = none → Ex H1 H2 → H2 p = some (.tup xs) → Q (.ref p) H2) → ∀ E : XK, sp vs H1 Q E
section
variable {K : PySem.W.Frag} {σ : L2.St} {H : Hp}
theorem eu_call {sp : Sp} {dvs vs xs : List V} {E : XK} {ta : TA} (h : EvA ta σ H vs) (hs : SpU sp (vs ++ dvs) H xs) : EvU (tCall sp dvs E ta) σ H xs := fun H1 e Q q =>
  h H1 e _ fun H2 e2 => hs H2 (e.trans e2) Q (fun p H3 hp e3 h3 => q p H3 (fresh_back e2 hp) (e2.trans e3) h3) E
/-- a, b = f(..), f's answer a new tuple -/
theorem s_tup2U {te : TE} {D : Ends} {i j : Nat} {x y : V} (ha : EvU te σ H [x, y]) (k : ∀ H1, Ex H H1 → D.nx ((σ.set i (some x)).set j (some y)) H1) : tAsg te (gTup K 2 (gCons (gName i) (gCons (gName j) gNil))) D σ H :=
  ha H (Ex.refl H) _ fun p H1 _ e h1 => ⟨p, [x, y], rfl, st_of h1, rfl, x, [y], rfl, y, [], rfl, rfl, k H1 e⟩
theorem q_tup2U {te : TE} {tz : TS} {D : Ends} {i j : Nat} {x y : V} (ha : EvU te σ H [x, y]) (k : ∀ H1, Ex H H1 → tz D ((σ.set i (some x)).set j (some y)) H1) : tSeq (tAsg te (gTup K 2 (gCons (gName i) (gCons (gName j) gNil)))) tz D σ H := s_tup2U (D := { D with nx := tz D }) ha k
theorem q_tup2 {ta : TE} {tz : TS} {D : Ends} {i j : Nat} {p : Addr} {x y : V} (ha : Ev ta σ H (.ref p)) (hp : SqT K H p [x, y]) (k : ∀ H1, Ex H H1 → tz D ((σ.set i (some x)).set j (some y)) H1) : tSeq (tAsg ta (gTup K 2 (gCons (gName i) (gCons (gName j) gNil)))) tz D σ H := s_tup2 (D := { D with nx := tz D }) ha hp k
/-- a, b = x, y -/
theorem s_par {ta : TA} {D : Ends} {i j : Nat} {x y : V} (ha : EvA ta σ H [x, y]) (k : ∀ H1, Ex H H1 → D.nx ((σ.set i (some x)).set j (some y)) H1) : tPar i j ta D σ H := ha H (Ex.refl H) _ fun H1 e => ⟨x, y, rfl, k H1 e⟩
theorem q_par {ta : TA} {tz : TS} {D : Ends} {i j : Nat} {x y : V} (ha : EvA ta σ H [x, y]) (k : ∀ H1, Ex H H1 → tz D ((σ.set i (some x)).set j (some y)) H1) : tSeq (tPar i j ta) tz D σ H := s_par (D := { D with nx := tz D }) ha k
end
theorem natAbs_pow_le {b : Int} {k : Nat} (h : b.natAbs < 2 ^ k) (n : Nat) : (b ^ n).natAbs ≤ 2 ^ (k * n) := by
  rw [Int.natAbs_pow, Nat.pow_mul]
  exact Nat.pow_le_pow_left (Nat.le_of_lt h) n
theorem lt_of_le2 {x k : Nat} (h : x ≤ 2 ^ k) : x < 2 ^ (k + 1) := Nat.lt_of_le_of_lt h (Nat.pow_lt_pow_right (by decide) (Nat.lt_succ_self k))
theorem lt2_mono {x k m : Nat} (h : x < 2 ^ k) (e : k ≤ m) : x < 2 ^ m := Nat.lt_of_lt_of_le h (Nat.pow_le_pow_right (by decide) e)
theorem natAbs_mul_lt {a b : Int} {k m : Nat} (ha : a.natAbs < 2 ^ k) (hb : b.natAbs < 2 ^ m) : (a * b).natAbs < 2 ^ (k + m) := wide_lt ha hb
/-! comprehensions -/
section
variable {K : PySem.W.Frag} {σ : L2.St} {H : Hp} {te tl : TE} {t : TT}
theorem et_yes : EvT tYes σ H true := fun H1 _ _ q => q H1 (Ex.refl H1)
theorem given_map {xs : List V} {F : V → V} : given xs.length (fun _ => true) (fun i => F (xs.getD i .non)) = xs.map F := by
  unfold given
  rw [List.filter_eq_self.mpr (fun _ _ => rfl)]
  refine List.ext_getElem (by simp) fun i h1 h2 => ?_
  simp at h1
  simp [h1]
/-- [e for x in xs] -/
theorem el_map {a : Addr} {xs : List V} {j : Nat} {vs : List Nat} (F : V → V) (h : Ev tl σ H (.ref a)) (hx : SqL K H a xs) (hz : xs.length ≤ 40000) (hw : ∀ x, wipe ((wipe σ vs).set j (some x)) vs = wipe σ vs)
    (he : ∀ (i : Nat) (x : V) H1, Ex H H1 → xs[i]? = some x → Ev te ((wipe σ vs).set j (some x)) H1 (F x)) : EvL (tLc (iList K tl) (gName j) tYes te vs) σ H (xs.map F) := by
  rw [← given_map]
  refine el_lcL _ _ h hx hz hw (fun _ _ _ _ _ => et_yes) fun i x H1 e hi _ => ?_
  have q := he i x H1 e hi
  have g : xs.getD i .non = x := by rw [List.getD_eq_getElem?_getD, hi] <;> rfl
  show Ev _ _ _ (F (xs.getD i .non))
  rw [g]
  exact q
theorem el_mapN {xs : List V} {j : Nat} {vs : List Nat} (F : V → V) (h : EvL tl σ H xs) (hz : xs.length ≤ 40000) (hw : ∀ x, wipe ((wipe σ vs).set j (some x)) vs = wipe σ vs)
    (he : ∀ (i : Nat) (x : V) H1, Ex H H1 → xs[i]? = some x → Ev te ((wipe σ vs).set j (some x)) H1 (F x)) : EvL (tLc (iList K tl) (gName j) tYes te vs) σ H (xs.map F) := by
  rw [← given_map]
  refine el_lcNL _ _ h hz hw (fun _ _ _ _ _ => et_yes) fun i x H1 e hi _ => ?_
  have q := he i x H1 e hi
  have g : xs.getD i .non = x := by rw [List.getD_eq_getElem?_getD, hi] <;> rfl
  show Ev _ _ _ (F (xs.getD i .non))
  rw [g]
  exact q
/-- [e for x in range(lo, hi) if t] -/
theorem el_lcR2 {ta : TA} {j : Nat} {vs : List Nat} {lo n : Int} (f : Nat → Bool) (v : Nat → V) (h : EvA ta σ H [.int lo, .int n]) (hn : 0 ≤ lo ∧ lo ≤ 40000 ∧ -40000 ≤ n ∧ n ≤ 40000) (hw : ∀ x, wipe ((wipe σ vs).set j (some x)) vs = wipe σ vs)
    (ht : ∀ (i : Nat) H1, Ex H H1 → lo + (i : Int) < n → EvT t ((wipe σ vs).set j (some (.int (lo + (i : Int))))) H1 (f i)) (he : ∀ (i : Nat) H1, Ex H H1 → lo + (i : Int) < n → f i = true → Ev te ((wipe σ vs).set j (some (.int (lo + (i : Int))))) H1 (v i)) :
    EvL (tLc (iRng2 ta) (gName j) t te vs) σ H (given (n - lo).toNat f v) := fun H0 e Q q => h H0 e _ fun H1 e1 => ⟨lo, n, rfl, ⟨by omega, by omega, by omega, by omega⟩, fun Dl hD =>
  lc_range (lo := lo) (n := (n - lo).toNat) (Cw H1 f v Dl) ⟨hD, Ex.new hD, upd_same⟩ (fun i H' hi p =>
    ⟨hw _, cw_turn p (by omega) (ht i H1 (e.trans e1) (by omega)) (fun hf => he i H1 (e.trans e1) (by omega) hf)⟩) (fun H' p => q Dl H' (fresh_back e1 p.1) (e1.trans p.2.1) p.2.2)⟩
theorem given_none {n : Nat} {f : Nat → Bool} {v : Nat → V} (h : ∀ i, i < n → f i = false) : given n f v = [] := by
  unfold given
  rw [List.filter_eq_nil_iff.mpr (fun i hi => by simp [h i (List.mem_range.mp hi)])]
  rfl
/-- xs + ys, both new -/
theorem el_cat {ta tb : TE} {xs ys : List V} (ha : EvL ta σ H xs) (hb : EvL tb σ H ys) (hl : xs.length + ys.length ≤ 100000) : EvL (tOp rCat ta tb) σ H (xs ++ ys) := fun H1 e Q q =>
  ha H1 e _ fun p H2 hp e2 h2 => hb H2 (e.trans e2) _ fun p' H3 hp' e3 h3 =>
    ⟨p, p', xs, ys, rfl, rfl, e3 p _ h2, h3, sz_of hl, fun l hl' => q l _ (fresh_back (e2.trans e3) hl') ((e2.trans e3).trans (Ex.new hl')) upd_same⟩
/-- [e for x, y in zip(xs, ys)] -/
theorem el_zip {ta : TA} {i j : Nat} {vs : List Nat} {a b : Addr} {xs ys : List V} (F : V → V → V) (h : EvA ta σ H [.ref a, .ref b]) (hx : SqL K H a xs) (hy : SqL K H b ys) (hl : xs.length = ys.length) (hz : xs.length ≤ 40000)
    (hw : ∀ x y, wipe (((wipe σ vs).set i (some x)).set j (some y)) vs = wipe σ vs)
    (he : ∀ (n : Nat) x y H1, Ex H H1 → xs[n]? = some x → ys[n]? = some y → Ev te (((wipe σ vs).set i (some x)).set j (some y)) H1 (F x y)) :
    EvL (tLc (iZip K ta) (gTup K 2 (gCons (gName i) (gCons (gName j) gNil))) tYes te vs) σ H (List.zipWith F xs ys) := fun H0 e Q q => h H0 e _ fun H1 e1 => ⟨a, b, xs, ys, rfl, ex_l (e.trans e1) hx, ex_l (e.trans e1) hy, fun Dl hD => by
  refine lc_it (walk_zip (n := xs.length) (by omega)) (fun n H' => Ex H1 H' ∧ H' Dl = some (.lst ((List.zipWith F xs ys).take n))) ⟨Ex.new hD, upd_same⟩ (fun n H' _ p => ⟨ex_l ((e.trans e1).trans p.1) hx, ex_l ((e.trans e1).trans p.1) hy⟩) ?_ fun H' p => ?_
  · rintro n v Hh H' hn ⟨p1, p2⟩ ⟨T, x, y, rfl, nT, rfl, g1, g2⟩
    have eT : Ex Hh (upd Hh T (.tup [x, y])) := Ex.new nT
    refine ⟨T, [x, y], rfl, st_of upd_same, rfl, x, [y], rfl, y, [], rfl, rfl, hw x y, ?_⟩
    show te _ _ _
    refine he n x y H1 (e.trans e1) g1 g2 _ (p1.trans eT) _ fun H4 e4 => ?_
    have k2 := e4 Dl _ (eT Dl _ p2)
    refine ⟨_, k2, sz_lt (by rw [List.length_take]; omega), Ex.mut (p1.trans (eT.trans e4)) hD, ?_⟩
    rw [upd_same]
    have gz : (List.zipWith F xs ys)[n]? = some (F x y) := by
      rw [List.getElem?_zipWith, show xs[n]? = some x from g1, show ys[n]? = some y from g2]
    rw [List.take_add_one, gz]
    rfl
  · obtain ⟨p1, p2⟩ := p
    rw [List.take_of_length_le (by rw [List.length_zipWith]; omega)] at p2
    exact q Dl H' (fresh_back e1 hD) (e1.trans p1) p2⟩
theorem ev_gcd {ta tb : TE} {a b : Int} (ha : Ev ta σ H (.int a)) (hb : Ev tb σ H (.int b)) : Ev (tCB rGcd (tCons ta (tCons tb tNil))) σ H (.int ((Nat.gcd a.natAbs b.natAbs : Nat) : Int)) := fun H1 e Q q =>
  ha H1 e _ fun H2 e2 => hb H2 (e.trans e2) _ fun H3 e3 => ⟨a, b, rfl, q H3 (e2.trans e3)⟩
end
/-! data, compared by == -/
section
variable {K : PySem.W.Frag} {σ : L2.St} {H H' : Hp}
mutual
theorem Dp.ex (e : Ex H H') : ∀ (d : PyData) (v : V), Dp K H v d → Dp K H' v d
  | .none, _, h => by cases h; exact .non
  | .bool _, _, h => by cases h; exact .bl _
  | .int _, _, h => by cases h; exact .int _
  | .str _, _, h => by cases h; exact .str _
  | .list ds, _, h => by
    cases h with
    | lst hs ha => exact .lst (ex_l e hs) (DpAll.ex e ds _ ha)
  | .tuple ds, _, h => by
    cases h with
    | tup hs ha => exact .tup (ex_t e hs) (DpAll.ex e ds _ ha)
  | .dict _, _, h => by cases h
theorem DpAll.ex (e : Ex H H') : ∀ (ds : List PyData) (vs : List V), DpAll K H vs ds → DpAll K H' vs ds
  | [], _, h => by cases h; exact .nil
  | d :: ds, _, h => by
    cases h with
    | cons h1 h2 => exact .cons (Dp.ex e d _ h1) (DpAll.ex e ds _ h2)
end
theorem DpAll.len : ∀ {ds : List PyData} {vs : List V}, DpAll K H vs ds → vs.length = ds.length
  | [], _, h => by cases h; rfl
  | d :: ds, _, h => by
    cases h with
    | cons h1 h2 => simp [DpAll.len h2]
def EvD (K : PySem.W.Frag) (te : TE) (σ : L2.St) (H : Hp) (d : PyData) : Prop := ∀ H1, Ex H H1 → ∀ Q : VK, (∀ v H2, Ex H1 H2 → Dp K H2 v d → Q v H2) → te σ H1 Q
def EvDA (K : PySem.W.Frag) (ta : TA) (σ : L2.St) (H : Hp) (ds : List PyData) : Prop := ∀ H1, Ex H H1 → ∀ Q : List V → Hp → Prop, (∀ vs H2, Ex H1 H2 → DpAll K H2 vs ds → Q vs H2) → ta σ H1 Q
variable {te ta tb : TE} {d e : PyData} {ds : List PyData}
theorem ed_of {v : V} (h : Ev te σ H v) (k : Dp K H v d) : EvD K te σ H d := fun H1 e1 Q q => h H1 e1 Q fun H2 e2 => q v H2 e2 (Dp.ex (e1.trans e2) d v k)
theorem ed_int {i : Int} (h : Ev te σ H (.int i)) : EvD K te σ H (.int i) := ed_of h (.int i)
theorem ed_bl {i : Bool} (h : Ev te σ H (.bl i)) : EvD K te σ H (.bool i) := ed_of h (.bl i)
theorem ed_non (h : Ev te σ H .non) : EvD K te σ H .none := ed_of h .non
theorem ed_str {i : Str} (h : Ev te σ H (.str i)) : EvD K te σ H (.str i) := ed_of h (.str i)
theorem eda_nil : EvDA K tNil σ H [] := fun H1 _ _ q => q [] H1 (Ex.refl H1) .nil
theorem eda_cons {tr : TA} (h : EvD K te σ H d) (hr : EvDA K tr σ H ds) : EvDA K (tCons te tr) σ H (d :: ds) := fun H1 e _ q =>
  h H1 e _ fun v H2 e2 dv => hr H2 (e.trans e2) _ fun vs H3 e3 dvs => q (v :: vs) H3 (e2.trans e3) (.cons (Dp.ex e3 d v dv) dvs)
theorem ed_lst {t : TA} (h : EvDA K t σ H ds) (hl : ds.length ≤ 100000) : EvD K (tLst t) σ H (.list ds) := fun H1 e _ q =>
  h H1 e _ fun vs H2 e2 dv => ⟨sz_of (by rw [DpAll.len dv]; exact hl), fun p hp => q _ _ (e2.trans (Ex.new hp)) (.lst (sq_of upd_same) (DpAll.ex (Ex.new hp) ds vs dv))⟩
theorem ed_tup {t : TA} (h : EvDA K t σ H ds) (hl : ds.length ≤ 100000) : EvD K (tTup t) σ H (.tuple ds) := fun H1 e _ q =>
  h H1 e _ fun vs H2 e2 dv => ⟨sz_of (by rw [DpAll.len dv]; exact hl), fun p hp => q _ _ (e2.trans (Ex.new hp)) (.tup (st_of upd_same) (DpAll.ex (Ex.new hp) ds vs dv))⟩
theorem ed_ofL {xs : List V} (h : EvL te σ H xs) (k : DpAll K H xs ds) : EvD K te σ H (.list ds) := fun H1 e1 Q q => h H1 e1 Q fun p H2 _ e2 h2 => q _ H2 e2 (.lst (sq_of h2) (DpAll.ex (e1.trans e2) ds xs k))
theorem ed_ofU {xs : List V} (h : EvU te σ H xs) (k : DpAll K H xs ds) : EvD K te σ H (.tuple ds) := fun H1 e1 Q q => h H1 e1 Q fun p H2 _ e2 h2 => q _ H2 e2 (.tup (st_of h2) (DpAll.ex (e1.trans e2) ds xs k))
theorem dpa_ints : ∀ ns : List Int, DpAll K H (ns.map V.int) (ns.map PyData.int)
  | [] => .nil
  | n :: r => .cons (.int n) (dpa_ints r)
theorem ev_eqD (ha : EvD K ta σ H d) (hb : EvD K tb σ H e) (sd : SeqAt.shaped d = true) (se : SeqAt.shaped e = true) : Ev (tOp (rEqD K) ta tb) σ H (.bl (PyData.eqv d e)) := fun H1 e1 Q q =>
  ha H1 e1 _ fun v H2 e2 dv => hb H2 (e1.trans e2) _ fun u H3 e3 du => ⟨d, e, Dp.ex e3 d v dv, du, sd, se, q H3 (e2.trans e3)⟩
theorem ev_neD (ha : EvD K ta σ H d) (hb : EvD K tb σ H e) (sd : SeqAt.shaped d = true) (se : SeqAt.shaped e = true) : Ev (tOp (rNeD K) ta tb) σ H (.bl (!PyData.eqv d e)) := fun H1 e1 Q q =>
  ha H1 e1 _ fun v H2 e2 dv => hb H2 (e1.trans e2) _ fun u H3 e3 du => ⟨d, e, Dp.ex e3 d v dv, du, sd, se, q H3 (e2.trans e3)⟩
theorem shaped_ints : ∀ ns : List Int, SeqAt.shaped (.list (ns.map PyData.int)) = true := fun ns => by
  have h1 : ∀ ms : List Int, PyData.canLayAll0 (ms.map PyData.int) = true := fun ms => by
    induction ms with
    | nil => rfl
    | cons m r ih => simp [PyData.canLayAll0, PyData.canLay0, ih]
  have h2 : ∀ ms : List Int, PyData.depthAll (ms.map PyData.int) = 0 := fun ms => by
    induction ms with
    | nil => rfl
    | cons m r ih => simp [PyData.depthAll, PyData.depth, ih]
  simp [SeqAt.shaped, PyData.canLay0, h1, PyData.depth, h2]
theorem eqv_same {d : PyData} (h : SeqAt.shaped d = true) : PyData.eqv d d = true := by
  have h1 : PyData.canLay0 d = true := (Bool.and_eq_true_iff.mp h).1
  first
    | exact PySem.P3.eqv_refl d h1
    | exact PyData.eqv_refl d h1
    | exact PySem.SeqAt.eqv_refl d h1
/-- f(k = v): a new tuple back -/
theorem eu_callK {sp : Sp} {gV : List V → List V → List V} {E : XK} {t tk : TA} {vs zs xs : List V} (h : EvA t σ H vs) (hk : EvA tk σ H zs) (hs : SpU sp (gV vs zs) H xs) : EvU (tCallK sp gV E t tk) σ H xs := fun H1 e Q q =>
  h H1 e _ fun H2 e2 => hk H2 (e.trans e2) _ fun H3 e3 => hs H3 ((e.trans e2).trans e3) Q (fun p H4 hp e4 h4 => q p H4 (fresh_back (e2.trans e3) hp) ((e2.trans e3).trans e4) h4) E
theorem ev_callK {sp : Sp} {gV : List V → List V → List V} {E : XK} {t tk : TA} {vs zs : List V} {z : V} (h : EvA t σ H vs) (hk : EvA tk σ H zs) (hs : SpV sp (gV vs zs) H z) : Ev (tCallK sp gV E t tk) σ H z := fun H1 e Q q =>
  h H1 e _ fun H2 e2 => hk H2 (e.trans e2) _ fun H3 e3 => hs H3 ((e.trans e2).trans e3) Q (fun H4 e4 => q H4 ((e2.trans e3).trans e4)) E
/-- isinstance(x, tuple) of a tuple; len of a tuple -/
theorem ev_isT {p : Addr} {xs : List V} {n : String} {b : Bool} (h : Ev ta σ H (.ref p)) (hp : H p = some (.tup xs)) (hk : PySem.W.kitOne K (.type "tuple") (.type n) = some b) : Ev (tCB (rIsi K) (tCons ta (tCons (tC (.ty n)) tNil))) σ H (.bl b) := fun H1 e Q q =>
  h H1 e _ fun H2 e2 => ⟨.ref p, .ty n, .type "tuple", .type n, b, rfl, .ty n, .base (.tup (e2 p _ (e p _ hp))), hk, q H2 e2⟩
theorem ev_lenT {p : Addr} {xs : List V} (ha : Ev ta σ H (.ref p)) (h : SqT K H p xs) : Ev (tCB (rLenS K) (tCons ta tNil)) σ H (.int (xs.length : Int)) := fun H1 e Q q =>
  ha H1 e _ fun H2 e2 => ⟨p, xs, rfl, Or.inr (ex_t (e.trans e2) h), q H2 e2⟩
/-- list(range(a, b)) -/
theorem el_rg2 {a b : Int} (ha : Ev ta σ H (.int a)) (hb : Ev tb σ H (.int b)) (h : RgOk a b) : EvL (tLstRg (tRg2 ta tb)) σ H (rgV a b) := fun H1 e Q q =>
  ha H1 e _ fun H2 e2 => hb H2 (e.trans e2) _ fun H3 e3 => ⟨a, b, rfl, rfl, h, fun p hp => q p _ (fresh_back (e2.trans e3) hp) ((e2.trans e3).trans (Ex.new hp)) upd_same⟩
theorem el_rg1 {b : Int} (hb : Ev tb σ H (.int b)) (h : RgOk 0 b) : EvL (tLstRg (tRg1 tb)) σ H (rgV 0 b) := fun H1 e Q q =>
  hb H1 e _ fun H3 e3 => ⟨b, rfl, h, fun p hp => q p _ (fresh_back e3 hp) (e3.trans (Ex.new hp)) upd_same⟩
end
/-! more statements -/
section
variable {K : PySem.W.Frag} {σ : L2.St} {H H' : Hp} {te tl : TE} {t : TT} {D : Ends} {tu tz : TS} {g : TG}
/-- a comprehension over range(lo, n) that keeps nothing -/
theorem el_noneR2 {ta : TA} {j : Nat} {vs : List Nat} {lo n : Int} (h : EvA ta σ H [.int lo, .int n]) (hn : 0 ≤ lo ∧ lo ≤ 40000 ∧ -40000 ≤ n ∧ n ≤ 40000) (hw : ∀ x, wipe ((wipe σ vs).set j (some x)) vs = wipe σ vs)
    (ht : ∀ (i : Nat) H1, Ex H H1 → lo + (i : Int) < n → EvT t ((wipe σ vs).set j (some (.int (lo + (i : Int))))) H1 false) : EvL (tLc (iRng2 ta) (gName j) t te vs) σ H [] := by
  have q := el_lcR2 (te := te) (fun _ => false) (fun _ => .non) h hn hw ht (fun _ _ _ _ hf => Bool.noConfusion hf)
  rw [given_none (fun _ _ => rfl)] at q
  exact q
/-- a for over a new tuple -/
theorem s_forNU {xs : List V} (h : EvU tl σ H xs) (Pv : Addr → Nat → L2.St → Hp → Prop) (h0 : ∀ p H1, H p = none → Ex H H1 → H1 p = some (.tup xs) → Pv p 0 σ H1) (hl : ∀ p i σ' H', i ≤ xs.length → Pv p i σ' H' → SqT K H' p xs)
    (hs : ∀ p i x σ' H', xs[i]? = some x → Pv p i σ' H' → g x σ' H' fun σ2 H2 => tu { D with nx := Pv p (i + 1), ct := Pv p (i + 1), bk := D.nx } σ2 H2) (hd : ∀ p σ' H', Pv p xs.length σ' H' → D.nx σ' H') : tFor (iTup K tl) g tu D σ H :=
  h H (Ex.refl H) _ fun p H1 hp e h1 => ⟨p, rfl, ⟨xs, st_of h1⟩, for_tup (Pv p) (h0 p H1 hp e h1) (hl p) (hs p) (hd p)⟩
theorem q_forNU {xs : List V} (h : EvU tl σ H xs) (Pv : Addr → Nat → L2.St → Hp → Prop) (h0 : ∀ p H1, H p = none → Ex H H1 → H1 p = some (.tup xs) → Pv p 0 σ H1) (hl : ∀ p i σ' H', i ≤ xs.length → Pv p i σ' H' → SqT K H' p xs)
    (hs : ∀ p i x σ' H', xs[i]? = some x → Pv p i σ' H' → g x σ' H' fun σ2 H2 => tu { D with nx := Pv p (i + 1), ct := Pv p (i + 1), bk := tz D } σ2 H2) (hd : ∀ p σ' H', Pv p xs.length σ' H' → tz D σ' H') : tSeq (tFor (iTup K tl) g tu) tz D σ H :=
  s_forNU (D := { D with nx := tz D }) h Pv h0 hl hs hd
theorem s_asgD {i : Nat} {d : PyData} (h : EvD K te σ H d) (k : ∀ v H1, Ex H H1 → Dp K H1 v d → D.nx (σ.set i (some v)) H1) : tAsg te (gName i) D σ H := h H (Ex.refl H) _ fun v H1 e dv => k v H1 e dv
theorem q_asgD {i : Nat} {d : PyData} (h : EvD K te σ H d) (k : ∀ v H1, Ex H H1 → Dp K H1 v d → tz D (σ.set i (some v)) H1) : tSeq (tAsg te (gName i)) tz D σ H := s_asgD (D := { D with nx := tz D }) h k
end
end Kit

set_option Elab.async false
set_option linter.all false
set_option maxRecDepth 100000
set_option maxHeartbeats 4000000
namespace Kit
open PySem PySem.Spec PyProof.Rows L2 Evl
theorem slot_type_ne : Slot "type" (cmpInfo .NotEq).2.1 "object.__ne__" :=
  .of (owner := "object") (n := "__ne__") (by rw [typeLookup_type, builtinLookup_eq_fast]; kernel_rfl) (by decide +kernel) (by decide +kernel) (by decide +kernel)
    (by first | exact .inl (by decide +kernel) | exact .inr (by decide +kernel)) (by rw [isSubtype_type]; kernel_rfl)
theorem slot_type_eqN : Slot "type" "__eq__" "object.__eq__" :=
  .of (owner := "object") (n := "__eq__") (by rw [typeLookup_type, builtinLookup_eq_fast]; kernel_rfl) (by decide +kernel) (by decide +kernel) (by decide +kernel)
    (by first | exact .inl (by decide +kernel) | exact .inr (by decide +kernel)) (by rw [isSubtype_type]; kernel_rfl)
section
variable {prog : Program} {w : World} {A : Around} {E : Value → Shared → Prop} {s : Shared} {Q : Value → Shared → Prop}
theorem ne_type_same {X : String} (hX : ∀ s' : Shared, s'.TypeIs (.type X) "type") (hu : A.units + 1 < cLine) (h : Q (.bool false) s) : wpAny (model prog w) A (compareOp .NotEq (.type X) (.type X)) Q E s := by
  show wpAny _ A (richCompare .NotEq _ _) Q E s
  refine wpAny_richCompare_same (T := "type") (hX s) (hX s) slot_type_ne ?_
  refine wpAny_call_entry slot_type_ne (hX s) PySem.F.cmpEntry_ne ?_ (PySem.F.cmpArgs_ne _ _)
  unfold Builtin.«object.__ne__»
  have key : wpAny (model prog w) A.in1 (call (.builtin "object.__eq__") [.type X, .type X]) (fun v s' => v = .bool true ∧ s' = s) E s :=
    call_gives slot_type_eqN (hX s) F.entry_object_eq (F.args_object_eq_2 _ _) (PySem.TypeEq.object_eq_same rfl (by simp)) ⟨rfl, rfl⟩
  repeat (first
    | with_reducible refine wpAny_cRoomFor (by show A.units + 1 < cLine; exact hu) ?_
    | (refine wpAny_bind (m := callSpecialIfBound? (.type X) (Str.ofString "__eq__") [.type X])
        (wpAny_callSpecialIfBound?_slot (hX _) slot_type_eqN (wpAny_mono key (fun r s' hr => by
          obtain ⟨rfl, rfl⟩ := hr
          have hq : Q (.bool false) s' := h
          repeat (first | exact ⟨_, rfl, (by intro e; cases e), hq⟩ | exact wpAny_pure ⟨_, rfl, (by intro e; cases e), hq⟩ | (refine wpAny_bind (m := truthy (.bool _)) (wpAny_truthy_bool ?_)) | wp_step)) fun _ _ e => e)))
    | wp_step)
end
end Kit

set_option Elab.async false
set_option linter.all false
set_option maxRecDepth 100000
set_option maxHeartbeats 4000000
namespace Kit
open PySem PySem.Spec PyProof.Rows L2 Evl
section
variable {X : Cx}
def rNeTyS : R2 := fun x y H Q => ∃ m, x = .ty m ∧ y = .ty m ∧ Meta m ∧ Q (.bl false) H
theorem op_neTyS (hu : X.A.units + 1 < cLine) : OpR X (compareOp .NotEq) rNeTyS := by
  intro pins s σ H x y v u Q I rx ry h
  obtain ⟨m, rfl, rfl, hm, q⟩ := h
  cases (show v = Value.type m from rx)
  cases (show u = Value.type m from ry)
  exact ne_type_same hm hu ⟨.bl false, H, I, rfl, q⟩
/-- min of a tuple of ints -/
def rMinT (K : PySem.W.Frag) : List V → Hp → VK → Prop := fun vs H Q => ∃ (a : Addr) (n : Int) (ns : List Int), vs = [V.ref a] ∧ SqT K H a ((n :: ns).map V.int) ∧ Q (.int (ns.foldl min n)) H
theorem alike_ints (ns : List Int) : PySem.W.AlikeAll (ns.map PyData.int) := by
  refine ⟨fun x hx y hy => ?_, fun x hx => ?_⟩
  · obtain ⟨a, _, rfl⟩ := List.mem_map.mp hx
    obtain ⟨b, _, rfl⟩ := List.mem_map.mp hy
    rfl
  · obtain ⟨a, _, rfl⟩ := List.mem_map.mp hx
    exact fun z => by cases z
theorem depth_ints : ∀ ms : List Int, PyData.depthAll (ms.map PyData.int) = 0
  | [] => rfl
  | m :: r => by simp [PyData.depthAll, PyData.depth, depth_ints r]
theorem cr_minT (hc : X.calm = true) (hu : X.A.units + 1 < cLine) : CallR X (.builtin "min") (rMinT X.K) := by
  intro pins s σ H vs us Q I r h
  obtain ⟨a, n, ns, rfl, hs, q⟩ := h
  obtain ⟨its, rv, hl, _⟩ := I.tuple hs
  rw [Vals.ref1 r]
  obtain ⟨as, rd⟩ := Dp.readsAll I (PyData.int n :: ns.map PyData.int) _ its (dpa_ints (n :: ns)) rv
  refine PySem.W.min_tuple_data (I.ok.hd hc) (show s.heap.IsTuple a its.toArray from hl) (by simpa using rd) (alike_ints (n :: ns)) ?_ fun i v h' tk bs hv hr hk => ?_
  · have := depth_ints (n :: ns)
    rw [List.map_cons] at this
    rw [this]
    exact hu
  · rw [PySem.W.minD_ints] at hr
    cases hr with
    | int _ t => exact ⟨.int (ns.foldl min n), H, I.kept (t' := tk) hk, ⟨_, rfl⟩, q⟩
theorem foldl_min_spec : ∀ (ns : List Int) (n : Int), ns.foldl min n ∈ n :: ns ∧ ∀ y ∈ n :: ns, ns.foldl min n ≤ y
  | [], n => ⟨by simp, by simp⟩
  | k :: r, n => by
    obtain ⟨h1, h2⟩ := foldl_min_spec r (min n k)
    refine ⟨?_, fun y hy => ?_⟩
    · rcases List.mem_cons.mp h1 with e | e
      · rw [List.foldl_cons, e]
        rcases Int.le_total n k with h | h
        · rw [Int.min_eq_left h]; simp
        · rw [Int.min_eq_right h]; simp
      · simp [List.foldl_cons, e]
    · have h3 := h2 (min n k) (by simp)
      rw [List.foldl_cons]
      rcases List.mem_cons.mp hy with e | hy
      · omega
      · rcases List.mem_cons.mp hy with e | hy
        · omega
        · exact h2 y (by simp [hy])
end
/-! readings of these -/
section
variable {K : PySem.W.Frag} {σ : L2.St} {H H' : Hp} {ta tb te tl : TE} {D : Ends} {tu tz : TS} {t : TT}
theorem ev_typeL {p : Addr} {xs : List V} (h : Ev ta σ H (.ref p)) (hp : H p = some (.lst xs)) : Ev (tThenZ ta kTyp) σ H (.ty "list") := fun H1 e Q q => h H1 e _ fun H2 e2 => ⟨"list", by
  have := e2 p _ (e p _ hp)
  simp [zTyV, this], q H2 e2⟩
theorem ev_typeT {p : Addr} {xs : List V} (h : Ev ta σ H (.ref p)) (hp : H p = some (.tup xs)) : Ev (tThenZ ta kTyp) σ H (.ty "tuple") := fun H1 e Q q => h H1 e _ fun H2 e2 => ⟨"tuple", by
  have := e2 p _ (e p _ hp)
  simp [zTyV, this], q H2 e2⟩
theorem rv_neTyS {m : String} (hm : Meta m) : RV rNeTyS (.ty m) (.ty m) H (.bl false) := fun H1 _ _ q => ⟨m, rfl, rfl, hm, q H1 (Ex.refl H1)⟩
theorem ev_sumN {ns : List Int} (h : EvL ta σ H (ns.map V.int)) : Ev (tCB (rSum K) (tCons ta tNil)) σ H (.int ns.sum) := fun H1 e Q q => h H1 e _ fun p H2 _ e2 h2 => ⟨p, ns, rfl, sq_of h2, q H2 e2⟩
theorem ev_allN {bs : List Bool} (h : EvL ta σ H (bs.map V.bl)) : Ev (tCB (rAll K) (tCons ta tNil)) σ H (.bl (bs.all id)) := fun H1 e Q q => h H1 e _ fun p H2 _ e2 h2 => ⟨p, bs, rfl, sq_of h2, q H2 e2⟩
theorem ev_minT {p : Addr} {n : Int} {ns : List Int} (h : Ev ta σ H (.ref p)) (hp : SqT K H p ((n :: ns).map V.int)) : Ev (tCB (rMinT K) (tCons ta tNil)) σ H (.int (ns.foldl min n)) := fun H1 e Q q => h H1 e _ fun H2 e2 => ⟨p, n, ns, rfl, ex_t (e.trans e2) hp, q H2 e2⟩
/-- sorted(xs), told by what it is -/
theorem ed_sorted {p : Addr} {ns ms : List Int} (h : Ev ta σ H (.ref p)) (hp : SqL K H p (ns.map V.int)) (hl : ns.length < 64) (hm : ms.Perm ns) (hs : ms.Pairwise (· ≤ ·)) : EvD K (tCB (rSorted K) (tCons ta tNil)) σ H (.list (ms.map PyData.int)) := fun H1 e Q q => h H1 e _ fun H2 e2 =>
  ⟨p, ns, rfl, ex_l (e.trans e2) hp, hl, fun ns' l pm so new => by
    have eq : ns' = ms := by
      exact List.Perm.eq_of_pairwise (le := fun a b : Int => a ≤ b) (fun a b _ _ h1 h2 => Int.le_antisymm h1 h2) so hs (pm.trans hm.symm)
    subst eq
    exact q _ _ (e2.trans (Ex.new new)) (.lst (sq_of upd_same) (dpa_ints _))⟩
/-- a new tuple of a list's items -/
theorem eu_tupOf {p : Addr} {xs : List V} (h : Ev ta σ H (.ref p)) (hp : SqL K H p xs) : EvU (tCB (rTupS K) (tCons ta tNil)) σ H xs := fun H1 e Q q => h H1 e _ fun H2 e2 =>
  ⟨p, xs, rfl, ex_l (e.trans e2) hp, fun l hl => q l _ (fresh_back e2 hl) (e2.trans (Ex.new hl)) upd_same⟩
/-- [0] * n -/
theorem el_rep {xs : List V} {k : Int} (ha : EvL ta σ H xs) (hb : Ev tb σ H (.int k)) (h0 : 0 ≤ k) (h1 : k ≤ 1000) (hx : xs.length ≤ 50) : EvL (tOp rRep ta tb) σ H (List.replicate k.toNat xs).flatten := fun H1 e Q q =>
  ha H1 e _ fun p H2 hp e2 h2 => hb H2 (e.trans e2) _ fun H3 e3 => ⟨p, k, xs, rfl, rfl, e3 p _ h2, by omega, by omega, sz_of (by
    have : xs.length * k.toNat ≤ 50 * 1000 := Nat.mul_le_mul hx (by omega)
    omega), fun l hl => q l _ (fresh_back (e2.trans e3) hl) ((e2.trans e3).trans (Ex.new hl)) upd_same⟩
/-- xs[::-1] -/
theorem el_rev {p : Addr} {xs : List V} (h : Ev ta σ H (.ref p)) (hp : SqL K H p xs) : EvL (tRevL K ta) σ H xs.reverse := fun H1 e Q q => h H1 e _ fun H2 e2 =>
  ⟨p, xs, rfl, ex_l (e.trans e2) hp, fun l hl => q l _ (fresh_back e2 hl) (e2.trans (Ex.new hl)) upd_same⟩
theorem el_revN {xs : List V} (h : EvL ta σ H xs) : EvL (tRevL K ta) σ H xs.reverse := fun H1 e Q q => h H1 e _ fun p H2 _ e2 h2 =>
  ⟨p, xs, rfl, sq_of h2, fun l hl => q l _ (fresh_back e2 hl) (e2.trans (Ex.new hl)) upd_same⟩
/-- for i, x in enumerate(xs): the pair is a new tuple -/
theorem s_forEn {ta : TA} {i j : Nat} {a : Addr} {xs : List V} (h : EvA ta σ H [.ref a]) (hx : SqL K H a xs) (Pv : Nat → L2.St → Hp → Prop) (h0 : ∀ H1, Ex H H1 → Pv 0 σ H1) (hl : ∀ n σ' H', n ≤ xs.length → Pv n σ' H' → SqL K H' a xs)
    (hs : ∀ n x σ' H' H2, xs[n]? = some x → Pv n σ' H' → Ex H' H2 → tu { D with nx := Pv (n + 1), ct := Pv (n + 1), bk := D.nx } ((σ'.set i (some (.int (n : Int)))).set j (some x)) H2) (hd : ∀ σ' H', Pv xs.length σ' H' → D.nx σ' H') :
    tFor (iEnum K ta) (gTup K 2 (gCons (gName i) (gCons (gName j) gNil))) tu D σ H := h H (Ex.refl H) _ fun H1 e => ⟨a, xs, rfl, ex_l e hx, by
  refine for_it walk_enum Pv (h0 H1 e) (fun n σ' H' hn p => hl n σ' H' hn p) ?_ hd
  rintro n v σ' Hh H2 hn p ⟨T, x, y, rfl, nT, rfl, g1, g2⟩
  have ex : V.int (n : Nat) = x := Option.some.inj g1
  subst ex
  exact ⟨T, [.int (n : Nat), y], rfl, st_of upd_same, rfl, _, [y], rfl, y, [], rfl, rfl, hs n y σ' Hh _ g2 p (Ex.new nT)⟩⟩
theorem q_forEn {ta : TA} {i j : Nat} {a : Addr} {xs : List V} (h : EvA ta σ H [.ref a]) (hx : SqL K H a xs) (Pv : Nat → L2.St → Hp → Prop) (h0 : ∀ H1, Ex H H1 → Pv 0 σ H1) (hl : ∀ n σ' H', n ≤ xs.length → Pv n σ' H' → SqL K H' a xs)
    (hs : ∀ n x σ' H' H2, xs[n]? = some x → Pv n σ' H' → Ex H' H2 → tu { D with nx := Pv (n + 1), ct := Pv (n + 1), bk := tz D } ((σ'.set i (some (.int (n : Int)))).set j (some x)) H2) (hd : ∀ σ' H', Pv xs.length σ' H' → tz D σ' H') :
    tSeq (tFor (iEnum K ta) (gTup K 2 (gCons (gName i) (gCons (gName j) gNil))) tu) tz D σ H := s_forEn (D := { D with nx := tz D }) h hx Pv h0 hl hs hd
end
end Kit

set_option Elab.async false
set_option linter.all false
set_option maxRecDepth 100000
set_option maxHeartbeats 4000000
namespace Kit
open PySem PySem.Spec PyProof.Rows L2 Evl
/-! ### new lists of new tuples -/
def TL (H : Hp) (vs : List V) (rs : List (List V)) : Prop := Paired (fun v r => ∃ a, v = .ref a ∧ H a = some (.tup r)) vs rs
theorem TL.imp {H H' : Hp} (f : ∀ a r, H a = some (.tup r) → H' a = some (.tup r)) : ∀ {vs : List V} {rs : List (List V)}, TL H vs rs → TL H' vs rs
  | _, _, .nil => .nil
  | _, _, .cons ⟨a, e, h⟩ t => .cons ⟨a, e, f a _ h⟩ (TL.imp f t)
theorem TL.ex {H H' : Hp} {vs : List V} {rs : List (List V)} (e : Ex H H') (h : TL H vs rs) : TL H' vs rs := h.imp fun a r x => e a _ x
theorem TL.upd {H : Hp} {l : Addr} {xs : List V} {o : HO} {vs : List V} {rs : List (List V)} (hl : H l = some (.lst xs)) (h : TL H vs rs) : TL (upd H l o) vs rs := h.imp fun a r x => by
  rw [upd_ne (ne_of x hl (by intro z; cases z))]
  exact x
theorem TL.len {H : Hp} : ∀ {vs : List V} {rs : List (List V)}, TL H vs rs → vs.length = rs.length
  | _, _, .nil => rfl
  | _, _, .cons _ t => by rw [List.length_cons, List.length_cons, TL.len t]
theorem TL.app {H : Hp} {v : V} {r : List V} (hv : ∃ a, v = .ref a ∧ H a = some (.tup r)) : ∀ {vs : List V} {rs : List (List V)}, TL H vs rs → TL H (vs ++ [v]) (rs ++ [r])
  | _, _, .nil => .cons hv .nil
  | _, _, .cons q t => .cons q (TL.app hv t)
theorem TL.get {H : Hp} : ∀ {vs : List V} {rs : List (List V)} {i : Nat} {v : V}, TL H vs rs → vs[i]? = some v → ∃ a r, v = .ref a ∧ H a = some (.tup r) ∧ rs[i]? = some r
  | _, _, 0, v, .cons ⟨a, e, h⟩ t, hv => ⟨a, _, (Option.some.inj (by simpa using hv)).symm.trans e, h, rfl⟩
  | _, _, i + 1, v, .cons _ t, hv => by
    obtain ⟨a, r, h1, h2, h3⟩ := TL.get (i := i) t (by simpa using hv)
    exact ⟨a, r, h1, h2, by simpa using h3⟩
  | _, _, 0, v, .nil, hv => by simp at hv
  | _, _, i + 1, v, .nil, hv => by simp at hv
theorem TL.rev {H : Hp} : ∀ {vs : List V} {rs : List (List V)}, TL H vs rs → TL H vs.reverse rs.reverse
  | _, _, .nil => .nil
  | _, _, .cons q t => by
    rw [List.reverse_cons, List.reverse_cons]
    exact TL.app q (TL.rev t)
def EvLT (te : TE) (σ : L2.St) (H : Hp) (rs : List (List V)) : Prop := ∀ H1, Ex H H1 → ∀ Q : VK, (∀ p vs H2, H1 p = none → Ex H1 H2 → H2 p = some (.lst vs) → TL H2 vs rs → Q (.ref p) H2) → te σ H1 Q
section
variable {K : PySem.W.Frag} {σ : L2.St} {H H' : Hp} {te tl : TE} {D : Ends} {tz : TS} {t : TT}
/-- [a new tuple for i in range(n)] -/
theorem elt_R1 {ta : TA} {j : Nat} {vs : List Nat} {n : Int} (f : Nat → List V) (h : EvA ta σ H [.int n]) (hn : 0 ≤ n ∧ n ≤ 40000) (hw : ∀ x, wipe ((wipe σ vs).set j (some x)) vs = wipe σ vs)
    (he : ∀ (i : Nat) H1, Ex H H1 → (i : Int) < n → EvU te ((wipe σ vs).set j (some (.int (i : Int)))) H1 (f i)) : EvLT (tLc (iRng1 ta) (gName j) tYes te vs) σ H ((List.range n.toNat).map f) := fun H0 e Q q => h H0 e _ fun H1 e1 => ⟨n, rfl, by omega, by omega, fun Dl hD =>
  lc_range (lo := 0) (n := n.toNat) (fun i H' => Ex H1 H' ∧ ∃ ws, H' Dl = some (.lst ws) ∧ TL H' ws ((List.range i).map f)) ⟨Ex.new hD, [], upd_same, .nil⟩ (fun i H' hi p => by
    obtain ⟨p1, ws, p2, p3⟩ := p
    have e0 : (0 : Int) + (i : Int) = (i : Int) := Int.zero_add _
    show wipe ((wipe σ vs).set j (some (.int ((0 : Int) + (i : Int))))) vs = wipe σ vs ∧ te ((wipe σ vs).set j (some (.int ((0 : Int) + (i : Int))))) H' fun y H4 => ∃ acc, H4 Dl = some (.lst acc) ∧ acc.length < sizeLine ∧ _
    rw [e0]
    refine ⟨hw _, he i H1 (e.trans e1) (by omega) H' p1 _ fun p H4 hp e4 h4 => ⟨ws, e4 Dl _ p2, sz_lt (by
      have := p3.len
      simp at this
      omega), Ex.mut (p1.trans e4) hD, ws ++ [.ref p], upd_same, ?_⟩⟩
    rw [List.range_succ, List.map_append]
    exact ((p3.ex e4).app ⟨p, rfl, h4⟩).upd (e4 Dl _ p2)) (fun H' p => by
      obtain ⟨p1, ws, p2, p3⟩ := p
      exact q Dl ws H' (fresh_back e1 hD) (e1.trans p1) p2 p3)⟩
/-- [a new tuple for x in xs] -/
theorem elt_map {a : Addr} {xs : List V} {j : Nat} {vs : List Nat} (f : Nat → List V) (h : Ev tl σ H (.ref a)) (hx : SqL K H a xs) (hz : xs.length ≤ 40000) (hw : ∀ x, wipe ((wipe σ vs).set j (some x)) vs = wipe σ vs)
    (he : ∀ (i : Nat) (x : V) H1, Ex H H1 → xs[i]? = some x → EvU te ((wipe σ vs).set j (some x)) H1 (f i)) : EvLT (tLc (iList K tl) (gName j) tYes te vs) σ H ((List.range xs.length).map f) := fun H0 e Q q => h H0 e _ fun H1 e1 => ⟨a, rfl, ⟨xs, ex_l (e.trans e1) hx⟩, fun Dl hD =>
  lc_list (xs := xs) (fun i H' => Ex H1 H' ∧ ∃ ws, H' Dl = some (.lst ws) ∧ TL H' ws ((List.range i).map f)) ⟨Ex.new hD, [], upd_same, .nil⟩ (fun i H' _ p => ex_l ((e.trans e1).trans p.1) hx) (fun i x H' hi p => by
    obtain ⟨p1, ws, p2, p3⟩ := p
    show wipe ((wipe σ vs).set j (some x)) vs = wipe σ vs ∧ te ((wipe σ vs).set j (some x)) H' fun y H4 => ∃ acc, H4 Dl = some (.lst acc) ∧ acc.length < sizeLine ∧ _
    refine ⟨hw _, he i x H1 (e.trans e1) hi H' p1 _ fun p H4 hp e4 h4 => ⟨ws, e4 Dl _ p2, sz_lt (by
      have := p3.len
      have := (List.getElem?_eq_some_iff.mp hi).1
      simp at *
      omega), Ex.mut (p1.trans e4) hD, ws ++ [.ref p], upd_same, ?_⟩⟩
    rw [List.range_succ, List.map_append]
    exact ((p3.ex e4).app ⟨p, rfl, h4⟩).upd (e4 Dl _ p2)) (fun H' p => by
      obtain ⟨p1, ws, p2, p3⟩ := p
      exact q Dl ws H' (fresh_back e1 hD) (e1.trans p1) p2 p3)⟩
theorem range_get {α : Type} (rs : List α) (d : α) : rs = (List.range rs.length).map fun i => rs.getD i d := by
  refine List.ext_getElem (by simp) fun i h1 h2 => ?_
  simp [h1]
theorem paired_map {α β γ : Type} {F : β → γ → Prop} (f : α → β) (g : α → γ) : ∀ l : List α, (∀ x ∈ l, F (f x) (g x)) → Paired F (l.map f) (l.map g)
  | [], _ => .nil
  | x :: r, h => .cons (h x (by simp)) (paired_map f g r fun y hy => h y (by simp [hy]))
/-- [x for x in xs if test(x)], xs a list of tuples, the test P of the tuple's items -/
theorem elt_filter {a : Addr} {xs : List V} {rs : List (List V)} {j : Nat} {vs : List Nat} (P : List V → Bool) (h : Ev tl σ H (.ref a)) (hx : SqL K H a xs) (ht : TL H xs rs) (hz : xs.length ≤ 40000) (hw : ∀ x, wipe ((wipe σ vs).set j (some x)) vs = wipe σ vs) (hj : ∀ x, ((wipe σ vs).set j (some x))[j]? = some (some x))
    (he : ∀ (b : Addr) (r : List V) H1, Ex H H1 → r ∈ rs → H1 b = some (.tup r) → EvT t ((wipe σ vs).set j (some (.ref b))) H1 (P r)) : EvLT (tLc (iList K tl) (gName j) t (tVar j) vs) σ H (rs.filter P) := fun H0 e Q q => by
  refine el_lcL (K := K) (f := fun i => P (rs.getD i [])) (v := fun i => xs.getD i .non) h hx hz hw (fun i x H1 e1 hi => ?_) (fun i x H1 e1 hi hf => ?_) H0 e Q fun p H2 hp e2 h2 => ?_
  · obtain ⟨b, r, rfl, hb, hr⟩ := ht.get hi
    have g : rs.getD i [] = r := by rw [List.getD_eq_getElem?_getD, hr] <;> rfl
    show EvT _ _ _ (P (rs.getD i []))
    rw [g]
    exact he b r H1 e1 (List.mem_of_getElem? hr) (e1 b _ hb)
  · have g : xs.getD i .non = x := by rw [List.getD_eq_getElem?_getD, hi] <;> rfl
    show Ev _ _ _ (xs.getD i .non)
    rw [g]
    exact ev_var (hj x)
  · refine q p _ H2 hp e2 h2 ?_
    have e3 : rs.filter P = ((List.range rs.length).filter fun i => P (rs.getD i [])).map fun i => rs.getD i [] := by
      conv => lhs; rw [range_get rs [], List.filter_map]
      rfl
    unfold given
    rw [e3, ht.len]
    refine paired_map _ _ _ fun i hi => ?_
    have hi := List.mem_range.mp (List.mem_filter.mp hi).1
    have hlx : i < xs.length := by rw [ht.len]; exact hi
    obtain ⟨b, r, h1, h2', h3⟩ := ht.get (List.getElem?_eq_getElem hlx)
    refine ⟨b, ?_, ?_⟩
    · rw [List.getD_eq_getElem?_getD, List.getElem?_eq_getElem hlx, h1]
      rfl
    · rw [List.getD_eq_getElem?_getD, h3]
      exact (e.trans e2) b _ h2'
theorem q_asgLT {i : Nat} {rs : List (List V)} (h : EvLT te σ H rs) (k : ∀ p vs H1, H p = none → Ex H H1 → H1 p = some (.lst vs) → TL H1 vs rs → tz D (σ.set i (some (.ref p))) H1) : tSeq (tAsg te (gName i)) tz D σ H := h H (Ex.refl H) _ fun p vs H1 hp e h1 h2 => k p vs H1 hp e h1 h2
theorem s_retLT {rs : List (List V)} (h : EvLT te σ H rs) (k : ∀ p vs H1, H p = none → Ex H H1 → H1 p = some (.lst vs) → TL H1 vs rs → D.rt (.ref p) H1) : tRet te D σ H := h H (Ex.refl H) _ k
end
end Kit

set_option Elab.async false
set_option linter.all false
set_option maxRecDepth 100000
set_option maxHeartbeats 4000000
namespace Kit
open PySem PySem.Spec PyProof.Rows L2 Evl
/-! ### a promise of a def that shows data (repr): no repr may be under way around it -/
structure FnOkG (P : Program) (w : World) (K : PySem.W.Frag) (mg : Str → Option Value) (base : Heap) (n : Nat) (f : Addr) (fd : FuncData) (names : List Str) (want : Sp) : Prop where
  many : ∀ xs H Q E, want xs H Q E → xs.length = names.length
  go : ∀ (A : Around) (frames : List Env) (st : Shared) (H : Hp) (given : Args) (us : List Value) (xs : List V) (Q : VK) (E : XK), A.guards = some [] → Room n A → Env0 P w K mg base A frames st H →
    BindsTo st fd given (names.zip us) → Vals xs us → want xs H Q E → codeAny (model P w) A (.call (.ref f) given) (CR CX0 frames P w H st Q E) st
section
variable {P : Program} {w : World} {K : PySem.W.Frag} {mg : Str → Option Value} {base : Heap}
theorem FnOkG.mono {j n : Nat} {f : Addr} {fd : FuncData} {names : List Str} {want : Sp} (F : FnOkG P w K mg base j f fd names want) (h : j ≤ n) : FnOkG P w K mg base n f fd names want :=
  ⟨F.many, fun A fr st H g us xs Q E hg r => F.go A fr st H g us xs Q E hg (r.mono h)⟩
/-- the rule for such a def -/
theorem funG {x qual : Str} {d : Stmt} {f : Addr} {fd : FuncData} {N names : List Str} {n : Nat} {want : Sp} (F : Fun K x qual d f fd) (S : FnScope N names (defScope d)) (many : ∀ xs H Q E, want xs H Q E → xs.length = names.length)
    (body : ∀ (cv : Value) (A : Around) (frames : List Env) (st : Shared) (H : Hp) (xs : List V) (Q : VK) (E : XK), A.guards = some [] → Room n (A.deeper (envOfC qual (defScope d) st.heap.objs.size f cv)) → want xs H Q E →
      ∃ t, PSs (cxOf CX0 P w K mg base N qual (defScope d) f cv A frames st H E).nox (defBody d) t ∧ t { nx := fun _ H' => Q .non H', rt := Q } (start N xs) H) : FnOkG P w K mg base (n + 1) f fd names want := by
  obtain ⟨o1, o2, v1, v2, v3, an, cv, ct, sl, rfl, look, code⟩ := F.ex
  refine ⟨many, fun A frames st H given us xs Q E hg room en bind vals hw => ?_⟩
  have size := many _ _ _ _ hw
  have inK : K.In st.heap := en.mod.kin.keeps fun b o q => (en.bs b o q).1
  have noLim : st.heap.NoLimit := en.mod.nolimit.keeps fun b o q => (en.bs b o q).1
  have kinds : ∀ y ∈ names.zip us, (defScope d).names.lookup y.1 = some .local ∨ ((defScope d).names.lookup y.1 = some .cell ∧ ((cellsFrom (st.heap.objs.size + 1) (defScope d).names []).lookup y.1).isSome = true) := by
    rintro ⟨a, b⟩ hy
    exact (S.par a (List.of_mem_zip hy).1).elim .inl fun q => .inr ⟨q, PySem.W.cellsFrom_some _ _ _ (.inl q)⟩
  refine codeAny_call_function room.depth (inK _ _ look) rfl S.co S.gen rfl (PySem.W.codeRec_of inK code) (bind _ _ _ _ (wpAny_newFunctionEnv_cells S.kind kinds fun env eq st1 made => ?_))
  cases eq
  refine ⟨noLim.keeps made.toInCall.keep, codeAny_func ?_⟩
  obtain ⟨t, rule, done⟩ := body cv A frames st H xs Q E hg (room.deeper _) hw
  have J : Inv (cxOf CX0 P w K mg base N qual (defScope d) f cv A frames st H E) [] (start N xs) H st1 := inv_start S room.hd en size vals made
  have back : ∀ {σ' : L2.St} {H' : Hp} {v : V} {u : Value} {st2 : Shared}, Inv (cxOf CX0 P w K mg base N qual (defScope d) f cv A frames st H E) [] σ' H' st2 → RelV v u → Q v H' → CE frames P w H st Q u st2 := fun J2 rv q => ⟨_, _, J2.os, J2.bare, J2.base, J2.hok, rv, q⟩
  refine wpAny_mono (rule.nox.run [] st1 (start N xs) H _ J done) (fun r st2 hs => ?_) fun _ _ hs => hs
  match r, hs with
  | .ret u, ⟨v, σ2, H2, J2, rv, q⟩ => exact back J2 rv q
  | .next, ⟨σ2, H2, J2, q⟩ => exact back (v := V.non) (u := Value.none) J2 rfl q
  | .brk, ⟨_, _, _, q⟩ => exact False.elim q
  | .cont, ⟨_, _, _, q⟩ => exact False.elim q
end
/-- such a def is called -/
theorem pe_callG {X : Cx} {n : Nat} {f : Addr} {fd : FuncData} {names : List Str} {want : Sp} {x : Str} {p pos : Pos} {e : Expr} {es : List Expr} {t : TA} (F : FnOkG X.prog X.w X.K X.mg X.base n f fd names want) (hg : X.A.guards = some []) (room : Room n X.A) (gl : Gl X x)
    (at_ : X.mg x = some (.ref f)) (keep : PySem.W.keepIn X.K (.ref f) = true) (bind : Binds X.K fd names []) (ha : PA X (e :: es) t) (nd : (x == ("__debug__" : Str)) = false := by decide)
    (one : starEach (e :: es) X.env = (false, eval e X.env) :: starEach es X.env := by rfl) (plain : (backTo pos (starEach es X.env)).any (·.1) = false := by rfl) : PE X (.Call (.Name x p) (e :: es) [] pos) (tCall want [] E0 t) := by
  refine ⟨fun pins st σ H Q J h => wpAny_Call_Name_kw (ld_glob J gl at_ ?_ nd)⟩
  refine PySem.W.callWith_K (h₀ := X.base) J.ok.mod.kin keep (thn (ha.run pos pins st σ H _ J h) fun us st1 ⟨vs, H1, J1, r, q⟩ => ⟨J1.kIn, ?_⟩) one plain
  have q : want vs H1 Q E0 := by
    have q' : want (vs ++ []) H1 Q E0 := q
    rwa [List.append_nil] at q'
  have size : us.length = names.length := r.length.symm.trans (F.many _ _ _ _ q)
  have bd := bind st1 us J1.kIn (by rw [List.append_nil]; exact size)
  rw [List.append_nil] at bd
  refine wpAny_call (codeAny_mono (F.go X.A X.stack st1 H1 ⟨us, []⟩ us vs Q E0 hg room J1.env0 bd r q) fun res st2 hq => ?_)
  match res, hq with
  | .error _, hq => exact False.elim hq
  | .ok (.ret _), hq => exact J1.after hq
  | .ok .next, hq => exact False.elim hq
  | .ok .brk, hq => exact False.elim hq
  | .ok .cont, hq => exact False.elim hq
/-- the law's promise, at the heap behind the top -/
theorem headG {P : Program} {w : World} {K : PySem.W.Frag} {mg mb : Str → Option Value} {n : Nat} {fa a : Addr} {fd : FuncData} {x : Str} {want : Sp} {st : Shared} {us : List Value} {ns : List Int}
    (inK : K.In st.heap) (glob : st.heap.Ns mainGlobals mg) (blt : st.heap.Ns builtinsNs mb) (boot : ∀ x : Str, x ≠ "__name__" → mb x = bootBuiltins x) (noLim : st.heap.NoLimit) (gens : st.gens = #[])
    (obj : st.heap.get? a = some { cls := .type "list", data := .seq us.toArray }) (allInt : IntsAre us ns) (short : ns.length ≤ sizeLine) (room : Room n callerA)
    (F : ∀ base : Heap, K.In base → base.Ns mainGlobals mg → FnOkG P w K mg base n fa fd [x] want) (bind : ∀ (s : Shared) (u : Value), BindsTo s fd ⟨[u], []⟩ [(x, u)])
    (ask : ∀ H : Hp, Only H → SqL K H a (ns.map V.int) → want [.ref a] H (fun v _ => v = .bl true) fun _ _ _ => False) :
    codeAny (model P w) callerA (.call (.ref fa) ⟨[.ref a], []⟩) (fun r s' => r = .ok (.ret (.bool true)) ∧ OldK st.heap s'.heap ∧ s'.os = st.os ∧ AllBare s'.gens) st := by
  have vals := vals_ints allInt
  have size := allInt.length
  have main : ∀ H : Hp, Only H → SqL K H a (ns.map V.int) → HOk P w H st.heap → (∀ b, H b ≠ none → b = a) → (H a ≠ none → K.lookup a = none) →
      codeAny (model P w) callerA (.call (.ref fa) ⟨[.ref a], []⟩) (fun r s' => r = .ok (.ret (.bool true)) ∧ OldK st.heap s'.heap ∧ s'.os = st.os ∧ AllBare s'.gens) st := by
    intro H only sq ok one not
    have stay : ∀ {b : Addr} {o : Obj}, st.heap.get? b = some o → H b = none → (hidT st.heap H).get? b = some o := fun q z => hidT_get q z
    have free : ∀ {b : Addr}, (b = a → False) → H b = none := fun {b} ne => by
      cases q : H b with
      | none => rfl
      | some u => exact (ne (one b (by rw [q]; exact Option.some_ne_none u))).elim
    have space : ∀ {b : Addr} {m : Str → Option Value}, st.heap.Ns b m → (hidT st.heap H).Ns b m := fun {b m} ⟨o, es, ep, q, d, r⟩ => ⟨o, es, ep, stay q (free fun z => by
      subst z
      rw [obj] at q
      cases q
      exact Data.noConfusion (show Data.seq us.toArray _ = Data.dict es ep from d)), d, r⟩
    have kin : K.In (hidT st.heap H) := fun b o q => stay (inK b o q) (by
      cases z : H b with
      | none => rfl
      | some u =>
        have ne : H b ≠ none := by rw [z]; exact Option.some_ne_none u
        have ba := one b ne
        subst ba
        rw [not ne] at q
        cases q)
    obtain ⟨mc, l1, l2⟩ := noLim
    have md : Mod K mg (hidT st.heap H) := ⟨kin, space glob, ⟨mb, space blt, boot⟩, ⟨mc, space l1, l2⟩⟩
    have en : Env0 P w K mg (hidT st.heap H) callerA [] st H := ⟨rfl, md, fun b o q => of_hidT q, Nat.le_of_eq (hidT_size _ _), trivial, fun b hb => absurd (show b ∈ ([] : List Addr) from hb) (by simp), ok, .of_eq gens⟩
    refine codeAny_mono ((F _ kin (space glob)).go callerA [] st H ⟨[.ref a], []⟩ [.ref a] [.ref a] _ _ rfl room en (bind st (.ref a)) (.cons rfl .nil) (ask H only sq)) fun r s' h => ?_
    match r, h with
    | .error _, h => exact False.elim h
    | .ok .next, h => exact False.elim h
    | .ok .brk, h => exact False.elim h
    | .ok .cont, h => exact False.elim h
    | .ok (.ret u), ⟨v, H', os, bare, un, ok', rel, q⟩ =>
      have q2 : v = .bl true := q
      cases q2
      have r2 : u = Value.bool true := rel
      cases r2
      refine ⟨rfl, OldK.of_keep fun b o e => ?_, os, bare⟩
      rcases only b with z | ⟨ob, xs, z⟩
      · exact un.keep b o e z (fun t => absurd (show b ∈ ([] : List Addr) from t) (by simp)) (by simp)
      · have z2 := un.frzs b ob _ z
        obtain ⟨g1, _⟩ := ok b _ z
        obtain ⟨g2, _⟩ := ok' b _ z2
        rw [e] at g1
        cases g1
        exact g2
  cases own : K.lookup a with
  | some o =>
    have e := inK a o own
    rw [obj] at e
    cases e
    exact main (fun _ => none) (fun _ => .inl rfl) (.inr ⟨_, us.toArray, _, own, rfl, rfl, rfl, by rw [List.size_toArray, size]; exact short, by simpa using vals⟩) (fun b u z => by have y : (none : Option HO) = some u := z; cases y) (fun b z => absurd rfl z) fun z => absurd rfl z
  | none =>
    have yes : (fun b => if b = a then some (HO.frz { cls := .type "list", data := .seq us.toArray } (.lst (ns.map V.int))) else none) a = some (HO.frz { cls := .type "list", data := .seq us.toArray } (.lst (ns.map V.int))) := if_pos rfl
    have no : ∀ b, b ≠ a → (fun b => if b = a then some (HO.frz { cls := .type "list", data := .seq us.toArray } (.lst (ns.map V.int))) else none) b = none := fun b ne => if_neg ne
    generalize (fun b => if b = a then some (HO.frz { cls := .type "list", data := .seq us.toArray } (.lst (ns.map V.int))) else none) = G at yes no
    refine main G (fun b => ?_) (.inl (.inr ⟨_, yes⟩)) (fun b u z => ?_) (fun b z => ?_) fun _ => own
    · by_cases hb : b = a
      · subst hb
        exact .inr ⟨_, _, yes⟩
      · exact .inl (no b hb)
    · by_cases hb : b = a
      · subst hb
        rw [yes] at z
        cases z
        exact ⟨obj, by rw [List.length_map]; exact short, us, _, vals, obj⟩
      · rw [no b hb] at z
        cases z
    · by_cases hb : b = a
      · exact hb
      · exact absurd (no b hb) z
theorem walk_G {l : PySem.W.OpenLaw} {m n : Nat} {q : Program} {loose : List Str} {XP : (Str → Option Value) → Heap → Prop} {YP : World → Heap → Prop} {d : DefRec} {K : Params → PySem.W.Frag} {want : World → Sp} {x : Str}
    (most : l.most = some m) (most2 : m ≤ sizeLine) (noDef : d.params.defaults = []) (room : Room n callerA) (inK : ∀ (w : World) (h : Heap), YP w h → (K w.params).In h)
    (F : ∀ (w : World) (mg : Str → Option Value) (fa : Addr) (h : Heap), (K w.params).In h → h.Ns mainGlobals mg → mg d.name = some (.ref fa) →
      ∃ fd : FuncData, (∀ (s : Shared) (u : Value), BindsTo s fd ⟨[u], []⟩ [(x, u)]) ∧ ∀ base : Heap, (K w.params).In base → base.Ns mainGlobals mg → FnOkG l.prog w (K w.params) mg base n fa fd [x] (want w))
    (ask : ∀ (w : World) (H : Hp) (a : Addr) (ns : List Int), ns.length ≤ m → Only H → SqL (K w.params) H a (ns.map V.int) → want w [.ref a] H (fun v _ => v = .bl true) fun _ _ _ => False) :
    PySem.W.WalkO q loose XP YP l.row.toRowW d [] (fun f vs => PySem.call f vs) :=
  Att.attach_call most noDef fun w s₀ st mg mb fa o pm cd doc a us ns G Y ho hd hcd named obj allInt short gens => by
    have kin := inK w _ Y
    obtain ⟨fd, bind, FF⟩ := F w mg fa _ kin G.T.g named
    exact headG kin G.T.g G.T.b G.T.builtins G.T.nolimit gens obj allInt (Nat.le_trans short most2) room FF bind fun H only sq => ask w H a ns short only sq
/-! ### repr of data -/
def rRepr (K : PySem.W.Frag) : List V → Hp → VK → Prop := fun xs H Q => ∃ p d, xs = [.ref p] ∧ Dp K H (.ref p) d ∧ d.showable = true ∧ d.hasDict = false ∧ d.depth ≤ 50 ∧ d.shown.length ≤ sizeLine ∧ Q (.str d.shown) H
theorem call_reprD {X : Cx} (hg : X.A.guards = some []) (hu : X.A.units + 64 < cLine) : CallR X (.builtin "repr") (rRepr X.K) := by
  intro pins st σ H xs us Q J r h
  obtain ⟨p, d, rfl, dp, hs, hd, hdp, hz, q⟩ := h
  obtain ⟨u, rfl, hu2⟩ : ∃ u, us = [u] ∧ RelV (.ref p) u := by
    cases r with
    | cons a b =>
      cases b
      exact ⟨_, rfl, a⟩
  have e : u = Value.ref p := hu2
  subst e
  obtain ⟨as, rd⟩ := Dp.reads J d _ _ dp hu2
  refine repr_of_reads' rd hs (fun z => by rw [hd] at z; cases z) hg (by omega) (fun _ _ e => e) (fun h' u tk keep => ?_) hz
  exact ⟨.str d.shown, H, J.turnedL (ch := []) (fun b o _ e => keep b o e) (fun b hb => absurd hb (by simp)), ⟨_, rfl⟩, q⟩
section
variable {K : PySem.W.Frag} {σ : L2.St} {H : Hp} {te : TE}
theorem ev_repr {d : PyData} (h : EvD K te σ H d) (hl : isDisplay d = true) (hs : d.showable = true) (hd : d.hasDict = false) (hdp : d.depth ≤ 50) (hz : d.shown.length ≤ sizeLine) : Ev (tCB (rRepr K) (tCons te tNil)) σ H (.str d.shown) := fun H1 e Q q =>
  h H1 e _ fun v H2 e2 dv => by
    have hp : ∃ p, v = .ref p := by
      cases dv with
      | lst _ _ => exact ⟨_, rfl⟩
      | tup _ _ => exact ⟨_, rfl⟩
      | non => cases hl
      | bl _ => cases hl
      | int _ => cases hl
      | str _ => cases hl
    obtain ⟨p, rfl⟩ := hp
    exact ⟨p, d, rfl, dv, hs, hd, hdp, hz, q H2 e2⟩
end
end Kit

set_option Elab.async false
set_option linter.all false
set_option maxRecDepth 100000
set_option maxHeartbeats 4000000
namespace Kit
open PySem PySem.Spec PyProof.Rows L2 Evl
theorem slot_type_neR : Slot "type" (cmpInfo .NotEq).2.2 "object.__ne__" :=
  .of (owner := "object") (n := "__ne__") (by rw [typeLookup_type, builtinLookup_eq_fast]; kernel_rfl) (by decide +kernel) (by decide +kernel) (by decide +kernel)
    (by first | exact .inl (by decide +kernel) | exact .inr (by decide +kernel)) (by rw [isSubtype_type]; kernel_rfl)
section
variable {M : Model} {A : Around} {E : Value → Shared → Prop} {s : Shared}
theorem ne_decline {a b : Value} {T id : String} {k : Bool} {Q : Value → Shared → Prop} (ta : ∀ s' : Shared, s'.TypeIs a T) (tb : ∀ s' : Shared, s'.TypeIs b T) (l1 : Slot T (cmpInfo .NotEq).2.1 id) (l2 : Slot T (cmpInfo .NotEq).2.2 id)
    (nh : [a, b].any Value.onHeap = false) (same : isSame a b = pure k) (go : wpAny M A (call (.builtin id) [a, b]) (fun v t => v = .notImplemented ∧ wpAny M A (call (.builtin id) [b, a]) (fun v t2 => v = .notImplemented ∧ Q (.bool (!k)) t2) E t) E s) :
    wpAny M A (richCompare .NotEq a b) Q E s := by
  rcases eq : cmpInfo CmpOp.NotEq with ⟨n1, n2, n3⟩
  rw [eq] at l1 l2
  simp only [richCompare, eq, (ta s).oneThing_none]
  try with_reducible refine wpAny_holding ?_
  refine wpAny_bind (wpAny_cRoomFor_or (.inl nh) (wpAny_bind (wpAny_typeOf (ta s) (wpAny_bind (wpAny_typeOf (tb s) ?_)))))
  simp only [bne_self_eq_false, Bool.false_eq_true, if_false, pure_bind, Bool.not_false, if_true]
  refine wpAny_bind (m := tryCompare a _ b) (wpAny_tryCompare_declines (ta s) l1 (wpAny_mono go (fun v t z => ⟨z.1, ?_⟩) fun _ _ x => x))
  refine wpAny_bind (m := tryCompare b _ a) (wpAny_tryCompare_declines (tb t) l2 (wpAny_mono z.2 (fun v t2 z2 => ⟨z2.1, ?_⟩) fun _ _ x => x))
  refine wpAny_bind (wpAny_rule (wpAny_bind (wpAny_of_eq same (wpAny_pure z2.2))))
end
section
variable {prog : Program} {w : World} {A : Around} {E : Value → Shared → Prop} {s : Shared} {Q : Value → Shared → Prop}
theorem obj_ne_other {X Y : String} (hX : ∀ s' : Shared, s'.TypeIs (.type X) "type") (ne : (Value.type X == Value.type Y) = false) (hu : A.units + 1 < cLine) (h : Q .notImplemented s) : wpAny (model prog w) A (call (.builtin "object.__ne__") [.type X, .type Y]) Q E s := by
  refine wpAny_call_entry slot_type_ne (hX s) PySem.F.cmpEntry_ne ?_ (PySem.F.cmpArgs_ne _ _)
  unfold Builtin.«object.__ne__»
  have key : wpAny (model prog w) A.in1 (call (.builtin "object.__eq__") [.type X, .type Y]) (fun v s' => v = .notImplemented ∧ s' = s) E s :=
    call_gives slot_type_eqN (hX s) F.entry_object_eq (F.args_object_eq_2 _ _) (PySem.TypeEq.object_eq_other rfl ne) ⟨rfl, rfl⟩
  repeat (first
    | with_reducible refine wpAny_cRoomFor (by show A.units + 1 < cLine; exact hu) ?_
    | (refine wpAny_bind (m := callSpecialIfBound? (.type X) (Str.ofString "__eq__") [.type Y])
        (wpAny_callSpecialIfBound?_slot (hX _) slot_type_eqN (wpAny_mono key (fun r s' hr => by
          obtain ⟨rfl, rfl⟩ := hr
          have hq : Q .notImplemented s' := h
          repeat (first | exact hq | exact ⟨_, rfl, hq⟩ | exact wpAny_pure hq | wp_step)) fun _ _ e => e)))
    | wp_step)
theorem ne_type_other {X Y : String} (hX : ∀ s' : Shared, s'.TypeIs (.type X) "type") (hY : ∀ s' : Shared, s'.TypeIs (.type Y) "type") (ne : (Value.type X == Value.type Y) = false) (hu : A.units + 1 < cLine) (h : Q (.bool true) s) : wpAny (model prog w) A (compareOp .NotEq (.type X) (.type Y)) Q E s := by
  have ne' : (Value.type Y == Value.type X) = false := by
    rw [beq_eq_false_iff_ne] at ne ⊢
    exact fun z => ne z.symm
  show wpAny _ A (richCompare .NotEq _ _) Q E s
  exact ne_decline (T := "type") (k := false) hX hY slot_type_ne slot_type_neR rfl (by rw [isSame_plain rfl, ne]) (obj_ne_other hX ne hu ⟨rfl, obj_ne_other hY ne' hu ⟨rfl, h⟩⟩)
end
end Kit

set_option Elab.async false
set_option linter.all false
set_option maxRecDepth 100000
set_option maxHeartbeats 4000000
namespace Kit
open PySem PySem.Spec PyProof.Rows L2 Evl
theorem meets_enum_new1 {v : Value} {o : Obj} {H : Heap → Prop} (B : Begins v o H) :
    Meets (Builtin.«enumerate.__new__» ⟨[.type "enumerate", v], []⟩) (fun _ R s => H s.heap ∧
      R (.ok (.ret (.ref (s.heap.push o).objs.size))) { s with heap := (s.heap.push o).push { cls := .type "enumerate", data := .fields #[.none, .bool false, .ref s.heap.objs.size, rawInt 0, .none, .none] } }) :=
  .of_wp fun prog w A R s h => by
    obtain ⟨hp, g, d, tk, os⟩ := s; obtain ⟨h1, h⟩ := h
    have hsub := sub_enumerate
    have q1 : ∀ {A' : Around} {E : Value → Shared → Prop} {Q : Value → Shared → Prop}, Q (.ref hp.objs.size) ⟨hp.push o, g, d, tk, os⟩ → wpAny (model prog w) A' (pyIter v) Q E ⟨hp, g, d, tk, os⟩ :=
      fun q => B.iter prog w _ _ ⟨hp, g, d, tk, os⟩ _ h1 q
    wp_walk using q1
    refine wpAny_stack_any fun st => wpAny_pure ?_
    split
    · rename_i c _ _ _ _ _
      cases (c == Value.type "enumerate")
      · wp_walk using q1
        exact ⟨_, rfl, h⟩
      · wp_walk using q1
        exact ⟨_, rfl, h⟩
    · wp_walk using q1
      exact ⟨_, rfl, h⟩
section
variable {prog : Program} {w : World} {A : Around} {E : Value → Shared → Prop} {s : Shared}
theorem enum_begins1 {v : Value} {o : Obj} {H : Heap → Prop} {Q : Value → Shared → Prop} (B : Begins v o H) (h1 : H s.heap)
    (h : ∀ h', IsEnum h' (s.heap.objs.size + 1) s.heap.objs.size 0 .none → h'.get? s.heap.objs.size = some o → h'.objs.size = s.heap.objs.size + 2 →
      (∀ b o, s.heap.get? b = some o → h'.get? b = some o) → Q (.ref (s.heap.objs.size + 1)) { s with heap := h' }) :
    wpAny (model prog w) A (call (.type "enumerate") [v]) Q E s := by
  refine callType_new F.called_enumerate (by decide) (F.typeCall_enumerate_1 _) (F.newCall_enumerate_1 _) (fun obj => F.args_object_init_2 obj _) F.entry_enumerate_new
    (meets_enum_new1 B) ⟨h1, ?_⟩
  have hz : (s.heap.push o).objs.size = s.heap.objs.size + 1 := Heap.size_push ..
  show _ ∧ _
  rw [hz]
  have he : IsEnum ((s.heap.push o).push { cls := .type "enumerate", data := .fields #[.none, .bool false, .ref s.heap.objs.size, rawInt 0, .none, .none] }) (s.heap.objs.size + 1) s.heap.objs.size 0 .none := by
    have := Heap.get?_push_size (s.heap.push o) (o := { cls := .type "enumerate", data := .fields #[.none, .bool false, .ref s.heap.objs.size, rawInt 0, .none, .none] }) rfl
    rw [hz] at this; exact this
  refine ⟨⟨_, he, rfl⟩, h _ he (Heap.get?_push_of_some _ (Heap.get?_push_size _ B.free)) (by rw [Heap.size_push, hz]) fun b o x => Heap.get?_push_of_some _ (Heap.get?_push_of_some _ x)⟩
end
end Kit

set_option Elab.async false
set_option linter.all false
set_option maxRecDepth 100000
set_option maxHeartbeats 4000000
namespace Kit
open PySem PySem.Spec PyProof.Rows L2 Evl
/-- the tuple at a, each item in a new pair -/
def IteT (K : PySem.W.Frag) (a : Addr) : It :=
  ⟨fun i H => ∃ (xs : List V) (x : V), SqT K H a xs ∧ xs[i]? = some x, fun i H v H' => ∃ T x, v = .ref T ∧ H T = none ∧ H' = upd H T (.tup [.int (i : Nat), x]) ∧ ∀ xs, SqT K H a xs → xs[i]? = some x, fun i H => ∃ xs : List V, SqT K H a xs ∧ xs.length = i⟩
theorem enum_ne {h : Heap} {e it t : Addr} {i : Int} {old : Value} {vs : Array Value} (he : IsEnum h e it i old) (ht : h.IsTuple t vs) : e ≠ t := fun z => by
  subst z
  obtain ⟨o, ho, hc, _⟩ := ht
  have he' : h.get? e = _ := he
  rw [he'] at ho
  cases ho
  exact absurd hc (by show ¬ (Value.type "enumerate" = Value.type "tuple"); decide +kernel)
theorem turn_enumT {P : Program} {w : World} {K : PySem.W.Frag} {elts : List Expr} {kk : Nat} {tpos : Pos} (a e it : Addr) :
    Turn P w K (.Tuple elts kk tpos) (IteT K a) [e, it] e (fun i h => (∃ old, IsEnum h e it ((i : Nat) : Int) old) ∧ h.IsTupleIter it a i ∧ e ≠ it) where
  mem := by simp
  obj := fun i h st b hb => by
    obtain ⟨⟨old, he⟩, ⟨o, ho, hc, hd⟩, _⟩ := st
    have e' : b = e ∨ b = it := by simpa using hb
    rcases e' with z | z
    · rw [z]; exact ⟨_, he, fun v q => nomatch q⟩
    · rw [z]; exact ⟨o, ho, fun v q => by rw [hd] at q; cases q⟩
  keep := fun i h h' st k => by
    obtain ⟨⟨old, he⟩, ⟨o, ho, hr⟩, hne⟩ := st
    exact ⟨⟨old, k e (by simp) _ he⟩, ⟨o, k it (by simp) o ho, hr⟩, hne⟩
  item := by
    intro X hP hw hK hc i pins s σ H E I hf st hg
    subst hP hw hK
    obtain ⟨⟨old, he⟩, hit, hne⟩ := st
    obtain ⟨xs, x, hq, hx⟩ := hg
    obtain ⟨its, rv, p, hz⟩ := I.tuple hq
    obtain ⟨u, hu, ru⟩ := rv.get hx
    have hel : e < s.heap.objs.size := Heap.lt_size he
    have hil : it < s.heap.objs.size := by obtain ⟨_, q, _⟩ := hit; exact Heap.lt_size q
    have pT : s.heap.IsTuple a its.toArray := p
    have nea : e ≠ a := enum_ne he pT
    have nit : a ≠ it := fun z => by
      subst z
      obtain ⟨o, ho, hc', _⟩ := pT
      obtain ⟨o', ho', hc'', _⟩ := hit
      rw [ho] at ho'
      cases ho'
      rw [hc'] at hc''
      exact absurd hc'' (by decide +kernel)
    have hlt : i < its.toArray.size := by
      have := (List.getElem?_eq_some_iff.mp hu).1
      simpa using this
    refine wpAny_pyNext_enum_itemD (Draws.tuple (by exact I.ok.hd hc) it a nit its.toArray) he ⟨hit, pT⟩ hlt hne (by simp [hne, nea]) fun x' h' tk hx' ho hst' hT hsz hk => ?_
    have eu : u = x' := by
      have : its[i]? = some x' := by simpa using hx'
      rw [hu] at this
      exact Option.some.inj this
    subst eu
    refine ⟨_, rfl, wpAny_letOwnedTupleGo_enum (s := { s with heap := h', toks := tk + 1 }) ho fun h'' he' sb => ?_⟩
    have hT2 : h''.get? s.heap.objs.size = some { cls := .type "tuple", data := .seq #[.int i tk, u] } := (sb.2 _ (Nat.ne_of_gt hel)).trans hT
    have new : ObjOk X.prog X.w (upd H s.heap.objs.size (.tup [.int (i : Nat), x])) h'' s.heap.objs.size (.tup [.int (i : Nat), x]) :=
      ⟨by show 2 ≤ sizeLine; decide, [.int i tk, u], .cons ⟨_, rfl⟩ (.cons ru .nil), ⟨_, hT2, rfl, _, rfl⟩⟩
    have I1 : Inv X pins σ (upd H s.heap.objs.size (.tup [.int (i : Nat), x])) { s with heap := h'', toks := tk + 1 } :=
      I.turnedNew (ch := [e, it]) (fun b ob hb q => (sb.2 b (fun z => hb (by simp [z]))).trans (hk b ob (fun z => hb (by simp [z])) (fun z => hb (by simp [z])) q)) hf (Nat.le_refl _) new
    refine ⟨.ref s.heap.objs.size, _, I1, rfl, ⟨_, x, rfl, I.hok.fresh (Nat.le_refl _), rfl, fun ys hy => by rw [I.tuple_inj hy hq]; exact hx⟩, ⟨⟨u, ?_⟩, ?_, hne⟩, fun b hb => ?_⟩
    · have e1 : ((i + 1 : Nat) : Int) = (i : Int) + 1 := by omega
      rw [e1]; exact he'
    · obtain ⟨o, q, r⟩ := hst'.1
      exact ⟨o, (sb.2 it (Ne.symm hne)).trans q, r⟩
    · have hb' : b < s.heap.objs.size := by
        have e' : b = e ∨ b = it := by simpa using hb
        rcases e' with z | z
        · rw [z]; exact hel
        · rw [z]; exact hil
      rw [upd_ne (Nat.ne_of_lt hb')]
      exact (hf b hb).1
  done := by
    intro X hP hw hK hc i pins s σ H E I hf st hg
    subst hP hw hK
    obtain ⟨⟨old, he⟩, hit, hne⟩ := st
    obtain ⟨xs, hq, hx⟩ := hg
    obtain ⟨its, rv, p, hz⟩ := I.tuple hq
    obtain ⟨f0, f1, f2, f3, f4, f5⟩ := hf it (by simp)
    have hl := rv.length
    have pT : s.heap.IsTuple a its.toArray := p
    have nit : a ≠ it := fun z => by
      subst z
      obtain ⟨o, ho, hc', _⟩ := pT
      obtain ⟨o', ho', hc'', _⟩ := hit
      rw [ho] at ho'
      cases ho'
      rw [hc'] at hc''
      exact absurd hc'' (by decide +kernel)
    have hn : its.toArray.size = i := by
      rw [← hx, hl]
      simp
    subst hn
    exact wpAny_pyNext_enum_endD (Draws.tuple (by exact I.ok.hd hc) it a nit its.toArray) he ⟨hit, pT⟩ fun h' eb => ⟨rfl, I.turned (t' := s.toks) (fun b o hb q => eb b o hb q) f0 f1 f3 f4 f5⟩
  self := fun A i s Q E st h => let ⟨⟨_, he⟩, _⟩ := st; wpAny_pyIter_enum he h
def iEnumS (K : PySem.W.Frag) (ta : TA) : TI := fun σ H R => ta σ H fun vs H1 => ∃ a xs, vs = [.ref a] ∧ ((SqL K H1 a xs ∧ R (Ite K a) H1) ∨ (SqT K H1 a xs ∧ R (IteT K a) H1))
theorem pi_enumS {X : Cx} {e : Expr} {ta : TA} {p pos tpos : Pos} {elts : List Expr} {kk : Nat} (hg : Gl X "enumerate") (hm : X.mg "enumerate" = none) (ha : PA X [e] ta) (hs : starEach [e] X.env = [(false, eval e X.env)] := by rfl) :
    PI X (.Tuple elts kk tpos) (.Call (.Name "enumerate" p) [e] [] pos) (iEnumS X.K ta) := by
  refine ⟨fun pins s σ H R I h => ?_⟩
  refine Call_ (ld_blt I hg hm boot_enumerate (PyProof.Rows.callWith_type1 (thn (ha.run pos pins s σ H _ I h) fun us s1 ⟨vs, H1, I1, r1, q1⟩ => ?_) hs rfl))
  obtain ⟨a, xs, ex, q1⟩ := q1
  subst ex
  cases r1 with
  | cons r rr =>
    cases rr
    cases r
    have fin : ∀ (h' : Heap) (itx : Addr), itx = s1.heap.objs.size → (∀ b o, s1.heap.get? b = some o → h'.get? b = some o) → ∀ b ∈ [s1.heap.objs.size + 1, itx], FpOk X pins H1 b := fun h' itx ei hk b hb => by
      have hle : s1.heap.objs.size ≤ b := by
        have e' : b = s1.heap.objs.size + 1 ∨ b = itx := by simpa using hb
        rcases e' with z | z
        · rw [z]; exact Nat.le_add_right _ _
        · rw [z, ei]; exact Nat.le_refl _
      exact I1.fpOk hle (I1.hok.fresh hle)
    rcases q1 with ⟨hq, q⟩ | ⟨hq, q⟩
    · obtain ⟨its, rv, p', hz⟩ := I1.list hq
      refine call_enumerate_list p'.isList fun h' he hit hsz hk => wpAny_pyIter_enum he ?_
      have I2 : Inv X pins σ H1 { s1 with heap := h' } := I1.kept (t' := s1.toks) hk
      exact ⟨s1.heap.objs.size + 1, [s1.heap.objs.size + 1, s1.heap.objs.size], _, _, H1, rfl, I2, turn_enum a (s1.heap.objs.size + 1) s1.heap.objs.size, ⟨⟨.none, he⟩, hit, Nat.succ_ne_self _⟩, fin h' _ rfl hk, q⟩
    · obtain ⟨its, rv, p', hz⟩ := I1.tuple hq
      refine enum_begins1 (begins_tuple a its.toArray) (show s1.heap.IsTuple a its.toArray from p') fun h' he hit hsz hk => wpAny_pyIter_enum he ?_
      have I2 : Inv X pins σ H1 { s1 with heap := h' } := I1.kept (t' := s1.toks) hk
      exact ⟨s1.heap.objs.size + 1, [s1.heap.objs.size + 1, s1.heap.objs.size], _, _, H1, rfl, I2, turn_enumT a (s1.heap.objs.size + 1) s1.heap.objs.size, ⟨⟨.none, he⟩, ⟨_, hit, rfl, rfl⟩, Nat.succ_ne_self _⟩, fin h' _ rfl hk, q⟩
theorem walk_enumT {K : PySem.W.Frag} {a : Addr} {xs : List V} : Walk (IteT K a) xs.length (fun H => SqT K H a xs) (YPair (fun i => some (.int (i : Nat))) (fun i => xs[i]?)) := by
  refine ⟨fun i _ hi q => ⟨xs, xs[i], q, by simp [hi]⟩, fun _ q => ⟨xs, q, rfl⟩, fun i H v H' _ q y => ?_⟩
  obtain ⟨T, x, h1, h2, h3, h4⟩ := y
  exact ⟨T, .int (i : Nat), x, h1, h2, h3, rfl, h4 xs q⟩
section
variable {K : PySem.W.Frag} {σ : L2.St} {H H' : Hp} {D : Ends} {tu tz : TS}
/-- for i, x in enumerate(xs), xs a list or a tuple -/
theorem s_forEnS {ta : TA} {i j : Nat} {a : Addr} {xs : List V} (h : EvA ta σ H [.ref a]) (G : Hp → Prop) (hG : (∀ H, G H → SqL K H a xs) ∨ (∀ H, G H → SqT K H a xs)) (hx : ∀ H1, Ex H H1 → G H1) (Pv : Nat → L2.St → Hp → Prop) (h0 : ∀ H1, Ex H H1 → Pv 0 σ H1) (hl : ∀ n σ' H', n ≤ xs.length → Pv n σ' H' → G H')
    (hs : ∀ n x σ' H' H2, xs[n]? = some x → Pv n σ' H' → Ex H' H2 → tu { D with nx := Pv (n + 1), ct := Pv (n + 1), bk := D.nx } ((σ'.set i (some (.int (n : Int)))).set j (some x)) H2) (hd : ∀ σ' H', Pv xs.length σ' H' → D.nx σ' H') :
    tFor (iEnumS K ta) (gTup K 2 (gCons (gName i) (gCons (gName j) gNil))) tu D σ H := h H (Ex.refl H) _ fun H1 e => by
  have turn : ∀ n v σ' Hh H2, n < xs.length → Pv n σ' Hh → YPair (fun i => some (.int (i : Nat))) (fun i => xs[i]?) n Hh v H2 → gTup K 2 (gCons (gName i) (gCons (gName j) gNil)) v σ' H2 fun σ2 H3 => tu { D with nx := Pv (n + 1), ct := Pv (n + 1), bk := D.nx } σ2 H3 := by
    rintro n v σ' Hh H2 hn p ⟨T, x, y, rfl, nT, rfl, g1, g2⟩
    have ex : V.int (n : Nat) = x := Option.some.inj g1
    subst ex
    exact ⟨T, [.int (n : Nat), y], rfl, st_of upd_same, rfl, _, [y], rfl, y, [], rfl, rfl, hs n y σ' Hh _ g2 p (Ex.new nT)⟩
  rcases hG with hG | hG
  · exact ⟨a, xs, rfl, .inl ⟨hG _ (hx H1 e), for_it walk_enum Pv (h0 H1 e) (fun n σ' H' hn p => hG _ (hl n σ' H' hn p)) (fun n v σ' Hh H2 => turn n v σ' Hh H2) hd⟩⟩
  · exact ⟨a, xs, rfl, .inr ⟨hG _ (hx H1 e), for_it walk_enumT Pv (h0 H1 e) (fun n σ' H' hn p => hG _ (hl n σ' H' hn p)) (fun n v σ' Hh H2 => turn n v σ' Hh H2) hd⟩⟩
end
end Kit

set_option Elab.async false
set_option linter.all false
set_option maxRecDepth 100000
set_option maxHeartbeats 4000000
namespace Kit
open PySem PySem.Spec PyProof.Rows L2 Evl
/-! list(range(a, b, c)) -/
def rgC (i c : Int) (n : Nat) : List V := (List.range n).map fun k => V.int (i + (k : Nat) * c)
def PRgC (X : Cx) (e : Expr) (t : L2.St → Hp → (Int → Int → Int → Hp → Prop) → Prop) : Prop :=
  ∀ (pins : List (Addr × Obj)) (s : Shared) (σ : L2.St) (H : Hp) (Q : Int → Int → Int → Hp → Prop), Inv X pins σ H s → t σ H Q →
    wpAny (model X.prog X.w) X.A (eval e X.env) (fun x s' => ∃ r a b c t u v H', x = .ref r ∧ IsRange s'.heap r a b c t u v ∧ Inv X pins σ H' s' ∧ Q a b c H') X.xe s
def tRg3 (ta : TA) : L2.St → Hp → (Int → Int → Int → Hp → Prop) → Prop := fun σ H Q => ta σ H fun vs H1 => ∃ i j c, vs = [.int i, .int j, .int c] ∧ (c ≠ 0 ∧ c.natAbs < 1073741824) ∧ Q i j c H1
section
variable {X : Cx}
theorem prg_3 {a b c : Expr} {ta : TA} {p pos : Pos} (hg : Gl X "range") (hm : X.mg "range" = none) (ha : PA X [a, b, c] ta)
    (hs : starEach [a, b, c] X.env = (false, eval a X.env) :: starEach [b, c] X.env := by rfl) (hpl : (backTo pos (starEach [b, c] X.env)).any (·.1) = false := by rfl) : PRgC X (.Call (.Name "range" p) [a, b, c] [] pos) (tRg3 ta) := by
  intro pins s σ H Q I h
  refine Call_ (ld_blt I hg hm boot_range (PyProof.Rows.callWith_type1 (thn (ha.run pos pins s σ H _ I h) fun us s1 ⟨vs, H1, I1, r1, q1⟩ => ?_) hs hpl))
  obtain ⟨i, j, k, e, ⟨c0, c1⟩, q⟩ := q1
  subst e
  cases r1 with
  | cons r rr =>
    cases rr with
    | cons r' rr =>
      cases rr with
      | cons r'' rr =>
        cases rr
        obtain ⟨t, rfl⟩ := r
        obtain ⟨t', rfl⟩ := r'
        obtain ⟨t'', rfl⟩ := r''
        exact call_range_3 c0 ⟨_, i, j, k, _, _, _, H1, rfl, IsRange.new _ _ _ _ _ _ _, I1.kept fun b u e => Heap.get?_push_of_some _ e, q⟩ (.inl (PyProof.noPylong_small c1))
theorem vals_rgC {a c : Int} {n : Nat} {acc : Array Value} (h : ItemsOf (fun i v => ∃ t, v = .int (a + i * c) t) acc n) : Vals (rgC a c n) acc.toList := by
  have e : acc.toList.length = n := by rw [Array.length_toList]; exact h.1
  unfold rgC
  rw [← e]
  refine vals_of_get acc.toList _ fun j u hj => ?_
  obtain ⟨t, rfl⟩ := h.2 j u (by rw [← hj, Array.getElem?_toList])
  exact ⟨t, rfl⟩
def tLstRgC (te : L2.St → Hp → (Int → Int → Int → Hp → Prop) → Prop) : TE := fun σ H Q => te σ H fun a b c H1 => ∃ n : Nat, (Builtin.Range.small a b c = true ∧ Builtin.Range.rangeSize a b c = n ∧ n ≤ 2 ^ 24) ∧ ∀ q, H1 q = none → Q (.ref q) (upd H1 q (.lst (rgC a c n)))
theorem pe_listRgC {e : Expr} {te : L2.St → Hp → (Int → Int → Int → Hp → Prop) → Prop} {p pos : Pos} (hc : X.calm = true) (hg : Gl X "list") (hm : X.mg "list" = none) (he : PRgC X e te) (na : starEach [e] X.env = (false, eval e X.env) :: starEach [] X.env := by rfl) : PE X (.Call (.Name "list" p) [e] [] pos) (tLstRgC te) := by
  refine ⟨fun pins s σ H Q I h => ?_⟩
  refine Call_ (ld_blt I hg hm boot_list (PyProof.Rows.callWith_type1 (args_cons (thn (he pins s σ H _ I h) fun x s1 ⟨r, a, b, c, t, u, v, H1, ex, hr, I1, n, ⟨ok1, ok2, ok3⟩, q⟩ => args_nil ?_) na) na))
  subst ex
  refine call_list_range (n := n) (I1.ok.hd hc) hr ok1 ok2 ok3 fun h' tk acc c' hk e' hi => ?_
  refine ⟨.ref s1.heap.objs.size, upd H1 s1.heap.objs.size (.lst (rgC a c n)), I1.laid hk (Nat.le_refl _) (show ObjOk X.prog X.w _ _ _ (.lst (rgC a c n)) from ⟨?_, acc.toList, c', vals_rgC hi, ?_⟩), rfl, q _ (I1.hok.fresh (Nat.le_refl _))⟩
  · unfold rgC
    rw [List.length_map, List.length_range, sizeLine_eq]
    omega
  · rw [Array.toArray_toList]; exact e'
end
theorem el_down {σ : L2.St} {H : Hp} {ta : TA} {i j : Int} (h : EvA ta σ H [.int i, .int j, .int (-1)]) (hi : 0 ≤ i ∧ i ≤ 1000) (hj : -1 ≤ j ∧ j ≤ 1000) : EvL (tLstRgC (tRg3 ta)) σ H (rgC i (-1) (i - j).toNat) := fun H1 e Q q =>
  h H1 e _ fun H2 e2 => ⟨i, j, -1, rfl, ⟨by decide, by decide⟩, (i - j).toNat, ⟨(RgC.neg (by omega) (by omega) (by omega) (by omega)).2.2.1, (RgC.neg (by omega) (by omega) (by omega) (by omega)).2.2.2, by omega⟩, fun l hl => q l _ (fresh_back e2 hl) (e2.trans (Ex.new hl)) upd_same⟩
end Kit

set_option Elab.async false
set_option linter.all false
set_option maxRecDepth 100000
set_option maxHeartbeats 4000000
namespace Kit
open PySem PySem.Spec PyProof.Rows L2 Evl
/-! ### any thing: none, bools, ints, texts, tuples, dicts, lists of data -/
inductive It (K : PySem.W.Frag) (H : Hp) : V → PyData → Prop
  | non : It K H .non .none
  | bl (b : Bool) : It K H (.bl b) (.bool b)
  | int (i : Int) : It K H (.int i) (.int i)
  | str (x : Str) : It K H (.str x) (.str x)
  | lst {a : Addr} {xs : List V} {ds : List PyData} (h : H a = some (.lst xs)) (hd : DpAll K H xs ds) : It K H (.ref a) (.list ds)
theorem It.ex {K : PySem.W.Frag} {H H' : Hp} {v : V} {d : PyData} (e : Ex H H') (h : It K H v d) : It K H' v d := by
  cases h with
  | non => exact .non
  | bl b => exact .bl b
  | int i => exact .int i
  | str x => exact .str x
  | lst h hd => exact .lst (e _ _ h) (DpAll.ex e _ _ hd)
theorem It.dp {K : PySem.W.Frag} {H : Hp} {v : V} {d : PyData} (h : It K H v d) : Dp K H v d := by
  cases h with
  | non => exact .non
  | bl b => exact .bl b
  | int i => exact .int i
  | str x => exact .str x
  | lst h hd => exact .lst (sq_of h) hd
def ItAll (K : PySem.W.Frag) (H : Hp) (vs : List V) (ds : List PyData) : Prop := Paired (It K H) vs ds
theorem ItAll.ex {K : PySem.W.Frag} {H H' : Hp} (e : Ex H H') : ∀ {vs : List V} {ds : List PyData}, ItAll K H vs ds → ItAll K H' vs ds
  | _, _, .nil => .nil
  | _, _, .cons h t => .cons (h.ex e) (ItAll.ex e t)
theorem ItAll.dp {K : PySem.W.Frag} {H : Hp} : ∀ {vs : List V} {ds : List PyData}, ItAll K H vs ds → DpAll K H vs ds
  | _, _, .nil => .nil
  | _, _, .cons h t => .cons h.dp (ItAll.dp t)
theorem ItAll.app {K : PySem.W.Frag} {H : Hp} : ∀ {vs ws : List V} {ds es : List PyData}, ItAll K H vs ds → ItAll K H ws es → ItAll K H (vs ++ ws) (ds ++ es)
  | _, _, _, _, .nil, q => q
  | _, _, _, _, .cons h t, q => .cons h (ItAll.app t q)
theorem ItAll.len {K : PySem.W.Frag} {H : Hp} {vs : List V} {ds : List PyData} (h : ItAll K H vs ds) : vs.length = ds.length := Paired.length h
theorem ita_ints {K : PySem.W.Frag} {H : Hp} : ∀ ns : List Int, ItAll K H (ns.map V.int) (ns.map PyData.int)
  | [] => .nil
  | n :: r => .cons (.int n) (ita_ints r)
def Fine (ds : List PyData) : Prop := ∀ d ∈ ds, d.canLay0 = true ∧ d.depth ≤ 5
theorem fine_nil : Fine [] := fun d h => by cases h
theorem fine_cons {d : PyData} {ds : List PyData} (h : d.canLay0 = true) (h2 : d.depth ≤ 5) (t : Fine ds) : Fine (d :: ds) := fun x hx => by
  rcases List.mem_cons.mp hx with e | e
  · rw [e]
    exact ⟨h, h2⟩
  · exact t x e
theorem fine_app {ds es : List PyData} (h : Fine ds) (h2 : Fine es) : Fine (ds ++ es) := fun x hx => (List.mem_append.mp hx).elim (h x) (h2 x)
theorem fine_ints : ∀ ns : List Int, Fine (ns.map PyData.int)
  | [] => fine_nil
  | n :: r => fine_cons rfl (Nat.zero_le _) (fine_ints r)
theorem Fine.sub {ds es : List PyData} (h : Fine ds) (s : ∀ x ∈ es, x ∈ ds) : Fine es := fun x hx => h x (s x hx)
theorem Fine.shaped {ds : List PyData} (h : Fine ds) : SeqAt.shaped (.list ds) = true := by
  have : PyData.canLayAll0 ds = true ∧ PyData.depthAll ds ≤ 5 := by
    induction ds with
    | nil => exact ⟨rfl, Nat.zero_le _⟩
    | cons d r ih =>
      obtain ⟨a, b⟩ := ih fun x hx => h x (List.mem_cons_of_mem _ hx)
      obtain ⟨c, e⟩ := h d List.mem_cons_self
      refine ⟨by simp [PyData.canLayAll0, a, c], ?_⟩
      simp [PyData.depthAll]
      omega
  simp [SeqAt.shaped, PyData.canLay0, this.1, PyData.depth]
  omega
inductive Th (K : PySem.W.Frag) (H : Hp) : V → Option (List PyData) → Prop
  | non : Th K H .non none
  | bl (b : Bool) : Th K H (.bl b) none
  | int (i : Int) : Th K H (.int i) none
  | str (x : Str) : Th K H (.str x) none
  | tup {a : Addr} {xs : List V} (h : H a = some (.tup xs)) : Th K H (.ref a) none
  | dct {a : Addr} {kvs : List (Key × V)} (h : H a = some (.dK kvs)) : Th K H (.ref a) none
  | lst {a : Addr} {xs : List V} {ds : List PyData} (h : H a = some (.lst xs)) (hd : ItAll K H xs ds) (hf : Fine ds) : Th K H (.ref a) (some ds)
def AT (K : PySem.W.Frag) (H : Hp) (v : V) : Prop := ∃ o, Th K H v o
section
variable {K : PySem.W.Frag} {σ : L2.St} {H H' : Hp} {te ta tb : TE} {t tr : TA}
theorem Th.ex {v : V} {o : Option (List PyData)} (e : Ex H H') (h : Th K H v o) : Th K H' v o := by
  cases h with
  | non => exact .non
  | bl b => exact .bl b
  | int i => exact .int i
  | str x => exact .str x
  | tup h => exact .tup (e _ _ h)
  | dct h => exact .dct (e _ _ h)
  | lst h hd hf => exact .lst (e _ _ h) (hd.ex e) hf
theorem AT.ex {v : V} (e : Ex H H') (h : AT K H v) : AT K H' v := h.imp fun _ x => x.ex e
def EvTh (K : PySem.W.Frag) (te : TE) (σ : L2.St) (H : Hp) : Prop := ∀ H1, Ex H H1 → ∀ Q : VK, (∀ v H2, Ex H1 H2 → AT K H2 v → Q v H2) → te σ H1 Q
def EvThA (K : PySem.W.Frag) (ta : TA) (σ : L2.St) (H : Hp) (n : Nat) : Prop := ∀ H1, Ex H H1 → ∀ Q : List V → Hp → Prop, (∀ vs H2, Ex H1 H2 → vs.length = n → (∀ v ∈ vs, AT K H2 v) → Q vs H2) → ta σ H1 Q
theorem tha_nil : EvThA K tNil σ H 0 := fun H1 _ _ q => q [] H1 (Ex.refl H1) rfl (by simp)
theorem tha_cons {n : Nat} (h : EvTh K te σ H) (hr : EvThA K tr σ H n) : EvThA K (tCons te tr) σ H (n + 1) := fun H1 e _ q =>
  h H1 e _ fun v H2 e2 hv => hr H2 (e.trans e2) _ fun vs H3 e3 hl hvs => q (v :: vs) H3 (e2.trans e3) (by simp [hl]) fun x hx => by
    rcases List.mem_cons.mp hx with z | z
    · rw [z]
      exact hv.ex e3
    · exact hvs x z
theorem th_non (h : Ev te σ H .non) : EvTh K te σ H := fun H1 e Q q => h H1 e Q fun H2 e2 => q _ H2 e2 ⟨_, .non⟩
theorem th_bl {b : Bool} (h : Ev te σ H (.bl b)) : EvTh K te σ H := fun H1 e Q q => h H1 e Q fun H2 e2 => q _ H2 e2 ⟨_, .bl b⟩
theorem th_int {i : Int} (h : Ev te σ H (.int i)) : EvTh K te σ H := fun H1 e Q q => h H1 e Q fun H2 e2 => q _ H2 e2 ⟨_, .int i⟩
theorem th_str {x : Str} (h : Ev te σ H (.str x)) : EvTh K te σ H := fun H1 e Q q => h H1 e Q fun H2 e2 => q _ H2 e2 ⟨_, .str x⟩
theorem th_U {xs : List V} (h : EvU te σ H xs) : EvTh K te σ H := fun H1 e Q q => h H1 e Q fun p H2 _ e2 h2 => q _ H2 e2 ⟨_, .tup h2⟩
theorem th_L {xs : List V} (h : EvL te σ H xs) (hd : ∃ ds, ItAll K H xs ds ∧ Fine ds) : EvTh K te σ H := fun H1 e Q q => h H1 e Q fun p H2 _ e2 h2 => q _ H2 e2 (by
  obtain ⟨ds, d, f⟩ := hd
  exact ⟨_, .lst h2 (d.ex (e.trans e2)) f⟩)
def EvIA (K : PySem.W.Frag) (ta : TA) (σ : L2.St) (H : Hp) (ds : List PyData) : Prop := ∀ H1, Ex H H1 → ∀ Q : List V → Hp → Prop, (∀ vs H2, Ex H1 H2 → ItAll K H2 vs ds → Q vs H2) → ta σ H1 Q
def EvI (K : PySem.W.Frag) (te : TE) (σ : L2.St) (H : Hp) (d : PyData) : Prop := ∀ H1, Ex H H1 → ∀ Q : VK, (∀ v H2, Ex H1 H2 → It K H2 v d → Q v H2) → te σ H1 Q
theorem ia_nil : EvIA K tNil σ H [] := fun H1 _ _ q => q [] H1 (Ex.refl H1) .nil
theorem ia_cons {d : PyData} {ds : List PyData} (h : EvI K te σ H d) (hr : EvIA K tr σ H ds) : EvIA K (tCons te tr) σ H (d :: ds) := fun H1 e _ q =>
  h H1 e _ fun v H2 e2 dv => hr H2 (e.trans e2) _ fun vs H3 e3 dvs => q (v :: vs) H3 (e2.trans e3) (.cons (dv.ex e3) dvs)
theorem it_of {v : V} {d : PyData} (h : Ev te σ H v) (k : It K H v d) : EvI K te σ H d := fun H1 e Q q => h H1 e Q fun H2 e2 => q v H2 e2 (k.ex (e.trans e2))
theorem it_D {ds : List PyData} (h : EvDA K t σ H ds) (hl : ds.length ≤ 100000) : EvI K (tLst t) σ H (.list ds) := fun H1 e Q q =>
  h H1 e _ fun vs H2 e2 dv => ⟨sz_of (by rw [DpAll.len dv]; exact hl), fun p hp => q _ _ (e2.trans (Ex.new hp)) (.lst upd_same (DpAll.ex (Ex.new hp) ds vs dv))⟩
theorem th_D {ds : List PyData} (h : EvIA K t σ H ds) (hf : Fine ds) (hl : ds.length ≤ 100000) : EvTh K (tLst t) σ H := fun H1 e Q q =>
  h H1 e _ fun vs H2 e2 dv => ⟨sz_of (by rw [dv.len]; exact hl), fun p hp => q _ _ (e2.trans (Ex.new hp)) ⟨_, .lst upd_same (dv.ex (Ex.new hp)) hf⟩⟩
theorem th_var {i : Nat} {v : V} (h : σ[i]? = some (some v)) (hv : AT K H v) : EvTh K (tVar i) σ H := fun H1 e Q q => ⟨v, h, q v H1 (Ex.refl _) (hv.ex e)⟩
theorem th_dnew : EvTh K tDNewK σ H := fun H1 e Q q p hp => q _ _ (Ex.new hp) ⟨_, .dct upd_same⟩
theorem th_disp {x : Str} {i : Int} : EvTh K (tDisp [(tC (.str x), tC (.int i))]) σ H := fun H1 e Q q p hp =>
  ⟨upd_same, [(.inr x, .int i)], rfl, Nat.le_of_ble_eq_true rfl, q _ _ (Ex.mut (Ex.new hp) hp) ⟨_, .dct upd_same⟩⟩
/-- [.., ..] of things: a new list -/
def EvTL (K : PySem.W.Frag) (te : TE) (σ : L2.St) (H : Hp) (n : Nat) : Prop := ∀ H1, Ex H H1 → ∀ Q : VK, (∀ p vs H2, H1 p = none → Ex H1 H2 → H2 p = some (.lst vs) → vs.length = n → (∀ v ∈ vs, AT K H2 v) → Q (.ref p) H2) → te σ H1 Q
theorem tl_lst {n : Nat} (h : EvThA K t σ H n) (hn : n ≤ 100000) : EvTL K (tLst t) σ H n := fun H1 e Q q =>
  h H1 e _ fun vs H2 e2 hl hv => ⟨sz_of (by omega), fun p hp => q p vs _ (fresh_back e2 hp) (e2.trans (Ex.new hp)) upd_same hl fun v z => (hv v z).ex (Ex.new hp)⟩
theorem tl_cat {a : Addr} {xs : List V} {n : Nat} (h : Ev ta σ H (.ref a)) (ha : H a = some (.lst xs)) (hx : ∀ v ∈ xs, AT K H v) (h2 : EvTL K tb σ H n) (hz : xs.length + n ≤ 1000) : EvTL K (tOp rCat ta tb) σ H (xs.length + n) := fun H1 e Q q =>
  h H1 e _ fun H2 e2 => h2 H2 (e.trans e2) _ fun p vs H3 _ e3 h3 hl hv =>
    ⟨a, p, xs, vs, rfl, rfl, e3 a _ (e2 a _ (e a _ ha)), h3, sz_of (by omega), fun l hl' => q l _ _ (fresh_back (e2.trans e3) hl') ((e2.trans e3).trans (Ex.new hl')) upd_same (by rw [List.length_append, hl]) fun v z => by
      rcases List.mem_append.mp z with z | z
      · exact (hx v z).ex (e.trans (e2.trans (e3.trans (Ex.new hl'))))
      · exact (hv v z).ex (Ex.new hl')⟩
/-- x + ys, x an old list -/
theorem el_catO {a : Addr} {xs ys : List V} (h : Ev ta σ H (.ref a)) (ha : H a = some (.lst xs)) (h2 : EvL tb σ H ys) (hz : xs.length + ys.length ≤ 1000) : EvL (tOp rCat ta tb) σ H (xs ++ ys) := fun H1 e Q q =>
  h H1 e _ fun H2 e2 => h2 H2 (e.trans e2) _ fun p H3 _ e3 h3 =>
    ⟨a, p, xs, ys, rfl, rfl, e3 a _ (e2 a _ (e a _ ha)), h3, sz_of (by omega), fun l hl' => q l _ (fresh_back (e2.trans e3) hl') ((e2.trans e3).trans (Ex.new hl')) upd_same⟩
end
/-! ### the type of any thing -/
def kTyp2 (x : V) (H : Hp) (Q : VK) : Prop := ∃ n, (zTyV x H = some n ∨ (n = "dict" ∧ ∃ a kvs, x = .ref a ∧ H a = some (.dK kvs))) ∧ Q (.ty n) H
def rNeTyG : R2 := fun x y H Q => ∃ m n, x = .ty m ∧ y = .ty n ∧ Meta m ∧ Meta n ∧ Q (.bl (!decide (m = n))) H
section
variable {X : Cx} {ta : TE} {a : Expr}
theorem rl_type2 (pins : List (Addr × Obj)) (st : Shared) (σ : L2.St) (H : Hp) (x : V) (u : Value) (Q : VK) (J : Inv X pins σ H st) (r : RelV x u) (h : kTyp2 x H Q) :
    wpAny (model X.prog X.w) X.A (call (.type "type") [u]) (EP X pins σ Q) X.xe st := by
  obtain ⟨n, e | ⟨rfl, a, kvs, rfl, ha⟩, q⟩ := h
  · exact rl_type pins st σ H x u Q J r ⟨n, e, q⟩
  · cases (show u = Value.ref a from r)
    obtain ⟨_, _, vs, _, o, es, ep, h1, h2, _⟩ := (show ObjOk X.prog X.w H st.heap a (.dK kvs) from J.hok a _ ha)
    exact call_type_of (Tx := "dict") ⟨o, h1, h2.1⟩ (by decide +kernel) ⟨.ty "dict", H, J, rfl, q⟩
theorem pe_typeOf2 {p pos : Pos} (hg : Gl X "type") (hm : X.mg "type" = none) (ha : PE X a ta) (na : starEach [a] X.env = (false, eval a X.env) :: starEach [] X.env := by rfl) :
    PE X (.Call (.Name "type" p) [a] [] pos) (tThenZ ta kTyp2) := pe_callTy (call_r1 rl_type2) hg hm (by decide +kernel) (pa_cons ha pa_nil na) (he := na)
theorem op_neTyG (hu : X.A.units + 1 < cLine) : OpR X (compareOp .NotEq) rNeTyG := by
  intro pins st σ H x y v u Q J rx ry h
  obtain ⟨m, n, rfl, rfl, hm, hn, q⟩ := h
  cases (show v = Value.type m from rx)
  cases (show u = Value.type n from ry)
  by_cases e : m = n
  · subst e
    exact ne_type_same hm hu ⟨.bl false, H, J, rfl, by simpa using q⟩
  · exact ne_type_other hm hn (by rw [beq_eq_false_iff_ne]; exact fun z => e (Value.type.inj z)) hu ⟨.bl true, H, J, rfl, by simpa [e] using q⟩
end
section
variable {K : PySem.W.Frag} {σ : L2.St} {H : Hp} {ta tb : TE}
/-- the name of a thing's type -/
theorem th_type {v : V} {o : Option (List PyData)} (h : Th K H v o) : ∃ n, (zTyV v H = some n ∨ (n = "dict" ∧ ∃ a kvs, v = .ref a ∧ H a = some (.dK kvs))) ∧ Meta n ∧ (n = "list" ↔ o.isSome = true) := by
  cases h with
  | non => exact ⟨"NoneType", .inl rfl, PySem.TypeEq.meta_NoneType, by simp⟩
  | bl b => exact ⟨"bool", .inl rfl, PySem.TypeEq.meta_bool, by simp⟩
  | int i => exact ⟨"int", .inl rfl, PySem.TypeEq.meta_int, by simp⟩
  | str x => exact ⟨"str", .inl rfl, PySem.TypeEq.meta_str, by simp⟩
  | tup h => exact ⟨"tuple", .inl (by simp [zTyV, h]), PySem.TypeEq.meta_tuple, by simp⟩
  | dct h => exact ⟨"dict", .inr ⟨rfl, _, _, rfl, h⟩, PySem.TypeEq.meta_dict, by simp⟩
  | lst h _ _ => exact ⟨"list", .inl (by simp [zTyV, h]), PySem.TypeEq.meta_list, by simp⟩
/-- type(v) != list -/
theorem ev_noList {v : V} {o : Option (List PyData)} (h : Ev ta σ H v) (hv : Th K H v o) : Ev (tOp rNeTyG (tThenZ ta kTyp2) (tC (.ty "list"))) σ H (.bl (!o.isSome)) := fun H1 e Q q => h H1 e _ fun H2 e2 => by
  obtain ⟨n, hn, mt, iff⟩ := th_type (hv.ex (e.trans e2))
  refine ⟨n, hn, n, "list", rfl, rfl, mt, PySem.TypeEq.meta_list, ?_⟩
  have : decide (n = "list") = o.isSome := by
    rw [Bool.eq_iff_iff, decide_eq_true_iff]
    exact iff
  rw [this]
  exact q H2 e2
theorem th_is {v : V} {o : Option (List PyData)} (h : Th K H v o) : ∃ n, TyX K H v (.type n) ∧ PySem.W.kitOne K (.type n) (.type "list") = some o.isSome := by
  cases h with
  | non => exact ⟨_, .base .non, rfl⟩
  | bl b => exact ⟨_, .base (.bl b), rfl⟩
  | int i => exact ⟨_, .base (.int i), rfl⟩
  | str x => exact ⟨_, .base (.str x), rfl⟩
  | tup h => exact ⟨_, .base (.tup h), rfl⟩
  | dct h => exact ⟨_, .base (.dK h), rfl⟩
  | lst h _ _ => exact ⟨_, .base (.lst h), rfl⟩
/-- isinstance(v, list) -/
theorem ev_isList {v : V} {o : Option (List PyData)} (h : Ev ta σ H v) (hv : Th K H v o) : Ev (tCB (rIsi K) (tCons ta (tCons (tC (.ty "list")) tNil))) σ H (.bl o.isSome) := fun H1 e Q q => h H1 e _ fun H2 e2 => by
  obtain ⟨n, ht, hk⟩ := th_is (hv.ex (e.trans e2))
  exact ⟨v, .ty "list", .type n, .type "list", o.isSome, rfl, .ty "list", ht, hk, q H2 e2⟩
def isI : PyData → Bool
  | .int _ => true
  | _ => false
theorem it_type {v : V} {d : PyData} (h : It K H v d) : ∃ n, zTyV v H = some n ∧ Meta n ∧ decide (n = "int") = isI d := by
  cases h with
  | non => exact ⟨"NoneType", rfl, PySem.TypeEq.meta_NoneType, by simp [isI]⟩
  | bl b => exact ⟨"bool", rfl, PySem.TypeEq.meta_bool, by simp [isI]⟩
  | int i => exact ⟨"int", rfl, PySem.TypeEq.meta_int, by simp [isI]⟩
  | str x => exact ⟨"str", rfl, PySem.TypeEq.meta_str, by simp [isI]⟩
  | lst h _ => exact ⟨"list", by simp [zTyV, h], PySem.TypeEq.meta_list, by simp [isI]⟩
/-- type(v) == int -/
theorem ev_isWhole {v : V} {d : PyData} (h : Ev ta σ H v) (hv : It K H v d) : Ev (tOp rEqTy (tThenZ ta kTyp) (tC (.ty "int"))) σ H (.bl (isI d)) := fun H1 e Q q => h H1 e _ fun H2 e2 => by
  obtain ⟨n, hn, mt, iff⟩ := it_type (hv.ex (e.trans e2))
  refine ⟨n, hn, n, "int", rfl, rfl, mt, PySem.TypeEq.meta_int, ?_⟩
  rw [iff]
  exact q H2 e2
def isB : PyData → Bool
  | .bool _ => true
  | _ => false
theorem it_isB {v : V} {d : PyData} (h : It K H v d) : ∃ n, TyX K H v (.type n) ∧ PySem.W.kitOne K (.type n) (.type "bool") = some (isB d) := by
  cases h with
  | non => exact ⟨_, .base .non, rfl⟩
  | bl b => exact ⟨_, .base (.bl b), rfl⟩
  | int i => exact ⟨_, .base (.int i), rfl⟩
  | str x => exact ⟨_, .base (.str x), rfl⟩
  | lst h _ => exact ⟨_, .base (.lst h), rfl⟩
theorem it_isI {v : V} {d : PyData} (h : It K H v d) : ∃ n, TyX K H v (.type n) ∧ PySem.W.kitOne K (.type n) (.type "int") = some (isI d || isB d) := by
  cases h with
  | non => exact ⟨_, .base .non, rfl⟩
  | bl b => exact ⟨_, .base (.bl b), rfl⟩
  | int i => exact ⟨_, .base (.int i), rfl⟩
  | str x => exact ⟨_, .base (.str x), rfl⟩
  | lst h _ => exact ⟨_, .base (.lst h), rfl⟩
/-- isinstance(v, bool) or not isinstance(v, int) -/
theorem et_noInt {v : V} {d : PyData} (h : Ev ta σ H v) (hv : It K H v d) : EvT (tOr (tB (tCB (rIsi K) (tCons ta (tCons (tC (.ty "bool")) tNil)))) (tNot (tB (tCB (rIsi K) (tCons ta (tCons (tC (.ty "int")) tNil)))))) σ H (!isI d) := by
  have one : Ev (tCB (rIsi K) (tCons ta (tCons (tC (.ty "bool")) tNil))) σ H (.bl (isB d)) := fun H1 e Q q => h H1 e _ fun H2 e2 => by
    obtain ⟨n, ht, hb⟩ := it_isB (hv.ex (e.trans e2))
    exact ⟨v, .ty "bool", _, .type "bool", _, rfl, .ty "bool", ht, hb, q H2 e2⟩
  have two : Ev (tCB (rIsi K) (tCons ta (tCons (tC (.ty "int")) tNil))) σ H (.bl (isI d || isB d)) := fun H1 e Q q => h H1 e _ fun H2 e2 => by
    obtain ⟨n, ht, hb⟩ := it_isI (hv.ex (e.trans e2))
    exact ⟨v, .ty "int", _, .type "int", _, rfl, .ty "int", ht, hb, q H2 e2⟩
  refine et_is (et_or (et_B one) fun _ => et_not (et_B two)) ?_
  cases d <;> rfl
end
/-! tuple(range(a, b, c)) -/
def tTupRgC (te : L2.St → Hp → (Int → Int → Int → Hp → Prop) → Prop) : TE := fun σ H Q => te σ H fun a b c H1 => ∃ n : Nat, (Builtin.Range.small a b c = true ∧ Builtin.Range.rangeSize a b c = n ∧ n ≤ 2 ^ 24) ∧ ∀ q, H1 q = none → Q (.ref q) (upd H1 q (.tup (rgC a c n)))
theorem pe_tupRgC {X : Cx} {e : Expr} {te : L2.St → Hp → (Int → Int → Int → Hp → Prop) → Prop} {p pos : Pos} (calm : X.calm = true) (hg : Gl X "tuple") (hm : X.mg "tuple" = none) (he : PRgC X e te) (na : starEach [e] X.env = (false, eval e X.env) :: starEach [] X.env := by rfl) : PE X (.Call (.Name "tuple" p) [e] [] pos) (tTupRgC te) := by
  refine ⟨fun pins st σ H Q J h => ?_⟩
  refine Call_ (ld_blt J hg hm boot_tuple (PyProof.Rows.callWith_type1 (args_cons (thn (he pins st σ H _ J h) fun x s1 ⟨r, a, b, c, t, u, v, H1, ex, hr, J1, n, ⟨o1, o2, o3⟩, q⟩ => args_nil ?_) na) na))
  subst ex
  refine call_tuple_range (n := n) (J1.ok.hd calm) hr o1 o2 o3 fun h' tk acc keep its => ?_
  have J2 : Inv X pins σ H1 { s1 with heap := h', toks := tk } := J1.kept keep
  refine ⟨.ref h'.objs.size, upd H1 h'.objs.size (.tup (rgC a c n)), J2.laid (t' := tk) (fun z o e => Heap.get?_push_of_some _ e) (Nat.le_refl _) (show ObjOk X.prog X.w _ _ _ (.tup (rgC a c n)) from ⟨?_, acc.toList, vals_rgC its, ?_⟩), rfl, q _ (J2.hok.fresh (Nat.le_refl _))⟩
  · unfold rgC
    rw [List.length_map, List.length_range, sizeLine_eq]
    omega
  · rw [Array.toArray_toList]
    exact IsTup.new _ _
theorem eu_down {σ : L2.St} {H : Hp} {ta : TA} {i j : Int} (h : EvA ta σ H [.int i, .int j, .int (-1)]) (hi : 0 ≤ i ∧ i ≤ 1000) (hj : -1 ≤ j ∧ j ≤ 1000) : EvU (tTupRgC (tRg3 ta)) σ H (rgC i (-1) (i - j).toNat) := fun H1 e Q q =>
  h H1 e _ fun H2 e2 => ⟨i, j, -1, rfl, ⟨by decide, by decide⟩, (i - j).toNat, ⟨(RgC.neg (by omega) (by omega) (by omega) (by omega)).2.2.1, (RgC.neg (by omega) (by omega) (by omega) (by omega)).2.2.2, by omega⟩, fun l hl => q l _ (fresh_back e2 hl) (e2.trans (Ex.new hl)) upd_same⟩
/-! xs.index(x) where the written part must be said -/
theorem pe_indexK {X : Cx} {K : PySem.W.Frag} {o e : Expr} {to te : TE} {apos cpos : Pos} (hK : X.K = K) (ho : PE X o to) (he : PE X e te) (b : attributeBase o "index" X.env (eval o X.env) = eval o X.env := by rfl)
    (few : ((backTo cpos (starEach [e] X.env)).all (fun x => !x.1) && (backToKw cpos (keywordEach [] X.env)).all (fun x => x.1.isSome) && decide ([e].length + ([] : List Keyword).length + (if ([] : List Keyword).isEmpty then 0 else 1) < 30)) = true := by rfl)
    (line : (apos.endLine == cpos.line) = true := by rfl) (st : starEach [e] X.env = (false, eval e X.env) :: starEach [] X.env := by rfl) (pl : (backTo cpos (starEach [] X.env)).any (·.1) = false := by rfl) :
    PE X (.Call (.Attribute o "index" apos) [e] [] cpos) (tBM K "list" (rIndex K) to (tCons te tNil)) := by
  subst hK
  exact pe_bm PySem.F.plainAttrs_list PySem.F.slot_list_index PySem.F.type_list_index mt_index ho (pa_cons he pa_nil st) b few line st pl
theorem pe_revLK {X : Cx} {K : PySem.W.Frag} {e : Expr} {te : TE} {k : Nat} {p1 p2 p3 pos : Pos} (hK : X.K = K) (he : PE X e te) : PE X (.Subscript e (.Slice none none (some (.UnaryOp .USub (.Constant (.int 1) k p1) p2)) p3) pos) (tRevL K te) := by
  subst hK
  exact pe_revL he
end Kit

set_option Elab.async false
set_option linter.all false
set_option maxRecDepth 100000
set_option maxHeartbeats 4000000
namespace Kit
open PySem PySem.Spec PyProof.Rows L2 Evl
/-! ### defs that may raise -/
section
variable {P : Program} {w : World} {K : PySem.W.Frag} {mg : Str → Option Value} {base : Heap}
theorem okN {x qual : Str} {d : Stmt} {f : Addr} {fd : FuncData} {N names : List Str} {n : Nat} {want : Sp} (F : Fun K x qual d f fd) (S : FnScope N names (defScope d)) (many : ∀ xs H Q E, want xs H Q E → xs.length = names.length)
    (body : ∀ (cv : Value) (A : Around) (frames : List Env) (st : Shared) (H : Hp) (xs : List V) (Q : VK) (E : XK), Room n (A.deeper (envOfC qual (defScope d) st.heap.objs.size f cv)) → want xs H Q E →
      ∃ t, PSs (cxOf (L2N.CX P w) P w K mg base N qual (defScope d) f cv A frames st H E) (defBody d) t ∧ t { nx := fun _ H' => Q .non H', rt := Q } (start N xs) H) : FnOk P w K mg base (L2N.CX P w) (n + 1) f fd names want := by
  obtain ⟨oc, od, kV, doc, pm, an, cdv, ct, osl, rfl, lk, hcd⟩ := F.ex
  exact fn_of lk hcd S many fun A outer s H vs Q E hr hsp => body cdv A outer s H vs Q E hr hsp
theorem passN {N : List Str} {qual : Str} {sc : Scope} {f : Addr} {cv : Value} {A : Around} {frames : List Env} {st : Shared} {H : Hp} {E : XK} :
    Passes (L2N.CX P w) (cxOf (L2N.CX P w) P w K mg base N qual sc f cv A frames st H E) E := L2N.passes_call (W := fun cls d _ H => E cls d H) (L2N.takes_of rfl rfl rfl rfl) fun _ _ _ _ h => h
theorem passE0 {X : Cx} : Passes (L2N.CX X.prog X.w) X E0 := fun _ _ _ _ _ _ _ h => by
  obtain ⟨_, _, _, _, _, _, _, _, _, _, _, _, z⟩ := h
  exact z.elim
theorem takesN {N : List Str} {qual : Str} {sc : Scope} {f : Addr} {cv : Value} {A : Around} {frames : List Env} {st : Shared} {H : Hp} {E : XK} :
    L2N.Takes (cxOf (L2N.CX P w) P w K mg base N qual sc f cv A frames st H E) (fun cls d _ H => E cls d H) := L2N.takes_of rfl rfl rfl rfl
end
theorem takes0N {X : Cx} : L2N.Takes X.nox (fun _ _ _ _ => False) := fun _ _ x => by
  obtain ⟨_, _, _, _, _, _, _, _, _, _, _, _, _, _, _, _, z⟩ := x
  exact z.elim
/-! ### exceptions made: X(e) -/
theorem pmk1N {X : Cx} {C : Addr} {bmB : List Value} {B newId initId : String} {x : Str} {e : Expr} {ta : TE} {p pos : Pos} (F : ExcBaseFacts B newId initId bmB) (q : PySem.W.excIn X.K C bmB newId = true) (gC : X.mg x = some (.ref C)) (kC : PySem.W.keepIn X.K (.ref C) = true) (r : Raises X (.ref C)) (hg : Gl X x)
    (he : PE X e ta) (hs : starEach [e] X.env = (false, eval e X.env) :: starEach [] X.env := by rfl) (hdb : (x == ("__debug__" : Str)) = false := by decide) :
    L2N.PMk X (.Call (.Name x p) [e] [] pos) (fun σ H Q => ta σ H fun _ H1 => Q (.ref C) none H1) := by
  intro pins st σ H Q J h
  refine wpAny_Call_Name_kw (ld_glob J hg gC (PySem.W.callWith_K (h₀ := X.base) J.ok.mod.kin kC ?_ hs (by rfl)) hdb)
  rw [hs]
  show wpAny _ _ (spliced ((false, eval e X.env) :: backTo pos (starEach [] X.env))) _ _ st
  refine Calls.spliced_cons (thn (he.run pins st σ H _ J h) fun u st1 ⟨v, H1, J1, rv, want⟩ => Calls.spliced_nil ⟨J1.kIn, ?_⟩)
  show wpAny _ _ (call (.ref C) [u]) _ _ _
  obtain ⟨_, _, _, _, _, _, _, _, _, _, _, _, _, _, _, _, _, cls, ns, no, tail⟩ := exc_obj J1.kIn q
  exact wpAny_call_exc_subT F tail cls ns no (fun h2 a made => L2N.mk_of J1 made r want (J1.hok.gone made.new)) (by show 1 ≤ sizeLine; rw [sizeLine_eq]; omega)
/-- what an own class of errors must be -/
def excB (K : PySem.W.Frag) (C : Addr) : Bool := PySem.W.excIn K C [.type "ValueError", .type "Exception", .type "BaseException", .type "object"] "ValueError.__new__" && (PySem.W.keepIn K (.ref C) &&
  (decide (PySem.W.subIn K (.ref C) (.type "BaseException") = some true) && (decide (PySem.W.typeIn K (.ref C) = some (.type "type")) &&
  (decide (PySem.W.findIn K (.ref C) "__getattribute__" = some (some (.builtin "BaseException.__getattribute__"))) && (decide (PySem.W.findIn K (.ref C) "__getattr__" = some none) &&
  (PySem.W.hasDictIn K C && (decide (PySem.W.findIn K (.ref C) "__class__" = some (some (.builtin "object.__class__"))) && (decide (PySem.W.specialIn K (.builtin "object.__class__") "__get__" = some (some (.builtin "getset_descriptor.__get__"))) &&
  (decide (PySem.W.takesIn K (.builtin "object.__class__") = some true) && decide (PySem.W.mroIn K C (.type "object") = some true))))))))))
structure ExcD (K : PySem.W.Frag) (C : Addr) : Prop where
  ein : PySem.W.excIn K C [.type "ValueError", .type "Exception", .type "BaseException", .type "object"] "ValueError.__new__" = true
  kp : PySem.W.keepIn K (.ref C) = true
  sb : PySem.W.subIn K (.ref C) (.type "BaseException") = some true
  ty : PySem.W.typeIn K (.ref C) = some (.type "type")
  is : ExcC K C
theorem excD_of {K : PySem.W.Frag} {C : Addr} (h : excB K C = true) : ExcD K C := by
  obtain ⟨h1, h⟩ := Bool.and_eq_true_iff.mp h
  obtain ⟨h2, h⟩ := Bool.and_eq_true_iff.mp h
  obtain ⟨h3, h⟩ := Bool.and_eq_true_iff.mp h
  obtain ⟨h4, h⟩ := Bool.and_eq_true_iff.mp h
  obtain ⟨h5, h⟩ := Bool.and_eq_true_iff.mp h
  obtain ⟨h6, h⟩ := Bool.and_eq_true_iff.mp h
  obtain ⟨h7, h⟩ := Bool.and_eq_true_iff.mp h
  obtain ⟨h8, h⟩ := Bool.and_eq_true_iff.mp h
  obtain ⟨h9, h⟩ := Bool.and_eq_true_iff.mp h
  obtain ⟨h10, h11⟩ := Bool.and_eq_true_iff.mp h
  exact ⟨h1, h2, of_decide_eq_true h3, of_decide_eq_true h4, ⟨of_decide_eq_true h5, of_decide_eq_true h6, of_decide_eq_true h3, h7, of_decide_eq_true h8, of_decide_eq_true h9, of_decide_eq_true h10, of_decide_eq_true h11⟩⟩
/-- what isinstance says of an error of the class C, class by class -/
def isRow (K : PySem.W.Frag) (C : Addr) (l : List (Value × Bool)) : Bool := l.all fun x => decide (PySem.W.kitOne K (.ref C) x.1 = some x.2)
theorem isRow_at {K : PySem.W.Frag} {C : Addr} {l : List (Value × Bool)} (h : isRow K C l = true) {v : Value} {b : Bool} (m : (v, b) ∈ l) : PySem.W.kitOne K (.ref C) v = some b := of_decide_eq_true (List.all_eq_true.mp h _ m)
/-- raise X(e) -/
theorem ps_raiseN {X : Cx} {C : Addr} {W : WX} {x : Str} {e : Expr} {ta : TE} {p pos pos2 : Pos} (hc : X.calm = true) (tk : L2N.Takes X W) (D : ExcD X.K C) (gC : X.mg x = some (.ref C)) (hg : Gl X x)
    (he : PE X e ta) (hs : starEach [e] X.env = (false, eval e X.env) :: starEach [] X.env := by rfl) (hdb : (x == ("__debug__" : Str)) = false := by decide) :
    PS X (.Raise (some (.Call (.Name x p) [e] [] pos)) none pos2) (fun _ σ H => ta σ H fun _ H1 => W (.ref C) none σ H1) :=
  L2N.ps_raise hc tk (pmk1N PySem.F.excBase_ValueError D.ein gC D.kp (raises_own D.sb D.ty) hg he hs hdb)
/-! ### calls within the suite, the exception handed on -/
structure FnP (P : Program) (w : World) (K : PySem.W.Frag) (mg : Str → Option Value) (base : Heap) (CX : CXT) (k : Nat) (f : Addr) (fd : FuncData) (ps : List Str) (sp : Addr → Value → Option Addr → Sp) : Prop where
  len : ∀ a cls d vs H Q E, sp a cls d vs H Q E → vs.length = ps.length
  run : ∀ (A : Around) (outer : List Env) (s : Shared) (H : Hp) (args : Args) (us : List Value) (vs : List V) (Q : VK) (E : XK) (p : Addr × Obj) (cls : Value) (d : Option Addr), L2H.RoomH k A → L2H.Hot1 A p → Zc cls d p.2 → L2H.PinOk outer H s p → Env0 P w K mg base A outer s H → BindsTo s fd args (ps.zip us) → Vals vs us → sp p.1 cls d vs H Q E →
    codeAny (model P w) A (.call (.ref f) args) (CR CX outer P w H s Q E) s
theorem okP {CX : CXT} {P : Program} {w : World} {K : PySem.W.Frag} {mg : Str → Option Value} {base : Heap} {k : Nat} {f : Addr} {x qual : Str} {d : Stmt} {fd : FuncData} {N ps : List Str} {sp : Addr → Value → Option Addr → Sp} (F : Fun K x qual d f fd) (S : FnScope N ps (defScope d))
    (len : ∀ a cls d vs H Q E, sp a cls d vs H Q E → vs.length = ps.length)
    (hbody : ∀ (cdv : Value) (A : Around) (outer : List Env) (s : Shared) (H : Hp) (vs : List V) (Q : VK) (E : XK) (p : Addr × Obj) (cls : Value) (dd : Option Addr), L2H.Hot1 A p → Zc cls dd p.2 → L2H.RoomH k (A.deeper (envOfC qual (defScope d) s.heap.objs.size f cdv)) → sp p.1 cls dd vs H Q E →
      ∃ t, PSs (L2H.cxH CX P w K mg base N qual (defScope d) f cdv A outer s H E p) (defBody d) t ∧ t { nx := fun _ H' => Q .non H', rt := Q } (L2.start N vs) H) :
    FnP P w K mg base CX (k + 1) f fd ps sp := by
  obtain ⟨oc, od, kV, doc, pm, an, cdv, ct, osl, rfl, lk, hcd⟩ := F.ex
  refine ⟨len, fun A outer s H args us vs Q E p cls dd hr hot hz hpin e0 hb r hsp => ?_⟩
  have size := len _ _ _ _ _ _ _ hsp
  have inK : K.In s.heap := e0.mod.kin.keeps fun b o q => (e0.bs b o q).1
  have noLim : s.heap.NoLimit := e0.mod.nolimit.keeps fun b o q => (e0.bs b o q).1
  have kinds : ∀ y ∈ ps.zip us, (defScope d).names.lookup y.1 = some .local ∨ ((defScope d).names.lookup y.1 = some .cell ∧ ((cellsFrom (s.heap.objs.size + 1) (defScope d).names []).lookup y.1).isSome = true) := by
    rintro ⟨a, b⟩ hy
    exact (S.par a (List.of_mem_zip hy).1).elim .inl fun q => .inr ⟨q, PySem.W.cellsFrom_some _ _ _ (.inl q)⟩
  refine codeAny_call_function hr.depth (inK _ _ lk) rfl S.co S.gen rfl (PySem.W.codeRec_of inK hcd) (hb _ _ _ _ (wpAny_newFunctionEnv_cells S.kind kinds fun env eq st1 made => ?_))
  cases eq
  refine ⟨noLim.keeps made.toInCall.keep, codeAny_func ?_⟩
  obtain ⟨t, rule, done⟩ := hbody cdv A outer s H vs Q E p cls dd hot hz (hr.deeper _) hsp
  have J : Inv (L2H.cxH CX P w K mg base N qual (defScope d) f cdv A outer s H E p) [] (L2.start N vs) H st1 := L2H.inv_startH S hpin e0 size r made
  have back : ∀ {σ' : L2.St} {H' : Hp} {v : V} {u : Value} {st2 : Shared}, Inv (L2H.cxH CX P w K mg base N qual (defScope d) f cdv A outer s H E p) [] σ' H' st2 → RelV v u → Q v H' → CE outer P w H s Q u st2 := fun J2 rv q => ⟨_, _, J2.os, J2.bare, J2.base, J2.hok, rv, q⟩
  refine wpAny_mono (rule.run [] st1 (L2.start N vs) H _ J done) (fun z st2 hs => ?_) fun _ _ hs => hs
  match z, hs with
  | .ret u, ⟨v, σ2, H2, J2, rv, q⟩ => exact back J2 rv q
  | .next, ⟨σ2, H2, J2, q⟩ => exact back (v := V.non) (u := Value.none) J2 rfl q
  | .brk, ⟨_, _, _, q⟩ => exact False.elim q
  | .cont, ⟨_, _, _, q⟩ => exact False.elim q
def tCallP (sp : Addr → Value → Option Addr → Sp) (a : Addr) (cls : Value) (d : Option Addr) (t : TA) : TE := fun σ H Q => t σ H fun vs H1 => sp a cls d vs H1 Q E0
/-- f(e, ..) in the suite of the exception p -/
theorem pe_callP {X : Cx} {k : Nat} {f : Addr} {fd : FuncData} {ps : List Str} {sp : Addr → Value → Option Addr → Sp} {x : Str} {q pos : Pos} {e : Expr} {es : List Expr} {t : TA} {p : Addr × Obj} {cls : Value} {d : Option Addr} (F : FnP X.prog X.w X.K X.mg X.base CX0 k f fd ps sp) (room : L2H.RoomH k X.A) (hot : L2H.Hot1 X.A p) (hz : Zc cls d p.2) (hp : p ∈ X.pn)
    (gl : Gl X x) (at_ : X.mg x = some (.ref f)) (keep : PySem.W.keepIn X.K (.ref f) = true) (bind : Binds X.K fd ps []) (ha : PA X (e :: es) t) (nd : (x == ("__debug__" : Str)) = false := by decide)
    (one : starEach (e :: es) X.env = (false, eval e X.env) :: starEach es X.env := by rfl) (plain : (backTo pos (starEach es X.env)).any (·.1) = false := by rfl) : PE X (.Call (.Name x q) (e :: es) [] pos) (tCallP sp p.1 cls d t) := by
  refine ⟨fun pins st σ H Q J h => wpAny_Call_Name_kw (ld_glob J gl at_ ?_ nd)⟩
  refine PySem.W.callWith_K (h₀ := X.base) J.ok.mod.kin keep (thn (ha.run pos pins st σ H _ J h) fun us st1 ⟨vs, H1, J1, r, want⟩ => ⟨J1.kIn, ?_⟩) one plain
  have size : us.length = ps.length := r.length.symm.trans (F.len _ _ _ _ _ _ _ want)
  have bd := bind st1 us J1.kIn (by rw [List.append_nil]; exact size)
  rw [List.append_nil] at bd
  have P1 := J1.pin p (List.mem_append_left _ hp)
  have pin : L2H.PinOk X.stack H1 st1 p := ⟨P1.1, P1.2.1, fun hm => (List.mem_cons.mp (J1.stkSub p.1 hm)).elim P1.2.2.1 P1.2.2.2.1, P1.2.2.2.2⟩
  refine wpAny_call (codeAny_mono (F.run X.A X.stack st1 H1 ⟨us, []⟩ us vs Q E0 p cls d room hot hz pin J1.env0 bd r want) fun res st2 hq => ?_)
  match res, hq with
  | .error _, hq => exact False.elim hq
  | .ok (.ret _), hq => exact J1.after hq
  | .ok .next, hq => exact False.elim hq
  | .ok .brk, hq => exact False.elim hq
  | .ok .cont, hq => exact False.elim hq
theorem hot_suite {A : Around} {a : Addr} {oe : Obj} {cls : Value} {d : Option Addr} (hz : L2N.Zn cls d oe) (hf : ∃ vs, oe.data = .fields vs) : L2H.Hot1 (A.mark (some (.ref a))) (a, oe) :=
  ⟨rfl, hf.imp fun vs e => ⟨e, hz.2.2 vs e⟩⟩
theorem roomS {A : Around} {x : Option Value} {k : Nat} (r : Room k A) : L2H.RoomH k (A.mark x) := ⟨r.dp, r.un⟩
/-- isinstance(e, c), e the exception p -/
theorem call_isP {X : Cx} {p : Addr × Obj} {D : Addr} (C : ExcD X.K D) (hp : p ∈ X.pn) (hz : Zc (.ref D) none p.2) (hf : ∃ vs, p.2.data = .fields vs) : CallR X (.builtin "isinstance") (rIsE X.K D p.1) := by
  intro pins st σ H xs us Q J r h
  obtain ⟨c, cv, b, rfl, same, e, q⟩ := h
  cases r with
  | cons ra rest =>
    cases rest with
    | cons rc rest =>
      cases rest
      cases ra
      have ec := same _ rc
      subst ec
      obtain ⟨there, _⟩ := J.pin p (List.mem_append_left _ hp)
      obtain ⟨vs, hv⟩ := hf
      have inst : PySem.W.InstAt st.heap p.1 p.2 D none := ⟨there, hz.1, by unfold PySem.W.notCls; rw [hv] <;> rfl, by rw [hz.2]; trivial⟩
      have Z := PySem.W.handS_kitx_exc (x := p.1) (ox := p.2) C.is.hg C.is.hk C.is.hs C.is.hd C.is.ha C.is.hn C.is.ht C.is.hm
      exact PySem.W.kia_one Z J.kIn inst e (fun z => nomatch z) fun tk => ⟨.bl b, H, J.kept (t' := tk) fun _ _ z => z, rfl, q⟩
/-! ### readings -/
/-- what is due: nothing, or an error -/
structure Out (due : Option Addr) (H : Hp) (Q : VK) (E : XK) : Prop where
  no : due = none → ∀ v H1, Ex H H1 → Q v H1
  yes : ∀ C, due = some C → ∀ H1, Ex H H1 → E (.ref C) none H1
section
variable {K : PySem.W.Frag} {σ : L2.St} {H H' : Hp} {ta : TA} {tz : TS} {D : Ends} {E : XK} {sp : Sp} {vs dvs : List V} {te tf : TE}
theorem ev_isP {a C : Addr} {c : V} {cv : Value} {b : Bool} (h0 : Ev te σ H (.ref a)) (h1 : Ev tf σ H c) (hc : ∀ u, RelV c u → u = cv) (hk : PySem.W.kitOne K (.ref C) cv = some b) : Ev (tCB (rIsE K C a) (tCons te (tCons tf tNil))) σ H (.bl b) := fun H1 e Q q =>
  h0 H1 e _ fun H2 e2 => h1 H2 (e.trans e2) _ fun H3 e3 => ⟨c, cv, b, rfl, hc, hk, q H3 (e2.trans e3)⟩
def SpO (sp : Sp) (vs : List V) (H : Hp) (due : Option Addr) : Prop := ∀ H1, Ex H H1 → ∀ (Q : VK) (E : XK), Out due H1 Q E → sp vs H1 Q E
theorem Out.mono {due : Option Addr} {Q : VK} {E : XK} (e : Ex H H') (h : Out due H Q E) : Out due H' Q E := ⟨fun z v H1 e1 => h.no z v H1 (e.trans e1), fun C z H1 e1 => h.yes C z H1 (e.trans e1)⟩
/-- f(..) that raises what is due, and the rest -/
theorem q_chk {due : Option Addr} (ha : EvA ta σ H vs) (hs : SpO sp (vs ++ dvs) H due) (k : due = none → ∀ H1, Ex H H1 → tz D σ H1) (ke : ∀ C, due = some C → ∀ H1, Ex H H1 → E (.ref C) none H1) : tSeq (tDrop (tCall sp dvs E ta)) tz D σ H :=
  ha H (Ex.refl H) _ fun H1 e1 => hs H1 e1 _ _ ⟨fun z v H2 e2 => k z H2 (e1.trans e2), fun C z H2 e2 => ke C z H2 (e1.trans e2)⟩
theorem unseq {t : TS} (h : t { D with nx := tz D } σ H) : tSeq t tz D σ H := h
/-- x = f(..), whatever f promises -/
theorem q_asgCall {i : Nat} (ha : EvA ta σ H vs) (k : ∀ H1, Ex H H1 → sp (vs ++ dvs) H1 (fun v H2 => tz D (σ.set i (some v)) H2) E) : tSeq (tAsg (tCall sp dvs E ta) (gName i)) tz D σ H := ha H (Ex.refl H) _ fun H1 e1 => k H1 e1
theorem s_retCall (ha : EvA ta σ H vs) (k : ∀ H1, Ex H H1 → sp (vs ++ dvs) H1 D.rt E) : tRet (tCall sp dvs E ta) D σ H := ha H (Ex.refl H) _ fun H1 e1 => k H1 e1
/-- the same as one of the ways of a try -/
theorem s_chkS {due : Option Addr} {W : WX} (ha : EvA ta σ H vs) (hs : SpO sp vs H due) (k : due = none → ∀ H1, Ex H H1 → D.nx σ H1) (ke : ∀ C, due = some C → ∀ H1, Ex H H1 → W (.ref C) none σ H1) : tDrop (tCallS sp (WE W) ta) D σ H :=
  ha H (Ex.refl H) _ fun H1 e1 => hs H1 e1 _ _ ⟨fun z v H2 e2 => k z H2 (e1.trans e2), fun C z H2 e2 => ke C z H2 (e1.trans e2)⟩
/-- [e for x in f(..)] -/
theorem lc_call {K : PySem.W.Frag} {g : TG} {t : TT} {te : TE} {ns : List Nat} {Q : VK} (ha : EvA ta σ H vs) (k : ∀ H1, Ex H H1 → sp (vs ++ dvs) H1 (fun x H2 => tLc (iList K fun _ H' Q' => Q' x H') g t te ns σ H2 Q) E) : tLc (iList K (tCall sp dvs E ta)) g t te ns σ H Q := ha H (Ex.refl H) _ fun H1 e1 => k H1 e1
/-- what a walk over a list wants of it -/
def ForQ (K : PySem.W.Frag) (g : TG) (tu : TS) (D : Ends) (σ : L2.St) : VK := fun x H1 => ∃ a, x = .ref a ∧ (∃ xs, SqL K H1 a xs) ∧ ∃ W : Nat → Nat → L2.St → Hp → Prop, (∃ m, W 0 m σ H1) ∧ ∀ i m σ H, W i m σ H →
  ((Itl K a).stop i H ∧ D.nx σ H) ∨ ((Itl K a).go i H ∧ ∃ N : L2.St → Hp → Prop, (∀ σ' H', N σ' H' → ∃ m', m' < m ∧ W (i + 1) m' σ' H') ∧ ∀ x H', (Itl K a).yld i H x H' → g x σ H' fun σ2 H2 => tu { D with nx := N, ct := N, bk := D.nx } σ2 H2)
theorem forQ_of {K : PySem.W.Frag} {g : TG} {tu : TS} {a : Addr} {xs : List V} (Pv : Nat → L2.St → Hp → Prop) (h0 : Pv 0 σ H) (hl : ∀ i σ' H', i ≤ xs.length → Pv i σ' H' → SqL K H' a xs)
    (hs : ∀ i x σ' H', xs[i]? = some x → Pv i σ' H' → g x σ' H' fun σ2 H2 => tu { D with nx := Pv (i + 1), ct := Pv (i + 1), bk := D.nx } σ2 H2) (hd : ∀ σ' H', Pv xs.length σ' H' → D.nx σ' H') : ForQ K g tu D σ (.ref a) H :=
  ⟨a, rfl, ⟨xs, hl 0 σ H (Nat.zero_le _) h0⟩, for_list Pv h0 hl hs hd⟩
/-- for x in f(..) -/
theorem q_forCall {K : PySem.W.Frag} {g : TG} {tu : TS} (ha : EvA ta σ H vs) (k : ∀ H1, Ex H H1 → sp (vs ++ dvs) H1 (ForQ K g tu { D with nx := tz D } σ) E) : tSeq (tFor (iList K (tCall sp dvs E ta)) g tu) tz D σ H := ha H (Ex.refl H) _ fun H1 e1 => k H1 e1
theorem s_forCall {K : PySem.W.Frag} {g : TG} {tu : TS} (ha : EvA ta σ H vs) (k : ∀ H1, Ex H H1 → sp (vs ++ dvs) H1 (ForQ K g tu D σ) E) : tFor (iList K (tCall sp dvs E ta)) g tu D σ H := ha H (Ex.refl H) _ fun H1 e1 => k H1 e1
end
/-! ### xs.count(x) of flat values -/
def rCntF (K : PySem.W.Frag) : V → List V → Hp → VK → Prop := fun x xs H Q => ∃ (p : Addr) (ys : List V) (y : V), x = .ref p ∧ xs = [y] ∧ SqL K H p ys ∧ flatV y = true ∧ ys.all flatV = true ∧ Q (.int ((ys.countP fun z => eqV z y : Nat) : Int)) H
theorem countP_eqU {y : V} : ∀ {ys : List V} {us : List Value}, Vals ys us → ys.all flatV = true → us.countP (eqU y) = ys.countP fun z => eqV z y
  | _, _, .nil, _ => rfl
  | _, _, .cons r t, f => by
    rw [List.all_cons, Bool.and_eq_true] at f
    have ih := countP_eqU (y := y) t f.2
    rw [List.countP_cons, List.countP_cons, ih, eqU_of r f.1]
theorem mt_countF {X : Cx} : MtR X "list.count" (rCntF X.K) := by
  intro pins st σ H x xs v us Q J rx rxs h
  obtain ⟨p, ys, y, rfl, rfl, sq, fy, fys, q⟩ := h
  cases rx
  cases rxs with
  | cons ry rest =>
    rename_i uy ut
    cases rest
    obtain ⟨its, rv, ⟨⟨c, dd, dat, sl⟩, n, there, isL, _, isS⟩, _⟩ := J.list sq
    simp only at isL isS
    subst isL isS
    have ec : its.toArray.toList.countP (eqU y) = ys.countP fun z => eqV z y := countP_eqU rv fys
    exact call_meets PySem.F.slot_list_count ⟨_, there, rfl⟩ PySem.F.entry_list_count (PySem.F.args_list_count_2 _ _) (SeqAt.list_countAt p its.toArray n dd sl uy (eqU y))
      ⟨there, fun z hz => mem_eqAt ry fy rv fys z (by simpa using hz), .int ((ys.countP fun z => eqV z y : Nat) : Int), H, J.tok _, ⟨st.toks, by rw [ec]⟩, q⟩
theorem ev_countF {K : PySem.W.Frag} {σ : L2.St} {H : Hp} {ta te : TE} {p : Addr} {ys : List V} {y : V} (ha : Ev ta σ H (.ref p)) (sq : H p = some (.lst ys)) (he : Ev te σ H y) (fy : flatV y = true) (fys : ys.all flatV = true) : Ev (tBM K "list" (rCntF K) ta (tCons te tNil)) σ H (.int ((ys.countP fun z => eqV z y : Nat) : Int)) := fun H1 e Q q =>
  ha H1 e _ fun H2 e2 => ⟨.inl ⟨rfl, _, sq_of (e2 p _ (e p _ sq))⟩, he H2 (e.trans e2) _ fun H3 e3 => ⟨p, ys, y, rfl, rfl, sq_of (e3 p _ (e2 p _ (e p _ sq))), fy, fys, q H3 (e2.trans e3)⟩⟩
/-- xs.index(x), by its number -/
theorem ev_indexF {K : PySem.W.Frag} {σ : L2.St} {H : Hp} {ta te : TE} {p : Addr} {ys : List V} {y : V} (j : Nat) (ha : Ev ta σ H (.ref p)) (sq : H p = some (.lst ys)) (he : Ev te σ H y) (fy : flatV y = true) (fys : ys.all flatV = true) (hj : ∃ z, ys[j]? = some z ∧ eqV z y = true) (hno : ∀ (m : Nat) (z : V), m < j → ys[m]? = some z → eqV z y = false) :
    Ev (tBM K "list" (rIndex K) ta (tCons te tNil)) σ H (.int (j : Int)) := fun H1 e Q q =>
  ha H1 e _ fun H2 e2 => ⟨.inl ⟨rfl, _, sq_of (e2 p _ (e p _ sq))⟩, he H2 (e.trans e2) _ fun H3 e3 => by
    obtain ⟨z, hz, ez⟩ := hj
    exact ⟨p, ys, y, j, z, rfl, rfl, sq_of (e3 p _ (e2 p _ (e p _ sq))), fy, fys, hz, ez, hno, q H3 (e2.trans e3)⟩⟩
end Kit

set_option Elab.async false
set_option linter.all false
set_option maxRecDepth 100000
set_option maxHeartbeats 4000000
namespace Kit
open PySem PySem.Spec PyProof.Rows L2 Evl
/-! ### data that repr shows, with long ints: at most n signs -/
structure ShN (d : PyData) (n : Nat) : Prop where
  shw : d.showable = true
  nod : d.hasDict = false
  len : d.shown.length ≤ n
  dep : d.depth ≤ 20
theorem shn_int {i : Int} (h : i.natAbs.log2 < 1920) : ShN (.int i) 1921 := ⟨decide_eq_true h, rfl, int_text_len_1921 h, Nat.zero_le _⟩
theorem shn_int2 {i : Int} (h : i.natAbs < 2 ^ 1900) : ShN (.int i) 1921 := shn_int (by
  by_cases z : i.natAbs = 0
  · rw [z]
    decide
  · exact Nat.lt_of_lt_of_le ((Nat.log2_lt z).mpr h) (by decide))
theorem shn_all {n : Nat} : ∀ {ds : List PyData}, (∀ d ∈ ds, ShN d n ∧ d.depth ≤ 19) → PyData.showableAll ds = true ∧ PyData.hasDictAll ds = false ∧ ((PyData.shownAll ds).map (·.length)).sum ≤ n * ds.length ∧ (PyData.shownAll ds).length = ds.length ∧ PyData.depthAll ds ≤ 19
  | [], _ => ⟨rfl, rfl, Nat.zero_le _, rfl, Nat.zero_le _⟩
  | d :: r, h => by
    obtain ⟨a, b, c, e, f⟩ := shn_all fun x hx => h x (List.mem_cons_of_mem _ hx)
    obtain ⟨⟨p, q, s, _⟩, t⟩ := h d List.mem_cons_self
    refine ⟨by simp [PyData.showableAll, a, p], by simp [PyData.hasDictAll, b, q], ?_, by simp [PyData.shownAll, e], by simp only [PyData.depthAll]; omega⟩
    simp only [PyData.shownAll, List.map_cons, List.sum_cons, List.length_cons, Nat.mul_succ]
    omega
theorem shn_list {ds : List PyData} {n : Nat} (h : ∀ d ∈ ds, ShN d n ∧ d.depth ≤ 19) : ShN (.list ds) ((n + 2) * ds.length + 3) := by
  obtain ⟨a, b, c, e, f⟩ := shn_all h
  refine ⟨by simpa [PyData.showable] using a, by simpa [PyData.hasDict] using b, ?_, by simp only [PyData.depth]; omega⟩
  have := listText_len_le (PyData.shownAll ds)
  show (listText (PyData.shownAll ds)).length ≤ _
  rw [e] at this
  rw [Nat.add_mul]
  omega
theorem shn_tup {ds : List PyData} {n : Nat} (h : ∀ d ∈ ds, ShN d n ∧ d.depth ≤ 19) : ShN (.tuple ds) ((n + 2) * ds.length + 3) := by
  obtain ⟨a, b, c, e, f⟩ := shn_all h
  refine ⟨by simpa [PyData.showable] using a, by simpa [PyData.hasDict] using b, ?_, by simp only [PyData.depth]; omega⟩
  have := tupleText_len_le (PyData.shownAll ds)
  show (tupleText (PyData.shownAll ds)).length ≤ _
  rw [e] at this
  rw [Nat.add_mul]
  omega
section
variable {K : PySem.W.Frag} {σ : L2.St} {H : Hp} {te : TE}
theorem ev_reprN {d : PyData} {n : Nat} (h : EvD K te σ H d) (hl : isDisplay d = true) (s : ShN d n) (hn : n ≤ 1000000) : Ev (tCB (rRepr K) (tCons te tNil)) σ H (.str d.shown) :=
  ev_repr h hl s.shw s.nod (by have := s.dep; omega) (Nat.le_trans s.len (Nat.le_trans hn (by rw [sizeLine_eq]; decide)))
end
end Kit

set_option Elab.async false
set_option linter.all false
set_option maxRecDepth 100000
set_option maxHeartbeats 4000000
namespace Kit
open PySem PySem.Spec PyProof.Rows L2 Evl
section
variable {K : PySem.W.Frag} {σ : L2.St} {H : Hp} {ta tb te : TE} {t : TT}
/-- max(xs), told by what it is -/
theorem ev_maxV {a : Addr} {ns : List Int} {m : Int} (h : Ev ta σ H (.ref a)) (ha : SqL K H a (ns.map V.int)) (hm : m ∈ ns) (hl : ∀ y ∈ ns, y ≤ m) : Ev (tCB (rMax K) (tCons ta tNil)) σ H (.int m) := fun H1 e Q q =>
  h H1 e _ fun H2 e2 => ⟨a, ns, rfl, ex_l (e.trans e2) ha, List.length_pos_of_mem hm, fun m' hm' hl' => by
    have h1 := hl m' hm'
    have h2 := hl' m hm
    have : m' = m := by omega
    rw [this]
    exact q H2 e2⟩
/-- [e for i, x in enumerate(xs) if t] -/
theorem el_en {ta : TA} {i j : Nat} {vs : List Nat} {a : Addr} {xs : List V} (f : Nat → Bool) (v : Nat → V) (h : EvA ta σ H [.ref a]) (hx : SqL K H a xs) (hz : xs.length ≤ 40000) (hw : ∀ x y, wipe (((wipe σ vs).set i (some x)).set j (some y)) vs = wipe σ vs)
    (ht : ∀ (n : Nat) x H1, Ex H H1 → xs[n]? = some x → EvT t (((wipe σ vs).set i (some (.int (n : Int)))).set j (some x)) H1 (f n))
    (he : ∀ (n : Nat) x H1, Ex H H1 → xs[n]? = some x → f n = true → Ev te (((wipe σ vs).set i (some (.int (n : Int)))).set j (some x)) H1 (v n)) :
    EvL (tLc (iEnum K ta) (gTup K 2 (gCons (gName i) (gCons (gName j) gNil))) t te vs) σ H (given xs.length f v) := fun H0 e Q q => h H0 e _ fun H1 e1 => ⟨a, xs, rfl, ex_l (e.trans e1) hx, fun Dl hD => by
  refine lc_it walk_enum (Cw H1 f v Dl) ⟨hD, Ex.new hD, upd_same⟩ (fun n H' _ p => ex_l ((e.trans e1).trans p.2.1) hx) ?_ fun H' p => q Dl H' (fresh_back e1 p.1) (e1.trans p.2.1) p.2.2
  rintro n w Hh H' hn p ⟨T, x, y, rfl, nT, rfl, g1, g2⟩
  have ex : V.int (n : Nat) = x := Option.some.inj g1
  subst ex
  have eT : Ex Hh (upd Hh T (.tup [.int (n : Nat), y])) := Ex.new nT
  refine ⟨T, [.int (n : Nat), y], rfl, st_of upd_same, rfl, _, [y], rfl, y, [], rfl, rfl, hw _ y, ?_⟩
  exact cw_turn (H := H1) ⟨p.1, p.2.1.trans eT, eT Dl _ p.2.2⟩ (by omega) (ht n y H1 (e.trans e1) g2) fun hf => he n y H1 (e.trans e1) g2 hf⟩
/-- [e for x, y in zip(xs, ys)], both new lists -/
theorem el_zipN {i j : Nat} {vs : List Nat} {xs ys : List V} (F : V → V → V) (h : EvL ta σ H xs) (h2 : EvL tb σ H ys) (hl : xs.length = ys.length) (hz : xs.length ≤ 40000) (hw : ∀ x y, wipe (((wipe σ vs).set i (some x)).set j (some y)) vs = wipe σ vs)
    (he : ∀ (n : Nat) x y H1, Ex H H1 → xs[n]? = some x → ys[n]? = some y → Ev te (((wipe σ vs).set i (some x)).set j (some y)) H1 (F x y)) :
    EvL (tLc (iZip K (tCons ta (tCons tb tNil))) (gTup K 2 (gCons (gName i) (gCons (gName j) gNil))) tYes te vs) σ H (List.zipWith F xs ys) := fun H0 e Q q =>
  h H0 e _ fun a H1 na e1 ha => h2 H1 (e.trans e1) _ fun b H2 nb e2 hb => by
    have := el_zip (K := K) (H := H2) (ta := fun _ H' R => R [.ref a, .ref b] H') (te := te) (vs := vs) F (fun H3 _ Q q => q H3 (Ex.refl _)) (sq_of (e2 a _ ha)) (sq_of hb) hl hz hw fun n x y H3 e3 g1 g2 => he n x y H3 (e.trans (e1.trans (e2.trans e3))) g1 g2
    exact this H2 (Ex.refl _) Q fun p H3 hp e3 h3 => q p H3 (fresh_back (e1.trans e2) hp) (e1.trans (e2.trans e3)) h3
/-- xs + y, y an old list; x + ys, x an old list -/
theorem el_catR {a : Addr} {xs ys : List V} (h : EvL ta σ H xs) (h2 : Ev tb σ H (.ref a)) (ha : H a = some (.lst ys)) (hz : xs.length + ys.length ≤ 1000) : EvL (tOp rCat ta tb) σ H (xs ++ ys) := fun H1 e Q q =>
  h H1 e _ fun p H2 _ e2 h3 => h2 H2 (e.trans e2) _ fun H3 e3 => ⟨p, a, xs, ys, rfl, rfl, e3 p _ h3, e3 a _ (e2 a _ (e a _ ha)), sz_of (by omega), fun l hl => q l _ (fresh_back (e2.trans e3) hl) ((e2.trans e3).trans (Ex.new hl)) upd_same⟩
theorem el_catL {a : Addr} {xs ys : List V} (h : Ev ta σ H (.ref a)) (ha : H a = some (.lst xs)) (h2 : EvL tb σ H ys) (hz : xs.length + ys.length ≤ 1000) : EvL (tOp rCat ta tb) σ H (xs ++ ys) := fun H1 e Q q =>
  h H1 e _ fun H2 e2 => h2 H2 (e.trans e2) _ fun p H3 _ e3 h3 => ⟨a, p, xs, ys, rfl, rfl, e3 a _ (e2 a _ (e a _ ha)), h3, sz_of (by omega), fun l hl => q l _ (fresh_back (e2.trans e3) hl) ((e2.trans e3).trans (Ex.new hl)) upd_same⟩
end
end Kit

set_option Elab.async false
set_option linter.all false
set_option maxRecDepth 100000
namespace Kit
open PySem PySem.Spec PyProof.Rows L2 Evl
def fac (n : Nat) : Nat := Builtin.Math.factorialNat n
theorem fac_succ (n : Nat) : fac (n + 1) = fac n * (n + 1) := PySem.W.mc_fac_succ n
theorem fac_pos (n : Nat) : 1 ≤ fac n := PySem.W.mc_fac_pos n
theorem fac_mono : ∀ {m n : Nat}, m ≤ n → fac m ≤ fac n := fun {m n} h => by
  induction h with
  | refl => exact Nat.le_refl _
  | step _ ih =>
    rw [Nat.succ_eq_add_one, fac_succ]
    exact Nat.le_trans ih (Nat.le_mul_of_pos_right _ (Nat.succ_pos _))
theorem fac20 : fac 20 < 2 ^ 64 := by decide +kernel
def rFac : List V → Hp → VK → Prop := fun vs H Q => ∃ n : Nat, vs = [.int (n : Int)] ∧ n ≤ 20000 ∧ Q (.int ((fac n : Nat) : Int)) H
section
variable {X : Cx}
theorem cr_factorial : CallR X (.builtin "math.factorial") rFac := by
  intro pins s σ H vs us Q I r h
  obtain ⟨n, rfl, hn, q⟩ := h
  cases r with
  | cons ru rt =>
    cases rt
    obtain ⟨t, rfl⟩ := ru
    refine PySem.W.mc_factorial (Int.natCast_nonneg n) (by omega) fun _ => ?_
    rw [Int.toNat_natCast]
    exact ⟨.int _, H, I.tok _, ⟨_, rfl⟩, q⟩
def rDivmod : List V → Hp → VK → Prop := fun xs H Q => ∃ i j, xs = [.int i, .int j] ∧ CDivP i j ∧ ∀ p, H p = none → Q (.ref p) (upd H p (.tup [.int (i / j), .int (i % j)]))
theorem call_divmodR : CallR X (.builtin "divmod") rDivmod := call_divmodW
end
section
variable {K : PySem.W.Frag} {σ : L2.St} {H : Hp} {ta tb te tl : TE} {D : Ends} {tu tz : TS}
theorem ev_fac {n : Nat} (h : Ev ta σ H (.int (n : Int))) (hn : n ≤ 20000) : Ev (tCB rFac (tCons ta tNil)) σ H (.int ((fac n : Nat) : Int)) := fun H1 e Q q => h H1 e _ fun H2 e2 => ⟨n, rfl, hn, q H2 e2⟩
theorem divp_small {i j : Int} (h : 0 < j) (hj : j.natAbs < 2 ^ 8000) : CDivP i j := ⟨h, PyProof.noPylong_of_log2 (by
  have h2 := (Nat.log2_lt (n := j.natAbs) (k := 8000) (by omega)).mpr hj
  omega)⟩
theorem eu_divmod {a b : Nat} (h : Ev ta σ H (.int (a : Int))) (h2 : Ev tb σ H (.int (b : Int))) (hb : 0 < b) (hb2 : b < 2 ^ 8000) : EvU (tCB rDivmod (tCons ta (tCons tb tNil))) σ H [.int ((a / b : Nat) : Int), .int ((a % b : Nat) : Int)] := fun H1 e Q q =>
  h H1 e _ fun H2 e2 => h2 H2 (e.trans e2) _ fun H3 e3 => ⟨a, b, rfl, divp_small (by omega) (by rw [Int.natAbs_natCast]; exact hb2), fun p hp => q p _ (fresh_back (e2.trans e3) hp) ((e2.trans e3).trans (Ex.new hp)) (by rw [upd_same, Int.natCast_ediv, Int.natCast_emod])⟩
end
end Kit

set_option Elab.async false
set_option linter.all false
set_option maxRecDepth 100000
set_option maxHeartbeats 4000000
namespace Kit
open PySem PySem.Spec PyProof.Rows L2 Evl
section
variable {K : PySem.W.Frag} {σ : L2.St} {H : Hp} {ta tb te tl : TE} {D : Ends} {tu tz : TS} {t : TT}
/-- for i in reversed(range(n)) -/
theorem s_forRev {j n : Nat} (h : Ev ta σ H (.int (n : Int))) (hn : n ≤ 40000) (Pv : Nat → L2.St → Hp → Prop) (h0 : ∀ H1, Ex H H1 → Pv 0 σ H1)
    (hs : ∀ (i : Nat) σ' H', i < n → Pv i σ' H' → tu { D with nx := Pv (i + 1), ct := Pv (i + 1), bk := D.nx } (σ'.set j (some (.int ((n - 1 - i : Nat) : Int)))) H') (hd : ∀ σ' H', Pv n σ' H' → D.nx σ' H') : tFor (iRevR (tRg1 ta)) (gName j) tu D σ H :=
  h H (Ex.refl H) _ fun H1 e => ⟨n, rfl, by
    have e0 : ((n : Int) - 0).toNat = n := by omega
    refine ⟨by omega, by omega, by omega, by omega, ?_⟩
    rw [e0]
    exact for_rangeC Pv (h0 H1 e) (fun i σ' H' hi p => by
      have e1 : (0 : Int) + (n : Int) - 1 + (i : Nat) * (-1) = ((n - 1 - i : Nat) : Int) := by omega
      rw [e1]
      exact hs i σ' H' hi p) hd⟩
theorem q_forRev {j n : Nat} (h : Ev ta σ H (.int (n : Int))) (hn : n ≤ 40000) (Pv : Nat → L2.St → Hp → Prop) (h0 : ∀ H1, Ex H H1 → Pv 0 σ H1)
    (hs : ∀ (i : Nat) σ' H', i < n → Pv i σ' H' → tu { D with nx := Pv (i + 1), ct := Pv (i + 1), bk := tz D } (σ'.set j (some (.int ((n - 1 - i : Nat) : Int)))) H') (hd : ∀ σ' H', Pv n σ' H' → tz D σ' H') : tSeq (tFor (iRevR (tRg1 ta)) (gName j) tu) tz D σ H := s_forRev (D := { D with nx := tz D }) h hn Pv h0 hs hd
/-- [a new tuple for i in range(lo, n)] -/
theorem elt_R2 {ta : TA} {j : Nat} {vs : List Nat} {lo n : Int} (f : Nat → List V) (h : EvA ta σ H [.int lo, .int n]) (hn : 0 ≤ lo ∧ lo ≤ 40000 ∧ -40000 ≤ n ∧ n ≤ 40000) (hw : ∀ x, wipe ((wipe σ vs).set j (some x)) vs = wipe σ vs)
    (he : ∀ (i : Nat) H1, Ex H H1 → lo + (i : Int) < n → EvU te ((wipe σ vs).set j (some (.int (lo + (i : Int))))) H1 (f i)) : EvLT (tLc (iRng2 ta) (gName j) tYes te vs) σ H ((List.range (n - lo).toNat).map f) := fun H0 e Q q => h H0 e _ fun H1 e1 => ⟨lo, n, rfl, ⟨by omega, by omega, by omega, by omega⟩, fun Dl hD =>
  lc_range (lo := lo) (n := (n - lo).toNat) (fun i H' => Ex H1 H' ∧ ∃ ws, H' Dl = some (.lst ws) ∧ TL H' ws ((List.range i).map f)) ⟨Ex.new hD, [], upd_same, .nil⟩ (fun i H' hi p => by
    obtain ⟨p1, ws, p2, p3⟩ := p
    show wipe ((wipe σ vs).set j (some (.int (lo + (i : Int))))) vs = wipe σ vs ∧ te ((wipe σ vs).set j (some (.int (lo + (i : Int))))) H' fun y H4 => ∃ acc, H4 Dl = some (.lst acc) ∧ acc.length < sizeLine ∧ _
    refine ⟨hw _, he i H1 (e.trans e1) (by omega) H' p1 _ fun p H4 hp e4 h4 => ⟨ws, e4 Dl _ p2, sz_lt (by
      have := p3.len
      simp at this
      omega), Ex.mut (p1.trans e4) hD, ws ++ [.ref p], upd_same, ?_⟩⟩
    rw [List.range_succ, List.map_append]
    exact ((p3.ex e4).app ⟨p, rfl, h4⟩).upd (e4 Dl _ p2)) (fun H' p => by
      obtain ⟨p1, ws, p2, p3⟩ := p
      exact q Dl ws H' (fresh_back e1 hD) (e1.trans p1) p2 p3)⟩
end
end Kit

set_option Elab.async false
set_option linter.all false
set_option maxRecDepth 100000
set_option maxHeartbeats 4000000
namespace Kit
open PySem PySem.Spec PyProof.Rows L2 Evl
/-! ### choosing -/
def cho : Nat → Nat → Nat
  | _, 0 => 1
  | 0, _ + 1 => 0
  | n + 1, k + 1 => cho n k + cho n (k + 1)
theorem fac_zero : fac 0 = 1 := rfl
theorem cho_zero (n : Nat) : cho n 0 = 1 := by cases n <;> rfl
theorem cho_gt : ∀ {n k : Nat}, n < k → cho n k = 0
  | 0, _ + 1, _ => rfl
  | n + 1, k + 1, h => by
    show cho n k + cho n (k + 1) = 0
    rw [cho_gt (by omega : n < k), cho_gt (by omega : n < k + 1)]
theorem cho_self : ∀ n : Nat, cho n n = 1
  | 0 => rfl
  | n + 1 => by
    show cho n n + cho n (n + 1) = 1
    rw [cho_self n, cho_gt (Nat.lt_succ_self n)]
theorem cho_next : ∀ n k : Nat, cho n (k + 1) * (k + 1) = cho n k * (n - k)
  | 0, k => by
    rw [Nat.zero_sub, Nat.mul_zero]
    show 0 * (k + 1) = 0
    rw [Nat.zero_mul]
  | n + 1, 0 => by
    have a := cho_next n 0
    show (cho n 0 + cho n 1) * (0 + 1) = cho (n + 1) 0 * (n + 1 - 0)
    rw [cho_zero, cho_zero] at *
    simp only [Nat.zero_add, Nat.mul_one, Nat.sub_zero, Nat.one_mul] at *
    omega
  | n + 1, k + 1 => by
    have a := cho_next n (k + 1)
    have b := cho_next n k
    show (cho n (k + 1) + cho n (k + 2)) * (k + 1 + 1) = (cho n k + cho n (k + 1)) * (n + 1 - (k + 1))
    rcases Nat.lt_or_ge k n with h | h
    · obtain ⟨d, rfl⟩ : ∃ d, n = k + 1 + d := ⟨n - (k + 1), by omega⟩
      rw [show k + 1 + d - (k + 1) = d by omega] at a
      rw [show k + 1 + d - k = d + 1 by omega] at b
      rw [show k + 1 + d + 1 - (k + 1) = d + 1 by omega]
      generalize cho (k + 1 + d) (k + 1) = x at *
      generalize cho (k + 1 + d) k = y at *
      generalize cho (k + 1 + d) (k + 1 + 1) = z at *
      grind
    · rw [show n + 1 - (k + 1) = 0 by omega, cho_gt (by omega : n < k + 1), cho_gt (by omega : n < k + 2)]
      simp
/-- k of n: n! = C(n, k) k! (n - k)! -/
theorem cho_fac : ∀ {n k : Nat}, k ≤ n → cho n k * (fac k * fac (n - k)) = fac n
  | n, 0, _ => by
    rw [cho_zero, Nat.sub_zero]
    rw [fac_zero]
    omega
  | n, k + 1, h => by
    have ih := cho_fac (n := n) (k := k) (by omega)
    have a := cho_next n k
    rw [show n - k = (n - (k + 1)) + 1 by omega, fac_succ] at ih
    rw [show n - k = n - (k + 1) + 1 by omega] at a
    rw [fac_succ]
    generalize fac (n - (k + 1)) = y at *
    generalize fac n = v at *
    generalize cho n (k + 1) = z at *
    generalize cho n k = x at *
    generalize fac k = u at *
    generalize n - (k + 1) = d at *
    have e : z * (u * (k + 1) * y) = z * (k + 1) * (u * y) := by grind
    rw [e, a, ← ih]
    grind
theorem cho_pos {n k : Nat} (h : k ≤ n) : 1 ≤ cho n k := by
  have a := cho_fac h
  have b := fac_pos n
  rcases Nat.eq_zero_or_pos (cho n k) with z | z
  · rw [z, Nat.zero_mul] at a
    omega
  · exact z
theorem cho_le : ∀ n k : Nat, cho n k ≤ 2 ^ n
  | n, 0 => by rw [cho_zero]; exact Nat.one_le_two_pow
  | 0, _ + 1 => Nat.zero_le _
  | n + 1, k + 1 => by
    have a := cho_le n k
    have b := cho_le n (k + 1)
    rw [Nat.pow_succ]
    show cho n k + cho n (k + 1) ≤ _
    omega
theorem fp_fac (n : Nat) : ∀ k : Nat, k ≤ n → Builtin.Math.fallingProduct (n : Int) k * (fac (n - k) : Int) = (fac n : Int)
  | 0, _ => by
    rw [PySem.W.mc_fp_zero, Nat.sub_zero, Int.one_mul]
  | k + 1, h => by
    have ih := fp_fac n k (by omega)
    rw [show n - k = n - (k + 1) + 1 by omega, fac_succ] at ih
    rw [PySem.W.mc_fp_succ, ← ih, show (n : Int) - (k : Int) = ((n - (k + 1) + 1 : Nat) : Int) by omega]
    push_cast
    generalize (fac (n - (k + 1)) : Int) = x
    generalize Builtin.Math.fallingProduct (n : Int) k = y
    grind
theorem fp_self (n : Nat) : Builtin.Math.fallingProduct (n : Int) n = (fac n : Int) := by
  have := fp_fac n n (Nat.le_refl _)
  rw [Nat.sub_self, fac_zero] at this
  simpa using this
theorem cho_sym {n k : Nat} (h : k ≤ n) : cho n k = cho n (n - k) := by
  have a := cho_fac h
  have b := cho_fac (n := n) (k := n - k) (by omega)
  rw [show n - (n - k) = k by omega, Nat.mul_comm (fac (n - k))] at b
  have p : 0 < fac k * fac (n - k) := Nat.mul_pos (fac_pos _) (fac_pos _)
  exact Nat.eq_of_mul_eq_mul_right p (a.trans b.symm)
theorem comb_cho (n k : Nat) : PySem.W.mcComb (n : Int) (k : Int) = (cho n k : Int) := by
  by_cases h : k ≤ n
  · have key : ∀ m : Nat, m ≤ n → Builtin.Math.fallingProduct (n : Int) m / Builtin.Math.fallingProduct (m : Int) m = (cho n m : Int) := fun m hm => by
      have a := fp_fac n m hm
      have b := cho_fac hm
      have f := fac_pos m
      have g := fac_pos (n - m)
      rw [fp_self]
      have e : Builtin.Math.fallingProduct (n : Int) m = (cho n m : Int) * (fac m : Int) := by
        refine Int.eq_of_mul_eq_mul_right (a := (fac (n - m) : Int)) (by omega) ?_
        rw [a, ← b]
        push_cast
        grind
      rw [e]
      exact Int.mul_ediv_cancel _ (by omega)
    rw [PySem.W.mcComb_at (m := ((min k (n - k) : Nat) : Int)) (by omega) (by omega) (by omega), Int.toNat_natCast, key _ (by omega)]
    rcases Nat.le_total k (n - k) with q | q
    · rw [Nat.min_eq_left q]
    · rw [Nat.min_eq_right q, ← cho_sym h]
  · rw [PySem.W.mcComb_above (by omega), cho_gt (by omega)]
    rfl
def prm (n k : Nat) : Int := PySem.W.mcPerm (n : Int) (k : Int)
theorem prm_fac {n k : Nat} (h : k ≤ n) : prm n k * (fac (n - k) : Int) = (fac n : Int) := by
  unfold prm
  rw [PySem.W.mcPerm_at (by omega), Int.toNat_natCast]
  exact fp_fac n k h
theorem prm_pos {n k : Nat} (h : k ≤ n) : 1 ≤ prm n k := PySem.W.mcPerm_pos (by omega) (by omega)
def rComb : List V → Hp → VK → Prop := fun vs H Q => ∃ n k : Nat, vs = [.int (n : Int), .int (k : Int)] ∧ n ≤ 10000 ∧ Q (.int (cho n k : Int)) H
def rPerm : List V → Hp → VK → Prop := fun vs H Q => ∃ n k : Nat, vs = [.int (n : Int), .int (k : Int)] ∧ n ≤ 10000 ∧ k ≤ 10000 ∧ Q (.int (prm n k)) H
section
variable {X : Cx}
theorem cr_comb : CallR X (.builtin "math.comb") rComb := by
  intro pins s σ H vs us Q I r h
  obtain ⟨n, k, rfl, hn, q⟩ := h
  cases r with
  | cons ru r2 =>
    cases r2 with
    | cons rv rt =>
      cases rt
      obtain ⟨t, rfl⟩ := ru
      obtain ⟨u, rfl⟩ := rv
      refine PySem.W.mc_comb_v (Int.natCast_nonneg n) (Int.natCast_nonneg k) (by omega) (by omega) (comb_cho n k) ?_
      exact ⟨.int _, H, I.tok _, ⟨_, rfl⟩, q⟩
theorem cr_perm : CallR X (.builtin "math.perm") rPerm := by
  intro pins s σ H vs us Q I r h
  obtain ⟨n, k, rfl, hn, hk, q⟩ := h
  cases r with
  | cons ru r2 =>
    cases r2 with
    | cons rv rt =>
      cases rt
      obtain ⟨t, rfl⟩ := ru
      obtain ⟨u, rfl⟩ := rv
      refine PySem.W.mc_perm_v (Int.natCast_nonneg n) (Int.natCast_nonneg k) (by omega) (by omega) rfl ?_
      exact ⟨.int _, H, I.tok _, ⟨_, rfl⟩, q⟩
end
section
variable {K : PySem.W.Frag} {σ : L2.St} {H : Hp} {ta tb te tl : TE} {D : Ends} {tu tz : TS}
theorem ev_comb {n k : Nat} (h : Ev ta σ H (.int (n : Int))) (h2 : Ev tb σ H (.int (k : Int))) (hn : n ≤ 10000) : Ev (tCB rComb (tCons ta (tCons tb tNil))) σ H (.int (cho n k : Int)) := fun H1 e Q q => h H1 e _ fun H2 e2 => h2 H2 (e.trans e2) _ fun H3 e3 => ⟨n, k, rfl, hn, q H3 (e2.trans e3)⟩
theorem ev_perm {n k : Nat} (h : Ev ta σ H (.int (n : Int))) (h2 : Ev tb σ H (.int (k : Int))) (hn : n ≤ 10000) (hk : k ≤ 10000) : Ev (tCB rPerm (tCons ta (tCons tb tNil))) σ H (.int (prm n k)) := fun H1 e Q q => h H1 e _ fun H2 e2 => h2 H2 (e.trans e2) _ fun H3 e3 => ⟨n, k, rfl, hn, hk, q H3 (e2.trans e3)⟩
/-- for x, y in zip(xs, ys): the pair is a new tuple -/
theorem s_forZip {ta : TA} {i j n : Nat} {a b : Addr} {xs ys : List V} (h : EvA ta σ H [.ref a, .ref b]) (hx : SqL K H a xs) (hy : SqL K H b ys) (hn : n = min xs.length ys.length) (Pv : Nat → L2.St → Hp → Prop) (h0 : ∀ H1, Ex H H1 → Pv 0 σ H1) (hl : ∀ k σ' H', k ≤ n → Pv k σ' H' → SqL K H' a xs ∧ SqL K H' b ys)
    (hs : ∀ k x y σ' H' H2, xs[k]? = some x → ys[k]? = some y → Pv k σ' H' → Ex H' H2 → tu { D with nx := Pv (k + 1), ct := Pv (k + 1), bk := D.nx } ((σ'.set i (some x)).set j (some y)) H2) (hd : ∀ σ' H', Pv n σ' H' → D.nx σ' H') :
    tFor (iZip K ta) (gTup K 2 (gCons (gName i) (gCons (gName j) gNil))) tu D σ H := h H (Ex.refl H) _ fun H1 e => ⟨a, b, xs, ys, rfl, ex_l e hx, ex_l e hy, by
  refine for_it (walk_zip (n := n) hn) Pv (h0 H1 e) (fun k σ' H' hk p => hl k σ' H' hk p) ?_ hd
  rintro k v σ' Hh H2 hk p ⟨T, x, y, rfl, nT, rfl, g1, g2⟩
  exact ⟨T, [x, y], rfl, st_of upd_same, rfl, x, [y], rfl, y, [], rfl, rfl, hs k x y σ' Hh _ g1 g2 p (Ex.new nT)⟩⟩
theorem q_forZip {ta : TA} {i j n : Nat} {a b : Addr} {xs ys : List V} (h : EvA ta σ H [.ref a, .ref b]) (hx : SqL K H a xs) (hy : SqL K H b ys) (hn : n = min xs.length ys.length) (Pv : Nat → L2.St → Hp → Prop) (h0 : ∀ H1, Ex H H1 → Pv 0 σ H1) (hl : ∀ k σ' H', k ≤ n → Pv k σ' H' → SqL K H' a xs ∧ SqL K H' b ys)
    (hs : ∀ k x y σ' H' H2, xs[k]? = some x → ys[k]? = some y → Pv k σ' H' → Ex H' H2 → tu { D with nx := Pv (k + 1), ct := Pv (k + 1), bk := tz D } ((σ'.set i (some x)).set j (some y)) H2) (hd : ∀ σ' H', Pv n σ' H' → tz D σ' H') :
    tSeq (tFor (iZip K ta) (gTup K 2 (gCons (gName i) (gCons (gName j) gNil))) tu) tz D σ H := s_forZip (D := { D with nx := tz D }) h hx hy hn Pv h0 hl hs hd
/-- [e for x, y in zip(xs, ys)], xs an old list, ys a new one -/
theorem el_zipO {i j : Nat} {vs : List Nat} {a : Addr} {xs ys : List V} (F : V → V → V) (h : Ev ta σ H (.ref a)) (hx : SqL K H a xs) (h2 : EvL tb σ H ys) (hl : xs.length = ys.length) (hz : xs.length ≤ 40000) (hw : ∀ x y, wipe (((wipe σ vs).set i (some x)).set j (some y)) vs = wipe σ vs)
    (he : ∀ (n : Nat) x y H1, Ex H H1 → xs[n]? = some x → ys[n]? = some y → Ev te (((wipe σ vs).set i (some x)).set j (some y)) H1 (F x y)) :
    EvL (tLc (iZip K (tCons ta (tCons tb tNil))) (gTup K 2 (gCons (gName i) (gCons (gName j) gNil))) tYes te vs) σ H (List.zipWith F xs ys) := fun H0 e Q q =>
  h H0 e _ fun H1 e1 => h2 H1 (e.trans e1) _ fun b H2 nb e2 hb => by
    have := el_zip (K := K) (H := H2) (ta := fun _ H' R => R [.ref a, .ref b] H') (te := te) (vs := vs) F (fun H3 _ Q q => q H3 (Ex.refl _)) (ex_l (e.trans (e1.trans e2)) hx) (sq_of hb) hl hz hw fun n x y H3 e3 g1 g2 => he n x y H3 (e.trans (e1.trans (e2.trans e3))) g1 g2
    exact this H2 (Ex.refl _) Q fun p H3 hp e3 h3 => q p H3 (fresh_back (e1.trans e2) hp) (e1.trans (e2.trans e3)) h3
end
end Kit

set_option Elab.async false
set_option linter.all false
set_option maxRecDepth 100000
set_option maxHeartbeats 4000000
namespace Kit
open PySem PySem.Spec PyProof.Rows L2 Evl
/-! ### dicts of whole numbers by whole numbers -/
def enc (ps : List (Int × Int)) : List (Key × V) := ps.map fun p => (.inl p.1, .int p.2)
def gI (ps : List (Int × Int)) (x : Int) : Int := ((ps.find? fun p => decide (p.1 = x)).map (·.2)).getD 0
def putI (ps : List (Int × Int)) (x v : Int) : List (Int × Int) := if ps.any (fun p => decide (p.1 = x)) then ps.map (fun p => if p.1 = x then (p.1, v) else p) else ps ++ [(x, v)]
theorem inl_eq (a x : Int) : decide ((Sum.inl a : Key) = .inl x) = decide (a = x) := by
  rw [Bool.eq_iff_iff, decide_eq_true_iff, decide_eq_true_iff]
  exact ⟨fun h => Sum.inl.inj h, fun h => by rw [h]⟩
theorem enc_val : ∀ (ps : List (Int × Int)) (x : Int), valV (enc ps) (.inl x) = ((ps.find? fun p => decide (p.1 = x)).map (·.2)).map V.int
  | [], _ => rfl
  | p :: r, x => by
    have ih := enc_val r x
    by_cases h : p.1 = x
    · rw [List.find?_cons_of_pos (by simpa using h)]
      exact valV_pos (by show (Sum.inl p.1 : Key) = .inl x; rw [h])
    · rw [List.find?_cons_of_neg (by simpa using h), ← ih]
      exact valV_neg fun z => h (Sum.inl.inj z)
theorem enc_get (ps : List (Int × Int)) (x : Int) : (valV (enc ps) (.inl x)).getD (.int 0) = .int (gI ps x) := by
  rw [enc_val]
  unfold gI
  cases (ps.find? fun p => decide (p.1 = x)).map (·.2) <;> rfl
theorem enc_put (ps : List (Int × Int)) (x v : Int) : putK (enc ps) (.inl x) (.int v) = enc (putI ps x v) := by
  have ea : ((enc ps).any fun kv => decide (kv.1 = .inl x)) = ps.any fun p => decide (p.1 = x) := by
    unfold enc
    rw [List.any_map]
    congr 1
    funext p
    exact inl_eq p.1 x
  unfold putK putI
  rw [ea]
  split
  · unfold enc
    rw [List.map_map, List.map_map]
    refine List.map_congr_left fun p _ => ?_
    show (if (Sum.inl p.1 : Key) = .inl x then _ else _) = _
    by_cases h : p.1 = x
    · rw [if_pos (by rw [h])]
      show _ = (Sum.inl (if p.1 = x then (p.1, v) else p).1, V.int (if p.1 = x then (p.1, v) else p).2)
      rw [if_pos h]
    · rw [if_neg fun z => h (Sum.inl.inj z)]
      show _ = (Sum.inl (if p.1 = x then (p.1, v) else p).1, V.int (if p.1 = x then (p.1, v) else p).2)
      rw [if_neg h]
  · unfold enc
    rw [List.map_append]
    rfl
theorem put_keys (ps : List (Int × Int)) (x v : Int) : (putI ps x v).map (·.1) = if x ∈ ps.map (·.1) then ps.map (·.1) else ps.map (·.1) ++ [x] := by
  have hm : (ps.any fun p => decide (p.1 = x)) = true ↔ x ∈ ps.map (·.1) := by
    rw [List.any_eq_true, List.mem_map]
    exact ⟨fun ⟨p, h, e⟩ => ⟨p, h, of_decide_eq_true e⟩, fun ⟨p, h, e⟩ => ⟨p, h, decide_eq_true e⟩⟩
  unfold putI
  by_cases h : x ∈ ps.map (·.1)
  · rw [if_pos h, if_pos (hm.mpr h), List.map_map]
    refine List.map_congr_left fun p _ => ?_
    show (if p.1 = x then (p.1, v) else p).1 = p.1
    split <;> rfl
  · rw [if_neg h, if_neg fun z => h (hm.mp z), List.map_append]
    rfl
theorem put_nodup {ps : List (Int × Int)} (h : (ps.map (·.1)).Nodup) (x v : Int) : ((putI ps x v).map (·.1)).Nodup := by
  rw [put_keys]
  split
  · exact h
  · rename_i n
    exact List.nodup_append.mpr ⟨h, by simp, fun a ha b hb => by
      rw [List.mem_singleton.mp hb]
      intro z
      exact n (z ▸ ha)⟩
theorem put_len (ps : List (Int × Int)) (x v : Int) : (putI ps x v).length ≤ ps.length + 1 := by
  unfold putI
  split
  · rw [List.length_map]
    omega
  · simp
theorem gI_nil (x : Int) : gI [] x = 0 := rfl
theorem gI_eq {ps : List (Int × Int)} {x : Int} : V.int (gI ps x) = (valV (enc ps) (.inl x)).getD (.int 0) := (enc_get ps x).symm
theorem gI_put (ps : List (Int × Int)) (x v y : Int) : gI (putI ps x v) y = if y = x then v else gI ps y := by
  have h := enc_get (putI ps x v) y
  rw [← enc_put, valV_put] at h
  have e : V.int (gI (putI ps x v) y) = V.int (if y = x then v else gI ps y) := by
    rw [← h]
    by_cases z : y = x
    · rw [if_pos (by rw [z]), if_pos z]
      rfl
    · rw [if_neg fun w => z (Sum.inl.inj w), if_neg z, enc_get]
  exact V.int.inj e
theorem gI_no {ps : List (Int × Int)} {x : Int} (h : x ∉ ps.map (·.1)) : gI ps x = 0 := by
  unfold gI
  have : (ps.find? fun p => decide (p.1 = x)) = none := List.find?_eq_none.mpr fun p hp z => h (List.mem_map.mpr ⟨p, hp, of_decide_eq_true z⟩)
  rw [this]
  rfl
theorem gI_sum : ∀ {ps : List (Int × Int)} (s : Int), (ps.map (·.1)).Nodup → (ps.map fun p => if p.1 = s then p.2 else 0).sum = gI ps s
  | [], _, _ => rfl
  | p :: r, s, h => by
    rw [List.map_cons, List.nodup_cons] at h
    rw [List.map_cons, List.sum_cons, gI_sum s h.2]
    by_cases z : p.1 = s
    · rw [if_pos z, gI_no (z ▸ h.1)]
      unfold gI
      rw [List.find?_cons_of_pos (by simpa using z)]
      show p.2 + 0 = p.2
      omega
    · rw [if_neg z]
      unfold gI
      rw [List.find?_cons_of_neg (by simpa using z)]
      omega
theorem val_at {ps : List (Int × Int)} {i : Nat} {a v : Int} (h : ps[i]? = some (a, v)) (nd : (ps.map (·.1)).Nodup) : valV (enc ps) (.inl a) = some (.int v) := by
  rw [enc_val]
  have : (ps.find? fun p => decide (p.1 = a)) = some (a, v) := by
    induction ps generalizing i with
    | nil => simp at h
    | cons p r ih =>
      rw [List.map_cons, List.nodup_cons] at nd
      cases i with
      | zero =>
        have : p = (a, v) := by simpa using h
        subst this
        exact List.find?_cons_of_pos (by simp)
      | succ i =>
        have h' : r[i]? = some (a, v) := by simpa using h
        have : p.1 ≠ a := fun z => nd.1 (z ▸ List.mem_map.mpr ⟨(a, v), List.mem_of_getElem? h', rfl⟩)
        rw [List.find?_cons_of_neg (by simpa using this)]
        exact ih h' nd.2
  rw [this]
  rfl
section
variable {K : PySem.W.Frag} {σ : L2.St} {H : Hp} {ta tb tc te td : TE} {D : Ends} {tu tz : TS} {ps : List (Int × Int)} {x v : Int}
theorem ev_getI {a : Addr} (h : Ev ta σ H (.ref a)) (hx : Ev tb σ H (.int x)) (h0 : Ev tc σ H (.int 0)) (ha : H a = some (.dK (enc ps))) : Ev (tDGet2 ta tb tc) σ H (.int (gI ps x)) := fun H1 e Q q =>
  h H1 e _ fun H2 e2 => ⟨a, rfl, .inl ⟨_, .inl (e2 a _ (e a _ ha))⟩, hx H2 (e.trans e2) _ fun H3 e3 => h0 H3 (e.trans (e2.trans e3)) _ fun H4 e4 => ⟨_, DGet.k (k := .inl x) (e4 a _ (e3 a _ (e2 a _ (e a _ ha)))), by
    rw [enc_get]
    exact q H4 (e2.trans (e3.trans e4))⟩⟩
theorem s_putI {a : Addr} (h : Ev ta σ H (.ref a)) (hx : Ev tb σ H (.int x)) (hv : Ev te σ H (.int v)) (ha : H a = some (.dK (enc ps))) (hl : ps.length < 10000) (k : ∀ H1, Ex H H1 → D.nx σ (upd H1 a (.dK (enc (putI ps x v))))) : sDPut ta tb te D σ H :=
  hv H (Ex.refl _) _ fun H1 e1 => h H1 e1 _ fun H2 e2 => hx H2 (e1.trans e2) _ fun H3 e3 => ⟨a, _, rfl, DPut.k (k := .inl x) (e3 a _ (e2 a _ (e1 a _ ha))) (sz_lt (by unfold enc; rw [List.length_map]; omega)), by
    rw [enc_put]
    exact k H3 (e1.trans (e2.trans e3))⟩
theorem q_putI {a : Addr} (h : Ev ta σ H (.ref a)) (hx : Ev tb σ H (.int x)) (hv : Ev te σ H (.int v)) (ha : H a = some (.dK (enc ps))) (hl : ps.length < 10000) (k : ∀ H1, Ex H H1 → tz D σ (upd H1 a (.dK (enc (putI ps x v))))) : tSeq (sDPut ta tb te) tz D σ H := s_putI (D := { D with nx := tz D }) h hx hv ha hl k
theorem q_dnewI {i : Nat} (k : ∀ p H1, H p = none → Ex H H1 → H1 p = some (.dK (enc [])) → tz D (σ.set i (some (.ref p))) H1) : tSeq (tAsg tDNewK (gName i)) tz D σ H := fun p hp => k p _ hp (Ex.new hp) upd_same
theorem q_dispI {i : Nat} (hk : Ev ta σ H (.int x)) (hv : Ev tb σ H (.int v)) (k : ∀ p H1, H p = none → Ex H H1 → H1 p = some (.dK (enc [(x, v)])) → tz D (σ.set i (some (.ref p))) H1) : tSeq (tAsg (tDisp [(ta, tb)]) (gName i)) tz D σ H := fun p hp => hk _ (Ex.new hp) _ fun H1 e1 => hv H1 ((Ex.new hp).trans e1) _ fun H2 e2 =>
  ⟨e2 p _ (e1 p _ upd_same), [(.inl x, .int v)], rfl, Nat.le_of_ble_eq_true rfl, k p _ hp (Ex.mut ((Ex.new hp).trans (e1.trans e2)) hp) upd_same⟩
theorem ev_dgetL {a : Addr} {o : Obj} {i : Nat} (h : Ev ta σ H (.ref a)) (hx : Ev tb σ H (.int x)) (ha : H a = some (.frz o (.dK (enc ps)))) (hi : ps[i]? = some (x, v)) (nd : (ps.map (·.1)).Nodup) : Ev (tDGet ta tb) σ H (.int v) := fun H1 e Q q =>
  h H1 e _ fun H2 e2 => hx H2 (e.trans e2) _ fun H3 e3 => ⟨a, .int v, rfl, .inl ⟨enc ps, .inl x, .inr ⟨o, e3 a _ (e2 a _ (e a _ ha))⟩, rfl, (val_at hi nd).symm⟩, q H3 (e2.trans e3)⟩
/-- for x in a dict -/
theorem s_forKeys {j : Nat} {d : Addr} (h : ∀ H1, Ev td σ H1 (.ref d)) (hd : H d = some (.dK (enc ps))) (Pv : Obj → Nat → L2.St → Hp → Prop) (h0 : ∀ o H1, Ex (upd H d (.frz o (.dK (enc ps)))) H1 → Pv o 0 σ H1) (hl : ∀ o k σ' H', k ≤ ps.length → Pv o k σ' H' → H' d = some (.frz o (.dK (enc ps))))
    (hs : ∀ o k a v σ' H', ps[k]? = some (a, v) → Pv o k σ' H' → tu { nx := Pv o (k + 1), ct := Pv o (k + 1), bk := fun σ' H' => H' d = some (.frz o (.dK (enc ps))) ∧ D.nx σ' (upd H' d (.dK (enc ps))), rt := fun v H' => H' d = some (.frz o (.dK (enc ps))) ∧ D.rt v (upd H' d (.dK (enc ps))) } (σ'.set j (some (.int a))) H')
    (he : ∀ o σ' H', Pv o ps.length σ' H' → D.nx σ' (upd H' d (.dK (enc ps)))) : tLock (tFor (iKeys td) (gName j) tu) D σ H := ⟨d, .dK (enc ps), hd, True.intro, fun o => h _ _ (Ex.refl _) _ fun H1 e => ⟨d, o, rfl, .inl ⟨enc ps, e d _ upd_same, by
  have le : (enc ps).length = ps.length := List.length_map ..
  refine for_it walk_keys (Pv o) (h0 o H1 e) (fun k σ' H' hk p => hl o k σ' H' (by omega) p) ?_ (fun σ' H' p => by
    rw [le] at p
    exact ⟨hl o _ σ' H' (Nat.le_refl _) p, he o σ' H' p⟩)
  rintro k v σ' Hh H2 hk p ⟨rfl, key, x, g1, rfl⟩
  unfold enc at g1
  rw [List.getElem?_map] at g1
  obtain ⟨q, hq, eq⟩ := Option.map_eq_some_iff.mp g1
  cases eq
  exact hs o k q.1 q.2 σ' _ hq p⟩⟩⟩
theorem q_forKeys {j : Nat} {d : Addr} (h : ∀ H1, Ev td σ H1 (.ref d)) (hd : H d = some (.dK (enc ps))) (Pv : Obj → Nat → L2.St → Hp → Prop) (h0 : ∀ o H1, Ex (upd H d (.frz o (.dK (enc ps)))) H1 → Pv o 0 σ H1) (hl : ∀ o k σ' H', k ≤ ps.length → Pv o k σ' H' → H' d = some (.frz o (.dK (enc ps))))
    (hs : ∀ o k a v σ' H', ps[k]? = some (a, v) → Pv o k σ' H' → tu { nx := Pv o (k + 1), ct := Pv o (k + 1), bk := fun σ' H' => H' d = some (.frz o (.dK (enc ps))) ∧ tz D σ' (upd H' d (.dK (enc ps))), rt := fun v H' => H' d = some (.frz o (.dK (enc ps))) ∧ D.rt v (upd H' d (.dK (enc ps))) } (σ'.set j (some (.int a))) H')
    (he : ∀ o σ' H', Pv o ps.length σ' H' → tz D σ' (upd H' d (.dK (enc ps)))) : tSeq (tLock (tFor (iKeys td) (gName j) tu)) tz D σ H := s_forKeys (D := { D with nx := tz D }) h hd Pv h0 hl hs he
end
end Kit

set_option Elab.async false
set_option linter.all false
set_option maxRecDepth 100000
namespace Kit
open PySem PySem.Spec PyProof.Rows L2 Evl
/-! ### set(a list of ints), sorted(set(a list of ints)) -/
/-- a new empty set behind a heap -/
abbrev emptyI (led : Bool) : Obj := { cls := .type "set", dict := none, data := .set #[] 0 (.fresh 0 0 led) }
section
variable {prog : Program} {w : World} {A : Around} {E : Value → Shared → Prop} {s : Shared}
set_option maxHeartbeats 3200000 in
theorem set_of_ints {l : Addr} {items : Array Value} {xs : List Int} {Q : Value → Shared → Prop}
    (hand : A.handled = none) (isl : s.heap.IsList l items)
    (are : IntsAre items.toList xs) (room : xs.length + 1 < scanBound)
    (fin : ∀ (h' : Heap) (tk c : Nat),
      SetR w h' s.heap.objs.size (fun j => decide (j ∈ xs)) c → c ≤ xs.length →
      (∀ b o, s.heap.get? b = some o → h'.get? b = some o) →
      Q (.ref s.heap.objs.size) { s with heap := h', toks := tk }) :
    wpAny (model prog w) A (call (.type "set") [.ref l]) Q E s := by
  generalize hled : (!w.params.followText "set-order") = led
  obtain ⟨c, tl, mro⟩ := PySem.F.called_set.mro
  have made := PySem.F.called_set.made
  have subt := PySem.F.called_set.sub
  refine wpAny_call (codeAny_of_tree ?_)
  show wpAny _ _ (callAny (.type "set") _) _ _ _
  refine wpAny_pure ⟨Code.quiet_builtin _ (by decide +kernel),
    codeAny_builtin PySem.F.entry_type_call ?_⟩
  rw [Around.under_plain (weight_type_call_type "set" [.ref l] []) rfl]
  have no1 := PySem.F.called_set.notType
  have no2 := PySem.F.called_set.canCreate
  have tc := PySem.F.typeCall_set_1 (.ref l)
  repeat (any_goals (first | assumption | wp_step))
  refine codeAny_mono (code_set_led1 (.ref l) (E := E) (Q₁ := fun obj s₁ =>
    obj = .ref s.heap.objs.size ∧ s₁ = { s with heap := s.heap.push (emptyI led) })
    (by rw [hled]; exact ⟨rfl, rfl⟩)) fun r s₁ hr => ?_
  cases r with
  | error e => exact hr
  | ok fl =>
    cases fl with
    | ret obj =>
      obtain ⟨rfl, rfl⟩ := hr
      have atS : (s.heap.push (emptyI led)).get? s.heap.objs.size = some (emptyI led) :=
        Heap.get?_push_size _ rfl
      have tyS : Shared.TypeIs { s with heap := s.heap.push (emptyI led) } (.ref s.heap.objs.size) "set" :=
        ⟨_, atS, rfl⟩
      have lk := PySem.F.called_set.init.lookup
      have bd := PySem.F.called_set.init.bind (.ref s.heap.objs.size)
      repeat (any_goals (first | assumption | wp_step))
      refine codeAny_mono (codeAny_call_builtin (R := wants (fun r s₂ => r = .none ∧ ∃ h' tk c,
          s₂ = { s with heap := h', toks := tk } ∧
          SetR w h' s.heap.objs.size (fun j => decide (j ∈ xs)) c ∧ c ≤ xs.length ∧
          (∀ b o, s.heap.get? b = some o → h'.get? b = some o)) E)
        PySem.F.called_set.init.plain PySem.F.entry_set_init (check_set_init_1 tyS ?_)) fun r₂ s₂ hr₂ => ?_
      · obtain ⟨ol, hol, hc, nl, hd⟩ := isl
        obtain ⟨oc, odic, odat, oslo⟩ := ol
        simp only at hc hd
        subst hc
        subst hd
        have hol2 : (s.heap.push (emptyI led)).get? l
            = some { cls := .type "list", dict := odic, data := .seq items nl, slots := oslo } :=
          Heap.get?_push_of_some _ hol
        have sl1 := PySem.F.sub_list_set
        have sl2 := PySem.F.sub_list_frozenset
        have nod : (Value.type "list" == Value.type "dict") = false := by decide
        have isl2 : (s.heap.push (emptyI led)).IsList l items := ⟨_, hol2, rfl, nl, rfl⟩
        unfold Builtin.«set.__init__» noKeywords Builtin.Frozenset.updateFrom
        generalize hgen : pyIter = PI
        wp_walk
        subst hgen
        refine wpAny_pyIter_list isl2 ?_
        refine wpAny_bind (wpAny_runValue ?_)
        have lS : l < s.heap.objs.size := Heap.lt_size hol
        have h3 : A.in1.in1.in1.handled = none := by simp [hand]
        have neI : l ≠ (s.heap.push (emptyI led)).objs.size := by
          rw [Heap.size_push]
          exact Nat.ne_of_lt (Nat.lt_succ_of_lt lS)
        have outS : s.heap.objs.size ∉ [(s.heap.push (emptyI led)).objs.size, l] := by
          rw [Heap.size_push]
          intro q
          rcases List.mem_cons.mp q with q | q
          · exact absurd q (Nat.ne_of_lt (Nat.lt_succ_self _))
          · exact absurd (List.mem_singleton.mp q) (Nat.ne_of_gt lS)
        have szx : items.size = xs.length := by
          have q := IntsAre.length are
          rw [Array.length_toList] at q
          exact q
        have vals : ∀ (i : Nat) (v : Value), items[i]? = some v → ∃ k t, xs[i]? = some k ∧ v = .int k t := fun i v hv => by
          have hi : i < xs.length := by rw [← szx]; exact (Array.getElem?_eq_some_iff.mp hv).1
          obtain ⟨t, e⟩ := PyProof.Rows.IntsAre.int_at are i v (by rw [Array.getElem?_toList]; exact hv)
          exact ⟨xs[i], t, List.getElem?_eq_getElem hi, by rw [e, List.getD_eq_getElem?_getD, List.getElem?_eq_getElem hi]; rfl⟩
        refine set_update_ints ((Walks.list h3 _ l neI items).toS) s.heap.objs.size outS xs szx room vals
          (items.size - 0) 0 _ (by omega) (Nat.zero_le _)
          ⟨⟨_, Heap.get?_push_size _ rfl, rfl, rfl⟩, (isl2.push _)⟩ ?_ ?_
        · have at2 : ((s.heap.push (emptyI led)).push
              { cls := .type "list_iterator", data := .fields #[.ref l, .int 0 0] }).get? s.heap.objs.size
              = some (emptyI led) := Heap.get?_push_of_some _ atS
          refine ⟨0, Nat.le_refl 0, setR_new_at (w := w) (ns := xs) ?_⟩
          rw [hled]
          exact at2
        · intro s2 c2 mv hc2 set2
          obtain ⟨h2, g2, d2, tk2, os2⟩ := s2
          obtain rfl : g2 = s.gens := mv.gens
          obtain rfl : d2 = s.drawn := mv.drawn
          obtain rfl : os2 = s.os := mv.os
          show wpAny _ _ _ _ _ _
          refine wpAny_pure ?_
          show wpAny _ _ (ret Value.none) _ _ _
          refine wpAny_pure ⟨rfl, h2, tk2, c2, rfl, set2, by omega, fun b o e => ?_⟩
          have hb := Heap.lt_size e
          refine mv.heap b o (fun q => ?_) (Heap.get?_push_of_some _ (Heap.get?_push_of_some _ e))
          rcases List.mem_cons.mp q with q | q
          · exact absurd q (Nat.ne_of_lt hb)
          · rcases List.mem_cons.mp q with q | q
            · rw [Heap.size_push] at q
              exact absurd q (Nat.ne_of_lt (Nat.lt_succ_of_lt hb))
            · cases q
      · cases r₂ with
        | error e => exact hr₂
        | ok fl₂ =>
          cases fl₂ with
          | ret r =>
            obtain ⟨rfl, h2, tk2, c2, rfl, set2, hc2, keep2⟩ := hr₂
            repeat (any_goals (first | assumption | wp_step))
            exact fin _ _ _ set2 hc2 keep2
          | _ => exact hr₂.elim
    | _ => exact hr.elim
end
section
variable {X : Cx}
def rSetI (K : PySem.W.Frag) (w : World) : List V → Hp → VK → Prop := fun vs H Q => ∃ (l : Addr) (ns : List Int), vs = [V.ref l] ∧ SqL K H l (ns.map V.int) ∧ ns.length ≤ 4000 ∧ ∀ p c, H p = none → c ≤ ns.length → Q (.ref p) (upd H p (SetO w p (fun j => decide (j ∈ ns)) c))
theorem cr_setI (hc : X.calm = true) : CallR X (.type "set") (rSetI X.K X.w) := by
  intro pins s σ H vs us Q I r h
  obtain ⟨l, ns, rfl, hs, hn, q⟩ := h
  obtain ⟨its, rv, pl, _⟩ := I.list hs
  rw [Vals.ref1 r]
  refine set_of_ints (I.ok.hd hc) pl.isList (by simpa using rv.ints) (by unfold scanBound; omega) fun h' tk c set1 hc1 keep => ?_
  have hf : H s.heap.objs.size = none := I.hok.fresh (Nat.le_refl _)
  exact ⟨.ref s.heap.objs.size, _, I.laid (t' := tk) keep (Nat.le_refl _) (setO_new set1), rfl, q _ c hf hc1⟩
end
section
variable {K : PySem.W.Frag} {w : World} {σ : L2.St} {H : Hp} {ta : TE}
/-- sorted(set(xs)), xs an old list of ints -/
theorem el_sortSet {l : Addr} {ns zs : List Int} (h : Ev ta σ H (.ref l)) (hl : SqL K H l (ns.map V.int)) (h64 : ns.length < 64) (hz : zs.Pairwise (· < ·)) (hm : ∀ k : Int, k ∈ zs ↔ k ∈ ns) : EvL (tCB (rSortedSet w) (tCons (tCB (rSetI K w) (tCons ta tNil)) tNil)) σ H (zs.map V.int) := fun H1 e Q q =>
  h H1 e _ fun H2 e2 => ⟨l, ns, rfl, ex_l (e.trans e2) hl, by omega, fun p c hp hc => ⟨p, _, c, rfl, upd_same, by omega, fun ms r hms hmm _ hr => by
    have : ms = zs := by
      refine List.Perm.eq_of_pairwise (le := fun a b : Int => a < b) (fun a b _ _ h1 h2 => by omega) hms hz ?_
      refine (List.perm_ext_iff_of_nodup (hms.imp fun z => Int.ne_of_lt z) (hz.imp fun z => Int.ne_of_lt z)).mpr fun k => ?_
      rw [hmm k, hm k]
      simp
    subst this
    exact q r _ (fresh_back (e2.trans (Ex.new hp)) hr) ((e2.trans (Ex.new hp)).trans (Ex.new hr)) upd_same⟩⟩
/-- sorted(set(xs)), xs a new list of ints -/
theorem el_sortSetN {ns zs : List Int} (h : EvL ta σ H (ns.map V.int)) (h64 : ns.length < 64) (hz : zs.Pairwise (· < ·)) (hm : ∀ k : Int, k ∈ zs ↔ k ∈ ns) : EvL (tCB (rSortedSet w) (tCons (tCB (rSetI K w) (tCons ta tNil)) tNil)) σ H (zs.map V.int) := fun H1 e Q q =>
  h H1 e _ fun l H2 nl e2 h2 => el_sortSet (K := K) (w := w) (σ := σ) (H := H2) (ta := fun _ H' R => R (.ref l) H') (l := l) (ns := ns) (fun H3 _ Q q => q H3 (Ex.refl _)) (sq_of h2) h64 hz hm H2 (Ex.refl _) Q fun p H3 hp e3 h3 => q p H3 (fresh_back e2 hp) (e2.trans e3) h3
end
end Kit

set_option Elab.async false
set_option linter.all false
set_option maxRecDepth 100000
set_option maxHeartbeats 4000000
namespace Kit
open PySem PySem.Spec PyProof.Rows L2 Evl
/-! ### [f, g, h][i](e, ..): a call of an element of a list of defs -/
structure CalN (X : Cx) (CX : CXT) (f : Addr) (sp : Sp) : Prop where
  ex : ∃ (k : Nat) (fd : FuncData) (names : List Str), FnOk X.prog X.w X.K X.mg X.base CX k f fd names sp ∧ Room k X.A ∧ PySem.W.keepIn X.K (.ref f) = true ∧ Binds X.K fd names []
section
variable {X : Cx} {CX : CXT} {k : Nat} {f : Addr} {fd : FuncData} {names : List Str} {sp : Sp} {C : Addr → Sp → Prop}
theorem cN_one (F : FnOk X.prog X.w X.K X.mg X.base CX k f fd names sp) (hr : Room k X.A) (hk : PySem.W.keepIn X.K (.ref f) = true) (hb : Binds X.K fd names []) : ∀ g s, (g = f ∧ s = sp) → CalN X CX g s := fun g s ⟨e1, e2⟩ => by
  subst e1 e2
  exact ⟨⟨k, fd, names, F, hr, hk, hb⟩⟩
theorem cN_or (F : FnOk X.prog X.w X.K X.mg X.base CX k f fd names sp) (hr : Room k X.A) (hk : PySem.W.keepIn X.K (.ref f) = true) (hb : Binds X.K fd names []) (r : ∀ g s, C g s → CalN X CX g s) : ∀ g s, ((g = f ∧ s = sp) ∨ C g s) → CalN X CX g s := fun g s h => h.elim (cN_one F hr hk hb g s) (r g s)
def tCallI (C : Addr → Sp → Prop) (E : XK) (tf : TE) (t : TA) : TE := fun σ H Q => tf σ H fun v H1 => ∃ f sp, v = .ref f ∧ C f sp ∧ t σ H1 fun vs H2 => sp (vs ++ []) H2 Q E
theorem pe_callI {E : XK} {tf : TE} {t : TA} {a b e : Expr} {es : List Expr} {p pos : Pos} (A : ∀ f sp, C f sp → CalN X CX f sp) (hx : Passes CX X E) (hf : PE X (.Subscript a b p) tf) (ha : PA X (e :: es) t)
    (he : starEach (e :: es) X.env = (false, eval e X.env) :: starEach es X.env := by rfl) (hpl : (backTo pos (starEach es X.env)).any (·.1) = false := by rfl) :
    PE X (.Call (.Subscript a b p) (e :: es) [] pos) (tCallI C E tf t) := by
  refine ⟨fun pins s σ H Q I h => ?_⟩
  have ev : eval (.Call (.Subscript a b p) (e :: es) [] pos) X.env = (do
    callWith pos (← eval (.Subscript a b p) X.env) [] (backTo pos (starEach (e :: es) X.env)) (backToKw pos (keywordEach [] X.env))) := rfl
  rw [ev]
  refine wpAny_bind (thn (hf.run pins s σ H _ I h) fun u s1 ⟨v, H1, I1, rv, f, sp, ev, hC, q⟩ => ?_)
  subst ev
  obtain rfl : u = Value.ref f := rv
  obtain ⟨k, fd, names, F, hr, hk, hb⟩ := (A f sp hC).ex
  refine PySem.W.callWith_K (h₀ := X.base) I1.ok.mod.kin hk (thn (ha.run pos pins s1 σ H1 _ I1 q) fun us s2 ⟨vs, H2, I2, r, q2⟩ => ⟨I2.kIn, ?_⟩) he hpl
  exact run_fn F hr hb .nil hx I2 r q2
end
section
variable {σ : L2.St} {H : Hp} {D : Ends} {vs : List V} {f : Addr} {sp : Sp} {C : Addr → Sp → Prop} {E : XK} {tf : TE} {t : TA}
theorem s_retI (hf : Ev tf σ H (.ref f)) (hC : C f sp) (ha : ∀ H1, Ex H H1 → EvA t σ H1 vs) (k : ∀ H1, Ex H H1 → sp (vs ++ []) H1 D.rt E) : tRet (tCallI C E tf t) D σ H :=
  hf H (Ex.refl H) _ fun H1 e1 => ⟨f, sp, rfl, hC, ha H1 e1 H1 (Ex.refl _) _ fun H2 e2 => k H2 (e1.trans e2)⟩
end
end Kit

namespace K15
open PySem PySem.Spec PyProof.Rows L2 Evl Kit
def topS (i : Nat) : Stmt := PySem.Challenge.pw_newtables_k15_errors_of_sizes.main.body.getD i (.Pass ⟨0, 0, 0, 0⟩)
abbrev s_is_whole : Stmt := topS 14
abbrev n_is_whole : List Str := ["thing"]
theorem sc_is_whole : FnScope n_is_whole ["thing"] (defScope s_is_whole) := ⟨rfl, rfl, rfl, by decide +kernel, rfl, by decide +kernel, by decide +kernel⟩
abbrev s_is_within : Stmt := topS 15
abbrev n_is_within : List Str := ["thing", "least", "most"]
theorem sc_is_within : FnScope n_is_within ["thing", "least", "most"] (defScope s_is_within) := ⟨rfl, rfl, rfl, by decide +kernel, rfl, by decide +kernel, by decide +kernel⟩
abbrev s_is_order : Stmt := topS 16
abbrev n_is_order : List Str := ["thing", "item"]
theorem sc_is_order : FnScope n_is_order ["thing"] (defScope s_is_order) := ⟨rfl, rfl, rfl, by decide +kernel, rfl, by decide +kernel, by decide +kernel⟩
abbrev s_is_ascending : Stmt := topS 17
abbrev n_is_ascending : List Str := ["thing", "least", "most", "item"]
theorem sc_is_ascending : FnScope n_is_ascending ["thing", "least", "most"] (defScope s_is_ascending) := ⟨rfl, rfl, rfl, by decide +kernel, rfl, by decide +kernel, by decide +kernel⟩
abbrev s_check_guests : Stmt := topS 18
abbrev n_check_guests : List Str := ["guests"]
theorem sc_check_guests : FnScope n_check_guests ["guests"] (defScope s_check_guests) := ⟨rfl, rfl, rfl, by decide +kernel, rfl, by decide +kernel, by decide +kernel⟩
abbrev s_check_weight : Stmt := topS 19
abbrev n_check_weight : List Str := ["weight"]
theorem sc_check_weight : FnScope n_check_weight ["weight"] (defScope s_check_weight) := ⟨rfl, rfl, rfl, by decide +kernel, rfl, by decide +kernel, by decide +kernel⟩
abbrev s_check_guest : Stmt := topS 20
abbrev n_check_guest : List Str := ["guest", "guests"]
theorem sc_check_guest : FnScope n_check_guest ["guest", "guests"] (defScope s_check_guest) := ⟨rfl, rfl, rfl, by decide +kernel, rfl, by decide +kernel, by decide +kernel⟩
abbrev s_check_number : Stmt := topS 21
abbrev n_check_number : List Str := ["number", "least", "most"]
theorem sc_check_number : FnScope n_check_number ["number", "least", "most"] (defScope s_check_number) := ⟨rfl, rfl, rfl, by decide +kernel, rfl, by decide +kernel, by decide +kernel⟩
abbrev s_check_index : Stmt := topS 22
abbrev n_check_index : List Str := ["index", "many"]
theorem sc_check_index : FnScope n_check_index ["index", "many"] (defScope s_check_index) := ⟨rfl, rfl, rfl, by decide +kernel, rfl, by decide +kernel, by decide +kernel⟩
abbrev s_raised : Stmt := topS 23
abbrev n_raised : List Str := ["base", "times", "total", "_"]
theorem sc_raised : FnScope n_raised ["base", "times"] (defScope s_raised) := ⟨rfl, rfl, rfl, by decide +kernel, rfl, by decide +kernel, by decide +kernel⟩
abbrev s_rising : Stmt := topS 24
abbrev n_rising : List Str := ["weight", "guests", "total", "guest"]
theorem sc_rising : FnScope n_rising ["weight", "guests"] (defScope s_rising) := ⟨rfl, rfl, rfl, by decide +kernel, rfl, by decide +kernel, by decide +kernel⟩
abbrev s_fraction : Stmt := topS 25
abbrev n_fraction : List Str := ["top", "bottom", "common"]
theorem sc_fraction : FnScope n_fraction ["top", "bottom"] (defScope s_fraction) := ⟨rfl, rfl, rfl, by decide +kernel, rfl, by decide +kernel, by decide +kernel⟩
abbrev s_is_seating : Stmt := topS 27
abbrev n_is_seating : List Str := ["thing"]
theorem sc_is_seating : FnScope n_is_seating ["thing"] (defScope s_is_seating) := ⟨rfl, rfl, rfl, by decide +kernel, rfl, by decide +kernel, by decide +kernel⟩
abbrev s_tables_of : Stmt := topS 28
abbrev n_tables_of : List Str := ["seating"]
theorem sc_tables_of : FnScope n_tables_of ["seating"] (defScope s_tables_of) := ⟨rfl, rfl, rfl, by decide +kernel, rfl, by decide +kernel, by decide +kernel⟩
abbrev s_check_seating : Stmt := topS 29
abbrev n_check_seating : List Str := ["seating"]
theorem sc_check_seating : FnScope n_check_seating ["seating"] (defScope s_check_seating) := ⟨rfl, rfl, rfl, by decide +kernel, rfl, by decide +kernel, by decide +kernel⟩
abbrev s_walk_left : Stmt := topS 30
abbrev n_walk_left : List Str := ["lefts", "guest", "walk"]
theorem sc_walk_left : FnScope n_walk_left ["lefts", "guest"] (defScope s_walk_left) := ⟨rfl, rfl, rfl, by decide +kernel, rfl, by decide +kernel, by decide +kernel⟩
abbrev s_tables_among : Stmt := topS 31
abbrev n_tables_among : List Str := ["lefts", "guests", "guest", "walks", "walk"]
theorem sc_tables_among : FnScope n_tables_among ["lefts", "guests"] (defScope s_tables_among) := ⟨rfl, rfl, rfl, by decide +kernel, rfl, by decide +kernel, by decide +kernel⟩
abbrev s_seating_with : Stmt := topS 32
abbrev n_seating_with : List Str := ["tables", "table", "seating", "at", "guest"]
theorem sc_seating_with : FnScope n_seating_with ["tables"] (defScope s_seating_with) := ⟨rfl, rfl, rfl, by decide +kernel, rfl, by decide +kernel, by decide +kernel⟩
abbrev s_count_sizes : Stmt := topS 34
abbrev n_count_sizes : List Str := ["sizes"]
theorem sc_count_sizes : FnScope n_count_sizes ["sizes"] (defScope s_count_sizes) := ⟨rfl, rfl, rfl, by decide +kernel, rfl, by decide +kernel, by decide +kernel⟩
abbrev s_sizes_share : Stmt := topS 35
abbrev n_sizes_share : List Str := ["sizes", "weight"]
theorem sc_sizes_share : FnScope n_sizes_share ["sizes", "weight"] (defScope s_sizes_share) := ⟨rfl, rfl, rfl, by decide +kernel, rfl, by decide +kernel, by decide +kernel⟩
abbrev s_nth_with_sizes : Stmt := topS 36
abbrev n_nth_with_sizes : List Str := ["sizes", "index", "rest", "free", "tables", "table", "guest"]
theorem sc_nth_with_sizes : FnScope n_nth_with_sizes ["sizes", "index"] (defScope s_nth_with_sizes) := ⟨rfl, rfl, rfl, by decide +kernel, rfl, by decide +kernel, by decide +kernel⟩
abbrev s_index_with_sizes : Stmt := topS 37
abbrev n_index_with_sizes : List Str := ["seating", "tables", "table", "rest", "free", "index", "guest"]
theorem sc_index_with_sizes : FnScope n_index_with_sizes ["seating"] (defScope s_index_with_sizes) := ⟨rfl, rfl, rfl, by decide +kernel, rfl, by decide +kernel, by decide +kernel⟩
abbrev s_count_by_opening : Stmt := topS 38
abbrev n_count_by_opening : List Str := ["sizes"]
theorem sc_count_by_opening : FnScope n_count_by_opening ["sizes"] (defScope s_count_by_opening) := ⟨rfl, rfl, rfl, by decide +kernel, rfl, by decide +kernel, by decide +kernel⟩
abbrev s_opening_share : Stmt := topS 39
abbrev n_opening_share : List Str := ["sizes", "weight"]
theorem sc_opening_share : FnScope n_opening_share ["sizes", "weight"] (defScope s_opening_share) := ⟨rfl, rfl, rfl, by decide +kernel, rfl, by decide +kernel, by decide +kernel⟩
abbrev s_size_share : Stmt := topS 40
abbrev n_size_share : List Str := ["guests", "weight", "size"]
theorem sc_size_share : FnScope n_size_share ["guests", "weight", "size"] (defScope s_size_share) := ⟨rfl, rfl, rfl, by decide +kernel, rfl, by decide +kernel, by decide +kernel⟩
abbrev s_mean_number : Stmt := topS 41
abbrev n_mean_number : List Str := ["guests", "weight", "size"]
theorem sc_mean_number : FnScope n_mean_number ["guests", "weight", "size"] (defScope s_mean_number) := ⟨rfl, rfl, rfl, by decide +kernel, rfl, by decide +kernel, by decide +kernel⟩
abbrev s_number_shares : Stmt := topS 42
abbrev n_number_shares : List Str := ["guests", "weight", "size", "other", "others", "rests", "shares", "number", "seated", "ways", "top"]
theorem sc_number_shares : FnScope n_number_shares ["guests", "weight", "size"] (defScope s_number_shares) := ⟨rfl, rfl, rfl, by decide +kernel, rfl, by decide +kernel, by decide +kernel⟩
abbrev s_count_allowed : Stmt := topS 43
abbrev n_count_allowed : List Str := ["guests", "allowed"]
theorem sc_count_allowed : FnScope n_count_allowed ["guests", "allowed"] (defScope s_count_allowed) := ⟨rfl, rfl, rfl, by decide +kernel, rfl, by decide +kernel, by decide +kernel⟩
abbrev s_allowed_share : Stmt := topS 44
abbrev n_allowed_share : List Str := ["guests", "weight", "allowed"]
theorem sc_allowed_share : FnScope n_allowed_share ["guests", "weight", "allowed"] (defScope s_allowed_share) := ⟨rfl, rfl, rfl, by decide +kernel, rfl, by decide +kernel, by decide +kernel⟩
abbrev s_nth_allowed : Stmt := topS 45
abbrev n_nth_allowed : List Str := ["guests", "allowed", "index", "ways", "free", "tables", "size", "behind", "table", "guest"]
theorem sc_nth_allowed : FnScope n_nth_allowed ["guests", "allowed", "index"] (defScope s_nth_allowed) := ⟨rfl, rfl, rfl, by decide +kernel, rfl, by decide +kernel, by decide +kernel⟩
abbrev s_first_allowed : Stmt := topS 46
abbrev n_first_allowed : List Str := ["guests", "weight", "allowed", "sums", "shares", "size", "top"]
theorem sc_first_allowed : FnScope n_first_allowed ["guests", "weight", "allowed"] (defScope s_first_allowed) := ⟨rfl, rfl, rfl, by decide +kernel, rfl, by decide +kernel, by decide +kernel⟩
abbrev s_given_open : Stmt := topS 47
abbrev n_given_open : List Str := ["sizes", "guest", "guests", "size", "top"]
theorem sc_given_open : FnScope n_given_open ["sizes", "guest"] (defScope s_given_open) := ⟨rfl, rfl, rfl, by decide +kernel, rfl, by decide +kernel, by decide +kernel⟩
abbrev s_given_together : Stmt := topS 48
abbrev n_given_together : List Str := ["sizes", "guests", "size"]
theorem sc_given_together : FnScope n_given_together ["sizes"] (defScope s_given_together) := ⟨rfl, rfl, rfl, by decide +kernel, rfl, by decide +kernel, by decide +kernel⟩
abbrev s_check_sizes : Stmt := topS 49
abbrev n_check_sizes : List Str := ["sizes"]
theorem sc_check_sizes : FnScope n_check_sizes ["sizes"] (defScope s_check_sizes) := ⟨rfl, rfl, rfl, by decide +kernel, rfl, by decide +kernel, by decide +kernel⟩
abbrev s_are_sizes : Stmt := topS 50
abbrev n_are_sizes : List Str := ["thing", "item"]
theorem sc_are_sizes : FnScope n_are_sizes ["thing"] (defScope s_are_sizes) := ⟨rfl, rfl, rfl, by decide +kernel, rfl, by decide +kernel, by decide +kernel⟩
abbrev s_check_allowed : Stmt := topS 51
abbrev n_check_allowed : List Str := ["allowed"]
theorem sc_check_allowed : FnScope n_check_allowed ["allowed"] (defScope s_check_allowed) := ⟨rfl, rfl, rfl, by decide +kernel, rfl, by decide +kernel, by decide +kernel⟩
abbrev s_ways_with_sizes : Stmt := topS 52
abbrev n_ways_with_sizes : List Str := ["sizes", "bottom", "at", "size"]
theorem sc_ways_with_sizes : FnScope n_ways_with_sizes ["sizes"] (defScope s_ways_with_sizes) := ⟨rfl, rfl, rfl, by decide +kernel, rfl, by decide +kernel, by decide +kernel⟩
abbrev s_ways_by_opening : Stmt := topS 53
abbrev n_ways_by_opening : List Str := ["sizes", "rest", "top", "bottom", "size"]
theorem sc_ways_by_opening : FnScope n_ways_by_opening ["sizes"] (defScope s_ways_by_opening) := ⟨rfl, rfl, rfl, by decide +kernel, rfl, by decide +kernel, by decide +kernel⟩
abbrev s_share_of_ways : Stmt := topS 54
abbrev n_share_of_ways : List Str := ["ways", "sizes", "weight"]
theorem sc_share_of_ways : FnScope n_share_of_ways ["ways", "sizes", "weight"] (defScope s_share_of_ways) := ⟨rfl, rfl, rfl, by decide +kernel, rfl, by decide +kernel, by decide +kernel⟩
abbrev s_tables_weight : Stmt := topS 55
abbrev n_tables_weight : List Str := ["guests", "weight", "size"]
theorem sc_tables_weight : FnScope n_tables_weight ["guests", "weight", "size"] (defScope s_tables_weight) := ⟨rfl, rfl, rfl, by decide +kernel, rfl, by decide +kernel, by decide +kernel⟩
abbrev s_weight_with_size : Stmt := topS 56
abbrev n_weight_with_size : List Str := ["guests", "weight", "size"]
theorem sc_weight_with_size : FnScope n_weight_with_size ["guests", "weight", "size"] (defScope s_weight_with_size) := ⟨rfl, rfl, rfl, by decide +kernel, rfl, by decide +kernel, by decide +kernel⟩
abbrev s_weights_with_allowed : Stmt := topS 57
abbrev n_weights_with_allowed : List Str := ["guests", "weight", "allowed", "sums", "many", "size", "parts"]
theorem sc_weights_with_allowed : FnScope n_weights_with_allowed ["guests", "weight", "allowed"] (defScope s_weights_with_allowed) := ⟨rfl, rfl, rfl, by decide +kernel, rfl, by decide +kernel, by decide +kernel⟩
abbrev s_ways_behind_sizes : Stmt := topS 58
abbrev n_ways_behind_sizes : List Str := ["sizes", "ways", "size", "rest"]
theorem sc_ways_behind_sizes : FnScope n_ways_behind_sizes ["sizes"] (defScope s_ways_behind_sizes) := ⟨rfl, rfl, rfl, by decide +kernel, rfl, by decide +kernel, by decide +kernel⟩
abbrev s_table_at : Stmt := topS 59
abbrev n_table_at : List Str := ["free", "behind", "index", "table", "others", "at"]
theorem sc_table_at : FnScope n_table_at ["free", "behind", "index"] (defScope s_table_at) := ⟨rfl, rfl, rfl, by decide +kernel, rfl, by decide +kernel, by decide +kernel⟩
abbrev s_index_of_table : Stmt := topS 60
abbrev n_index_of_table : List Str := ["free", "behind", "table", "others", "index", "length", "at"]
theorem sc_index_of_table : FnScope n_index_of_table ["free", "behind", "table"] (defScope s_index_of_table) := ⟨rfl, rfl, rfl, by decide +kernel, rfl, by decide +kernel, by decide +kernel⟩
abbrev s_ways_to_go_on : Stmt := topS 61
abbrev n_ways_to_go_on : List Str := ["length", "many", "behind", "size", "ways"]
theorem sc_ways_to_go_on : FnScope n_ways_to_go_on ["length", "many", "behind"] (defScope s_ways_to_go_on) := ⟨rfl, rfl, rfl, by decide +kernel, rfl, by decide +kernel, by decide +kernel⟩
abbrev s_law_pouch : Stmt := topS 63
abbrev n_law_pouch : List Str := ["script", "at", "cell"]
theorem sc_law_pouch : FnScope n_law_pouch ["script", "at"] (defScope s_law_pouch) := ⟨rfl, rfl, rfl, by decide +kernel, rfl, by decide +kernel, by decide +kernel⟩
abbrev s_law_dip : Stmt := topS 64
abbrev n_law_dip : List Str := ["pouch", "wide", "taken", "mixed"]
theorem sc_law_dip : FnScope n_law_dip ["pouch", "wide"] (defScope s_law_dip) := ⟨rfl, rfl, rfl, by decide +kernel, rfl, by decide +kernel, by decide +kernel⟩
abbrev s_law_entries : Stmt := topS 65
abbrev n_law_entries : List Str := ["pouch", "many", "style", "found", "one", "some", "pick"]
theorem sc_law_entries : FnScope n_law_entries ["pouch", "many"] (defScope s_law_entries) := ⟨rfl, rfl, rfl, by decide +kernel, rfl, by decide +kernel, by decide +kernel⟩
abbrev s_law_rings : Stmt := topS 66
abbrev n_law_rings : List Str := ["entries", "rings", "one", "pal", "ring"]
theorem sc_law_rings : FnScope n_law_rings ["entries"] (defScope s_law_rings) := ⟨rfl, rfl, rfl, by decide +kernel, rfl, by decide +kernel, by decide +kernel⟩
abbrev s_law_seat : Stmt := topS 67
abbrev n_law_seat : List Str := ["rings", "near", "ring", "k", "one"]
theorem sc_law_seat : FnScope n_law_seat ["rings"] (defScope s_law_seat) := ⟨rfl, rfl, rfl, by decide +kernel, rfl, by decide +kernel, by decide +kernel⟩
abbrev s_law_things : Stmt := topS 68
abbrev n_law_things : List Str := ["pouch", "row", "spot", "other", "twice", "odd", "one", "truths", "found"]
theorem sc_law_things : FnScope n_law_things ["pouch", "row"] (defScope s_law_things) := ⟨rfl, rfl, rfl, by decide +kernel, rfl, by decide +kernel, by decide +kernel⟩
abbrev s_law_is_row : Stmt := topS 69
abbrev n_law_is_row : List Str := ["item", "one"]
theorem sc_law_is_row : FnScope n_law_is_row ["item"] (defScope s_law_is_row) := ⟨rfl, rfl, rfl, by decide +kernel, rfl, by decide +kernel, by decide +kernel⟩
abbrev s_law_rise : Stmt := topS 70
abbrev n_law_rise : List Str := ["heavy", "many", "found", "turn"]
theorem sc_law_rise : FnScope n_law_rise ["heavy", "many"] (defScope s_law_rise) := ⟨rfl, rfl, rfl, by decide +kernel, rfl, by decide +kernel, by decide +kernel⟩
abbrev s_law_some_widths : Stmt := topS 71
abbrev n_law_some_widths : List Str := ["pouch", "many", "style", "found", "left"]
theorem sc_law_some_widths : FnScope n_law_some_widths ["pouch", "many"] (defScope s_law_some_widths) := ⟨rfl, rfl, rfl, by decide +kernel, rfl, by decide +kernel, by decide +kernel⟩
abbrev s_law_counted : Stmt := topS 72
abbrev n_law_counted : List Str := ["widths", "found", "width", "turn"]
theorem sc_law_counted : FnScope n_law_counted ["widths"] (defScope s_law_counted) := ⟨rfl, rfl, rfl, by decide +kernel, rfl, by decide +kernel, by decide +kernel⟩
abbrev s_law_word : Stmt := topS 73
abbrev n_law_word : List Str := ["caught", "marks"]
theorem sc_law_word : FnScope n_law_word ["caught"] (defScope s_law_word) := ⟨rfl, rfl, rfl, by decide +kernel, rfl, by decide +kernel, by decide +kernel⟩
abbrev s_law_asked : Stmt := topS 74
abbrev n_law_asked : List Str := ["way", "one", "two", "three"]
theorem sc_law_asked : FnScope n_law_asked ["way", "one", "two", "three"] (defScope s_law_asked) := ⟨rfl, rfl, rfl, by decide +kernel, rfl, by decide +kernel, by decide +kernel⟩
abbrev s_law_told : Stmt := topS 75
abbrev n_law_told : List Str := ["way", "one", "two", "three", "caught"]
theorem sc_law_told : FnScope n_law_told ["way", "one", "two", "three"] (defScope s_law_told) := ⟨rfl, rfl, rfl, by decide +kernel, rfl, by decide +kernel, by decide +kernel⟩
abbrev s_law_is_sizes : Stmt := topS 76
abbrev n_law_is_sizes : List Str := ["item", "one"]
theorem sc_law_is_sizes : FnScope n_law_is_sizes ["item"] (defScope s_law_is_sizes) := ⟨rfl, rfl, rfl, by decide +kernel, rfl, by decide +kernel, by decide +kernel⟩
abbrev s_law_is_allowed : Stmt := topS 77
abbrev n_law_is_allowed : List Str := ["item", "one"]
theorem sc_law_is_allowed : FnScope n_law_is_allowed ["item"] (defScope s_law_is_allowed) := ⟨rfl, rfl, rfl, by decide +kernel, rfl, by decide +kernel, by decide +kernel⟩
abbrev s_law_odd : Stmt := topS 78
abbrev n_law_odd : List Str := ["pouch", "row", "spot", "odd", "found"]
theorem sc_law_odd : FnScope n_law_odd ["pouch", "row"] (defScope s_law_odd) := ⟨rfl, rfl, rfl, by decide +kernel, rfl, by decide +kernel, by decide +kernel⟩
abbrev s_law_lists_right : Stmt := topS 79
abbrev n_law_lists_right : List Str := ["pouch", "wide", "item", "due", "way", "alone"]
theorem sc_law_lists_right : FnScope n_law_lists_right ["pouch"] (defScope s_law_lists_right) := ⟨rfl, rfl, rfl, by decide +kernel, rfl, by decide +kernel, by decide +kernel⟩
abbrev s_law_wrong_right : Stmt := topS 80
abbrev n_law_wrong_right : List Str := ["pouch", "many", "wide", "total", "width", "wrong", "way", "told", "spot"]
theorem sc_law_wrong_right : FnScope n_law_wrong_right ["pouch"] (defScope s_law_wrong_right) := ⟨rfl, rfl, rfl, by decide +kernel, rfl, by decide +kernel, by decide +kernel⟩
abbrev s_law_seatings_right : Stmt := topS 81
abbrev n_law_seatings_right : List Str := ["pouch", "hall", "kept", "some", "item", "told"]
theorem sc_law_seatings_right : FnScope n_law_seatings_right ["pouch"] (defScope s_law_seatings_right) := ⟨rfl, rfl, rfl, by decide +kernel, rfl, by decide +kernel, by decide +kernel⟩
abbrev s_law : Stmt := topS 82
abbrev n_law : List Str := ["script", "at", "pouch", "told"]
theorem sc_law : FnScope n_law ["script"] (defScope s_law) := ⟨rfl, rfl, rfl, by decide +kernel, rfl, by decide +kernel, by decide +kernel⟩
/-! what the top has written -/
structure Tx (K : PySem.W.Frag) (mg : Str → Option Value) where
  f_is_whole : Addr
  d_is_whole : FuncData
  F_is_whole : Fun K "is_whole" "is_whole" s_is_whole f_is_whole d_is_whole
  g_is_whole : mg "is_whole" = some (.ref f_is_whole)
  b_is_whole : Binds K d_is_whole ["thing"] []
  f_is_within : Addr
  d_is_within : FuncData
  F_is_within : Fun K "is_within" "is_within" s_is_within f_is_within d_is_within
  g_is_within : mg "is_within" = some (.ref f_is_within)
  b_is_within : Binds K d_is_within ["thing", "least", "most"] []
  f_is_order : Addr
  d_is_order : FuncData
  F_is_order : Fun K "is_order" "is_order" s_is_order f_is_order d_is_order
  g_is_order : mg "is_order" = some (.ref f_is_order)
  b_is_order : Binds K d_is_order ["thing"] []
  f_is_ascending : Addr
  d_is_ascending : FuncData
  F_is_ascending : Fun K "is_ascending" "is_ascending" s_is_ascending f_is_ascending d_is_ascending
  g_is_ascending : mg "is_ascending" = some (.ref f_is_ascending)
  b_is_ascending : Binds K d_is_ascending ["thing", "least", "most"] []
  f_check_guests : Addr
  d_check_guests : FuncData
  F_check_guests : Fun K "check_guests" "check_guests" s_check_guests f_check_guests d_check_guests
  g_check_guests : mg "check_guests" = some (.ref f_check_guests)
  b_check_guests : Binds K d_check_guests ["guests"] []
  f_check_weight : Addr
  d_check_weight : FuncData
  F_check_weight : Fun K "check_weight" "check_weight" s_check_weight f_check_weight d_check_weight
  g_check_weight : mg "check_weight" = some (.ref f_check_weight)
  b_check_weight : Binds K d_check_weight ["weight"] []
  f_check_guest : Addr
  d_check_guest : FuncData
  F_check_guest : Fun K "check_guest" "check_guest" s_check_guest f_check_guest d_check_guest
  g_check_guest : mg "check_guest" = some (.ref f_check_guest)
  b_check_guest : Binds K d_check_guest ["guest", "guests"] []
  f_check_number : Addr
  d_check_number : FuncData
  F_check_number : Fun K "check_number" "check_number" s_check_number f_check_number d_check_number
  g_check_number : mg "check_number" = some (.ref f_check_number)
  b_check_number : Binds K d_check_number ["number", "least", "most"] []
  f_check_index : Addr
  d_check_index : FuncData
  F_check_index : Fun K "check_index" "check_index" s_check_index f_check_index d_check_index
  g_check_index : mg "check_index" = some (.ref f_check_index)
  b_check_index : Binds K d_check_index ["index", "many"] []
  f_raised : Addr
  d_raised : FuncData
  F_raised : Fun K "raised" "raised" s_raised f_raised d_raised
  g_raised : mg "raised" = some (.ref f_raised)
  b_raised : Binds K d_raised ["base", "times"] []
  f_rising : Addr
  d_rising : FuncData
  F_rising : Fun K "rising" "rising" s_rising f_rising d_rising
  g_rising : mg "rising" = some (.ref f_rising)
  b_rising : Binds K d_rising ["weight", "guests"] []
  f_fraction : Addr
  d_fraction : FuncData
  F_fraction : Fun K "fraction" "fraction" s_fraction f_fraction d_fraction
  g_fraction : mg "fraction" = some (.ref f_fraction)
  b_fraction : Binds K d_fraction ["top", "bottom"] []
  f_is_seating : Addr
  d_is_seating : FuncData
  F_is_seating : Fun K "is_seating" "is_seating" s_is_seating f_is_seating d_is_seating
  g_is_seating : mg "is_seating" = some (.ref f_is_seating)
  b_is_seating : Binds K d_is_seating ["thing"] []
  f_tables_of : Addr
  d_tables_of : FuncData
  F_tables_of : Fun K "tables_of" "tables_of" s_tables_of f_tables_of d_tables_of
  g_tables_of : mg "tables_of" = some (.ref f_tables_of)
  b_tables_of : Binds K d_tables_of ["seating"] []
  f_check_seating : Addr
  d_check_seating : FuncData
  F_check_seating : Fun K "check_seating" "check_seating" s_check_seating f_check_seating d_check_seating
  g_check_seating : mg "check_seating" = some (.ref f_check_seating)
  b_check_seating : Binds K d_check_seating ["seating"] []
  f_walk_left : Addr
  d_walk_left : FuncData
  F_walk_left : Fun K "walk_left" "walk_left" s_walk_left f_walk_left d_walk_left
  g_walk_left : mg "walk_left" = some (.ref f_walk_left)
  b_walk_left : Binds K d_walk_left ["lefts", "guest"] []
  f_tables_among : Addr
  d_tables_among : FuncData
  F_tables_among : Fun K "tables_among" "tables_among" s_tables_among f_tables_among d_tables_among
  g_tables_among : mg "tables_among" = some (.ref f_tables_among)
  b_tables_among : Binds K d_tables_among ["lefts", "guests"] []
  f_seating_with : Addr
  d_seating_with : FuncData
  F_seating_with : Fun K "seating_with" "seating_with" s_seating_with f_seating_with d_seating_with
  g_seating_with : mg "seating_with" = some (.ref f_seating_with)
  b_seating_with : Binds K d_seating_with ["tables"] []
  f_count_sizes : Addr
  d_count_sizes : FuncData
  F_count_sizes : Fun K "count_sizes" "count_sizes" s_count_sizes f_count_sizes d_count_sizes
  g_count_sizes : mg "count_sizes" = some (.ref f_count_sizes)
  b_count_sizes : Binds K d_count_sizes ["sizes"] []
  f_sizes_share : Addr
  d_sizes_share : FuncData
  F_sizes_share : Fun K "sizes_share" "sizes_share" s_sizes_share f_sizes_share d_sizes_share
  g_sizes_share : mg "sizes_share" = some (.ref f_sizes_share)
  b_sizes_share : Binds K d_sizes_share ["sizes", "weight"] []
  f_nth_with_sizes : Addr
  d_nth_with_sizes : FuncData
  F_nth_with_sizes : Fun K "nth_with_sizes" "nth_with_sizes" s_nth_with_sizes f_nth_with_sizes d_nth_with_sizes
  g_nth_with_sizes : mg "nth_with_sizes" = some (.ref f_nth_with_sizes)
  b_nth_with_sizes : Binds K d_nth_with_sizes ["sizes", "index"] []
  f_index_with_sizes : Addr
  d_index_with_sizes : FuncData
  F_index_with_sizes : Fun K "index_with_sizes" "index_with_sizes" s_index_with_sizes f_index_with_sizes d_index_with_sizes
  g_index_with_sizes : mg "index_with_sizes" = some (.ref f_index_with_sizes)
  b_index_with_sizes : Binds K d_index_with_sizes ["seating"] []
  f_count_by_opening : Addr
  d_count_by_opening : FuncData
  F_count_by_opening : Fun K "count_by_opening" "count_by_opening" s_count_by_opening f_count_by_opening d_count_by_opening
  g_count_by_opening : mg "count_by_opening" = some (.ref f_count_by_opening)
  b_count_by_opening : Binds K d_count_by_opening ["sizes"] []
  f_opening_share : Addr
  d_opening_share : FuncData
  F_opening_share : Fun K "opening_share" "opening_share" s_opening_share f_opening_share d_opening_share
  g_opening_share : mg "opening_share" = some (.ref f_opening_share)
  b_opening_share : Binds K d_opening_share ["sizes", "weight"] []
  f_size_share : Addr
  d_size_share : FuncData
  F_size_share : Fun K "size_share" "size_share" s_size_share f_size_share d_size_share
  g_size_share : mg "size_share" = some (.ref f_size_share)
  b_size_share : Binds K d_size_share ["guests", "weight", "size"] []
  f_mean_number : Addr
  d_mean_number : FuncData
  F_mean_number : Fun K "mean_number" "mean_number" s_mean_number f_mean_number d_mean_number
  g_mean_number : mg "mean_number" = some (.ref f_mean_number)
  b_mean_number : Binds K d_mean_number ["guests", "weight", "size"] []
  f_number_shares : Addr
  d_number_shares : FuncData
  F_number_shares : Fun K "number_shares" "number_shares" s_number_shares f_number_shares d_number_shares
  g_number_shares : mg "number_shares" = some (.ref f_number_shares)
  b_number_shares : Binds K d_number_shares ["guests", "weight", "size"] []
  f_count_allowed : Addr
  d_count_allowed : FuncData
  F_count_allowed : Fun K "count_allowed" "count_allowed" s_count_allowed f_count_allowed d_count_allowed
  g_count_allowed : mg "count_allowed" = some (.ref f_count_allowed)
  b_count_allowed : Binds K d_count_allowed ["guests", "allowed"] []
  f_allowed_share : Addr
  d_allowed_share : FuncData
  F_allowed_share : Fun K "allowed_share" "allowed_share" s_allowed_share f_allowed_share d_allowed_share
  g_allowed_share : mg "allowed_share" = some (.ref f_allowed_share)
  b_allowed_share : Binds K d_allowed_share ["guests", "weight", "allowed"] []
  f_nth_allowed : Addr
  d_nth_allowed : FuncData
  F_nth_allowed : Fun K "nth_allowed" "nth_allowed" s_nth_allowed f_nth_allowed d_nth_allowed
  g_nth_allowed : mg "nth_allowed" = some (.ref f_nth_allowed)
  b_nth_allowed : Binds K d_nth_allowed ["guests", "allowed", "index"] []
  f_first_allowed : Addr
  d_first_allowed : FuncData
  F_first_allowed : Fun K "first_allowed" "first_allowed" s_first_allowed f_first_allowed d_first_allowed
  g_first_allowed : mg "first_allowed" = some (.ref f_first_allowed)
  b_first_allowed : Binds K d_first_allowed ["guests", "weight", "allowed"] []
  f_given_open : Addr
  d_given_open : FuncData
  F_given_open : Fun K "given_open" "given_open" s_given_open f_given_open d_given_open
  g_given_open : mg "given_open" = some (.ref f_given_open)
  b_given_open : Binds K d_given_open ["sizes", "guest"] []
  f_given_together : Addr
  d_given_together : FuncData
  F_given_together : Fun K "given_together" "given_together" s_given_together f_given_together d_given_together
  g_given_together : mg "given_together" = some (.ref f_given_together)
  b_given_together : Binds K d_given_together ["sizes"] []
  f_check_sizes : Addr
  d_check_sizes : FuncData
  F_check_sizes : Fun K "check_sizes" "check_sizes" s_check_sizes f_check_sizes d_check_sizes
  g_check_sizes : mg "check_sizes" = some (.ref f_check_sizes)
  b_check_sizes : Binds K d_check_sizes ["sizes"] []
  f_are_sizes : Addr
  d_are_sizes : FuncData
  F_are_sizes : Fun K "are_sizes" "are_sizes" s_are_sizes f_are_sizes d_are_sizes
  g_are_sizes : mg "are_sizes" = some (.ref f_are_sizes)
  b_are_sizes : Binds K d_are_sizes ["thing"] []
  f_check_allowed : Addr
  d_check_allowed : FuncData
  F_check_allowed : Fun K "check_allowed" "check_allowed" s_check_allowed f_check_allowed d_check_allowed
  g_check_allowed : mg "check_allowed" = some (.ref f_check_allowed)
  b_check_allowed : Binds K d_check_allowed ["allowed"] []
  f_ways_with_sizes : Addr
  d_ways_with_sizes : FuncData
  F_ways_with_sizes : Fun K "ways_with_sizes" "ways_with_sizes" s_ways_with_sizes f_ways_with_sizes d_ways_with_sizes
  g_ways_with_sizes : mg "ways_with_sizes" = some (.ref f_ways_with_sizes)
  b_ways_with_sizes : Binds K d_ways_with_sizes ["sizes"] []
  f_ways_by_opening : Addr
  d_ways_by_opening : FuncData
  F_ways_by_opening : Fun K "ways_by_opening" "ways_by_opening" s_ways_by_opening f_ways_by_opening d_ways_by_opening
  g_ways_by_opening : mg "ways_by_opening" = some (.ref f_ways_by_opening)
  b_ways_by_opening : Binds K d_ways_by_opening ["sizes"] []
  f_share_of_ways : Addr
  d_share_of_ways : FuncData
  F_share_of_ways : Fun K "share_of_ways" "share_of_ways" s_share_of_ways f_share_of_ways d_share_of_ways
  g_share_of_ways : mg "share_of_ways" = some (.ref f_share_of_ways)
  b_share_of_ways : Binds K d_share_of_ways ["ways", "sizes", "weight"] []
  f_tables_weight : Addr
  d_tables_weight : FuncData
  F_tables_weight : Fun K "tables_weight" "tables_weight" s_tables_weight f_tables_weight d_tables_weight
  g_tables_weight : mg "tables_weight" = some (.ref f_tables_weight)
  b_tables_weight : Binds K d_tables_weight ["guests", "weight", "size"] []
  f_weight_with_size : Addr
  d_weight_with_size : FuncData
  F_weight_with_size : Fun K "weight_with_size" "weight_with_size" s_weight_with_size f_weight_with_size d_weight_with_size
  g_weight_with_size : mg "weight_with_size" = some (.ref f_weight_with_size)
  b_weight_with_size : Binds K d_weight_with_size ["guests", "weight", "size"] []
  f_weights_with_allowed : Addr
  d_weights_with_allowed : FuncData
  F_weights_with_allowed : Fun K "weights_with_allowed" "weights_with_allowed" s_weights_with_allowed f_weights_with_allowed d_weights_with_allowed
  g_weights_with_allowed : mg "weights_with_allowed" = some (.ref f_weights_with_allowed)
  b_weights_with_allowed : Binds K d_weights_with_allowed ["guests", "weight", "allowed"] []
  f_ways_behind_sizes : Addr
  d_ways_behind_sizes : FuncData
  F_ways_behind_sizes : Fun K "ways_behind_sizes" "ways_behind_sizes" s_ways_behind_sizes f_ways_behind_sizes d_ways_behind_sizes
  g_ways_behind_sizes : mg "ways_behind_sizes" = some (.ref f_ways_behind_sizes)
  b_ways_behind_sizes : Binds K d_ways_behind_sizes ["sizes"] []
  f_table_at : Addr
  d_table_at : FuncData
  F_table_at : Fun K "table_at" "table_at" s_table_at f_table_at d_table_at
  g_table_at : mg "table_at" = some (.ref f_table_at)
  b_table_at : Binds K d_table_at ["free", "behind", "index"] []
  f_index_of_table : Addr
  d_index_of_table : FuncData
  F_index_of_table : Fun K "index_of_table" "index_of_table" s_index_of_table f_index_of_table d_index_of_table
  g_index_of_table : mg "index_of_table" = some (.ref f_index_of_table)
  b_index_of_table : Binds K d_index_of_table ["free", "behind", "table"] []
  f_ways_to_go_on : Addr
  d_ways_to_go_on : FuncData
  F_ways_to_go_on : Fun K "ways_to_go_on" "ways_to_go_on" s_ways_to_go_on f_ways_to_go_on d_ways_to_go_on
  g_ways_to_go_on : mg "ways_to_go_on" = some (.ref f_ways_to_go_on)
  b_ways_to_go_on : Binds K d_ways_to_go_on ["length", "many", "behind"] []
  f_law_pouch : Addr
  d_law_pouch : FuncData
  F_law_pouch : Fun K "_law_pouch" "_law_pouch" s_law_pouch f_law_pouch d_law_pouch
  g_law_pouch : mg "_law_pouch" = some (.ref f_law_pouch)
  b_law_pouch : Binds K d_law_pouch ["script", "at"] []
  f_law_dip : Addr
  d_law_dip : FuncData
  F_law_dip : Fun K "_law_dip" "_law_dip" s_law_dip f_law_dip d_law_dip
  g_law_dip : mg "_law_dip" = some (.ref f_law_dip)
  b_law_dip : Binds K d_law_dip ["pouch", "wide"] []
  f_law_entries : Addr
  d_law_entries : FuncData
  F_law_entries : Fun K "_law_entries" "_law_entries" s_law_entries f_law_entries d_law_entries
  g_law_entries : mg "_law_entries" = some (.ref f_law_entries)
  b_law_entries : Binds K d_law_entries ["pouch", "many"] []
  f_law_rings : Addr
  d_law_rings : FuncData
  F_law_rings : Fun K "_law_rings" "_law_rings" s_law_rings f_law_rings d_law_rings
  g_law_rings : mg "_law_rings" = some (.ref f_law_rings)
  b_law_rings : Binds K d_law_rings ["entries"] []
  f_law_seat : Addr
  d_law_seat : FuncData
  F_law_seat : Fun K "_law_seat" "_law_seat" s_law_seat f_law_seat d_law_seat
  g_law_seat : mg "_law_seat" = some (.ref f_law_seat)
  b_law_seat : Binds K d_law_seat ["rings"] []
  f_law_things : Addr
  d_law_things : FuncData
  F_law_things : Fun K "_law_things" "_law_things" s_law_things f_law_things d_law_things
  g_law_things : mg "_law_things" = some (.ref f_law_things)
  b_law_things : Binds K d_law_things ["pouch", "row"] []
  f_law_is_row : Addr
  d_law_is_row : FuncData
  F_law_is_row : Fun K "_law_is_row" "_law_is_row" s_law_is_row f_law_is_row d_law_is_row
  g_law_is_row : mg "_law_is_row" = some (.ref f_law_is_row)
  b_law_is_row : Binds K d_law_is_row ["item"] []
  f_law_rise : Addr
  d_law_rise : FuncData
  F_law_rise : Fun K "_law_rise" "_law_rise" s_law_rise f_law_rise d_law_rise
  g_law_rise : mg "_law_rise" = some (.ref f_law_rise)
  b_law_rise : Binds K d_law_rise ["heavy", "many"] []
  f_law_some_widths : Addr
  d_law_some_widths : FuncData
  F_law_some_widths : Fun K "_law_some_widths" "_law_some_widths" s_law_some_widths f_law_some_widths d_law_some_widths
  g_law_some_widths : mg "_law_some_widths" = some (.ref f_law_some_widths)
  b_law_some_widths : Binds K d_law_some_widths ["pouch", "many"] []
  f_law_counted : Addr
  d_law_counted : FuncData
  F_law_counted : Fun K "_law_counted" "_law_counted" s_law_counted f_law_counted d_law_counted
  g_law_counted : mg "_law_counted" = some (.ref f_law_counted)
  b_law_counted : Binds K d_law_counted ["widths"] []
  f_law_word : Addr
  d_law_word : FuncData
  F_law_word : Fun K "_law_word" "_law_word" s_law_word f_law_word d_law_word
  g_law_word : mg "_law_word" = some (.ref f_law_word)
  b_law_word : Binds K d_law_word ["caught"] []
  f_law_asked : Addr
  d_law_asked : FuncData
  F_law_asked : Fun K "_law_asked" "_law_asked" s_law_asked f_law_asked d_law_asked
  g_law_asked : mg "_law_asked" = some (.ref f_law_asked)
  b_law_asked : Binds K d_law_asked ["way", "one", "two", "three"] []
  f_law_told : Addr
  d_law_told : FuncData
  F_law_told : Fun K "_law_told" "_law_told" s_law_told f_law_told d_law_told
  g_law_told : mg "_law_told" = some (.ref f_law_told)
  b_law_told : Binds K d_law_told ["way", "one", "two", "three"] []
  f_law_is_sizes : Addr
  d_law_is_sizes : FuncData
  F_law_is_sizes : Fun K "_law_is_sizes" "_law_is_sizes" s_law_is_sizes f_law_is_sizes d_law_is_sizes
  g_law_is_sizes : mg "_law_is_sizes" = some (.ref f_law_is_sizes)
  b_law_is_sizes : Binds K d_law_is_sizes ["item"] []
  f_law_is_allowed : Addr
  d_law_is_allowed : FuncData
  F_law_is_allowed : Fun K "_law_is_allowed" "_law_is_allowed" s_law_is_allowed f_law_is_allowed d_law_is_allowed
  g_law_is_allowed : mg "_law_is_allowed" = some (.ref f_law_is_allowed)
  b_law_is_allowed : Binds K d_law_is_allowed ["item"] []
  f_law_odd : Addr
  d_law_odd : FuncData
  F_law_odd : Fun K "_law_odd" "_law_odd" s_law_odd f_law_odd d_law_odd
  g_law_odd : mg "_law_odd" = some (.ref f_law_odd)
  b_law_odd : Binds K d_law_odd ["pouch", "row"] []
  f_law_lists_right : Addr
  d_law_lists_right : FuncData
  F_law_lists_right : Fun K "_law_lists_right" "_law_lists_right" s_law_lists_right f_law_lists_right d_law_lists_right
  g_law_lists_right : mg "_law_lists_right" = some (.ref f_law_lists_right)
  b_law_lists_right : Binds K d_law_lists_right ["pouch"] []
  f_law_wrong_right : Addr
  d_law_wrong_right : FuncData
  F_law_wrong_right : Fun K "_law_wrong_right" "_law_wrong_right" s_law_wrong_right f_law_wrong_right d_law_wrong_right
  g_law_wrong_right : mg "_law_wrong_right" = some (.ref f_law_wrong_right)
  b_law_wrong_right : Binds K d_law_wrong_right ["pouch"] []
  f_law_seatings_right : Addr
  d_law_seatings_right : FuncData
  F_law_seatings_right : Fun K "_law_seatings_right" "_law_seatings_right" s_law_seatings_right f_law_seatings_right d_law_seatings_right
  g_law_seatings_right : mg "_law_seatings_right" = some (.ref f_law_seatings_right)
  b_law_seatings_right : Binds K d_law_seatings_right ["pouch"] []
  f_law : Addr
  d_law : FuncData
  F_law : Fun K "law" "law" s_law f_law d_law
  g_law : mg "law" = some (.ref f_law)
  b_law : Binds K d_law ["script"] []
  cl_HallError : Addr
  gc_HallError : mg "HallError" = some (.ref cl_HallError)
  cl_InvalidSeating : Addr
  gc_InvalidSeating : mg "InvalidSeating" = some (.ref cl_InvalidSeating)
  cl_InvalidSizes : Addr
  gc_InvalidSizes : mg "InvalidSizes" = some (.ref cl_InvalidSizes)
  cl_InvalidWeight : Addr
  gc_InvalidWeight : mg "InvalidWeight" = some (.ref cl_InvalidWeight)
  cl_InvalidGuests : Addr
  gc_InvalidGuests : mg "InvalidGuests" = some (.ref cl_InvalidGuests)
  cl_InvalidGuest : Addr
  gc_InvalidGuest : mg "InvalidGuest" = some (.ref cl_InvalidGuest)
  cl_InvalidNumber : Addr
  gc_InvalidNumber : mg "InvalidNumber" = some (.ref cl_InvalidNumber)
  cl_InvalidIndex : Addr
  gc_InvalidIndex : mg "InvalidIndex" = some (.ref cl_InvalidIndex)
  cl_NoSeating : Addr
  gc_NoSeating : mg "NoSeating" = some (.ref cl_NoSeating)
  e_InvalidSeating : Kit.ExcD K cl_InvalidSeating
  x_InvalidSeating : PySem.W.exmOne K (.ref cl_InvalidSeating) (.ref cl_HallError) = some true
  t_InvalidSeating : Kit.isRow K cl_InvalidSeating [((.ref cl_InvalidSeating : Value), true), ((.ref cl_InvalidSizes : Value), false), ((.ref cl_InvalidWeight : Value), false), ((.ref cl_InvalidGuests : Value), false), ((.ref cl_InvalidGuest : Value), false), ((.ref cl_InvalidNumber : Value), false), ((.ref cl_InvalidIndex : Value), false), ((.ref cl_NoSeating : Value), false), ((.type "ValueError" : Value), true)] = true
  e_InvalidSizes : Kit.ExcD K cl_InvalidSizes
  x_InvalidSizes : PySem.W.exmOne K (.ref cl_InvalidSizes) (.ref cl_HallError) = some true
  t_InvalidSizes : Kit.isRow K cl_InvalidSizes [((.ref cl_InvalidSeating : Value), false), ((.ref cl_InvalidSizes : Value), true), ((.ref cl_InvalidWeight : Value), false), ((.ref cl_InvalidGuests : Value), false), ((.ref cl_InvalidGuest : Value), false), ((.ref cl_InvalidNumber : Value), false), ((.ref cl_InvalidIndex : Value), false), ((.ref cl_NoSeating : Value), false), ((.type "ValueError" : Value), true)] = true
  e_InvalidWeight : Kit.ExcD K cl_InvalidWeight
  x_InvalidWeight : PySem.W.exmOne K (.ref cl_InvalidWeight) (.ref cl_HallError) = some true
  t_InvalidWeight : Kit.isRow K cl_InvalidWeight [((.ref cl_InvalidSeating : Value), false), ((.ref cl_InvalidSizes : Value), false), ((.ref cl_InvalidWeight : Value), true), ((.ref cl_InvalidGuests : Value), false), ((.ref cl_InvalidGuest : Value), false), ((.ref cl_InvalidNumber : Value), false), ((.ref cl_InvalidIndex : Value), false), ((.ref cl_NoSeating : Value), false), ((.type "ValueError" : Value), true)] = true
  e_InvalidGuests : Kit.ExcD K cl_InvalidGuests
  x_InvalidGuests : PySem.W.exmOne K (.ref cl_InvalidGuests) (.ref cl_HallError) = some true
  t_InvalidGuests : Kit.isRow K cl_InvalidGuests [((.ref cl_InvalidSeating : Value), false), ((.ref cl_InvalidSizes : Value), false), ((.ref cl_InvalidWeight : Value), false), ((.ref cl_InvalidGuests : Value), true), ((.ref cl_InvalidGuest : Value), false), ((.ref cl_InvalidNumber : Value), false), ((.ref cl_InvalidIndex : Value), false), ((.ref cl_NoSeating : Value), false), ((.type "ValueError" : Value), true)] = true
  e_InvalidGuest : Kit.ExcD K cl_InvalidGuest
  x_InvalidGuest : PySem.W.exmOne K (.ref cl_InvalidGuest) (.ref cl_HallError) = some true
  t_InvalidGuest : Kit.isRow K cl_InvalidGuest [((.ref cl_InvalidSeating : Value), false), ((.ref cl_InvalidSizes : Value), false), ((.ref cl_InvalidWeight : Value), false), ((.ref cl_InvalidGuests : Value), false), ((.ref cl_InvalidGuest : Value), true), ((.ref cl_InvalidNumber : Value), false), ((.ref cl_InvalidIndex : Value), false), ((.ref cl_NoSeating : Value), false), ((.type "ValueError" : Value), true)] = true
  e_InvalidNumber : Kit.ExcD K cl_InvalidNumber
  x_InvalidNumber : PySem.W.exmOne K (.ref cl_InvalidNumber) (.ref cl_HallError) = some true
  t_InvalidNumber : Kit.isRow K cl_InvalidNumber [((.ref cl_InvalidSeating : Value), false), ((.ref cl_InvalidSizes : Value), false), ((.ref cl_InvalidWeight : Value), false), ((.ref cl_InvalidGuests : Value), false), ((.ref cl_InvalidGuest : Value), false), ((.ref cl_InvalidNumber : Value), true), ((.ref cl_InvalidIndex : Value), false), ((.ref cl_NoSeating : Value), false), ((.type "ValueError" : Value), true)] = true
  e_InvalidIndex : Kit.ExcD K cl_InvalidIndex
  x_InvalidIndex : PySem.W.exmOne K (.ref cl_InvalidIndex) (.ref cl_HallError) = some true
  t_InvalidIndex : Kit.isRow K cl_InvalidIndex [((.ref cl_InvalidSeating : Value), false), ((.ref cl_InvalidSizes : Value), false), ((.ref cl_InvalidWeight : Value), false), ((.ref cl_InvalidGuests : Value), false), ((.ref cl_InvalidGuest : Value), false), ((.ref cl_InvalidNumber : Value), false), ((.ref cl_InvalidIndex : Value), true), ((.ref cl_NoSeating : Value), false), ((.type "ValueError" : Value), true)] = true
  e_NoSeating : Kit.ExcD K cl_NoSeating
  x_NoSeating : PySem.W.exmOne K (.ref cl_NoSeating) (.ref cl_HallError) = some true
  t_NoSeating : Kit.isRow K cl_NoSeating [((.ref cl_InvalidSeating : Value), false), ((.ref cl_InvalidSizes : Value), false), ((.ref cl_InvalidWeight : Value), false), ((.ref cl_InvalidGuests : Value), false), ((.ref cl_InvalidGuest : Value), false), ((.ref cl_InvalidNumber : Value), false), ((.ref cl_InvalidIndex : Value), false), ((.ref cl_NoSeating : Value), true), ((.type "ValueError" : Value), true)] = true
  m_ValueError : mg "ValueError" = none
  m_abs : mg "abs" = none
  m_all : mg "all" = none
  m_bool : mg "bool" = none
  m_divmod : mg "divmod" = none
  m_enumerate : mg "enumerate" = none
  m_int : mg "int" = none
  m_isinstance : mg "isinstance" = none
  m_len : mg "len" = none
  m_list : mg "list" = none
  m_max : mg "max" = none
  m_min : mg "min" = none
  m_range : mg "range" = none
  m_set : mg "set" = none
  m_sorted : mg "sorted" = none
  m_sum : mg "sum" = none
  m_tuple : mg "tuple" = none
  m_type : mg "type" = none
  c_MOST_GUESTS : ∃ u, mg "MOST_GUESTS" = some u ∧ RelV (.int 20) u
  c_MOST_WEIGHT : ∃ u, mg "MOST_WEIGHT" = some u ∧ RelV (.int 1000000000000) u
  i_comb : mg "comb" = some (.builtin "math.comb")
  i_factorial : mg "factorial" = some (.builtin "math.factorial")
  i_gcd : mg "gcd" = some (.builtin "math.gcd")
  i_perm : mg "perm" = some (.builtin "math.perm")
/-! readings that go by themselves -/
local macro_rules | `(tactic| walk_at "side") => `(tactic| first | with_reducible assumption | with_reducible rfl | omega | decide | (constructor <;> first | assumption | omega | decide))
local macro_rules | `(tactic| walk_at "ev") => `(tactic| first
  | ((with_reducible refine' ev_var ?e1); (case e1 => rfl))
  | (with_reducible exact ev_c)
  | ((with_reducible refine' ev_op ?e1 ?e2 rv_I0); (case e1 => walk_at "ev"); (case e2 => walk_at "ev"))
  | ((with_reducible refine' ev_op ?e1 ?e2 (rv_I ?e3)); (case e1 => walk_at "ev"); (case e2 => walk_at "ev"); (case e3 => walk_at "side"))
  | ((with_reducible refine' ev_op ?e1 ?e2 (rv_eq ?e3)); (case e1 => walk_at "ev"); (case e2 => walk_at "ev"); (case e3 => rfl))
  | ((with_reducible refine' ev_op ?e1 ?e2 (rv_ne ?e3)); (case e1 => walk_at "ev"); (case e2 => walk_at "ev"); (case e3 => rfl))
  | ((with_reducible refine' ev_op ?e1 ?e2 (rv_ixL ?e3 ?e4)); (case e1 => walk_at "ev"); (case e2 => walk_at "ev"); (case e3 => walk_at "sq"); (case e4 => walk_at "at"))
  | ((with_reducible refine' ev_op ?e1 ?e2 (rv_ixT ?e3 ?e4)); (case e1 => walk_at "ev"); (case e2 => walk_at "ev"); (case e3 => walk_at "sq"); (case e4 => walk_at "at"))
  | ((with_reducible refine' ev_op ?e1 ?e2 rv_isN); (case e1 => walk_at "ev"); (case e2 => walk_at "ev"))
  | ((with_reducible refine' ev_op ?e1 ?e2 rv_notN); (case e1 => walk_at "ev"); (case e2 => walk_at "ev"))
  | ((with_reducible refine' ev_op ?e1 ?e2 (rv_eqTy ?e3 ?e4)); (case e1 => walk_at "ev"); (case e2 => walk_at "ev"); (case e3 => exact PySem.TypeEq.meta_int); (case e4 => exact PySem.TypeEq.meta_int))
  | ((with_reducible refine' ev_un ?e1 ru_neg); (case e1 => walk_at "ev"))
  | ((with_reducible refine' ev_intI ?e1); (case e1 => walk_at "ev"))
  | ((with_reducible refine' ev_intB ?e1); (case e1 => walk_at "ev"))
  | ((with_reducible refine' ev_typeI ?e1); (case e1 => walk_at "ev"))
  | ((with_reducible refine' ev_abs ?e1); (case e1 => walk_at "ev"))
  | ((with_reducible refine' ev_max2 ?e1 ?e2); (case e1 => walk_at "ev"); (case e2 => walk_at "ev"))
  | ((with_reducible refine' ev_min2 ?e1 ?e2); (case e1 => walk_at "ev"); (case e2 => walk_at "ev"))
  | ((with_reducible refine' ev_gcd ?e1 ?e2); (case e1 => walk_at "ev"); (case e2 => walk_at "ev"))
  | ((with_reducible refine' ev_len ?e1 ?e2); (case e1 => walk_at "ev"); (case e2 => walk_at "sq"))
  | ((with_reducible refine' ev_chainI ?e1 ?e2 ?e3); (case e1 => walk_at "ev"); (case e2 => walk_at "ev"); (case e3 => walk_at "ev"))
  | ((with_reducible refine' ev_chain3I ?e1 ?e2 ?e3 ?e4); (case e1 => walk_at "ev"); (case e2 => walk_at "ev"); (case e3 => walk_at "ev"); (case e4 => walk_at "ev"))
  | ((with_reducible refine' ev_notV ?e1); (case e1 => walk_at "ev"))
  | ((with_reducible refine' ev_andV ?e1 ?e2); (case e1 => walk_at "ev"); (case e2 => (intro _; walk_at "ev")))
  | ((with_reducible refine' ev_orV ?e1 ?e2); (case e1 => walk_at "ev"); (case e2 => (intro _; walk_at "ev")))
  | ((with_reducible refine' ev_if ?e1 ?e2 ?e3); (case e1 => walk_at "et"); (case e2 => (intro _; walk_at "ev")); (case e3 => (intro _; walk_at "ev")))
  | ((with_reducible refine' ev_call ?e1 ?e2); (case e1 => walk_at "ea"); (case e2 => walk_at "call")))
local macro_rules | `(tactic| walk_at "ea") => `(tactic| first
  | (with_reducible exact ea_nil)
  | ((with_reducible refine' ea_cons ?e1 ?e2); (case e1 => walk_at "ev"); (case e2 => walk_at "ea")))
local macro_rules | `(tactic| walk_at "et") => `(tactic| first
  | ((with_reducible refine' et_test ?e1); (case e1 => walk_at "ev"))
  | ((with_reducible refine' et_B ?e1); (case e1 => walk_at "ev"))
  | ((with_reducible refine' et_not ?e1); (case e1 => walk_at "et"))
  | ((with_reducible refine' et_and ?e1 ?e2); (case e1 => walk_at "et"); (case e2 => (intro _; walk_at "et")))
  | ((with_reducible refine' et_or ?e1 ?e2); (case e1 => walk_at "et"); (case e2 => (intro _; walk_at "et"))))
local macro_rules | `(tactic| walk_at "eu") => `(tactic| first
  | ((with_reducible refine' eu_tup ?e1 ?e2); (case e1 => walk_at "ea"); (case e2 => exact Nat.le_of_ble_eq_true rfl))
  | ((with_reducible refine' eu_call ?e1 ?e2); (case e1 => walk_at "ea"); (case e2 => walk_at "callU")))
local macro_rules | `(tactic| walk_at "el") => `(tactic| first
  | ((with_reducible refine' el_call ?e1 ?e2); (case e1 => walk_at "ea"); (case e2 => walk_at "callL"))
  | ((with_reducible refine' el_lst ?e1 ?e2); (case e1 => walk_at "ea"); (case e2 => exact Nat.le_of_ble_eq_true rfl)))
local macro_rules | `(tactic| walk_at "sq") => `(tactic| first | assumption | exact sq_of (by assumption) | exact st_of (by assumption))
local macro_rules | `(tactic| walk_at "at") => `(tactic| first | assumption | rfl | (apply atI_nat; rfl))
local macro_rules | `(tactic| walk_at "call") => `(tactic| assumption)

/-! ### the pouch -/
/-- H without p -/
def Hm (p : Addr) (H : Hp) : Hp := fun b => if b = p then none else H b
theorem hm_p {p : Addr} {H : Hp} : Hm p H p = none := if_pos rfl
theorem hm_sub {p : Addr} {H : Hp} : Ex (Hm p H) H := fun a o h => by
  unfold Hm at h
  split at h
  · cases h
  · exact h
theorem hm_mono {p : Addr} {H H' : Hp} (e : Ex H H') : Ex (Hm p H) (Hm p H') := fun a o h => by
  unfold Hm at h ⊢
  split at h
  · cases h
  · rename_i ne
    rw [if_neg ne]
    exact e a o h
theorem ex_hm {p : Addr} {H0 H : Hp} (e : Ex H0 H) (h : H0 p = none) : Ex H0 (Hm p H) := fun a o ha => by
  unfold Hm
  rw [if_neg (ne_of_none ha h)]
  exact e a o ha
/-- a pouch after at most n mixed draws -/
def Po (p : Addr) (n : Nat) (H : Hp) : Prop := ∃ a b c : Int, H p = some (.lst [.int a, .int b, .int c]) ∧ (0 ≤ b ∧ b < 2 ^ 200) ∧ 0 ≤ c ∧ c ≤ n
theorem Po.ex {p : Addr} {n : Nat} {H H' : Hp} (h : Po p n H) (e : Ex H H') : Po p n H' := by
  obtain ⟨a, b, c, h1, h2⟩ := h
  exact ⟨a, b, c, e p _ h1, h2⟩
theorem Po.mono {p : Addr} {n m : Nat} {H : Hp} (h : Po p n H) (e : n ≤ m) : Po p m H := by
  obtain ⟨a, b, c, h1, h2, h3, h4⟩ := h
  exact ⟨a, b, c, h1, h2, h3, by omega⟩
theorem pow3_ok {i : Int} (h : i.natAbs < 2 ^ 250) : CPowX i 3 := by
  have := PyProof.Rows.intBits_le h
  unfold CPowX
  omega
theorem divw_ok {i j : Int} (h : 0 < j) (hb : j < 2 ^ 200) : CDivW i j := wide_div (b := 200) h (by omega) (by decide) (by decide)
theorem mulk_ok {i j : Int} (h : i.natAbs < 2 ^ 100000) (hb : j.natAbs < 2 ^ 100000) : CMulX i j := mulx_ok h hb (by decide)
def sp_law_pouch (K : PySem.W.Frag) : Sp := fun vs H Q _ => ∃ (s : Addr) (ns : List Int) (i : Nat), vs = [.ref s, .int (i : Int)] ∧ SqL K H s (ns.map V.int) ∧ i ≤ 100 ∧ ∀ p H', H p = none → Ex H H' → Po p 0 H' → Q (.ref p) H'
def sp_law_dip : Sp := fun vs H Q _ => ∃ (p : Addr) (n : Nat) (w : Int), vs = [.ref p, .int w] ∧ Po p n H ∧ n < 1000000000 ∧ 0 < w ∧ w < 2 ^ 200 ∧
  ∀ r H', 0 ≤ r → r < w → Po p (n + 1) H' → Ex (Hm p H) H' → Q (.int r) H'
section
variable {P : Program} {w : World} {K : PySem.W.Frag} {mg : Str → Option Value} {base : Heap}
theorem ok_law_dip (T : Tx K mg) : FnOk P w K mg base CX0 1 T.f_law_dip T.d_law_dip ["pouch", "wide"] sp_law_dip := by
  refine T.F_law_dip.ok sc_law_dip (fun vs H Q E h => ?_) (fun cdv A outer s H vs Q E hr h => ?_)
  · obtain ⟨p, n, w, rfl, _⟩ := h
    rfl
  · obtain ⟨p, n, w, rfl, ⟨a, b, c, hp, ⟨hb0, hb1⟩, hc0, hc1⟩, hn, hw0, hw1, k⟩ := h
    refine ⟨_, (pss_cons (ps_if (pt_cmpR op_gt (pe_ix ix_list (pv 0) pe_int (fun _ _ => rfl)) pe_int (nomark _)) (pss_cons (ps_set (i := 2) sc_law_dip.nd rfl (Or.inl rfl) (pe_op op_mod (pe_callTy call_intI (by rfl) T.m_int (by decide +kernel) (pa_cons (pe_ix ix_list (pv 0) pe_int (fun _ _ => rfl)) pa_nil)) (pv 1)))
      (pss_cons (ps_asg (pe_op op_fdivW (pe_ix ix_list (pv 0) pe_int (fun _ _ => rfl)) (pv 1)) (pg_sub (pv 0) pe_int set_list))
      (pss_one (ps_ret (pv 2))))) pss_nil)
      (pss_cons (ps_asg (pe_op op_add (pe_ix ix_list (pv 0) pe_int (fun _ _ => rfl)) pe_int) (pg_sub (pv 0) pe_int set_list))
      (pss_cons (ps_set (i := 3) sc_law_dip.nd rfl (Or.inl rfl) (pe_op op_mod (pe_op op_powX (pe_callTy call_intI (by rfl) T.m_int (by decide +kernel) (pa_cons (pe_op op_add (pe_ix ix_list (pv 0) pe_int (fun _ _ => rfl)) (pe_op op_mulX pe_int (pe_ix ix_list (pv 0) pe_int (fun _ _ => rfl)))) pa_nil)) pe_int) (pe_op op_add (pe_op op_powX pe_int pe_int) pe_int)))
      (pss_cons (ps_set (i := 3) sc_law_dip.nd rfl (Or.inl rfl) (pe_op op_mod (pe_op op_powX (pe_callTy call_intI (by rfl) T.m_int (by decide +kernel) (pa_cons (pe_op op_add (pv 3) (pe_op op_mulX pe_int (pe_ix ix_list (pv 0) pe_int (fun _ _ => rfl)))) pa_nil)) pe_int) (pe_op op_add (pe_op op_powX pe_int pe_int) pe_int)))
      (pss_one (ps_ret (pe_op op_mod (pe_callTy call_intI (by rfl) T.m_int (by decide +kernel) (pa_cons (pe_op op_fdivW (pv 3) pe_int) pa_nil)) (pv 1)))))))), ?_⟩
    have hp0 : Hm p H p = none := hm_p
    refine q_when (by walk_at "et") (fun hb H1 e1 => ?_) (fun hb H1 e1 => ?_)
    · have hp1 := e1 p _ hp
      refine q_asg (by walk_at "ev") fun H2 e2 => ?_
      have hp2 := e2 p _ hp1
      have hd : CDivW a w := divw_ok hw0 hw1
      refine q_setL (j := 0) hp2 (by walk_at "ev") (by walk_at "ev") ev_c (by show 0 < 3; decide) fun H3 e3 => ?_
      refine s_ret (by walk_at "ev") fun H4 e4 => ?_
      refine k _ _ (Int.emod_nonneg _ (by omega)) (Int.emod_lt_of_pos _ hw0) ⟨a / w, b, c, e4 p _ upd_same, ⟨hb0, hb1⟩, hc0, by omega⟩ ?_
      exact Ex.trans (Ex.mut (hm_sub.trans (e1.trans (e2.trans e3))) hp0) e4
    · have hp1 := e1 p _ hp
      refine q_setL (j := 2) hp1 (by walk_at "ev") (by walk_at "ev") ev_c (by show 2 < 3; decide) fun H2 e2 => ?_
      have hp2 : ∀ H3, Ex (upd H2 p (.lst ([V.int a, .int b, .int c].set 2 (.int (c + 1))))) H3 → H3 p = some (.lst [.int a, .int b, .int (c + 1)]) := fun H3 e => e p _ upd_same
      have hq := hp2 _ (Ex.refl _)
      have hm1 : CMulX 870022201 (c + 1) := mulx_ok (a := 64) (b := 64) (by decide) (by omega) (by decide)
      have hw1' : CPowX (b + 870022201 * (c + 1)) 3 := pow3_ok (by omega)
      have hw2 : CPowX 10 41 := ⟨by decide, by decide +kernel⟩
      refine q_asg (by walk_at "ev") fun H3 e3 => ?_
      have hq3 := hp2 _ e3
      have hm2 : CMulX 334214467 (c + 1) := mulx_ok (a := 64) (b := 64) (by decide) (by omega) (by decide)
      generalize hz : (b + 870022201 * (c + 1)) ^ (3 : Int).toNat % ((10 : Int) ^ (41 : Int).toNat + 37) = z
      have hz0 : 0 ≤ z := by
        rw [← hz]
        exact Int.emod_nonneg _ (by decide)
      have hz1 : z < (10 : Int) ^ (41 : Int).toNat + 37 := by
        rw [← hz]
        exact Int.emod_lt_of_pos _ (by decide)
      have hz2 : z < 2 ^ 200 := Int.lt_trans hz1 (by decide)
      have hw3 : CPowX (z + 334214467 * (c + 1)) 3 := pow3_ok (by omega)
      have hw4 : CPowX 10 39 := ⟨by decide, by decide +kernel⟩
      refine q_asg (by walk_at "ev") fun H4 e4 => ?_
      generalize (z + 334214467 * (c + 1)) ^ (3 : Int).toNat % ((10 : Int) ^ (39 : Int).toNat + 3) = y
      have hd : CDivW y 1048583 := divw_ok (by decide) (by decide)
      refine s_ret (by walk_at "ev") fun H5 e5 => ?_
      refine k _ _ (Int.emod_nonneg _ (by omega)) (Int.emod_lt_of_pos _ hw0) ⟨a, b, c + 1, hp2 _ (e3.trans (e4.trans e5)), ⟨hb0, hb1⟩, by omega, by omega⟩ ?_
      exact Ex.trans (Ex.mut (hm_sub.trans (e1.trans e2)) hp0) (e3.trans (e4.trans e5))
theorem ok_law_pouch (T : Tx K mg) : FnOk P w K mg base CX0 1 T.f_law_pouch T.d_law_pouch ["script", "at"] (sp_law_pouch K) := by
  refine T.F_law_pouch.ok sc_law_pouch (fun vs H Q E h => ?_) (fun cdv A outer s H vs Q E hr h => ?_)
  · obtain ⟨a, ns, i, rfl, _⟩ := h
    rfl
  · obtain ⟨a, ns, i, rfl, hs, hi, k⟩ := h
    refine ⟨_, (pss_cons (ps_set (i := 2) sc_law_pouch.nd rfl (Or.inl rfl) (pe_ifExp (pt_cmpR op_lt (pv 1) (pe_callB call_lenR (by rfl) T.m_len (by decide +kernel) (pa_cons (pv 0) pa_nil)) (nomark _)) (pe_ix ix_list (pv 0) (pv 1) (fun _ _ => rfl)) pe_int))
      (pss_one (ps_ret (pe_lst (pa_cons (pe_callB (call_maxR rfl) (by rfl) T.m_max (by decide +kernel) (pa_cons pe_int (pa_cons (pe_op op_sub (pe_callB call_absR (by rfl) T.m_abs (by decide +kernel) (pa_cons (pv 2) pa_nil)) (pe_op op_powX pe_int pe_int)) pa_nil))) (pa_cons (pe_op op_add (pe_op op_add (pe_op op_mulX (pe_op op_mod (pe_callTy call_intI (by rfl) T.m_int (by decide +kernel) (pa_cons (pv 2) pa_nil)) (pe_op op_add (pe_op op_powX pe_int pe_int) pe_int)) pe_int) (pe_op op_mulX pe_int (pv 1))) pe_int) (pa_cons pe_int pa_nil))))))), ?_⟩
    have hlen : (ns.map V.int).length = ns.length := List.length_map ..
    refine q_asg (v := .int (ns.getD i 0)) ?_ fun H1 e1 => ?_
    · refine ev_if (b := decide ((i : Int) < ((ns.map V.int).length : Int))) (by walk_at "et") (fun hb => ?_) (fun hb => ?_)
      · have hb := of_decide_eq_true hb
        rw [hlen] at hb
        have hlt : i < ns.length := by omega
        refine ev_op (ev_var rfl) (ev_var rfl) (rv_ixL hs (atI_nat (j := i) ?_))
        rw [List.getElem?_map, List.getElem?_eq_getElem hlt]
        simp [List.getD_eq_getElem?_getD, hlt]
      · have hb := of_decide_eq_false hb
        rw [hlen] at hb
        have e0 : ns.getD i 0 = 0 := by
          rw [List.getD_eq_getElem?_getD, List.getElem?_eq_none (by omega)]
          rfl
        rw [e0]
        exact ev_c
    · generalize ns.getD i 0 = z
      have hw1 : CPowX 10 18 := ⟨by decide, by decide +kernel⟩
      have hw2 : CPowX 10 38 := ⟨by decide, by decide +kernel⟩
      have hy0 : 0 ≤ z % ((10 : Int) ^ (38 : Int).toNat + 133) := Int.emod_nonneg _ (by decide)
      have hy1 : z % ((10 : Int) ^ (38 : Int).toNat + 133) < (10 : Int) ^ (38 : Int).toNat + 133 := Int.emod_lt_of_pos _ (by decide)
      have hy2 : z % ((10 : Int) ^ (38 : Int).toNat + 133) < 2 ^ 150 := Int.lt_trans hy1 (by decide)
      have hpos : 0 < (10 : Int) ^ (38 : Int).toNat + 133 := by decide
      have hm1 : CMulX (z % ((10 : Int) ^ (38 : Int).toNat + 133)) 107 := mulx_ok (a := 150) (b := 64) (by omega) (by decide) (by decide)
      have hm2 : CMulX 71 (i : Int) := mulx_ok (a := 64) (b := 64) (by decide) (by omega) (by decide)
      refine s_retL (el_lst (ea_cons (by walk_at "ev") (ea_cons (by walk_at "ev") (ea_cons ev_c ea_nil))) (Nat.le_of_ble_eq_true rfl)) fun p H2 hp e2 hl => ?_
      refine k p H2 (fresh_back e1 hp) (e1.trans e2) ⟨_, _, _, hl, ⟨?_, ?_⟩, by omega, by omega⟩
      · generalize z % ((10 : Int) ^ (38 : Int).toNat + 133) = y at hy0 hy2 ⊢
        omega
      · generalize z % ((10 : Int) ^ (38 : Int).toNat + 133) = y at hy0 hy2 ⊢
        omega
end

/-! ### expressions that draw -/
theorem hm_trans {p : Addr} {H H1 H2 : Hp} (a : Ex (Hm p H) H1) (b : Ex (Hm p H1) H2) : Ex (Hm p H) H2 := fun x o h => by
  have ne : x ≠ p := fun z => by
    subst z
    rw [hm_p] at h
    cases h
  have h1 := a x o h
  refine b x o ?_
  unfold Hm
  rw [if_neg ne]
  exact h1
theorem hm_next {p : Addr} {H0 H H1 : Hp} (h0 : H0 p = none) (e : Ex H0 H) (s : Ex (Hm p H) H1) : Ex H0 H1 := (ex_hm e h0).trans s
theorem hm_of {p : Addr} {H H1 : Hp} (e : Ex H H1) : Ex (Hm p H) H1 := hm_sub.trans e
theorem hm_at {p a : Addr} {H H1 : Hp} {o : HO} (s : Ex (Hm p H) H1) (ne : a ≠ p) (h : H a = some o) : H1 a = some o := s a o (by
  unfold Hm
  rw [if_neg ne]
  exact h)
theorem Po.ne {p l : Addr} {n : Nat} {H : Hp} (h : Po p n H) (hl : H l = none) : l ≠ p := fun z => by
  subst z
  obtain ⟨_, _, _, h1, _⟩ := h
  rw [hl] at h1
  cases h1
def EvP (p : Addr) (k : Nat) (te : TE) (σ : L2.St) (H0 : Hp) (R : V → Hp → Prop) : Prop := ∀ n H1, Ex H0 H1 → Po p n H1 → n + k ≤ 1000000000 →
  ∀ Q : VK, (∀ v H2, R v H2 → Po p (n + k) H2 → Ex (Hm p H1) H2 → Q v H2) → te σ H1 Q
def Stb (p : Addr) (R : V → Hp → Prop) : Prop := ∀ v H H', R v H → Ex (Hm p H) H' → R v H'
section
variable {K : PySem.W.Frag} {σ : L2.St} {H0 H : Hp} {p : Addr} {k k1 k2 : Nat} {te ta tb : TE} {R Ra Rb : V → Hp → Prop}
theorem ep_ev {v : V} (h : Ev te σ H0 v) : EvP p 0 te σ H0 (fun x _ => x = v) := fun n H1 e hp _ Q q => h H1 e Q fun H2 e2 => q v H2 rfl (hp.ex e2) (hm_of e2)
theorem ep_L {xs : List V} (h : EvL te σ H0 xs) : EvP p 0 te σ H0 (fun x H => ∃ l, l ≠ p ∧ x = .ref l ∧ H l = some (.lst xs)) := fun n H1 e hp _ Q q => h H1 e Q fun l H2 hl e2 h2 => q _ H2 ⟨l, hp.ne hl, rfl, h2⟩ (hp.ex e2) (hm_of e2)
theorem stb_L {xs : List V} : Stb p (fun x H => ∃ l, l ≠ p ∧ x = .ref l ∧ H l = some (.lst xs)) := fun v H H' ⟨l, ne, e, h⟩ s => ⟨l, ne, e, hm_at s ne h⟩
theorem stb_c {C : V → Prop} : Stb p (fun x _ => C x) := fun _ _ _ h _ => h
theorem ep_op {r : R2} (h0 : H0 p = none) (ha : EvP p k1 ta σ H0 Ra) (hb : EvP p k2 tb σ H0 Rb) (s1 : Stb p Ra) (s : Stb p R) (hr : ∀ x y H, Ra x H → Rb y H → ∃ z, R z H ∧ RV r x y H z) : EvP p (k1 + k2) (tOp r ta tb) σ H0 R :=
  fun n H1 e hp hn Q q => ha n H1 e hp (by omega) _ fun x H2 hx p2 e2 => hb (n + k1) H2 (hm_next h0 e e2) p2 (by omega) _ fun y H3 hy p3 e3 => by
    obtain ⟨z, hz, hv⟩ := hr x y H3 (s1 x H2 H3 hx e3) hy
    refine hv H3 (Ex.refl H3) Q fun H4 e4 => q z H4 (s z H3 H4 hz (hm_of e4)) ?_ (hm_trans (hm_trans e2 e3) (hm_of e4))
    rw [← Nat.add_assoc]
    exact p3.ex e4
theorem ep_dip {tw : TE} {E : XK} {C : Int → Prop} (h0 : H0 p = none) (hp : Ev ta σ H0 (.ref p)) (hw : EvP p k tw σ H0 (fun v _ => ∃ w, v = .int w ∧ 0 < w ∧ w < 2 ^ 200 ∧ C w)) :
    EvP p (k + 1) (tCall sp_law_dip [] E (tCons ta (tCons tw tNil))) σ H0 (fun v _ => ∃ r w, v = .int r ∧ 0 ≤ r ∧ r < w ∧ C w) :=
  fun n H1 e hpo hn Q q => hp H1 e _ fun H2 e2 => hw n H2 (e.trans e2) (hpo.ex e2) (by omega) _ fun y H3 hy p3 e3 => by
    obtain ⟨w, rfl, w0, w1, c⟩ := hy
    exact ⟨p, n + k, w, rfl, p3, by omega, w0, w1, fun r H' r0 r1 p4 e4 => q _ H' ⟨r, w, rfl, r0, r1, c⟩ p4 (hm_trans (hm_trans (hm_of e2) e3) e4)⟩
theorem ep_is {R' : V → Hp → Prop} (h : EvP p k te σ H0 R) (e : ∀ v H, R v H → R' v H) : EvP p k te σ H0 R' := fun n H1 a b c Q q => h n H1 a b c Q fun v H2 hv => q v H2 (e v H2 hv)
/-- the width is a pure int -/
theorem ep_dipI {tw : TE} {E : XK} {w : Int} (h0 : H0 p = none) (hp : Ev ta σ H0 (.ref p)) (hw : Ev tw σ H0 (.int w)) (w0 : 0 < w) (w1 : w < 2 ^ 200) :
    EvP p 1 (tCall sp_law_dip [] E (tCons ta (tCons tw tNil))) σ H0 (fun v _ => ∃ r, v = .int r ∧ 0 ≤ r ∧ r < w) :=
  ep_is (ep_dip (k := 0) (C := fun z => z = w) h0 hp (ep_is (ep_ev hw) fun v H e => ⟨w, e, w0, w1, rfl⟩)) fun v H ⟨r, z, e, r0, r1, e2⟩ => ⟨r, e, r0, e2 ▸ r1⟩
/-- a + b, b drawn -/
theorem ep_add {a : Int} {C : Int → Prop} (h0 : H0 p = none) (ha : Ev ta σ H0 (.int a)) (hb : EvP p k tb σ H0 (fun v _ => ∃ r, v = .int r ∧ C r)) : EvP p (0 + k) (tOp (rI0 fun i j => .int (i + j)) ta tb) σ H0 (fun v _ => ∃ r, v = .int (a + r) ∧ C r) :=
  ep_op h0 (ep_ev ha) hb stb_c stb_c fun x y H e ⟨r, e2, c⟩ => ⟨.int (a + r), ⟨r, rfl, c⟩, by
    subst e
    subst e2
    exact rv_I0⟩
theorem p_asg {i n : Nat} {D : Ends} (h : EvP p k te σ H0 R) (e : Ex H0 H) (hp : Po p n H) (hn : n + k ≤ 1000000000) (q : ∀ v H2, R v H2 → Po p (n + k) H2 → Ex (Hm p H) H2 → D.nx (σ.set i (some v)) H2) : tAsg te (gName i) D σ H := h n H e hp hn _ q
theorem pq_asg {i n : Nat} {D : Ends} {tz : TS} (h : EvP p k te σ H0 R) (e : Ex H0 H) (hp : Po p n H) (hn : n + k ≤ 1000000000) (q : ∀ v H2, R v H2 → Po p (n + k) H2 → Ex (Hm p H) H2 → tz D (σ.set i (some v)) H2) : tSeq (tAsg te (gName i)) tz D σ H := h n H e hp hn _ q
/-- tests that draw -/
def EtP (p : Addr) (k : Nat) (t : TT) (σ : L2.St) (H0 : Hp) (b : Bool) : Prop := ∀ n H1, Ex H0 H1 → Po p n H1 → n + k ≤ 1000000000 →
  ∀ Q : Bool → Hp → Prop, (∀ H2, Po p (n + k) H2 → Ex (Hm p H1) H2 → Q b H2) → t σ H1 Q
variable {t u : TT} {b c : Bool}
theorem tp_B (h : EvP p k te σ H0 (fun v _ => v = .bl b)) : EtP p k (tB te) σ H0 b := fun n H1 e hp hn Q q => h n H1 e hp hn _ fun v H2 hv p2 e2 => ⟨b, hv, q H2 p2 e2⟩
theorem tp_not (h : EtP p k t σ H0 b) : EtP p k (tNot t) σ H0 (!b) := fun n H1 e hp hn Q q => h n H1 e hp hn _ fun H2 p2 e2 => q H2 p2 e2
theorem tp_is (h : EtP p k t σ H0 b) (e : b = c) : EtP p k t σ H0 c := e ▸ h
theorem tp_or (h0 : H0 p = none) (h : EtP p k1 t σ H0 false) (h' : EtP p k2 u σ H0 b) : EtP p (k1 + k2) (tOr t u) σ H0 b := fun n H1 e hp hn Q q => h n H1 e hp (by omega) _ fun H2 p2 e2 => by
  show u σ H2 Q
  refine h' (n + k1) H2 (hm_next h0 e e2) p2 (by omega) Q fun H3 p3 e3 => q H3 ?_ (hm_trans e2 e3)
  rw [← Nat.add_assoc]
  exact p3
theorem tp_et (h : EvT t σ H0 b) : EtP p 0 t σ H0 b := fun n H1 e hp _ Q q => h H1 e Q fun H2 e2 => q H2 (hp.ex e2) (hm_of e2)
/-- a test that is false: what follows -/
theorem pq_no {n : Nat} {D : Ends} {tu tz : TS} (h : EtP p k t σ H0 false) (e : Ex H0 H) (hp : Po p n H) (hn : n + k ≤ 1000000000) (q : ∀ H2, Po p (n + k) H2 → Ex (Hm p H) H2 → tz D σ H2) : tSeq (tIfS t tu tNext) tz D σ H := h n H e hp hn _ q
theorem ps_no {n : Nat} {D : Ends} {tu : TS} (h : EtP p k t σ H0 false) (e : Ex H0 H) (hp : Po p n H) (hn : n + k ≤ 1000000000) (q : ∀ H2, Po p (n + k) H2 → Ex (Hm p H) H2 → D.nx σ H2) : tIfS t tu tNext D σ H := h n H e hp hn _ q
/-- pouch = _law_pouch(script, at) -/
theorem pq_pouch {ta : TA} {E : XK} {D : Ends} {tz : TS} {j i : Nat} {s : Addr} {ns : List Int} (h : EvA ta σ H [.ref s, .int (i : Int)]) (hs : SqL K H s (ns.map V.int)) (hi : i ≤ 100) (q : ∀ p H2, H p = none → Ex H H2 → Po p 0 H2 → tz D (σ.set j (some (.ref p))) H2) :
    tSeq (tAsg (tCall (sp_law_pouch K) [] E ta) (gName j)) tz D σ H := h H (Ex.refl H) _ fun H1 e1 => ⟨s, ns, i, rfl, ex_l e1 hs, hi, fun p H2 hp e2 hpo => q p H2 (fresh_back e1 hp) (e1.trans e2) hpo⟩
end


/-! ### lists of guests -/
def iz (xs : List Nat) : List Int := xs.map fun x : Nat => (x : Int)
def nv (xs : List Nat) : List V := (iz xs).map V.int
theorem nv_len (xs : List Nat) : (nv xs).length = xs.length := by simp [nv, iz]
theorem nv_get {xs : List Nat} {i x : Nat} (h : xs[i]? = some x) : (nv xs)[i]? = some (.int x) := by simp [nv, iz, h]
theorem nv_app (xs ys : List Nat) : nv (xs ++ ys) = nv xs ++ nv ys := by simp [nv, iz]
theorem nv_eq (xs : List Nat) : nv xs = xs.map fun x : Nat => V.int (x : Int) := by simp [nv, iz]
def Ord (h : List Nat) : Prop := h.Perm (List.range h.length) ∧ 1 ≤ h.length ∧ h.length ≤ 20
theorem el_mapI {K : PySem.W.Frag} {σ : L2.St} {H : Hp} {te tl : TE} {a : Addr} {xs : List V} {j : Nat} {vs : List Nat} (f : Nat → V) (h : Ev tl σ H (.ref a)) (hx : SqL K H a xs) (hz : xs.length ≤ 40000) (hw : ∀ x, wipe ((wipe σ vs).set j (some x)) vs = wipe σ vs)
    (he : ∀ (i : Nat) (x : V) H1, Ex H H1 → xs[i]? = some x → Ev te ((wipe σ vs).set j (some x)) H1 (f i)) : EvL (tLc (iList K tl) (gName j) tYes te vs) σ H ((List.range xs.length).map f) := by
  have e : (List.range xs.length).map f = given xs.length (fun _ => true) f := by
    unfold given
    rw [List.filter_eq_self.mpr (fun _ _ => rfl)]
  rw [e]
  exact el_lcL _ _ h hx hz hw (fun _ _ _ _ _ => et_yes) fun i x H1 e hi _ => he i x H1 e hi
def sp_is_whole (K : PySem.W.Frag) : Sp := fun vs H Q _ => ∃ (v : V) (d : PyData), vs = [v] ∧ It K H v d ∧ RetV (.bl (isI d)) H Q
theorem sv_whole {K : PySem.W.Frag} {H : Hp} {x : Int} : SpV (sp_is_whole K) ([.int x] ++ []) H (.bl true) := fun H1 _ Q q E => ⟨.int x, .int x, rfl, .int x, q⟩
theorem sv_wholeD {K : PySem.W.Frag} {H : Hp} {v : V} {d : PyData} (h : It K H v d) : SpV (sp_is_whole K) ([v] ++ []) H (.bl (isI d)) := fun H1 e Q q E => ⟨v, d, rfl, h.ex e, q⟩
local macro_rules | `(tactic| walk_at "call") => `(tactic| (with_reducible exact sv_whole))
def sp_ord (v : V) : Sp := fun vs H Q _ => ∃ (a : Addr) (h : List Nat), vs = [.ref a] ∧ H a = some (.lst (nv h)) ∧ Ord h ∧ RetV v H Q
theorem sv_ord {H : Hp} {v : V} {a : Addr} {h : List Nat} (ha : H a = some (.lst (nv h))) (o : Ord h) : SpV (sp_ord v) ([.ref a] ++ []) H v := fun H1 e Q q E => ⟨a, h, rfl, e a _ ha, o, q⟩
section
variable {P : Program} {w : World} {K : PySem.W.Frag} {mg : Str → Option Value} {base : Heap}
theorem ok_is_whole (T : Tx K mg) : FnOk P w K mg base CX0 1 T.f_is_whole T.d_is_whole ["thing"] (sp_is_whole K) := by
  refine T.F_is_whole.ok sc_is_whole (fun vs H Q E h => ?_) (fun cdv A outer s H vs Q E hr h => ?_)
  · obtain ⟨v, d, rfl, _⟩ := h
    rfl
  · obtain ⟨v, d, rfl, hv, k⟩ := h
    refine ⟨_, (pss_one (ps_ret (pe_cmpR op_eqTy (pe_typeOf (by rfl) T.m_type (pv 0)) (pe_bltn (v := .ty "int") (by rfl) T.m_int (by decide +kernel) rfl) (nomark _)))), ?_⟩
    exact s_ret (ev_isWhole (ev_var rfl) hv) fun H1 e1 => k _ e1
theorem range_iz (n : Nat) : rgV 0 (n : Int) = nv (List.range n) := by
  rw [nv_eq]
  unfold rgV
  simp
/-- the ints of data -/
def intsOf (ds : List PyData) : List Int := ds.map fun
  | .int i => i
  | _ => 0
def sortI (ns : List Int) : List Int := ns.mergeSort fun a b => decide (a ≤ b)
theorem sortI_perm (ns : List Int) : (sortI ns).Perm ns := List.mergeSort_perm ns _
theorem sortI_sorted (ns : List Int) : (sortI ns).Pairwise (· ≤ ·) := by
  have := List.pairwise_mergeSort (le := fun a b : Int => decide (a ≤ b)) (fun a b c h1 h2 => by
    have h1 := of_decide_eq_true h1
    have h2 := of_decide_eq_true h2
    exact decide_eq_true (by omega)) (fun a b => by
    rw [Bool.or_eq_true, decide_eq_true_iff, decide_eq_true_iff]
    omega) ns
  exact this.imp fun h => of_decide_eq_true h
theorem ints_of {K : PySem.W.Frag} {H : Hp} : ∀ {xs : List V} {ds : List PyData}, ItAll K H xs ds → ds.all isI = true → xs = (intsOf ds).map V.int
  | _, _, .nil, _ => rfl
  | _, _, .cons h t, ha => by
    rw [List.all_cons, Bool.and_eq_true] at ha
    have := ints_of t ha.2
    cases h with
    | int i =>
      rw [this]
      rfl
    | non => exact Bool.noConfusion ha.1
    | bl b => exact Bool.noConfusion ha.1
    | str x => exact Bool.noConfusion ha.1
    | lst _ _ => exact Bool.noConfusion ha.1
theorem ita_get {K : PySem.W.Frag} {H : Hp} : ∀ {xs : List V} {ds : List PyData} {i : Nat} {x : V}, ItAll K H xs ds → xs[i]? = some x → ∃ d, ds[i]? = some d ∧ It K H x d
  | _, _, 0, x, .cons h t, e => ⟨_, rfl, (Option.some.inj (show some _ = some x from e)) ▸ h⟩
  | _, _, i + 1, x, .cons h t, e => ita_get (i := i) t e
  | _, _, 0, x, .nil, e => by simp at e
  | _, _, i + 1, x, .nil, e => by simp at e
def lenOk (n : Nat) : Bool := decide ((1 : Int) ≤ (n : Int)) && decide ((n : Int) ≤ 20)
def sorts (ds : List PyData) : Bool := PyData.eqv (.list ((sortI (intsOf ds)).map PyData.int)) (.list ((iz (List.range ds.length)).map PyData.int))
/-- whether a thing is a list with 0, 1, .. once each -/
def judge : Option (List PyData) → Bool
  | none => false
  | some ds => lenOk ds.length && (ds.all isI && sorts ds)
def sp_any (K : PySem.W.Frag) : Sp := fun vs H Q _ => ∃ (v : V) (o : Option (List PyData)), vs = [v] ∧ Th K H v o ∧ RetV (.bl (judge o)) H Q
def sp_is_order (K : PySem.W.Frag) : Sp := fun vs H Q E => sp_ord (.bl true) vs H Q E ∨ sp_any K vs H Q E
theorem sv_order {K : PySem.W.Frag} {H : Hp} {a : Addr} {h : List Nat} (ha : H a = some (.lst (nv h))) (o : Ord h) : SpV (sp_is_order K) ([.ref a] ++ []) H (.bl true) := fun H1 e Q q E => .inl (sv_ord ha o H1 e Q q E)
theorem sv_any {K : PySem.W.Frag} {H : Hp} {v : V} {o : Option (List PyData)} (hv : Th K H v o) : SpV (sp_is_order K) ([v] ++ []) H (.bl (judge o)) := fun H1 e Q q E => .inr ⟨v, o, rfl, hv.ex e, q⟩
theorem judge_ord {h : List Nat} (o : Ord h) : judge (some ((iz h).map PyData.int)) = true := by
  have e : intsOf ((iz h).map PyData.int) = iz h := by
    unfold intsOf
    rw [List.map_map]
    exact List.map_id _
  have el : ((iz h).map PyData.int).length = h.length := by simp [iz]
  have s : sortI (iz h) = iz (List.range h.length) := List.Perm.eq_of_pairwise (le := fun a b : Int => a ≤ b) (fun a b _ _ h1 h2 => by omega) (sortI_sorted _) (by
    unfold iz
    rw [List.pairwise_map]
    exact List.Pairwise.imp (fun {a b} h => by omega) List.pairwise_lt_range) ((sortI_perm _).trans (o.1.map (fun x : Nat => (x : Int))))
  unfold judge sorts lenOk
  simp only
  rw [e, el, s, eqv_same (shaped_ints _)]
  have hl := o.2
  have : ((iz h).map PyData.int).all isI = true := by
    rw [List.all_map, List.all_eq_true]
    intro x _
    rfl
  rw [this]
  simp
  omega
theorem Ord.th {K : PySem.W.Frag} {H : Hp} {a : Addr} {h : List Nat} (ha : H a = some (.lst (nv h))) : Th K H (.ref a) (some ((iz h).map PyData.int)) := .lst ha (ita_ints _) (fine_ints _)
theorem ok_is_order (T : Tx K mg) : FnOk P w K mg base CX0 2 T.f_is_order T.d_is_order ["thing"] (sp_is_order K) := by
  refine FnOk.imp (sp := sp_any K) ?_ (fun vs H Q E h => ?_)
  · refine T.F_is_order.ok sc_is_order (fun vs H Q E h => ?_) (fun cdv A outer s H vs Q E hr h => ?_)
    · obtain ⟨v, o, rfl, _⟩ := h
      rfl
    · obtain ⟨v, o, rfl, hv, k⟩ := h
      refine ⟨_, (pss_cons (ps_if (PW.pt (pw_or (pt_cmpR (op_neTyG (hu_of hr)) (pe_typeOf2 (by rfl) T.m_type (pv 0)) (pe_bltn (v := .ty "list") (by rfl) T.m_list (by decide +kernel) rfl) (nomark _)) (pw_or1 (pt_not (pt_chain op_le op_le pe_int (pe_callB call_lenR (by rfl) T.m_len (by decide +kernel) (pa_cons (pv 0) pa_nil)) (pe_gc (by rfl) T.c_MOST_GUESTS)))))) (pss_one (ps_ret pe_bl)) pss_nil)
      (pss_cons (ps_if (pt_not (pt_val (pe_callB (cr_all rfl) (by rfl) T.m_all (by decide +kernel) (pa_cons (pe_lc (own := [("item", 1)]) (g := (gName 1)) (tt := tYes) rfl sc_is_order.nd (pi_list (pv 0)) (blkOk_by (own := [("item", 1)]) (N := n_is_order) (sc := defScope s_is_order) (by decide +kernel)) (fun _ _ _ _ _ => (pg_name (i := 1) sc_is_order.nd rfl (Or.inl rfl))) (fun _ _ _ _ _ => pts_nil) (fun _ _ _ _ _ => (pe_call (ok_is_whole T) (hr.mono (by decide)) (by rfl) T.g_is_whole T.F_is_whole.kp T.b_is_whole .nil pass0 (pa_cons (pv 1) pa_nil)))) pa_nil)))) (pss_one (ps_ret pe_bl)) pss_nil)
      (pss_one (ps_ret (pe_cmpR (op_eqD hr.units) (pe_callB cr_sorted (by rfl) T.m_sorted (by decide +kernel) (pa_cons (pv 0) pa_nil)) (pe_listRg rfl (by rfl) T.m_list (prg_1 (by rfl) T.m_range (pe_callB call_lenR (by rfl) T.m_len (by decide +kernel) (pa_cons (pv 0) pa_nil)))) (nomark _)))))), ?_⟩
      cases o with
      | none =>
        refine q_when (b := true) (et_is (et_or (b := false) (et_test (ev_noList (ev_var rfl) hv)) fun z => Bool.noConfusion z) rfl) (fun _ H1 e1 => ?_) fun hb => Bool.noConfusion hb
        exact s_ret ev_c fun H2 e2 => k _ (e1.trans e2)
      | some ds =>
        have hv0 := hv
        cases hv with
        | @lst a xs _ ha hd hf =>
          have hl : xs.length = ds.length := hd.len
          refine q_when (b := !lenOk ds.length) (et_is (et_or (et_test (ev_noList (ev_var rfl) hv0)) fun _ => et_not (et_test (ev_chainI ev_c (ev_len (ev_var rfl) (sq_of ha)) ev_c))) (by rw [hl]; rfl)) (fun hb H1 e1 => ?_) fun hb H1 e1 => ?_
          · have hb : lenOk ds.length = false := by simpa using hb
            have ej : judge (some ds) = false := by
              unfold judge
              simp only
              rw [hb]
              rfl
            rw [ej] at k
            exact s_ret ev_c fun H2 e2 => k _ (e1.trans e2)
          · have hb : lenOk ds.length = true := by simpa using hb
            have hn : 1 ≤ ds.length ∧ ds.length ≤ 20 := by
              unfold lenOk at hb
              simp at hb
              omega
            have h1 := e1 a _ ha
            refine q_when (b := !(ds.all isI)) (et_is (et_not (et_B (ev_allN (bs := ds.map isI) ?_))) (by rw [List.all_map]; rfl)) (fun hb2 H2 e2 => ?_) fun hb2 H2 e2 => ?_
            · have g := el_mapI (K := K) (te := tCall (sp_is_whole K) [] E0 (tCons (tVar 1) tNil)) (j := 1) (vs := [1]) (σ := start n_is_order [.ref a]) (H := H1) (fun i => V.bl (isI (ds.getD i .none))) (ev_var (i := 0) rfl) (sq_of h1) (by omega) (fun _ => rfl) fun i x H2 e2 hx => ?_
              · have e : (List.range xs.length).map (fun i => V.bl (isI (ds.getD i .none))) = (ds.map isI).map V.bl := by
                  rw [hl]
                  conv => rhs; rw [range_get ds .none]
                  rw [List.map_map, List.map_map]
                  rfl
                rw [e] at g
                exact g
              · obtain ⟨d, hd1, hd2⟩ := ita_get hd hx
                have gd : ds.getD i .none = d := by rw [List.getD_eq_getElem?_getD, hd1] <;> rfl
                show Ev _ _ _ (V.bl (isI (ds.getD i .none)))
                rw [gd]
                exact ev_call (ea_cons (ev_var rfl) ea_nil) (sv_wholeD (hd2.ex (e1.trans e2)))
            · have hb2 : ds.all isI = false := by simpa using hb2
              have ej : judge (some ds) = false := by
                unfold judge
                simp only
                rw [hb2, Bool.false_and, Bool.and_false]
              rw [ej] at k
              exact s_ret ev_c fun H3 e3 => k _ (e1.trans (e2.trans e3))
            · have hb2 : ds.all isI = true := by simpa using hb2
              have ex := ints_of hd hb2
              have il : (intsOf ds).length = ds.length := by simp [intsOf]
              have h2 := e2 a _ h1
              have sr : EvD K (tCB (rSorted K) (tCons (tVar 0) tNil)) (start n_is_order [.ref a]) H2 (.list ((sortI (intsOf ds)).map PyData.int)) :=
                ed_sorted (ns := intsOf ds) (ev_var rfl) (sq_of (by rw [← ex]; exact h2)) (by omega) (sortI_perm _) (sortI_sorted _)
              have rg : EvD K (tLstRg (tRg1 (tCB (rLenS K) (tCons (tVar 0) tNil)))) (start n_is_order [.ref a]) H2 (.list ((iz (List.range ds.length)).map PyData.int)) :=
                ed_ofL (xs := nv (List.range ds.length)) (by
                  have g := el_rg1 (σ := start n_is_order [.ref a]) (ev_len (K := K) (ta := tVar 0) (ev_var (i := 0) (v := .ref a) rfl) (sq_of h2)) (RgOk.of_le (by decide) (by omega) (by decide) (by omega))
                  rw [hl, range_iz] at g
                  exact g) (dpa_ints _)
              have ej : judge (some ds) = sorts ds := by
                unfold judge
                simp only
                rw [hb, hb2, Bool.true_and, Bool.true_and]
              rw [ej] at k
              exact s_ret (ev_eqD sr rg (shaped_ints _) (shaped_ints _)) fun H3 e3 => k _ (e1.trans (e2.trans e3))
  · rcases h with ⟨a, g, rfl, ha, o, k⟩ | h
    · refine ⟨.ref a, _, rfl, Ord.th ha, ?_⟩
      rw [judge_ord o]
      exact k
    · exact h
local macro_rules | `(tactic| walk_at "call") => `(tactic| ((with_reducible refine' sv_order ?c1 ?c2); (case c1 => assumption); (case c2 => assumption)))
theorem ok_is_seating (T : Tx K mg) : FnOk P w K mg base CX0 3 T.f_is_seating T.d_is_seating ["thing"] (sp_is_order K) := by
  refine T.F_is_seating.ok sc_is_seating (fun vs H Q E h => ?_) (fun cdv A outer s H vs Q E hr h => ?_)
  · rcases h with ⟨a, g, rfl, _⟩ | ⟨v, o, rfl, _⟩
    · rfl
    · rfl
  · rcases h with ⟨a, g, rfl, ha, o, k⟩ | ⟨v, o, rfl, hv, k⟩
    · refine ⟨_, (pss_one (ps_ret (pe_call (ok_is_order T) (hr.mono (by decide)) (by rfl) T.g_is_order T.F_is_order.kp T.b_is_order .nil pass0 (pa_cons (pv 0) pa_nil)))), ?_⟩
      exact s_ret (by walk_at "ev") fun H1 e1 => k _ e1
    · refine ⟨_, (pss_one (ps_ret (pe_call (ok_is_order T) (hr.mono (by decide)) (by rfl) T.g_is_order T.F_is_order.kp T.b_is_order .nil pass0 (pa_cons (pv 0) pa_nil)))), ?_⟩
      exact s_ret (ev_call (ea_cons (ev_var rfl) ea_nil) (sv_any hv)) fun H1 e1 => k _ e1
end

/-! ### errors -/
theorem eqv_ints_eq {xs ys : List Int} (h : PyData.eqv (.list (xs.map PyData.int)) (.list (ys.map PyData.int)) = true) : xs = ys := by
  have key : ∀ xs ys : List Int, PyData.eqvAll (xs.map PyData.int) (ys.map PyData.int) = true → xs = ys := by
    intro xs
    induction xs with
    | nil =>
      intro ys h
      cases ys with
      | nil => rfl
      | cons y r => simp [PyData.eqvAll] at h
    | cons x s ih =>
      intro ys h
      cases ys with
      | nil => simp [PyData.eqvAll] at h
      | cons y r =>
        simp only [List.map_cons, PyData.eqvAll, Bool.and_eq_true, PyData.eqv] at h
        rw [ih r h.2]
        have := h.1
        simp at this
        rw [this]
  exact key xs ys h
theorem nat_of_ints : ∀ {ns : List Int}, (∀ n ∈ ns, 0 ≤ n) → ∃ h : List Nat, ns = iz h
  | [], _ => ⟨[], rfl⟩
  | n :: r, hh => by
    obtain ⟨h, e⟩ := nat_of_ints fun m hm => hh m (List.mem_cons_of_mem _ hm)
    refine ⟨n.toNat :: h, ?_⟩
    have := hh n List.mem_cons_self
    rw [e]
    show n :: iz h = ((n.toNat : Nat) : Int) :: iz h
    rw [show ((n.toNat : Nat) : Int) = n by omega]
/-- what is judged true is a list of guests -/
theorem judge_yes {K : PySem.W.Frag} {H : Hp} {v : V} {o : Option (List PyData)} (hv : Th K H v o) (hj : judge o = true) : ∃ (a : Addr) (h : List Nat), v = .ref a ∧ H a = some (.lst (nv h)) ∧ Ord h := by
  cases hv with
  | @lst a xs ds ha hd hf =>
    unfold judge at hj
    simp only [Bool.and_eq_true] at hj
    obtain ⟨hl, hi, hs⟩ := hj
    have ex := ints_of hd hi
    have e := eqv_ints_eq hs
    have il : (intsOf ds).length = ds.length := by simp [intsOf]
    have pm : (intsOf ds).Perm (iz (List.range ds.length)) := by
      rw [← e]
      exact (sortI_perm _).symm
    obtain ⟨h, eh⟩ := nat_of_ints (ns := intsOf ds) fun n hn => by
      obtain ⟨x, _, rfl⟩ := List.mem_map.mp (pm.mem_iff.mp hn)
      omega
    have hlen : h.length = ds.length := by
      rw [← il, eh]
      simp [iz]
    refine ⟨a, h, rfl, ?_, ?_, ?_⟩
    · rw [ha, ex, eh]
      rfl
    · rw [eh] at pm
      have p2 := pm.map Int.toNat
      have back : ∀ l : List Nat, (iz l).map Int.toNat = l := fun l => by
        unfold iz
        rw [List.map_map]
        exact (List.map_congr_left fun x _ => by simp).trans (List.map_id _)
      rw [back, back] at p2
      rw [hlen]
      exact p2
    · unfold lenOk at hl
      simp at hl
      omega
  | non => exact Bool.noConfusion hj
  | bl b => exact Bool.noConfusion hj
  | int i => exact Bool.noConfusion hj
  | str x => exact Bool.noConfusion hj
  | tup h => exact Bool.noConfusion hj
  | dct h => exact Bool.noConfusion hj
/-- what is evaluated to a text of at most n signs -/
def EvS (n : Nat) (te : TE) (σ : L2.St) (H : Hp) : Prop := ∀ H1, Ex H H1 → ∀ Q : VK, (∀ y H2, Ex H1 H2 → y.length ≤ n → Q (.str y) H2) → te σ H1 Q
section
variable {K : PySem.W.Frag} {σ : L2.St} {H H' : Hp} {te : TE}
theorem es_c {z : Str} {n : Nat} (h : z.length ≤ n) : EvS n (tC (.str z)) σ H := fun H1 _ Q q => q z H1 (Ex.refl _) h
theorem es_fmt {i : Int} (h : Ev te σ H (.int i)) (hb : i.natAbs < 2 ^ 1900) : EvS 1921 (tFmt te) σ H := fun H1 e Q q => h H1 e _ fun H2 e2 => .inr ⟨i, rfl, by
  by_cases z : i.natAbs = 0
  · rw [z]
    decide
  · exact Nat.lt_of_lt_of_le ((Nat.log2_lt z).mpr hb) (by decide), q _ H2 e2 (by
  refine int_text_len_1921 ?_
  by_cases z : i.natAbs = 0
  · rw [z]
    decide
  · exact Nat.lt_of_lt_of_le ((Nat.log2_lt z).mpr hb) (by decide))⟩
theorem tjs_nil {acc : Str} {Q : Str → Hp → Prop} (q : ∀ y, Q y H) : tJs [] acc σ H Q := q acc
theorem str_app_len (a b : Str) : (a ++ b).length = a.length + b.length := by
  show (Str.mk (a.cps ++ b.cps)).cps.size = _
  rw [Array.size_append]
  rfl
theorem tjs_go {n : Nat} : ∀ {ts : List TE} {acc : Str} {H1 : Hp} {Q : Str → Hp → Prop}, (∀ t ∈ ts, EvS n t σ H) → Ex H H1 → acc.length + ts.length * n ≤ 100000 → (∀ y H2, Ex H1 H2 → Q y H2) → tJs ts acc σ H1 Q
  | [], acc, H1, Q, _, _, _, q => q acc H1 (Ex.refl _)
  | t :: ts, acc, H1, Q, h, e, hz, q => h t List.mem_cons_self H1 e _ fun y H2 e2 hy => by
    rw [List.length_cons, Nat.add_mul, Nat.one_mul] at hz
    have hl := str_app_len acc y
    exact ⟨y, rfl, sz_of (by omega), tjs_go (fun t ht => h t (List.mem_cons_of_mem _ ht)) (e.trans e2) (by omega) fun z H3 e3 => q z H3 (e2.trans e3)⟩
end
def sp_chk1 (C : Addr) (lo hi : Int) : Sp := fun vs H Q E => ∃ x : Int, vs = [.int x] ∧ Out (if lo ≤ x ∧ x ≤ hi then none else some C) H Q E
def sp_chkN (C : Addr) : Sp := fun vs H Q E => ∃ x lo hi : Int, vs = [.int x, .int lo, .int hi] ∧ lo.natAbs < 2 ^ 1900 ∧ hi.natAbs < 2 ^ 1900 ∧ Out (if lo ≤ x ∧ x ≤ hi then none else some C) H Q E
def sp_chkS (K : PySem.W.Frag) (C : Addr) : Sp := fun vs H Q E => ∃ (v : V) (o : Option (List PyData)), vs = [v] ∧ Th K H v o ∧ Out (if judge o then none else some C) H Q E
theorem so_chk1 {C : Addr} {lo hi x : Int} {H : Hp} : SpO (sp_chk1 C lo hi) ([.int x] ++ []) H (if lo ≤ x ∧ x ≤ hi then none else some C) := fun H1 e Q E q => ⟨x, rfl, q⟩
theorem so_chkN {C : Addr} {lo hi x : Int} {H : Hp} (h0 : lo.natAbs < 2 ^ 1900) (h1 : hi.natAbs < 2 ^ 1900) : SpO (sp_chkN C) ([.int x, .int lo, .int hi] ++ []) H (if lo ≤ x ∧ x ≤ hi then none else some C) := fun H1 e Q E q => ⟨x, lo, hi, rfl, h0, h1, q⟩
theorem so_chkS {K : PySem.W.Frag} {C : Addr} {H : Hp} {v : V} {o : Option (List PyData)} (hv : Th K H v o) : SpO (sp_chkS K C) ([v] ++ []) H (if judge o then none else some C) := fun H1 e Q E q => ⟨v, o, rfl, hv.ex e, q⟩
/-- a def that asks first whether its argument is what it should be, and raises if not -/
def SpJ (K : PySem.W.Frag) (J : Option (List PyData) → Bool) (C : Addr) (old : Sp) : Sp := fun vs H Q E => ∃ (v : V) (o : Option (List PyData)), vs = [v] ∧ Th K H v o ∧ (J o = false → ∀ H1, Ex H H1 → E (.ref C) none H1) ∧ (J o = true → old [v] H Q E)
theorem spJ_v {K : PySem.W.Frag} {J : Option (List PyData) → Bool} {C : Addr} {old : Sp} {H : Hp} {v z : V} {o : Option (List PyData)} (hv : Th K H v o) (hj : J o = true) (h : SpV old ([v] ++ []) H z) : SpV (SpJ K J C old) ([v] ++ []) H z := fun H1 e Q q E =>
  ⟨v, o, rfl, hv.ex e, (fun n => by rw [hj] at n; exact Bool.noConfusion n), fun _ => h H1 e Q q E⟩
theorem spJ_l {K : PySem.W.Frag} {J : Option (List PyData) → Bool} {C : Addr} {old : Sp} {H : Hp} {v : V} {xs : List V} {o : Option (List PyData)} (hv : Th K H v o) (hj : J o = true) (h : SpL old ([v] ++ []) H xs) : SpL (SpJ K J C old) ([v] ++ []) H xs := fun H1 e Q q E =>
  ⟨v, o, rfl, hv.ex e, (fun n => by rw [hj] at n; exact Bool.noConfusion n), fun _ => h H1 e Q q E⟩
theorem due_no {p : Prop} [Decidable p] {C : Addr} (h : (if p then none else some C) = none) : p := by
  by_cases hp : p
  · exact hp
  · rw [if_neg hp] at h
    cases h
theorem due_yes {p : Prop} [Decidable p] {C D : Addr} (h : (if p then none else some C) = some D) : ¬ p ∧ D = C := by
  by_cases hp : p
  · rw [if_pos hp] at h
    cases h
  · rw [if_neg hp] at h
    exact ⟨hp, (Option.some.inj h).symm⟩


local macro_rules | `(tactic| walk_at "call") => `(tactic| (with_reducible exact sv_whole))

/-! ### rings: the mathematics -/
/-- r is a whole table of the seating h, from its first guest on to the left -/
structure Rg (h r : List Nat) : Prop where
  ne : 0 < r.length
  nd : r.Nodup
  st : ∀ i, i < r.length → ∃ x y, r[i]? = some x ∧ r[(i + 1) % r.length]? = some y ∧ h[x]? = some y
def rot (r : List Nat) (k : Nat) : List Nat := r.drop k ++ r.take k
theorem rot_len {r : List Nat} {k : Nat} (hk : k ≤ r.length) : (rot r k).length = r.length := by
  unfold rot
  rw [List.length_append, List.length_drop, List.length_take]
  omega
theorem rot_get {r : List Nat} {k i : Nat} (hk : k < r.length) (hi : i < r.length) : (rot r k)[i]? = r[(i + k) % r.length]? := by
  unfold rot
  by_cases h : i < r.length - k
  · rw [List.getElem?_append_left (by rw [List.length_drop]; exact h), List.getElem?_drop, Nat.mod_eq_of_lt (by omega), Nat.add_comm]
  · rw [List.getElem?_append_right (by rw [List.length_drop]; omega), List.length_drop, List.getElem?_take_of_lt (by omega)]
    have e : (i + k) % r.length = i - (r.length - k) := by
      rw [Nat.mod_eq_sub_mod (by omega), Nat.mod_eq_of_lt (by omega)]
      omega
    rw [e]
theorem rot_perm (r : List Nat) (k : Nat) : (rot r k).Perm r := by
  unfold rot
  exact List.perm_append_comm.trans (List.Perm.of_eq (List.take_append_drop k r))
theorem Rg.rot {h r : List Nat} (R : Rg h r) {k : Nat} (hk : k < r.length) : Rg h (rot r k) := by
  have hl := rot_len (r := r) (k := k) (by omega)
  refine ⟨by have := R.ne; omega, (rot_perm r k).nodup_iff.mpr R.nd, fun i hi => ?_⟩
  rw [hl] at hi ⊢
  obtain ⟨x, y, h1, h2, h3⟩ := R.st ((i + k) % r.length) (Nat.mod_lt _ R.ne)
  refine ⟨x, y, by rw [rot_get hk hi]; exact h1, ?_, h3⟩
  rw [rot_get hk (Nat.mod_lt _ R.ne), ← h2, Nat.mod_add_mod, Nat.mod_add_mod]
  congr 2
  omega
structure Rings (h : List Nat) (rs : List (List Nat)) : Prop where
  rg : ∀ r ∈ rs, Rg h r
  low : ∀ r ∈ rs, ∀ x ∈ r, r.headD 0 ≤ x
  asc : (rs.map (·.headD 0)).Pairwise (· < ·)
  all : rs.flatten.Perm (List.range h.length)
def leads (r : List Nat) : Bool := decide (∀ x ∈ r, r.headD 0 ≤ x)
theorem Rings.turn {h : List Nat} {rs : List (List Nat)} (R : Rings h rs) {g : Nat} (hg : g < h.length) : ∃ w : List Nat, (∃ r ∈ rs, ∃ k, r[k]? = some g ∧ w = rot r k) := by
  have hm : g ∈ rs.flatten := R.all.mem_iff.mpr (List.mem_range.mpr hg)
  obtain ⟨r, hr, hgr⟩ := List.mem_flatten.mp hm
  obtain ⟨k, hk⟩ := List.mem_iff_getElem?.mp hgr
  exact ⟨rot r k, r, hr, k, hk, rfl⟩
theorem Rings.walks {h : List Nat} {rs : List (List Nat)} (R : Rings h rs) : ∃ f : Nat → List Nat, ∀ g, g < h.length → ∃ r ∈ rs, ∃ k, r[k]? = some g ∧ f g = rot r k :=
  ⟨fun g => if hg : g < h.length then Classical.choose (R.turn hg) else [], fun g hg => by
    have := Classical.choose_spec (R.turn hg)
    simp only [dif_pos hg]
    exact this⟩
theorem head_rot {r : List Nat} {k g : Nat} (hk : r[k]? = some g) : (rot r k).headD 0 = g := by
  obtain ⟨hl, e⟩ := List.getElem?_eq_some_iff.mp hk
  unfold rot
  rw [List.drop_eq_getElem_cons hl]
  exact e
theorem leads_rot {r : List Nat} {k g : Nat} (hk : r[k]? = some g) (lo : ∀ x ∈ r, r.headD 0 ≤ x) (ne : 0 < r.length) : leads (rot r k) = decide (g = r.headD 0) := by
  unfold leads
  rw [head_rot hk]
  have hmem : ∀ x, x ∈ rot r k ↔ x ∈ r := fun x => (rot_perm r k).mem_iff
  have h0 : r.headD 0 ∈ r := by
    cases r with
    | nil => simp at ne
    | cons a l => simp
  have hg : g ∈ r := List.mem_of_getElem? hk
  apply decide_eq_decide.mpr
  constructor
  · intro a
    have := a _ ((hmem _).mpr h0)
    have := lo g hg
    omega
  · intro a x hx
    rw [a]
    exact lo x ((hmem x).mp hx)
theorem rot_zero (r : List Nat) : rot r 0 = r := by
  unfold rot
  simp
theorem nodup_flat {rs : List (List Nat)} (h : rs.flatten.Nodup) {r r' : List Nat} {x : Nat} (hr : r ∈ rs) (hr' : r' ∈ rs) (hx : x ∈ r) (hx' : x ∈ r') : r = r' := by
  induction rs with
  | nil => cases hr
  | cons a l ih =>
    rw [List.flatten_cons, List.nodup_append] at h
    obtain ⟨h1, h2, h3⟩ := h
    rcases List.mem_cons.mp hr with e | q
    · rcases List.mem_cons.mp hr' with e' | q'
      · rw [e, e']
      · exact absurd rfl (h3 x (e ▸ hx) x (List.mem_flatten.mpr ⟨r', q', hx'⟩))
    · rcases List.mem_cons.mp hr' with e' | q'
      · exact absurd rfl (h3 x (e' ▸ hx') x (List.mem_flatten.mpr ⟨r, q, hx⟩))
      · exact ih h2 q q'
theorem Rings.nodup {h : List Nat} {rs : List (List Nat)} (R : Rings h rs) : rs.flatten.Nodup := R.all.nodup_iff.mpr List.nodup_range
/-- the walks that begin with their least guest are the rings -/
theorem Rings.lead {h : List Nat} {rs : List (List Nat)} (R : Rings h rs) {f : Nat → List Nat} (hf : ∀ g, g < h.length → ∃ r ∈ rs, ∃ k, r[k]? = some g ∧ f g = rot r k) : ((List.range h.length).map f).filter leads = rs := by
  rw [List.filter_map]
  have hd : ∀ g, g < h.length → leads (f g) = decide (g ∈ rs.map (·.headD 0)) := fun g hg => by
    obtain ⟨r, hr, k, hk, e⟩ := hf g hg
    rw [e, leads_rot hk (R.low r hr) (R.rg r hr).ne]
    apply decide_eq_decide.mpr
    constructor
    · intro a
      exact List.mem_map.mpr ⟨r, hr, a.symm⟩
    · intro a
      obtain ⟨r', hr', e'⟩ := List.mem_map.mp a
      have h0 : g ∈ r' := by
        have := (R.rg r' hr').ne
        cases r' with
        | nil => simp at this
        | cons b l => simp at e'; simp [e']
      have := nodup_flat R.nodup hr hr' (List.mem_of_getElem? hk) h0
      rw [this]
      exact e'.symm
  have hs : (List.range h.length).filter (leads ∘ f) = rs.map (·.headD 0) := by
    have e : (List.range h.length).filter (leads ∘ f) = (List.range h.length).filter (fun g => decide (g ∈ rs.map (·.headD 0))) := List.filter_congr fun g hg => hd g (List.mem_range.mp hg)
    rw [e]
    refine List.Perm.eq_of_pairwise (le := fun a b : Nat => a < b) (fun a b _ _ h1 h2 => by omega) (List.Pairwise.filter _ List.pairwise_lt_range) R.asc ?_
    refine (List.perm_ext_iff_of_nodup (List.Pairwise.filter _ List.nodup_range) (R.asc.imp fun h => Nat.ne_of_lt h)).mpr fun g => ?_
    rw [List.mem_filter]
    constructor
    · intro a
      exact of_decide_eq_true a.2
    · intro a
      refine ⟨?_, decide_eq_true a⟩
      obtain ⟨r', hr', e'⟩ := List.mem_map.mp a
      refine R.all.mem_iff.mp (List.mem_flatten.mpr ⟨r', hr', ?_⟩)
      have := (R.rg r' hr').ne
      cases r' with
      | nil => simp at this
      | cons b l => simp at e'; simp [e']
  rw [hs, List.map_map]
  refine (List.map_congr_left fun r hr => ?_).trans (List.map_id _)
  have ne := (R.rg r hr).ne
  have hm : r.headD 0 < h.length := List.mem_range.mp (R.all.mem_iff.mp (List.mem_flatten.mpr ⟨r, hr, by
    cases r with
    | nil => simp at ne
    | cons b l => simp⟩))
  obtain ⟨r', hr', k, hk, e⟩ := hf (r.headD 0) hm
  have e2 := nodup_flat R.nodup hr' hr (List.mem_of_getElem? hk) (by
    cases r with
    | nil => simp at ne
    | cons b l => simp)
  subst e2
  have k0 : k = 0 := by
    have h0 : r'[0]? = some (r'.headD 0) := by
      cases r' with
      | nil => simp at ne
      | cons b l => simp
    exact nd_ix (R.rg r' hr').nd hk h0
  show f (r'.headD 0) = r'
  rw [e, k0, rot_zero]

/-! ### rings by entries: the mathematics -/
def insr (pal one : Nat) (r : List Nat) : List Nat := if pal ∈ r ∧ pal ≠ one then r.take (r.idxOf pal + 1) ++ [one] ++ r.drop (r.idxOf pal + 1) else r
def rstep (rs : List (List Nat)) (one pal : Nat) : List (List Nat) := (if one = pal then rs ++ [[one]] else rs).map (insr pal one)
def ringsTo (e : List Nat) : Nat → List (List Nat)
  | 0 => []
  | i + 1 => rstep (ringsTo e i) i (e.getD i 0)
structure RI (m : Nat) (rs : List (List Nat)) : Prop where
  all : rs.flatten.Perm (List.range m)
  ne : ∀ r ∈ rs, 0 < r.length
  low : ∀ r ∈ rs, ∀ x ∈ r, r.headD 0 ≤ x
  asc : (rs.map (·.headD 0)).Pairwise (· < ·)
theorem insr_perm {pal one : Nat} {r : List Nat} (h : pal ∈ r) (ne : pal ≠ one) : (insr pal one r).Perm (one :: r) := by
  unfold insr
  rw [if_pos ⟨h, ne⟩, List.append_assoc]
  refine (List.Perm.append_left _ List.perm_append_comm).trans ?_
  rw [← List.append_assoc, List.take_append_drop]
  exact List.perm_append_comm
theorem insr_no {pal one : Nat} {r : List Nat} (h : pal ∉ r) : insr pal one r = r := if_neg fun q => h q.1
theorem insr_same {pal one : Nat} {r : List Nat} (h : pal = one) : insr pal one r = r := if_neg fun q => q.2 h
theorem insr_head {pal one : Nat} {r : List Nat} : (insr pal one r).headD 0 = r.headD 0 := by
  by_cases h : pal ∈ r ∧ pal ≠ one
  · unfold insr
    rw [if_pos h]
    cases r with
    | nil => simp at h
    | cons x l => simp
  · unfold insr
    rw [if_neg h]
theorem insr_len {pal one : Nat} {r : List Nat} (h : 0 < r.length) : 0 < (insr pal one r).length := by
  unfold insr
  split
  · simp
    omega
  · exact h
theorem insr_mem {pal one x : Nat} {r : List Nat} (h : x ∈ insr pal one r) : x ∈ r ∨ x = one := by
  by_cases q : pal ∈ r ∧ pal ≠ one
  · have := (insr_perm q.1 q.2).mem_iff.mp h
    rcases List.mem_cons.mp this with z | z
    · exact .inr z
    · exact .inl z
  · unfold insr at h
    rw [if_neg q] at h
    exact .inl h
theorem insr_all {pal one : Nat} (ne : pal ≠ one) : ∀ {rs : List (List Nat)}, rs.flatten.Nodup → pal ∈ rs.flatten → (rs.map (insr pal one)).flatten.Perm (one :: rs.flatten)
  | [], _, h => by simp at h
  | r :: l, nd, h => by
    rw [List.flatten_cons, List.nodup_append] at nd
    rw [List.map_cons, List.flatten_cons, List.flatten_cons]
    by_cases q : pal ∈ r
    · have hn : ∀ s ∈ l, pal ∉ s := fun s hs z => absurd rfl (nd.2.2 pal q pal (List.mem_flatten.mpr ⟨s, hs, z⟩))
      have e : l.map (insr pal one) = l := (List.map_congr_left fun s hs => insr_no (hn s hs)).trans (List.map_id _)
      rw [e]
      exact (List.Perm.append_right _ (insr_perm q ne))
    · rw [insr_no q]
      have h' : pal ∈ l.flatten := by
        rw [List.flatten_cons] at h
        rcases List.mem_append.mp h with z | z
        · exact absurd z q
        · exact z
      refine (List.Perm.append_left _ (insr_all ne nd.2.1 h')).trans ?_
      exact List.perm_middle
theorem RI.nd {m : Nat} {rs : List (List Nat)} (R : RI m rs) : rs.flatten.Nodup := R.all.nodup_iff.mpr List.nodup_range
theorem RI.mem {m x : Nat} {rs : List (List Nat)} (R : RI m rs) {r : List Nat} (hr : r ∈ rs) (hx : x ∈ r) : x < m := List.mem_range.mp (R.all.mem_iff.mp (List.mem_flatten.mpr ⟨r, hr, hx⟩))
theorem head_mem {r : List Nat} (h : 0 < r.length) : r.headD 0 ∈ r := by
  cases r with
  | nil => simp at h
  | cons x l => simp
theorem RI.step {one pal : Nat} {rs : List (List Nat)} (R : RI one rs) (h : pal ≤ one) : RI (one + 1) (rstep rs one pal) := by
  unfold rstep
  by_cases q : one = pal
  · rw [if_pos q]
    have e : (rs ++ [[one]]).map (insr pal one) = rs ++ [[one]] := (List.map_congr_left fun s _ => insr_same q.symm).trans (List.map_id _)
    rw [e]
    refine ⟨?_, ?_, ?_, ?_⟩
    · rw [List.flatten_append, List.range_succ]
      exact List.Perm.append_right _ R.all
    · intro r hr
      rcases List.mem_append.mp hr with z | z
      · exact R.ne r z
      · rw [List.mem_singleton.mp z]; simp
    · intro r hr
      rcases List.mem_append.mp hr with z | z
      · exact R.low r z
      · rw [List.mem_singleton.mp z]; simp
    · rw [List.map_append, List.pairwise_append]
      refine ⟨R.asc, by simp, fun a ha b hb => ?_⟩
      obtain ⟨r, hr, rfl⟩ := List.mem_map.mp ha
      have := R.mem hr (head_mem (R.ne r hr))
      simp at hb
      omega
  · rw [if_neg q]
    have hp : pal ∈ rs.flatten := R.all.mem_iff.mpr (List.mem_range.mpr (by omega))
    have eh : (rs.map (insr pal one)).map (·.headD 0) = rs.map (·.headD 0) := by
      rw [List.map_map]
      exact List.map_congr_left fun r _ => insr_head
    refine ⟨?_, ?_, ?_, ?_⟩
    · refine (insr_all (Ne.symm q) R.nd hp).trans ?_
      rw [List.range_succ]
      exact (List.Perm.cons _ R.all).trans (List.perm_append_comm (l₁ := [one]))
    · intro r hr
      obtain ⟨s, hs, rfl⟩ := List.mem_map.mp hr
      exact insr_len (R.ne s hs)
    · intro r hr x hx
      obtain ⟨s, hs, rfl⟩ := List.mem_map.mp hr
      rw [insr_head]
      rcases insr_mem hx with z | z
      · exact R.low s hs x z
      · have := R.mem hs (head_mem (R.ne s hs))
        omega
    · rw [eh]
      exact R.asc
theorem ringsTo_ok {e : List Nat} (h : ∀ (i x : Nat), e[i]? = some x → x ≤ i) : ∀ m, m ≤ e.length → RI m (ringsTo e m)
  | 0, _ => ⟨List.Perm.refl _, by simp [ringsTo], by simp [ringsTo], by simp [ringsTo]⟩
  | m + 1, hm => by
    have ih := ringsTo_ok h m (by omega)
    refine ih.step ?_
    have : e[m]? = some (e.getD m 0) := by
      rw [List.getD_eq_getElem?_getD, List.getElem?_eq_getElem (by omega)]
      rfl
    exact h m _ this
/-! the seating of rings -/
def succ (rs : List (List Nat)) (x : Nat) : Nat := match rs.find? (fun r => decide (x ∈ r)) with
  | some r => r.getD ((r.idxOf x + 1) % r.length) 0
  | none => 0
theorem succ_at {rs : List (List Nat)} (nd : rs.flatten.Nodup) {r : List Nat} (hr : r ∈ rs) {i x : Nat} (hx : r[i]? = some x) : succ rs x = r.getD ((i + 1) % r.length) 0 := by
  have hm := List.mem_of_getElem? hx
  have hf : rs.find? (fun r => decide (x ∈ r)) = some r := by
    cases hq : rs.find? (fun r => decide (x ∈ r)) with
    | none => exact absurd (decide_eq_true hm) (by simpa using List.find?_eq_none.mp hq r hr)
    | some s =>
      have h1 := List.mem_of_find?_eq_some hq
      have h2 := List.find?_some hq
      rw [nodup_flat nd h1 hr (of_decide_eq_true h2) hm]
  have ndr : r.Nodup := List.Pairwise.sublist (List.sublist_flatten_of_mem hr) nd
  have hi : r.idxOf x = i := by
    have hl := List.idxOf_lt_length_of_mem hm
    have := List.getElem_idxOf hl
    have h1 : r[r.idxOf x]? = some x := by rw [List.getElem?_eq_getElem hl, this]
    exact nd_ix ndr h1 hx
  unfold succ
  rw [hf]
  show r.getD ((r.idxOf x + 1) % r.length) 0 = _
  rw [hi]
def seat (rs : List (List Nat)) (n : Nat) : List Nat := (List.range n).map (succ rs)
theorem seat_rg {rs : List (List Nat)} {n : Nat} (hp : rs.flatten.Perm (List.range n)) {r : List Nat} (hr : r ∈ rs) (ne : 0 < r.length) : Rg (seat rs n) r := by
  have nd : rs.flatten.Nodup := hp.nodup_iff.mpr List.nodup_range
  refine ⟨ne, List.Pairwise.sublist (List.sublist_flatten_of_mem hr) nd, fun i hi => ?_⟩
  have hx : r[i]? = some r[i] := List.getElem?_eq_getElem hi
  have hm := Nat.mod_lt (i + 1) ne
  refine ⟨r[i], r[(i + 1) % r.length], hx, List.getElem?_eq_getElem hm, ?_⟩
  have hn : r[i] < n := List.mem_range.mp (hp.mem_iff.mp (List.mem_flatten.mpr ⟨r, hr, List.getElem_mem hi⟩))
  unfold seat
  rw [List.getElem?_map, List.getElem?_range hn]
  show some (succ rs r[i]) = _
  rw [succ_at nd hr hx, List.getD_eq_getElem?_getD, List.getElem?_eq_getElem hm]
  rfl
theorem seat_len (rs : List (List Nat)) (n : Nat) : (seat rs n).length = n := by simp [seat]
theorem map_rot {rs : List (List Nat)} (nd : rs.flatten.Nodup) {r : List Nat} (hr : r ∈ rs) (ne : 0 < r.length) : r.map (succ rs) = rot r (1 % r.length) := by
  have hk := Nat.mod_lt 1 ne
  refine List.ext_getElem? fun i => ?_
  by_cases hi : i < r.length
  · have hx : r[i]? = some r[i] := List.getElem?_eq_getElem hi
    have hm := Nat.mod_lt (i + 1) ne
    rw [List.getElem?_map, hx, rot_get hk hi, Nat.add_mod_mod]
    show some (succ rs r[i]) = _
    rw [succ_at nd hr hx, List.getD_eq_getElem?_getD, List.getElem?_eq_getElem hm]
    rfl
  · rw [List.getElem?_eq_none (by simp; omega), List.getElem?_eq_none (by rw [rot_len (by omega)]; omega)]
theorem flat_map_perm {g : Nat → Nat} : ∀ {rs : List (List Nat)}, (∀ r ∈ rs, (r.map g).Perm r) → (rs.flatten.map g).Perm rs.flatten
  | [], _ => List.Perm.refl _
  | r :: l, h => by
    rw [List.flatten_cons, List.map_append]
    exact List.Perm.append (h r (by simp)) (flat_map_perm fun s hs => h s (by simp [hs]))
theorem seat_perm {rs : List (List Nat)} {n : Nat} (hp : rs.flatten.Perm (List.range n)) (hne : ∀ r ∈ rs, 0 < r.length) : (seat rs n).Perm (List.range n) := by
  have nd : rs.flatten.Nodup := hp.nodup_iff.mpr List.nodup_range
  unfold seat
  refine ((hp.symm.map (succ rs)).trans (flat_map_perm fun r hr => ?_)).trans hp
  rw [map_rot nd hr (hne r hr)]
  exact rot_perm r _
theorem RI.rings {m : Nat} {rs : List (List Nat)} (R : RI m rs) : Rings (seat rs m) rs := ⟨fun r hr => seat_rg R.all hr (R.ne r hr), R.low, R.asc, by rw [seat_len]; exact R.all⟩
theorem seat_ord {rs : List (List Nat)} {n : Nat} (hp : rs.flatten.Perm (List.range n)) (hne : ∀ r ∈ rs, 0 < r.length) (h1 : 1 ≤ n) (h2 : n ≤ 20) : Ord (seat rs n) := by
  unfold Ord
  rw [seat_len]
  exact ⟨seat_perm hp hne, h1, h2⟩

/-! ### coming lists: the mathematics -/
def Cm (c : List Nat) : Prop := 1 ≤ c.length ∧ c.length ≤ 20 ∧ ∀ (i x : Nat), c[i]? = some x → x ≤ i
theorem Cm.get {c : List Nat} (h : Cm c) (k : Nat) : c.getD k 0 ≤ k := by
  rw [List.getD_eq_getElem?_getD]
  cases e : c[k]? with
  | none => exact Nat.zero_le _
  | some x => exact h.2.2 k x e
/-- one more guest at the left of x, or alone -/
def sits (h : List Nat) (k x : Nat) : List Nat := if x = k then h ++ [k] else ((h ++ [k]).set k (h.getD x 0)).set x k
def sby (c : List Nat) : Nat → List Nat
  | 0 => []
  | k + 1 => sits (sby c k) k (c.getD k 0)
theorem sits_len {h : List Nat} {k x : Nat} : (sits h k x).length = h.length + 1 := by
  unfold sits
  split <;> simp
theorem sby_len (c : List Nat) : ∀ k, (sby c k).length = k
  | 0 => rfl
  | k + 1 => by
    show (sits _ _ _).length = _
    rw [sits_len, sby_len c k]
theorem sby_take (c : List Nat) {w : Nat} (hw : w ≤ c.length) : ∀ k, k ≤ w → sby (c.take w) k = sby c k
  | 0, _ => rfl
  | k + 1, h => by
    show sits (sby (c.take w) k) k _ = sits (sby c k) k _
    rw [sby_take c hw k (by omega)]
    congr 1
    rw [List.getD_eq_getElem?_getD, List.getD_eq_getElem?_getD, List.getElem?_take]
    rw [if_pos (by omega)]
theorem insr_at {pal one : Nat} {r : List Nat} {j : Nat} (nd : r.Nodup) (hj : r[j]? = some pal) (ne : pal ≠ one) : insr pal one r = r.take (j + 1) ++ [one] ++ r.drop (j + 1) := by
  have hm := List.mem_of_getElem? hj
  have e : r.idxOf pal = j := by
    have hl := List.idxOf_lt_length_of_mem hm
    have h1 : r[r.idxOf pal]? = some pal := by rw [List.getElem?_eq_getElem hl, List.getElem_idxOf hl]
    exact nd_ix nd h1 hj
  unfold insr
  rw [if_pos ⟨hm, ne⟩, e]
theorem ins_get {r : List Nat} {j one t : Nat} (hj : j < r.length) : (r.take (j + 1) ++ [one] ++ r.drop (j + 1))[t]? = if t ≤ j then r[t]? else if t = j + 1 then some one else r[t - 1]? := by
  have l1 : (r.take (j + 1)).length = j + 1 := by rw [List.length_take]; omega
  split
  · rename_i h
    rw [List.getElem?_append_left (by simp; omega), List.getElem?_append_left (by omega), List.getElem?_take, if_pos (by omega)]
  · split
    · rename_i h1 h2
      subst h2
      rw [List.getElem?_append_left (by simp; omega), List.getElem?_append_right (by omega), l1, Nat.sub_self]
      rfl
    · rename_i h1 h2
      rw [List.getElem?_append_right (by simp; omega), List.getElem?_drop]
      congr 1
      simp
      omega
theorem ins_len {r : List Nat} {j one : Nat} (hj : j < r.length) : (r.take (j + 1) ++ [one] ++ r.drop (j + 1)).length = r.length + 1 := by
  simp
  omega
theorem mod_next {i L : Nat} (h : i < L) : (i + 1) % L = if i + 1 = L then 0 else i + 1 := by
  split
  · rename_i e
    rw [e, Nat.mod_self]
  · exact Nat.mod_eq_of_lt (by omega)
theorem getD_of {r : List Nat} {i x : Nat} (h : r[i]? = some x) : r.getD i 0 = x := by
  rw [List.getD_eq_getElem?_getD, h]
  rfl
/-- the left neighbours when one more guest has sat down -/
theorem succ_step {one pal : Nat} {rs : List (List Nat)} (R : RI one rs) (lt : pal < one) : succ (rstep rs one pal) pal = one ∧ succ (rstep rs one pal) one = succ rs pal ∧ ∀ x, x < one → x ≠ pal → succ (rstep rs one pal) x = succ rs x := by
  have ne : pal ≠ one := by omega
  have R2 := R.step (pal := pal) (by omega)
  have nd2 := R2.nd
  have nd := R.nd
  have e : rstep rs one pal = rs.map (insr pal one) := by
    unfold rstep
    rw [if_neg (by omega)]
  have hp : pal ∈ rs.flatten := R.all.mem_iff.mpr (List.mem_range.mpr lt)
  obtain ⟨r, hr, hpr⟩ := List.mem_flatten.mp hp
  obtain ⟨j, hj⟩ := List.mem_iff_getElem?.mp hpr
  have jl := (List.getElem?_eq_some_iff.mp hj).1
  have ndr : r.Nodup := List.Pairwise.sublist (List.sublist_flatten_of_mem hr) nd
  have ei := insr_at (one := one) ndr hj ne
  have mem2 : r.take (j + 1) ++ [one] ++ r.drop (j + 1) ∈ rstep rs one pal := by
    rw [e, ← ei]
    exact List.mem_map.mpr ⟨r, hr, rfl⟩
  have L := ins_len (one := one) jl
  have G := fun t => ins_get (one := one) (t := t) jl
  generalize hq : r.take (j + 1) ++ [one] ++ r.drop (j + 1) = q at *
  have atj : q[j]? = some pal := by rw [G, if_pos (Nat.le_refl _)]; exact hj
  have atj1 : q[j + 1]? = some one := by rw [G, if_neg (by omega), if_pos rfl]
  have s1 := succ_at nd2 mem2 atj
  have s2 := succ_at nd2 mem2 atj1
  have s0 := succ_at nd hr hj
  refine ⟨?_, ?_, ?_⟩
  · rw [s1, L, mod_next (by omega), if_neg (by omega)]
    exact getD_of atj1
  · rw [s2, L, s0, mod_next (by omega), mod_next jl]
    by_cases z : j + 1 = r.length
    · rw [if_pos (by omega), if_pos z, List.getD_eq_getElem?_getD, List.getD_eq_getElem?_getD, G, if_pos (by omega)]
    · rw [if_neg (by omega), if_neg z, List.getD_eq_getElem?_getD, List.getD_eq_getElem?_getD, G, if_neg (by omega), if_neg (by omega)]
      rfl
  · intro x hx nx
    have hxm : x ∈ rs.flatten := R.all.mem_iff.mpr (List.mem_range.mpr hx)
    obtain ⟨s, hs, hxs⟩ := List.mem_flatten.mp hxm
    obtain ⟨i, hi⟩ := List.mem_iff_getElem?.mp hxs
    have il := (List.getElem?_eq_some_iff.mp hi).1
    have t0 := succ_at nd hs hi
    by_cases hps : pal ∈ s
    · have : s = r := nodup_flat nd hs hr hps hpr
      subst this
      rw [t0, mod_next il]
      rcases Nat.lt_trichotomy i j with h | h | h
      · have t1 := succ_at nd2 mem2 (i := i) (x := x) (by rw [G, if_pos (by omega)]; exact hi)
        rw [t1, L, mod_next (by omega), if_neg (by omega), if_neg (by omega), List.getD_eq_getElem?_getD, List.getD_eq_getElem?_getD, G, if_pos (by omega)]
      · subst h
        rw [hj] at hi
        exact absurd (Option.some.inj hi).symm nx
      · have t1 := succ_at nd2 mem2 (i := i + 1) (x := x) (by
          rw [G, if_neg (by omega), if_neg (by omega)]
          exact hi)
        rw [t1, L, mod_next (by omega)]
        by_cases z : i + 1 = s.length
        · rw [if_pos (by omega), if_pos z, List.getD_eq_getElem?_getD, List.getD_eq_getElem?_getD, G, if_pos (by omega)]
        · rw [if_neg (by omega), if_neg z, List.getD_eq_getElem?_getD, List.getD_eq_getElem?_getD, G, if_neg (by omega), if_neg (by omega)]
          rfl
    · have mem3 : s ∈ rstep rs one pal := by
        rw [e]
        exact List.mem_map.mpr ⟨s, hs, insr_no hps⟩
      rw [succ_at nd2 mem3 hi, t0]
theorem succ_open {one : Nat} {rs : List (List Nat)} (R : RI one rs) : succ (rstep rs one one) one = one ∧ ∀ x, x < one → succ (rstep rs one one) x = succ rs x := by
  have R2 := R.step (pal := one) (Nat.le_refl _)
  have nd2 := R2.nd
  have nd := R.nd
  have e : rstep rs one one = rs ++ [[one]] := by
    unfold rstep
    rw [if_pos rfl]
    exact (List.map_congr_left fun s _ => insr_same rfl).trans (List.map_id _)
  refine ⟨?_, fun x hx => ?_⟩
  · have := succ_at nd2 (r := [one]) (by rw [e]; simp) (i := 0) (x := one) rfl
    rw [this]
    simp
  · have hxm : x ∈ rs.flatten := R.all.mem_iff.mpr (List.mem_range.mpr hx)
    obtain ⟨s, hs, hxs⟩ := List.mem_flatten.mp hxm
    obtain ⟨i, hi⟩ := List.mem_iff_getElem?.mp hxs
    rw [succ_at nd2 (r := s) (by rw [e]; simp [hs]) hi, succ_at nd hs hi]
theorem sby_seat {c : List Nat} (h : ∀ (i x : Nat), c[i]? = some x → x ≤ i) : ∀ k, k ≤ c.length → sby c k = seat (ringsTo c k) k
  | 0, _ => rfl
  | k + 1, hk => by
    have ih := sby_seat h k (by omega)
    have R := ringsTo_ok h k (by omega)
    have hx : c.getD k 0 ≤ k := by
      have : c[k]? = some (c.getD k 0) := by
        rw [List.getD_eq_getElem?_getD, List.getElem?_eq_getElem (by omega)]
        rfl
      exact h k _ this
    show sits (sby c k) k (c.getD k 0) = (List.range (k + 1)).map (succ (rstep (ringsTo c k) k (c.getD k 0)))
    rw [ih]
    generalize c.getD k 0 = x at *
    generalize ringsTo c k = rs at *
    have sl := seat_len rs k
    refine List.ext_getElem? fun i => ?_
    rw [List.getElem?_map]
    unfold sits
    by_cases hxk : x = k
    · subst hxk
      obtain ⟨s1, s2⟩ := succ_open R
      rw [if_pos rfl]
      rcases Nat.lt_trichotomy i x with q | q | q
      · rw [List.getElem?_append_left (by omega), List.getElem?_range (by omega)]
        unfold seat
        rw [List.getElem?_map, List.getElem?_range q]
        show some _ = some _
        rw [s2 i q]
      · subst q
        rw [List.getElem?_append_right (by omega), sl, Nat.sub_self, List.getElem?_range (by omega)]
        show some i = some _
        rw [s1]
      · rw [List.getElem?_eq_none (by simp [sl]; omega), List.getElem?_eq_none (by simp; omega)]
        rfl
    · have xl : x < k := by omega
      obtain ⟨s1, s2, s3⟩ := succ_step R xl
      rw [if_neg hxk]
      have hgx : (seat rs k).getD x 0 = succ rs x := by
        refine getD_of ?_
        unfold seat
        rw [List.getElem?_map, List.getElem?_range xl]
        rfl
      rw [hgx, List.getElem?_set, List.getElem?_set]
      by_cases q1 : x = i
      · subst q1
        rw [if_pos rfl, if_pos (by simp [sl]; omega), List.getElem?_range (by omega)]
        show some k = some _
        rw [s1]
      · rw [if_neg q1]
        rcases Nat.lt_trichotomy i k with q | q | q
        · rw [if_neg (by omega), List.getElem?_append_left (by omega), List.getElem?_range (by omega)]
          unfold seat
          rw [List.getElem?_map, List.getElem?_range q]
          show some _ = some _
          rw [s3 i q (fun z => q1 z.symm)]
        · subst q
          rw [if_pos rfl, if_pos (by simp [sl]), List.getElem?_range (by omega)]
          show some _ = some _
          rw [s2]
        · rw [if_neg (by omega), List.getElem?_eq_none (by simp [sl]; omega), List.getElem?_eq_none (by simp; omega)]
          rfl
theorem sby_lt {c : List Nat} (h : ∀ (i x : Nat), c[i]? = some x → x ≤ i) {k : Nat} (hk : k ≤ c.length) {y : Nat} (hy : y ∈ sby c k) : y < k := by
  rw [sby_seat h k hk] at hy
  have R := ringsTo_ok h k hk
  have := (seat_perm R.all R.ne).mem_iff.mp hy
  exact List.mem_range.mp this
/-- the last guest's right neighbour, and the others without it -/
theorem sits_last {h : List Nat} {k x : Nat} (hl : h.length = k) (hlt : ∀ y ∈ h, y < k) (hx : x ≤ k) :
    (sits h k x)[x]? = some k ∧ (∀ m, m < x → (sits h k x)[m]? ≠ some k) ∧ ((sits h k x).set x ((sits h k x).getD k 0)).dropLast = h := by
  have at' : ∀ (m y : Nat), h[m]? = some y → y < k := fun m y hy => hlt y (List.mem_of_getElem? hy)
  unfold sits
  by_cases hxk : x = k
  · subst hxk
    rw [if_pos rfl]
    have g : (h ++ [x])[x]? = some x := by
      rw [List.getElem?_append_right (by omega), hl, Nat.sub_self]
      rfl
    refine ⟨g, fun m hm z => ?_, ?_⟩
    · rw [List.getElem?_append_left (by omega)] at z
      have := at' m x z
      omega
    · rw [getD_of g, List.set_append_right _ _ (by omega), hl, Nat.sub_self]
      simp
  · have xl : x < k := by omega
    rw [if_neg hxk]
    have l1 : ((h ++ [k]).set k (h.getD x 0)).length = k + 1 := by simp [hl]
    refine ⟨by rw [List.getElem?_set, if_pos rfl, if_pos (by omega)], fun m hm z => ?_, ?_⟩
    · rw [List.getElem?_set, if_neg (by omega), List.getElem?_set, if_neg (by omega), List.getElem?_append_left (by omega)] at z
      have := at' m k z
      omega
    · have g : (((h ++ [k]).set k (h.getD x 0)).set x k).getD k 0 = h.getD x 0 := by
        refine getD_of ?_
        rw [List.getElem?_set, if_neg (by omega), List.getElem?_set, if_pos rfl, if_pos (by simp [hl])]
      rw [g, List.set_set]
      have e1 : (h ++ [k]).set k (h.getD x 0) = h ++ [h.getD x 0] := by
        rw [List.set_append_right _ _ (by omega), hl, Nat.sub_self]
        rfl
      rw [e1, List.set_append_left _ _ (by omega), List.dropLast_concat]
      refine List.ext_getElem (by simp) fun i h1 h2 => ?_
      rw [List.getElem_set]
      split
      · rename_i q
        subst q
        exact getD_of (List.getElem?_eq_getElem h2)
      · rfl
/-- who opened the tables -/
theorem rings_heads (c : List Nat) : ∀ k, (ringsTo c k).map (·.headD 0) = (List.range k).filter fun i => decide (c.getD i 0 = i)
  | 0 => rfl
  | k + 1 => by
    have ih := rings_heads c k
    rw [List.range_succ, List.filter_append, ← ih]
    show (rstep (ringsTo c k) k (c.getD k 0)).map (·.headD 0) = _
    have eh : ∀ rs : List (List Nat), (rs.map (insr (c.getD k 0) k)).map (·.headD 0) = rs.map (·.headD 0) := fun rs => by
      rw [List.map_map]
      exact List.map_congr_left fun r _ => insr_head
    unfold rstep
    rw [eh]
    by_cases h : c.getD k 0 = k
    · have q : decide (c.getD k 0 = k) = true := decide_eq_true h
      rw [if_pos h.symm, List.map_append, List.filter_cons, q]
      rfl
    · have q : decide (c.getD k 0 = k) = false := decide_eq_false h
      rw [if_neg (fun z => h z.symm), List.filter_cons, q]
      simp

/-! ### every list of guests has its tables -/
theorem sby_ext {c : List Nat} {x : Nat} : sby (c ++ [x]) c.length = sby c c.length ∧ sby (c ++ [x]) (c.length + 1) = sits (sby c c.length) c.length x := by
  have h := sby_take (c ++ [x]) (w := c.length) (by simp) c.length (Nat.le_refl _)
  rw [List.take_append_of_le_length (Nat.le_refl _), List.take_length] at h
  refine ⟨h.symm, ?_⟩
  show sits (sby (c ++ [x]) c.length) c.length ((c ++ [x]).getD c.length 0) = _
  rw [← h, List.getD_eq_getElem?_getD, List.getElem?_append_right (Nat.le_refl _), Nat.sub_self]
  rfl
theorem sits_app {h : List Nat} {k x : Nat} (hl : h.length = k) (ne : x ≠ k) : sits h k x = (h ++ [h.getD x 0]).set x k := by
  unfold sits
  rw [if_neg ne]
  congr 1
  rw [List.set_append_right _ _ (by omega), hl, Nat.sub_self]
  rfl
theorem Cm.ord {c : List Nat} (o : Cm c) : Ord (sby c c.length) := by
  rw [sby_seat o.2.2 _ (Nat.le_refl _)]
  have R := ringsTo_ok o.2.2 c.length (Nat.le_refl _)
  exact seat_ord R.all R.ne o.1 o.2.1
theorem Cm.rings {c : List Nat} (o : Cm c) : Rings (sby c c.length) (ringsTo c c.length) := by
  rw [sby_seat o.2.2 _ (Nat.le_refl _)]
  exact (ringsTo_ok o.2.2 c.length (Nat.le_refl _)).rings
theorem perm_end {A B R : List Nat} {n y : Nat} (h : (A ++ n :: B ++ [y]).Perm (R ++ [n])) : (A ++ y :: B).Perm R := by
  have a : (A ++ y :: B ++ [n]).Perm (A ++ n :: B ++ [y]) := by
    rw [List.append_assoc, List.append_assoc]
    refine List.Perm.append_left A ?_
    show (y :: (B ++ [n])).Perm (n :: (B ++ [y]))
    refine (List.Perm.cons y (List.perm_append_singleton n B)).trans ?_
    refine (List.Perm.swap n y B).trans ?_
    exact List.Perm.cons n (List.perm_append_singleton y B).symm
  exact (List.perm_append_right_iff [n]).mp (a.trans h)
/-- every seating comes about by a coming list -/
theorem ord_sby : ∀ (n : Nat) (h : List Nat), h.Perm (List.range n) → ∃ c : List Nat, c.length = n ∧ (∀ (i x : Nat), c[i]? = some x → x ≤ i) ∧ sby c n = h
  | 0, h, p => ⟨[], rfl, fun i x z => by simp at z, by rw [List.range_zero] at p; rw [List.Perm.eq_nil p]; rfl⟩
  | n + 1, h, p => by
    have hl : h.length = n + 1 := by
      have := p.length_eq
      rwa [List.length_range] at this
    have nm : n ∈ h := p.mem_iff.mpr (List.mem_range.mpr (Nat.lt_succ_self n))
    have ne : h ≠ [] := fun z => by
      rw [z] at hl
      simp at hl
    obtain ⟨h0, y, rfl⟩ : ∃ h0 y, h = h0 ++ [y] := ⟨_, _, (List.dropLast_concat_getLast ne).symm⟩
    have l0 : h0.length = n := by
      rw [List.length_append, List.length_singleton] at hl
      omega
    rw [List.range_succ] at p
    have ext : ∀ (c : List Nat) (x : Nat), c.length = n → (∀ (i x : Nat), c[i]? = some x → x ≤ i) → x ≤ n → ∀ (i z : Nat), (c ++ [x])[i]? = some z → z ≤ i := fun c x cl cm xn i z hz => by
      rw [List.getElem?_append] at hz
      split at hz
      · exact cm i z hz
      · have hj := (List.getElem?_eq_some_iff.mp hz).1
        rw [List.length_singleton] at hj
        have e0 : i - c.length = 0 := by omega
        rw [e0] at hz
        have : x = z := by simpa using hz
        omega
    by_cases hy : y = n
    · subst hy
      obtain ⟨c, cl, cm, cs⟩ := ord_sby y h0 ((List.perm_append_right_iff [y]).mp p)
      refine ⟨c ++ [y], by rw [List.length_append, cl]; rfl, ext c y cl cm (Nat.le_refl _), ?_⟩
      have e := (sby_ext (c := c) (x := y)).2
      rw [cl] at e
      rw [e, cs]
      unfold sits
      rw [if_pos rfl]
    · have n0 : n ∈ h0 := by
        rcases List.mem_append.mp nm with z | z
        · exact z
        · exact absurd (List.mem_singleton.mp z).symm hy
      obtain ⟨A, B, rfl⟩ := List.append_of_mem n0
      have pe := perm_end p
      obtain ⟨c, cl, cm, cs⟩ := ord_sby n _ pe
      have al : A.length < n := by
        rw [List.length_append, List.length_cons] at l0
        omega
      refine ⟨c ++ [A.length], by rw [List.length_append, cl]; rfl, ext c _ cl cm (by omega), ?_⟩
      have e := (sby_ext (c := c) (x := A.length)).2
      rw [cl] at e
      rw [e, cs, sits_app (by rw [List.length_append, List.length_cons]; rw [List.length_append, List.length_cons] at l0; exact l0) (by omega)]
      have g : (A ++ y :: B).getD A.length 0 = y := by
        rw [List.getD_eq_getElem?_getD, List.getElem?_append_right (Nat.le_refl _), Nat.sub_self]
        rfl
      rw [g, List.append_assoc, List.set_append_right _ _ (Nat.le_refl _), Nat.sub_self, List.append_assoc]
      rfl
theorem ord_cm {h : List Nat} (o : Ord h) : ∃ c, Cm c ∧ c.length = h.length ∧ sby c c.length = h := by
  obtain ⟨c, cl, cm, cs⟩ := ord_sby h.length h o.1
  exact ⟨c, ⟨by rw [cl]; exact o.2.1, by rw [cl]; exact o.2.2, cm⟩, cl, by rw [cl]; exact cs⟩
/-- who has come last leaves -/
theorem ord_rings {h : List Nat} (o : Ord h) : ∃ rs, Rings h rs ∧ rs.length ≤ h.length := by
  obtain ⟨c, oc, cl, rfl⟩ := ord_cm o
  refine ⟨ringsTo c c.length, oc.rings, ?_⟩
  have e := congrArg List.length (rings_heads c c.length)
  rw [List.length_map] at e
  have l := List.length_filter_le (fun i => decide (c.getD i 0 = i)) (List.range c.length)
  rw [List.length_range] at l
  rw [sby_len]
  omega


local macro_rules | `(tactic| walk_at "call") => `(tactic| (with_reducible exact sv_whole))

/-! ### the checks -/
def sp_chkG (C : Addr) : Sp := fun vs H Q E => ∃ x m : Int, vs = [.int x, .int m] ∧ (0 ≤ m ∧ m ≤ 1000) ∧ Out (if 0 ≤ x ∧ x < m then none else some C) H Q E
theorem so_chkG {C : Addr} {m x : Int} {H : Hp} (h1 : 0 ≤ m ∧ m ≤ 1000) : SpO (sp_chkG C) ([.int x, .int m] ++ []) H (if 0 ≤ x ∧ x < m then none else some C) := fun H1 e Q E q => ⟨x, m, rfl, h1, q⟩
section
variable {P : Program} {w : World} {K : PySem.W.Frag} {mg : Str → Option Value} {base : Heap}
def erA (T : Tx K mg) : Nat → Addr
  | 0 => T.cl_InvalidSeating
  | 1 => T.cl_InvalidSizes
  | 2 => T.cl_InvalidWeight
  | 3 => T.cl_InvalidGuests
  | 4 => T.cl_InvalidGuest
  | 5 => T.cl_InvalidNumber
  | 6 => T.cl_InvalidIndex
  | _ => T.cl_NoSeating
def erW : Nat → Str
  | 0 => "seating"
  | 1 => "sizes"
  | 2 => "weight"
  | 3 => "guests"
  | 4 => "guest"
  | 5 => "number"
  | 6 => "index"
  | _ => "none of them"
end
def inD (l m : Int) : PyData → Bool
  | .int i => decide (l ≤ i) && decide (i ≤ m)
  | _ => false
def sp_is_within (K : PySem.W.Frag) : Sp := fun vs H Q _ => ∃ (v : V) (d : PyData) (l m : Int), vs = [v, .int l, .int m] ∧ It K H v d ∧ RetV (.bl (inD l m d)) H Q
theorem sv_within {K : PySem.W.Frag} {H : Hp} {v : V} {d : PyData} {l m : Int} (h : It K H v d) : SpV (sp_is_within K) ([v, .int l, .int m] ++ []) H (.bl (inD l m d)) := fun H1 e Q q E => ⟨v, d, l, m, rfl, h.ex e, q⟩
theorem sv_between {K : PySem.W.Frag} {H : Hp} {x l m : Int} : SpV (sp_is_within K) ([.int x, .int l, .int m] ++ []) H (.bl (decide (l ≤ x) && decide (x ≤ m))) := fun H1 _ Q q E => ⟨.int x, .int x, l, m, rfl, .int x, q⟩
def sp_chkI (C : Addr) : Sp := fun vs H Q E => ∃ x m : Int, vs = [.int x, .int m] ∧ m.natAbs < 2 ^ 1900 ∧ Out (if 0 ≤ x ∧ x < m then none else some C) H Q E
theorem so_chkI {C : Addr} {m x : Int} {H : Hp} (h1 : m.natAbs < 2 ^ 1900) : SpO (sp_chkI C) ([.int x, .int m] ++ []) H (if 0 ≤ x ∧ x < m then none else some C) := fun H1 e Q E q => ⟨x, m, rfl, h1, q⟩
section
variable {P : Program} {w : World} {K : PySem.W.Frag} {mg : Str → Option Value} {base : Heap}
local macro_rules | `(tactic| walk_at "call") => `(tactic| (with_reducible exact sv_whole))
theorem ok_is_within (T : Tx K mg) : FnOk P w K mg base CX0 2 T.f_is_within T.d_is_within ["thing", "least", "most"] (sp_is_within K) := by
  refine T.F_is_within.ok sc_is_within (fun vs H Q E h => ?_) (fun cdv A outer s H vs Q E hr h => ?_)
  · obtain ⟨v, d, l, m, rfl, _⟩ := h
    rfl
  · obtain ⟨v, d, l, m, rfl, hv, k⟩ := h
    refine ⟨_, (pss_one (ps_ret (pe_and (pe_call (ok_is_whole T) (hr.mono (by decide)) (by rfl) T.g_is_whole T.F_is_whole.kp T.b_is_whole .nil pass0 (pa_cons (pv 0) pa_nil)) (pe_one (pe_chain op_le op_le (pv 1) (pv 0) (pv 2)))))), ?_⟩
    cases hd : isI d with
    | false =>
      have e : inD l m d = false := by cases d <;> first | rfl | exact Bool.noConfusion hd
      rw [e] at k
      have wh := ev_call (E := E0) (ea_cons (ev_var (i := 0) (v := v) (σ := start n_is_within [v, .int l, .int m]) (H := H) rfl) ea_nil) (sv_wholeD hv)
      rw [hd] at wh
      exact s_ret (ev_is (ev_andV (b := false) wh fun z => Bool.noConfusion z) rfl) fun H1 e1 => k _ e1
    | true =>
      cases hv with
      | int i =>
        refine s_ret (v := .bl (inD l m (.int i))) (ev_is (by walk_at "ev") (by rfl)) fun H1 e1 => k _ e1
      | non => exact Bool.noConfusion hd
      | bl b => exact Bool.noConfusion hd
      | str x => exact Bool.noConfusion hd
      | lst _ _ => exact Bool.noConfusion hd
local macro_rules | `(tactic| walk_at "call") => `(tactic| (with_reducible exact sv_between))
local macro_rules | `(tactic| walk_at "call") => `(tactic| (with_reducible exact sv_between))
theorem ok_check_guests (T : Tx K mg) : FnOk P w K mg base (L2N.CX P w) 3 T.f_check_guests T.d_check_guests ["guests"] (sp_chk1 T.cl_InvalidGuests 1 20) := by
  refine Kit.okN T.F_check_guests sc_check_guests (fun vs H Q E h => ?_) (fun cdv A outer s H vs Q E hr h => ?_)
  · obtain ⟨x, rfl, _⟩ := h
    rfl
  · obtain ⟨x, rfl, k⟩ := h
    refine ⟨_, (pss_one (ps_if (pt_not (pt_val (pe_call (ok_is_within T) (hr.mono (by decide)) (by rfl) T.g_is_within T.F_is_within.kp T.b_is_within .nil pass0 (pa_cons (pv 0) (pa_cons pe_int (pa_cons (pe_gc (by rfl) T.c_MOST_GUESTS) pa_nil)))))) (pss_one (Kit.ps_raiseN rfl Kit.takesN T.e_InvalidGuests T.gc_InvalidGuests (by rfl) pe_str)) pss_nil)), ?_⟩
    refine s_when (by walk_at "et") (fun hb H1 e1 => ?_) fun hb H1 e1 => ?_
    · exact k.yes _ (if_neg fun z => by simp at hb; omega) _ e1
    · exact k.no (if_pos (by simpa using hb)) _ _ e1
theorem ok_check_weight (T : Tx K mg) : FnOk P w K mg base (L2N.CX P w) 3 T.f_check_weight T.d_check_weight ["weight"] (sp_chk1 T.cl_InvalidWeight 1 1000000000000) := by
  refine Kit.okN T.F_check_weight sc_check_weight (fun vs H Q E h => ?_) (fun cdv A outer s H vs Q E hr h => ?_)
  · obtain ⟨x, rfl, _⟩ := h
    rfl
  · obtain ⟨x, rfl, k⟩ := h
    refine ⟨_, (pss_one (ps_if (pt_not (pt_val (pe_call (ok_is_within T) (hr.mono (by decide)) (by rfl) T.g_is_within T.F_is_within.kp T.b_is_within .nil pass0 (pa_cons (pv 0) (pa_cons pe_int (pa_cons (pe_gc (by rfl) T.c_MOST_WEIGHT) pa_nil)))))) (pss_one (Kit.ps_raiseN rfl Kit.takesN T.e_InvalidWeight T.gc_InvalidWeight (by rfl) pe_str)) pss_nil)), ?_⟩
    refine s_when (by walk_at "et") (fun hb H1 e1 => ?_) fun hb H1 e1 => ?_
    · exact k.yes _ (if_neg fun z => by simp at hb; omega) _ e1
    · exact k.no (if_pos (by simpa using hb)) _ _ e1
theorem ok_check_number (T : Tx K mg) : FnOk P w K mg base (L2N.CX P w) 3 T.f_check_number T.d_check_number ["number", "least", "most"] (sp_chkN T.cl_InvalidNumber) := by
  refine Kit.okN T.F_check_number sc_check_number (fun vs H Q E h => ?_) (fun cdv A outer s H vs Q E hr h => ?_)
  · obtain ⟨x, lo, hi, rfl, _⟩ := h
    rfl
  · obtain ⟨x, lo, hi, rfl, h0, h1, k⟩ := h
    refine ⟨_, (pss_one (ps_if (pt_not (pt_val (pe_call (ok_is_within T) (hr.mono (by decide)) (by rfl) T.g_is_within T.F_is_within.kp T.b_is_within .nil pass0 (pa_cons (pv 0) (pa_cons (pv 1) (pa_cons (pv 2) pa_nil)))))) (pss_one (Kit.ps_raiseN rfl Kit.takesN T.e_InvalidNumber T.gc_InvalidNumber (by rfl) (pe_joined (PJ.cons pe_str (PJ.cons (pe_fmt (pv 1)) (PJ.cons pe_str (PJ.cons (pe_fmt (pv 2)) PJ.nil))))))) pss_nil)), ?_⟩
    refine s_when (by walk_at "et") (fun hb H1 e1 => ?_) fun hb H1 e1 => ?_
    · exact tjs_go (n := 2000) (σ := start n_check_number [.int x, .int lo, .int hi]) (H := H1) (fun t ht => by
        simp only [List.mem_cons, List.not_mem_nil, or_false] at ht
        rcases ht with rfl | rfl | rfl | rfl
        · exact es_c (by decide +kernel)
        · exact fun H2 e2 Q q => es_fmt (ev_var rfl) h0 H2 e2 Q fun y H3 e3 hy => q y H3 e3 (by omega)
        · exact es_c (by decide +kernel)
        · exact fun H2 e2 Q q => es_fmt (ev_var rfl) h1 H2 e2 Q fun y H3 e3 hy => q y H3 e3 (by omega)) (Ex.refl _) (by decide) fun y H2 e2 => k.yes _ (if_neg fun z => by simp at hb; omega) _ (e1.trans e2)
    · exact k.no (if_pos (by simpa using hb)) _ _ e1
theorem ok_check_index (T : Tx K mg) : FnOk P w K mg base (L2N.CX P w) 3 T.f_check_index T.d_check_index ["index", "many"] (sp_chkI T.cl_InvalidIndex) := by
  refine Kit.okN T.F_check_index sc_check_index (fun vs H Q E h => ?_) (fun cdv A outer s H vs Q E hr h => ?_)
  · obtain ⟨x, m, rfl, _⟩ := h
    rfl
  · obtain ⟨x, m, rfl, h1, k⟩ := h
    refine ⟨_, (pss_one (ps_if (pt_not (pt_val (pe_call (ok_is_within T) (hr.mono (by decide)) (by rfl) T.g_is_within T.F_is_within.kp T.b_is_within .nil pass0 (pa_cons (pv 0) (pa_cons pe_int (pa_cons (pe_op op_sub (pv 1) pe_int) pa_nil)))))) (pss_one (Kit.ps_raiseN rfl Kit.takesN T.e_InvalidIndex T.gc_InvalidIndex (by rfl) (pe_joined (PJ.cons pe_str (PJ.cons (pe_fmt (pv 1)) PJ.nil))))) pss_nil)), ?_⟩
    refine s_when (by walk_at "et") (fun hb H1 e1 => ?_) fun hb H1 e1 => ?_
    · exact tjs_go (n := 2000) (σ := start n_check_index [.int x, .int m]) (H := H1) (fun t ht => by
        simp only [List.mem_cons, List.not_mem_nil, or_false] at ht
        rcases ht with rfl | rfl
        · exact es_c (by decide +kernel)
        · exact fun H2 e2 Q q => es_fmt (ev_var rfl) h1 H2 e2 Q fun y H3 e3 hy => q y H3 e3 (by omega)) (Ex.refl _) (by decide) fun y H2 e2 => k.yes _ (if_neg fun z => by simp at hb; omega) _ (e1.trans e2)
    · exact k.no (if_pos (by simp at hb; omega)) _ _ e1
theorem ok_check_guest (T : Tx K mg) : FnOk P w K mg base (L2N.CX P w) 3 T.f_check_guest T.d_check_guest ["guest", "guests"] (sp_chkG T.cl_InvalidGuest) := by
  refine Kit.okN T.F_check_guest sc_check_guest (fun vs H Q E h => ?_) (fun cdv A outer s H vs Q E hr h => ?_)
  · obtain ⟨x, m, rfl, _⟩ := h
    rfl
  · obtain ⟨x, m, rfl, h1, k⟩ := h
    have hm1 : (m - 1).natAbs < 2 ^ 1900 := Nat.lt_of_le_of_lt (m := 1000) (by omega) (by decide +kernel)
    refine ⟨_, (pss_one (ps_if (pt_not (pt_val (pe_call (ok_is_within T) (hr.mono (by decide)) (by rfl) T.g_is_within T.F_is_within.kp T.b_is_within .nil pass0 (pa_cons (pv 0) (pa_cons pe_int (pa_cons (pe_op op_sub (pv 1) pe_int) pa_nil)))))) (pss_one (Kit.ps_raiseN rfl Kit.takesN T.e_InvalidGuest T.gc_InvalidGuest (by rfl) (pe_joined (PJ.cons pe_str (PJ.cons (pe_fmt (pe_op op_sub (pv 1) pe_int)) PJ.nil))))) pss_nil)), ?_⟩
    refine s_when (by walk_at "et") (fun hb H1 e1 => ?_) fun hb H1 e1 => ?_
    · exact tjs_go (n := 2000) (σ := start n_check_guest [.int x, .int m]) (H := H1) (fun t ht => by
        simp only [List.mem_cons, List.not_mem_nil, or_false] at ht
        rcases ht with rfl | rfl
        · exact es_c (by decide +kernel)
        · exact fun H2 e2 Q q => es_fmt (i := m - 1) (ev_op (ev_var rfl) ev_c rv_I0) hm1 H2 e2 Q fun y H3 e3 hy => q y H3 e3 (by omega)) (Ex.refl _) (by decide) fun y H2 e2 => k.yes _ (if_neg fun z => by simp at hb; omega) _ (e1.trans e2)
    · exact k.no (if_pos (by simp at hb; omega)) _ _ e1
theorem ok_check_seating (T : Tx K mg) : FnOk P w K mg base (L2N.CX P w) 4 T.f_check_seating T.d_check_seating ["seating"] (sp_chkS K T.cl_InvalidSeating) := by
  refine Kit.okN T.F_check_seating sc_check_seating (fun vs H Q E h => ?_) (fun cdv A outer s H vs Q E hr h => ?_)
  · obtain ⟨v, o, rfl, _⟩ := h
    rfl
  · obtain ⟨v, o, rfl, hv, k⟩ := h
    refine ⟨_, (pss_one (ps_if (pt_not (pt_val (pe_call (ok_is_seating T) (hr.mono (by decide)) (by rfl) T.g_is_seating T.F_is_seating.kp T.b_is_seating .nil pass0 (pa_cons (pv 0) pa_nil)))) (pss_one (Kit.ps_raiseN rfl Kit.takesN T.e_InvalidSeating T.gc_InvalidSeating (by rfl) pe_str)) pss_nil)), ?_⟩
    refine s_when (b := !judge o) (et_is (et_not (et_B (ev_call (ea_cons (ev_var rfl) ea_nil) (sv_any hv)))) rfl) (fun hb H1 e1 => ?_) fun hb H1 e1 => ?_
    · exact k.yes _ (if_neg (by simpa using hb)) _ e1
    · exact k.no (if_pos (by simpa using hb)) _ _ e1
end
/-! ### sizes -/
def posI : PyData → Bool
  | .int i => decide (i ≥ 1)
  | _ => false
/-- whether a thing is a list of sizes -/
def judgeZ : Option (List PyData) → Bool
  | none => false
  | some ds => ds.all posI && (decide (1 ≤ (intsOf ds).sum) && decide ((intsOf ds).sum ≤ 20))
theorem pos_isI {ds : List PyData} (h : ds.all posI = true) : ds.all isI = true := by
  rw [List.all_eq_true] at h ⊢
  intro d hd
  have := h d hd
  cases d with
  | int i => rfl
  | _ => exact Bool.noConfusion this
def upTo (ns : List Int) : List Int := ((List.range 21).map fun i : Nat => (i : Int)).filter fun i => decide (i ∈ ns)
/-- whether a thing is an ascending list of 1 to 20 -/
def judgeA : Option (List PyData) → Bool
  | none => false
  | some ds => !decide (ds.length = 0) && (ds.all (inD 1 20) && PyData.eqv (.list ((intsOf ds).map PyData.int)) (.list ((upTo (intsOf ds)).map PyData.int)))
def ThS (K : PySem.W.Frag) (H : Hp) (v : V) (o : Option (List PyData)) : Prop := Th K H v o ∧ (o.getD []).length ≤ 60
theorem ThS.ex {K : PySem.W.Frag} {H H' : Hp} {v : V} {o : Option (List PyData)} (e : Ex H H') (h : ThS K H v o) : ThS K H' v o := ⟨h.1.ex e, h.2⟩
def sp_anyZ (K : PySem.W.Frag) : Sp := fun vs H Q _ => ∃ (v : V) (o : Option (List PyData)), vs = [v] ∧ ThS K H v o ∧ RetV (.bl (judgeZ o)) H Q
theorem sv_anyZ {K : PySem.W.Frag} {H : Hp} {v : V} {o : Option (List PyData)} (hv : ThS K H v o) : SpV (sp_anyZ K) ([v] ++ []) H (.bl (judgeZ o)) := fun H1 e Q q E => ⟨v, o, rfl, hv.ex e, q⟩
def sp_anyA (K : PySem.W.Frag) : Sp := fun vs H Q _ => ∃ (v : V) (o : Option (List PyData)), vs = [v, .int 1, .int 20] ∧ ThS K H v o ∧ RetV (.bl (judgeA o)) H Q
theorem sv_anyA {K : PySem.W.Frag} {H : Hp} {v : V} {o : Option (List PyData)} (hv : ThS K H v o) : SpV (sp_anyA K) ([v, .int 1, .int 20] ++ []) H (.bl (judgeA o)) := fun H1 e Q q E => ⟨v, o, rfl, hv.ex e, q⟩
def sp_chkZ (K : PySem.W.Frag) (C : Addr) : Sp := fun vs H Q E => ∃ (v : V) (o : Option (List PyData)), vs = [v] ∧ ThS K H v o ∧ Out (if judgeZ o then none else some C) H Q E
theorem so_chkZ {K : PySem.W.Frag} {C : Addr} {H : Hp} {v : V} {o : Option (List PyData)} (hv : ThS K H v o) : SpO (sp_chkZ K C) ([v] ++ []) H (if judgeZ o then none else some C) := fun H1 e Q E q => ⟨v, o, rfl, hv.ex e, q⟩
def sp_chkA (K : PySem.W.Frag) (C : Addr) : Sp := fun vs H Q E => ∃ (v : V) (o : Option (List PyData)), vs = [v] ∧ ThS K H v o ∧ Out (if judgeA o then none else some C) H Q E
theorem so_chkA {K : PySem.W.Frag} {C : Addr} {H : Hp} {v : V} {o : Option (List PyData)} (hv : ThS K H v o) : SpO (sp_chkA K C) ([v] ++ []) H (if judgeA o then none else some C) := fun H1 e Q E q => ⟨v, o, rfl, hv.ex e, q⟩
section
variable {P : Program} {w : World} {K : PySem.W.Frag} {mg : Str → Option Value} {base : Heap}
theorem ok_are_sizes (T : Tx K mg) : FnOk P w K mg base CX0 3 T.f_are_sizes T.d_are_sizes ["thing"] (sp_anyZ K) := by
  refine T.F_are_sizes.ok sc_are_sizes (fun vs H Q E h => ?_) (fun cdv A outer s H vs Q E hr h => ?_)
  · obtain ⟨v, o, rfl, _⟩ := h
    rfl
  · obtain ⟨v, o, rfl, ⟨hv, hz⟩, k⟩ := h
    refine ⟨_, (pss_cons (ps_if (PW.pt (pw_or (pt_cmpR (op_neTyG (hu_of hr)) (pe_typeOf2 (by rfl) T.m_type (pv 0)) (pe_bltn (v := .ty "list") (by rfl) T.m_list (by decide +kernel) rfl) (nomark _)) (pw_or1 (pt_not (pt_val (pe_callB (cr_all rfl) (by rfl) T.m_all (by decide +kernel) (pa_cons (pe_lc (own := [("item", 1)]) (g := (gName 1)) (tt := tYes) rfl sc_are_sizes.nd (pi_list (pv 0)) (blkOk_by (own := [("item", 1)]) (N := n_are_sizes) (sc := defScope s_are_sizes) (by decide +kernel)) (fun _ _ _ _ _ => (pg_name (i := 1) sc_are_sizes.nd rfl (Or.inl rfl))) (fun _ _ _ _ _ => pts_nil) (fun _ _ _ _ _ => (pe_and (pe_call (ok_is_whole T) (hr.mono (by decide)) (by rfl) T.g_is_whole T.F_is_whole.kp T.b_is_whole .nil pass0 (pa_cons (pv 1) pa_nil)) (pe_one (pe_cmpR op_ge (pv 1) pe_int (nomark _)))))) pa_nil))))))) (pss_one (ps_ret pe_bl)) pss_nil)
      (pss_one (ps_ret (pe_call (ok_is_within T) (hr.mono (by decide)) (by rfl) T.g_is_within T.F_is_within.kp T.b_is_within .nil pass0 (pa_cons (pe_callB (cr_sum rfl) (by rfl) T.m_sum (by decide +kernel) (pa_cons (pv 0) pa_nil)) (pa_cons pe_int (pa_cons (pe_gc (by rfl) T.c_MOST_GUESTS) pa_nil))))))), ?_⟩
    cases o with
    | none =>
      refine q_when (b := true) (et_is (et_or (b := false) (et_test (ev_noList (ev_var rfl) hv)) fun z => Bool.noConfusion z) rfl) (fun _ H1 e1 => ?_) fun hb => Bool.noConfusion hb
      exact s_ret ev_c fun H2 e2 => k _ (e1.trans e2)
    | some ds =>
      have hv0 := hv
      have hz : ds.length ≤ 60 := hz
      cases hv with
      | @lst a xs _ ha hd hf =>
        have hl : xs.length = ds.length := hd.len
        refine q_when (b := !(ds.all posI)) (et_is (et_or (et_test (ev_noList (ev_var rfl) hv0)) fun _ => et_not (et_B (ev_allN (bs := ds.map posI) ?_))) (by rw [List.all_map]; simp)) (fun hb H1 e1 => ?_) fun hb H1 e1 => ?_
        · have e : (List.range xs.length).map (fun i => V.bl (posI (ds.getD i .none))) = (ds.map posI).map V.bl := by
            rw [hl]
            conv => rhs; rw [range_get ds .none]
            rw [List.map_map, List.map_map]
            rfl
          rw [← e]
          refine el_mapI _ (ev_var rfl) (sq_of ha) (by omega) (fun _ => rfl) fun i x H2 e2 hx => ?_
          obtain ⟨d, hd1, hd2⟩ := ita_get hd hx
          have gd : ds.getD i .none = d := by rw [List.getD_eq_getElem?_getD, hd1] <;> rfl
          rw [gd]
          have wh := ev_call (E := E0) (ea_cons (ev_var (i := 1) (v := x) (σ := [some (.ref a), some x]) (H := H2) rfl) ea_nil) (sv_wholeD (hd2.ex e2))
          cases d with
          | int j =>
            cases hd2
            exact ev_is (ev_andV (b := decide (j ≥ 1)) wh fun _ => ev_op (ev_var rfl) ev_c rv_I0) rfl
          | _ => exact ev_is (ev_andV (b := false) wh fun z => Bool.noConfusion z) rfl
        · have hb : ds.all posI = false := by simpa using hb
          have ej : judgeZ (some ds) = false := by
            show (ds.all posI && _) = false
            rw [hb]
            rfl
          rw [ej] at k
          exact s_ret ev_c fun H2 e2 => k _ (e1.trans e2)
        · have hb : ds.all posI = true := by simpa using hb
          have ex := ints_of hd (pos_isI hb)
          have ej : judgeZ (some ds) = (decide (1 ≤ (intsOf ds).sum) && decide ((intsOf ds).sum ≤ 20)) := by
            show (ds.all posI && _) = _
            rw [hb]
            rfl
          rw [ej] at k
          have h1 := e1 a _ ha
          rw [ex] at h1
          have sm : Ev (tCB (rSum K) (tCons (tVar 0) tNil)) (start n_are_sizes [.ref a]) H1 (.int (intsOf ds).sum) := fun H2 e Q q => ev_var (i := 0) (v := .ref a) rfl H2 e _ fun H3 e3 => ⟨a, intsOf ds, rfl, sq_of (e3 a _ (e a _ h1)), q H3 e3⟩
          exact s_ret (ev_call (ea_cons sm (ea_cons ev_c (ea_cons ev_c ea_nil))) sv_between) fun H2 e2 => k _ (e1.trans e2)
theorem upTo_asc (ns : List Int) : (upTo ns).Pairwise (· < ·) := by
  unfold upTo
  refine List.Pairwise.filter _ ?_
  rw [List.pairwise_map]
  exact List.Pairwise.imp (fun {a b} h => by omega) List.pairwise_lt_range
theorem upTo_mem {ns : List Int} (h : ∀ x ∈ ns, 1 ≤ x ∧ x ≤ 20) (k : Int) : k ∈ upTo ns ↔ k ∈ ns := by
  unfold upTo
  rw [List.mem_filter, decide_eq_true_iff]
  refine ⟨fun z => z.2, fun z => ⟨?_, z⟩⟩
  have := h k z
  exact List.mem_map.mpr ⟨k.toNat, List.mem_range.mpr (by omega), by omega⟩
theorem ok_is_ascending (T : Tx K mg) : FnOk P w K mg base CX0 3 T.f_is_ascending T.d_is_ascending ["thing", "least", "most"] (sp_anyA K) := by
  refine T.F_is_ascending.ok sc_is_ascending (fun vs H Q E h => ?_) (fun cdv A outer s H vs Q E hr h => ?_)
  · obtain ⟨v, o, rfl, _⟩ := h
    rfl
  · obtain ⟨v, o, rfl, ⟨hv, hz⟩, k⟩ := h
    refine ⟨_, (pss_cons (ps_if (PW.pt (pw_or (pt_cmpR (op_neTyG (hu_of hr)) (pe_typeOf2 (by rfl) T.m_type (pv 0)) (pe_bltn (v := .ty "list") (by rfl) T.m_list (by decide +kernel) rfl) (nomark _)) (pw_or1 (pt_cmpR op_eq (pe_callB call_lenR (by rfl) T.m_len (by decide +kernel) (pa_cons (pv 0) pa_nil)) pe_int (nomark _))))) (pss_one (ps_ret pe_bl)) pss_nil)
      (pss_cons (ps_if (pt_not (pt_val (pe_callB (cr_all rfl) (by rfl) T.m_all (by decide +kernel) (pa_cons (pe_lc (own := [("item", 3)]) (g := (gName 3)) (tt := tYes) rfl sc_is_ascending.nd (pi_list (pv 0)) (blkOk_by (own := [("item", 3)]) (N := n_is_ascending) (sc := defScope s_is_ascending) (by decide +kernel)) (fun _ _ _ _ _ => (pg_name (i := 3) sc_is_ascending.nd rfl (Or.inl rfl))) (fun _ _ _ _ _ => pts_nil) (fun _ _ _ _ _ => (pe_call (ok_is_within T) (hr.mono (by decide)) (by rfl) T.g_is_within T.F_is_within.kp T.b_is_within .nil pass0 (pa_cons (pv 3) (pa_cons (pv 1) (pa_cons (pv 2) pa_nil)))))) pa_nil)))) (pss_one (ps_ret pe_bl)) pss_nil)
      (pss_one (ps_ret (pe_cmpR (op_eqD hr.units) (pv 0) (pe_callB (id := "sorted") (r := rSortedSet _) (cr_sortedSet rfl) (by rfl) T.m_sorted (by decide +kernel) (pa_cons (pe_callTy (r := rSetI _ _) (cr_setI rfl) (by rfl) T.m_set (by decide +kernel) (pa_cons (pv 0) pa_nil)) pa_nil)) (nomark _)))))), ?_⟩
    cases o with
    | none =>
      refine q_when (b := true) (et_is (et_or (b := false) (et_test (ev_noList (ev_var rfl) hv)) fun z => Bool.noConfusion z) rfl) (fun _ H1 e1 => ?_) fun hb => Bool.noConfusion hb
      exact s_ret ev_c fun H2 e2 => k _ (e1.trans e2)
    | some ds =>
      have hv0 := hv
      have hz : ds.length ≤ 60 := hz
      cases hv with
      | @lst a xs _ ha hd hf =>
        have hl : xs.length = ds.length := hd.len
        refine q_when (b := decide (ds.length = 0)) (et_is (et_or (et_test (ev_noList (ev_var rfl) hv0)) fun _ => et_test (ev_op (ev_len (K := K) (ev_var rfl) (sq_of ha)) ev_c (rv_eq rfl))) (by rw [dec_int, hl, Bool.eq_iff_iff]; simp)) (fun hb H1 e1 => ?_) fun hb H1 e1 => ?_
        · have ej : judgeA (some ds) = false := by
            show (!decide (ds.length = 0) && _) = false
            rw [hb]
            rfl
          rw [ej] at k
          exact s_ret ev_c fun H2 e2 => k _ (e1.trans e2)
        · have h1 := e1 a _ ha
          refine q_when (b := !(ds.all (inD 1 20))) (et_is (et_not (et_B (ev_allN (bs := ds.map (inD 1 20)) ?_))) (by rw [List.all_map]; rfl)) (fun hb2 H2 e2 => ?_) fun hb2 H2 e2 => ?_
          · have e : (List.range xs.length).map (fun i => V.bl (inD 1 20 (ds.getD i .none))) = (ds.map (inD 1 20)).map V.bl := by
              rw [hl]
              conv => rhs; rw [range_get ds .none]
              rw [List.map_map, List.map_map]
              rfl
            rw [← e]
            refine el_mapI _ (ev_var rfl) (sq_of h1) (by omega) (fun _ => rfl) fun i x H2 e2 hx => ?_
            obtain ⟨d, hd1, hd2⟩ := ita_get hd hx
            have gd : ds.getD i .none = d := by rw [List.getD_eq_getElem?_getD, hd1] <;> rfl
            rw [gd]
            exact ev_call (ea_cons (ev_var rfl) (ea_cons (ev_var rfl) (ea_cons (ev_var rfl) ea_nil))) (sv_within (hd2.ex (e1.trans e2)))
          · have hb2 : ds.all (inD 1 20) = false := by simpa using hb2
            have ej : judgeA (some ds) = false := by
              show (!decide (ds.length = 0) && (ds.all (inD 1 20) && _)) = false
              rw [hb, hb2]
              rfl
            rw [ej] at k
            exact s_ret ev_c fun H3 e3 => k _ (e1.trans (e2.trans e3))
          · have hb2 : ds.all (inD 1 20) = true := by simpa using hb2
            have ai : ds.all isI = true := by
              rw [List.all_eq_true] at hb2 ⊢
              intro d hd
              have := hb2 d hd
              cases d with
              | int i => rfl
              | _ => exact Bool.noConfusion this
            have ex := ints_of hd ai
            have il : (intsOf ds).length = ds.length := by simp [intsOf]
            have bd : ∀ x ∈ intsOf ds, 1 ≤ x ∧ x ≤ 20 := fun x hx => by
              unfold intsOf at hx
              obtain ⟨d, hd, rfl⟩ := List.mem_map.mp hx
              have := List.all_eq_true.mp hb2 d hd
              cases d with
              | int i =>
                have : (decide ((1 : Int) ≤ i) && decide (i ≤ 20)) = true := this
                simp at this
                exact this
              | _ => exact Bool.noConfusion this
            have ej : judgeA (some ds) = PyData.eqv (.list ((intsOf ds).map PyData.int)) (.list ((upTo (intsOf ds)).map PyData.int)) := by
              show (!decide (ds.length = 0) && (ds.all (inD 1 20) && _)) = _
              rw [hb, hb2]
              rfl
            rw [ej] at k
            have h2 := e2 a _ h1
            rw [ex] at h2
            exact s_ret (ev_eqD (ed_of (ev_var rfl) (.lst (sq_of h2) (dpa_ints _))) (ed_ofL (el_sortSet (ev_var rfl) (sq_of h2) (by omega) (upTo_asc _) (upTo_mem bd)) (dpa_ints _)) (shaped_ints _) (shaped_ints _)) fun H3 e3 => k _ (e1.trans (e2.trans e3))
theorem ok_check_sizes (T : Tx K mg) : FnOk P w K mg base (L2N.CX P w) 4 T.f_check_sizes T.d_check_sizes ["sizes"] (sp_chkZ K T.cl_InvalidSizes) := by
  refine Kit.okN T.F_check_sizes sc_check_sizes (fun vs H Q E h => ?_) (fun cdv A outer s H vs Q E hr h => ?_)
  · obtain ⟨v, o, rfl, _⟩ := h
    rfl
  · obtain ⟨v, o, rfl, hv, k⟩ := h
    refine ⟨_, (pss_one (ps_if (pt_not (pt_val (pe_call (ok_are_sizes T) (hr.mono (by decide)) (by rfl) T.g_are_sizes T.F_are_sizes.kp T.b_are_sizes .nil pass0 (pa_cons (pv 0) pa_nil)))) (pss_one (Kit.ps_raiseN rfl Kit.takesN T.e_InvalidSizes T.gc_InvalidSizes (by rfl) pe_str)) pss_nil)), ?_⟩
    refine s_when (b := !judgeZ o) (et_is (et_not (et_B (ev_call (ea_cons (ev_var rfl) ea_nil) (sv_anyZ hv)))) rfl) (fun hb H1 e1 => ?_) fun hb H1 e1 => ?_
    · exact k.yes _ (if_neg (by simpa using hb)) _ e1
    · exact k.no (if_pos (by simpa using hb)) _ _ e1
theorem ok_check_allowed (T : Tx K mg) : FnOk P w K mg base (L2N.CX P w) 4 T.f_check_allowed T.d_check_allowed ["allowed"] (sp_chkA K T.cl_InvalidSizes) := by
  refine Kit.okN T.F_check_allowed sc_check_allowed (fun vs H Q E h => ?_) (fun cdv A outer s H vs Q E hr h => ?_)
  · obtain ⟨v, o, rfl, _⟩ := h
    rfl
  · obtain ⟨v, o, rfl, hv, k⟩ := h
    refine ⟨_, (pss_one (ps_if (pt_not (pt_val (pe_call (ok_is_ascending T) (hr.mono (by decide)) (by rfl) T.g_is_ascending T.F_is_ascending.kp T.b_is_ascending .nil pass0 (pa_cons (pv 0) (pa_cons pe_int (pa_cons (pe_gc (by rfl) T.c_MOST_GUESTS) pa_nil)))))) (pss_one (Kit.ps_raiseN rfl Kit.takesN T.e_InvalidSizes T.gc_InvalidSizes (by rfl) pe_str)) pss_nil)), ?_⟩
    refine s_when (b := !judgeA o) (et_is (et_not (et_B (ev_call (ea_cons (ev_var rfl) (ea_cons ev_c (ea_cons ev_c ea_nil))) (sv_anyA hv)))) rfl) (fun hb H1 e1 => ?_) fun hb H1 e1 => ?_
    · exact k.yes _ (if_neg (by simpa using hb)) _ e1
    · exact k.no (if_pos (by simpa using hb)) _ _ e1
end


local macro_rules | `(tactic| walk_at "call") => `(tactic| (with_reducible exact sv_whole))

/-! ### walk_left, tables_of -/
def sp_walk_left : Sp := fun vs H Q _ => ∃ (a : Addr) (h r : List Nat) (g : Nat), vs = [.ref a, .int g] ∧ H a = some (.lst (nv h)) ∧ Rg h r ∧ r[0]? = some g ∧ r.length ≤ 20 ∧ RetU (nv r) H Q
theorem su_walk {H : Hp} {a : Addr} {h r : List Nat} {g : Nat} (ha : H a = some (.lst (nv h))) (R : Rg h r) (h0 : r[0]? = some g) (hl : r.length ≤ 20) : SpU sp_walk_left ([.ref a, .int (g : Int)] ++ []) H (nv r) := fun H1 e Q q E => ⟨a, h, r, g, rfl, e a _ ha, R, h0, hl, q⟩
theorem take_next {α : Type} {l : List α} {i : Nat} {x : α} (h : l[i]? = some x) : l.take (i + 1) = l.take i ++ [x] := by
  rw [List.take_add_one, h]
  rfl
section
variable {P : Program} {w : World} {K : PySem.W.Frag} {mg : Str → Option Value} {base : Heap}
theorem ok_walk_left (T : Tx K mg) : FnOk P w K mg base CX0 1 T.f_walk_left T.d_walk_left ["lefts", "guest"] sp_walk_left := by
  refine T.F_walk_left.ok sc_walk_left (fun vs H Q E h => ?_) (fun cdv A outer s H vs Q E hr h => ?_)
  · obtain ⟨a, h, r, g, rfl, _⟩ := h
    rfl
  · obtain ⟨a, h, r, g, rfl, ha, R, h0, hl, k⟩ := h
    refine ⟨_, (pss_cons (ps_set (i := 2) sc_walk_left.nd rfl (Or.inl rfl) (pe_lst (pa_cons (pv 1) pa_nil)))
      (pss_cons (ps_while PassesOwn.never (pt_cmpR op_ne (pe_ix ix_list (pv 0) (pe_ix ix_list (pv 2) (pe_un un_neg pe_int) (fun _ _ => rfl)) (fun _ _ => rfl)) (pv 1) (nomark _)) (pss_one (ps_expr (pe_bm PySem.F.plainAttrs_list PySem.F.slot_list_append PySem.F.type_list_append mt_append (pv 2) (pa_cons (pe_ix ix_list (pv 0) (pe_ix ix_list (pv 2) (pe_un un_neg pe_int) (fun _ _ => rfl)) (fun _ _ => rfl)) pa_nil)))))
      (pss_one (ps_ret (pe_callTy call_tupR (by rfl) T.m_tuple (by decide +kernel) (pa_cons (pv 2) pa_nil)))))), ?_⟩
    refine q_asgL (by walk_at "el") fun p H1 hp e1 h1 => ?_
    refine q_while (fun m σ' H' => ∃ i, σ' = [some (.ref a), some (.int g), some (.ref p)] ∧ i < r.length ∧ Ex H H' ∧ H' p = some (.lst (nv (r.take (i + 1)))) ∧ m = r.length - i) r.length ⟨0, rfl, R.ne, e1, ?_, by omega⟩ ?_
    · rw [h1, take_next h0]
      rfl
    · rintro m σ' H' ⟨i, rfl, hi, e, hl', rfl⟩
      obtain ⟨x, y, hx, hy, hxy⟩ := R.st i hi
      have hlast : atI (nv (r.take (i + 1))) (-1) = some (.int (x : Int)) := by
        rw [take_next hx, nv_app]
        exact atI_last _ _
      have hax := e a _ ha
      have evx : ∀ H2, Ex H' H2 → Ev (tOp (rIxL K) (tVar 0) (tOp (rIxL K) (tVar 2) (tUn (rU fun i => .int (-i)) (tC (.int 1))))) [some (.ref a), some (.int g), some (.ref p)] H2 (.int (y : Int)) := fun H2 e2 =>
        ev_op (ev_var rfl) (ev_op (ev_var rfl) (ev_un ev_c ru_neg) (rv_ixL (sq_of (e2 p _ hl')) hlast)) (rv_ixL (sq_of (e2 a _ hax)) (atI_nat (nv_get hxy)))
      refine ⟨decide (i + 1 < r.length), et_is (et_test (ev_op (evx H' (Ex.refl _)) (ev_var rfl) (rv_ne rfl))) ?_, fun hb H2 e2 => ?_, fun hb H2 e2 => ?_⟩
      · rw [dec_int]
        by_cases hn : i + 1 < r.length
        · rw [Nat.mod_eq_of_lt hn] at hy
          have ne : y ≠ g := fun z => by
            subst z
            have := nd_ix R.nd hy h0
            omega
          have : ((y : Int) == (g : Int)) = false := by
            rw [beq_eq_false_iff_ne]
            omega
          rw [this]
          simp [hn]
        · have e0 : i + 1 = r.length := by omega
          rw [e0, Nat.mod_self, h0] at hy
          have : y = g := (Option.some.inj hy).symm
          subst this
          simp [hn]
      · have hn := of_decide_eq_true hb
        rw [Nat.mod_eq_of_lt hn] at hy
        have hl2 := e2 p _ hl'
        refine ⟨fun σ2 H3 => σ2 = [some (.ref a), some (.int g), some (.ref p)] ∧ Ex H H3 ∧ H3 p = some (.lst (nv (r.take (i + 1 + 1)))), fun σ2 H3 ⟨h1, h2, h3⟩ => ⟨r.length - (i + 1), by omega, i + 1, h1, hn, h2, h3, rfl⟩, ?_⟩
        refine s_app hl2 (ev_var rfl) (evx H2 e2) (by rw [nv_len, List.length_take]; omega) fun H3 e3 => ⟨rfl, Ex.mut (e.trans (e2.trans e3)) hp, ?_⟩
        rw [upd_same, take_next hy, nv_app]
        rfl
      · have hn := of_decide_eq_false hb
        have ht : r.take (i + 1) = r := List.take_of_length_le (by omega)
        rw [ht] at hl'
        exact s_retU (eu_tupOf (ev_var rfl) (sq_of (e2 p _ hl'))) fun q H3 hq e3 h3 => k q H3 (fresh_back (e.trans e2) hq) (e.trans (e2.trans e3)) h3
theorem Rings.short {h : List Nat} {rs : List (List Nat)} (R : Rings h rs) {r : List Nat} (hr : r ∈ rs) : r.length ≤ h.length := by
  have := List.Sublist.length_le (List.sublist_flatten_of_mem hr)
  rw [R.all.length_eq, List.length_range] at this
  exact this
theorem lead_val {r : List Nat} (ne : 0 < r.length) : ∃ (x : Nat) (l : List Int), iz r = (x : Int) :: l ∧ r[0]? = some x ∧ decide (V.int (x : Int) = V.int (l.foldl min (x : Int))) = leads r := by
  cases r with
  | nil => simp at ne
  | cons x l =>
    refine ⟨x, iz l, rfl, rfl, ?_⟩
    obtain ⟨h1, h2⟩ := foldl_min_spec (iz l) (x : Int)
    rw [dec_int]
    unfold leads
    rw [Bool.eq_iff_iff]
    simp only [beq_iff_eq, decide_eq_true_eq]
    constructor
    · intro e y hy
      show x ≤ y
      have := h2 (y : Int) (by
        rcases List.mem_cons.mp hy with q | q
        · rw [q]; simp
        · exact List.mem_cons_of_mem _ (List.mem_map.mpr ⟨y, q, rfl⟩))
      omega
    · intro hle
      have a := h2 (x : Int) (by simp)
      have b : ∀ z ∈ (x : Int) :: iz l, (x : Int) ≤ z := fun z hz => by
        rcases List.mem_cons.mp hz with q | q
        · omega
        · obtain ⟨y, hy, rfl⟩ := List.mem_map.mp q
          have : x ≤ y := hle y (by simp [hy])
          omega
      have := b _ h1
      omega
/-- tables_among: of all guests of a seating -/
def sp_tables_among : Sp := fun vs H Q _ => ∃ (a b : Addr) (h : List Nat) (rs : List (List Nat)), vs = [.ref a, .ref b] ∧ H a = some (.lst (nv h)) ∧ H b = some (.lst (nv (List.range h.length))) ∧ Ord h ∧ Rings h rs ∧ (∀ p ws H2, H p = none → Ex H H2 → H2 p = some (.lst ws) → TL H2 ws (rs.map nv) → Q (.ref p) H2)
theorem ok_tables_among (T : Tx K mg) : FnOk P w K mg base CX0 2 T.f_tables_among T.d_tables_among ["lefts", "guests"] sp_tables_among := by
  refine T.F_tables_among.ok sc_tables_among (fun vs H Q E h => ?_) (fun cdv A outer s H vs Q E hr h => ?_)
  · obtain ⟨a, b, h, rs, rfl, _⟩ := h
    rfl
  · obtain ⟨a, b, h, rs, rfl, ha, hb0, o, R, k⟩ := h
    refine ⟨_, (pss_cons (ps_setLc (i := 3) (own := [("guest", 2)]) (g := (gName 2)) (tt := tYes) rfl sc_tables_among.nd rfl rfl (sw_true rfl rfl rfl (by decide +kernel)) (pi_list (pv 1)) (blkOk_by (own := [("guest", 2)]) (N := n_tables_among) (sc := defScope s_tables_among) (by decide +kernel)) (fun _ _ _ _ _ => (pg_name (i := 2) sc_tables_among.nd rfl (Or.inl rfl))) (fun _ _ _ _ _ => pts_nil) (fun _ _ _ _ _ => (pe_call (ok_walk_left T) (hr.mono (by decide)) (by rfl) T.g_walk_left T.F_walk_left.kp T.b_walk_left .nil pass0 (pa_cons (pv 0) (pa_cons (pv 2) pa_nil)))))
      (pss_one (ps_ret (pe_lc (own := [("walk", 4)]) (g := (gName 4)) rfl sc_tables_among.nd (pi_list (pv 3)) (blkOk_by (own := [("walk", 4)]) (N := n_tables_among) (sc := defScope s_tables_among) (by decide +kernel)) (fun _ _ _ _ _ => (pg_name (i := 4) sc_tables_among.nd rfl (Or.inl rfl))) (fun _ _ _ _ _ => (pts_one (pt_cmpR op_eq (pe_ix (r := rIxT K) ix_tup (pv 4) pe_int (fun _ _ => rfl)) (pe_callB (id := "min") (r := rMinT K) (cr_minT rfl (hu_of hr)) (by rfl) T.m_min (by decide +kernel) (pa_cons (pv 4) pa_nil)) (nomark _)))) (fun _ _ _ _ _ => (pv 4)))))), ?_⟩
    obtain ⟨f, hf⟩ := R.walks
    have ho := o.2
    have e1 := Ex.refl H
    have h1 := ha
    refine q_asgLT (rs := (List.range h.length).map fun g => nv (f g)) ?_ fun p ws H2 hp e2 h2 ht => ?_
    · have g := elt_map (K := K) (te := tCall sp_walk_left [] E0 (tCons (tVar 0) (tCons (tVar 2) tNil))) (tl := tVar 1) (σ := [some (.ref a), some (.ref b), none, none, none]) (H := H) (j := 2) (vs := [2]) (xs := nv (List.range h.length)) (fun g => nv (f g)) (ev_var rfl) (sq_of hb0) (by rw [nv_len, List.length_range]; omega) (fun _ => rfl) fun i x H2 e2 hi0 => ?_
      · rw [nv_len, List.length_range] at g
        exact g
      · have hi : i < h.length := by
          have := (List.getElem?_eq_some_iff.mp hi0).1
          rw [nv_len, List.length_range] at this
          exact this
        have hx : x = .int (i : Int) := by
          have := nv_get (xs := List.range h.length) (i := i) (x := i) (by rw [List.getElem?_range hi])
          rw [this] at hi0
          exact (Option.some.inj hi0).symm
        subst hx
        obtain ⟨r, hr, kk, hk, e⟩ := hf i (by omega)
        have hkl := (List.getElem?_eq_some_iff.mp hk).1
        have hrs := R.short hr
        refine eu_call (by walk_at "ea") ?_
        have := su_walk (a := a) (g := i) (e2 a _ h1) ((R.rg r hr).rot hkl) (by rw [rot_get hkl (R.rg r hr).ne, Nat.zero_add, Nat.mod_eq_of_lt hkl]; exact hk) (by rw [rot_len (by omega)]; omega)
        rw [← e] at this
        exact this
    · have hlen := ht.len
      simp at hlen
      refine s_retLT (rs := rs.map nv) ?_ fun q vs H3 hq e3 h3 ht3 => k q vs H3 (fresh_back (e1.trans e2) hq) (e1.trans (e2.trans e3)) h3 ht3
      have g := elt_filter (K := K) (σ := [some (.ref a), some (.ref b), none, some (.ref p), none]) (H := H2) (tl := tVar 3) (j := 4) (vs := [4]) (t := tTest (tOp rEq (tOp (rIxT K) (tVar 4) (tC (.int 0))) (tCB (rMinT K) (tCons (tVar 4) tNil)))) (xs := ws) (rs := (List.range h.length).map fun g => nv (f g))
        (fun r => leads (r.map fun v => match v with | .int z => z.toNat | _ => 0)) (ev_var rfl) (sq_of h2) ht (by omega) (fun _ => rfl) (fun _ => rfl) fun b r H3 e3 hr hb => ?_
      · have e : ((List.range h.length).map fun g => nv (f g)).filter (fun r => leads (r.map fun v => match v with | .int z => z.toNat | _ => 0)) = rs.map nv := by
          rw [show ((List.range h.length).map fun g => nv (f g)) = ((List.range h.length).map f).map nv by rw [List.map_map]; rfl, List.filter_map]
          congr 1
          have : ((fun r : List V => leads (r.map fun v => match v with | .int z => z.toNat | _ => 0)) ∘ nv) = leads := by
            funext r
            show leads ((nv r).map _) = leads r
            rw [nv_eq, List.map_map]
            congr 1
            refine (List.map_congr_left fun x _ => ?_).trans (List.map_id _)
            simp
          rw [this]
          exact R.lead hf
        rw [e] at g
        exact g
      · obtain ⟨g, hg, rfl⟩ := List.mem_map.mp hr
        obtain ⟨r, hr, kk, hk, e⟩ := hf g (List.mem_range.mp hg)
        have hkl := (List.getElem?_eq_some_iff.mp hk).1
        have ne : 0 < (f g).length := by rw [e, rot_len (by omega)]; exact (R.rg r hr).ne
        obtain ⟨x, l, i1, i2, i3⟩ := lead_val ne
        have e5 : leads ((nv (f g)).map fun v => match v with | .int z => z.toNat | _ => 0) = leads (f g) := by
          rw [nv_eq, List.map_map]
          congr 1
          refine (List.map_congr_left fun x _ => ?_).trans (List.map_id _)
          simp
        rw [e5, ← i3]
        have hb2 : SqT K H3 b (((x : Int) :: l).map V.int) := st_of (by rw [hb]; unfold nv; rw [i1])
        exact et_test (ev_op (ev_op (ev_var rfl) ev_c (rv_ixT (st_of hb) (atI_nat (j := 0) (nv_get i2)))) (ev_minT (ev_var rfl) hb2) (rv_eq rfl))
theorem elt_among {H : Hp} {a : Addr} {h : List Nat} {rs : List (List Nat)} {σ : L2.St} {ta tb : TE} {E : XK} (h1 : Ev ta σ H (.ref a)) (h2 : EvL tb σ H (nv (List.range h.length))) (ha : H a = some (.lst (nv h))) (o : Ord h) (R : Rings h rs) : EvLT (tCall sp_tables_among [] E (tCons ta (tCons tb tNil))) σ H (rs.map nv) := fun H1 e Q q => h1 H1 e _ fun H2 e2 => h2 H2 (e.trans e2) _ fun b H3 nb e3 hb => ⟨a, b, h, rs, rfl, (e.trans (e2.trans e3)) a _ ha, hb, o, R, fun p ws H4 hp e4 h4 t => q p ws H4 (fresh_back (e2.trans e3) hp) ((e2.trans e3).trans e4) h4 t⟩
def sp_tables_of (T : Tx K mg) : Sp := fun vs H Q E => ∃ (v : V) (o : Option (List PyData)), vs = [v] ∧ Th K H v o ∧ (judge o = false → ∀ H1, Ex H H1 → E (.ref T.cl_InvalidSeating) none H1) ∧
  ∀ (a : Addr) (h : List Nat) (rs : List (List Nat)) (p : Addr) (ws : List V) (H2 : Hp), judge o = true → v = .ref a → H a = some (.lst (nv h)) → Ord h → Rings h rs → rs.length ≤ h.length → H p = none → Ex H H2 → H2 p = some (.lst ws) → TL H2 ws (rs.map nv) → Q (.ref p) H2
theorem ok_tables_of (T : Tx K mg) : FnOk P w K mg base (L2N.CX P w) 5 T.f_tables_of T.d_tables_of ["seating"] (sp_tables_of T) := by
  refine Kit.okN T.F_tables_of sc_tables_of (fun vs H Q E h => ?_) (fun cdv A outer s H vs Q E hr h => ?_)
  · obtain ⟨v, o, rfl, _⟩ := h
    rfl
  · obtain ⟨v, o, rfl, hv, kE, k⟩ := h
    refine ⟨_, (pss_cons (ps_expr (pe_call (ok_check_seating T) (hr.mono (by decide)) (by rfl) T.g_check_seating T.F_check_seating.kp T.b_check_seating .nil Kit.passN (pa_cons (pv 0) pa_nil)))
      (PSs.nox (pss_one (ps_ret (pe_call (ok_tables_among T) (hr.mono (by decide)) (by rfl) T.g_tables_among T.F_tables_among.kp T.b_tables_among .nil pass0 (pa_cons (pv 0) (pa_cons (pe_listRg rfl (by rfl) T.m_list (prg_1 (by rfl) T.m_range (pe_callB call_lenR (by rfl) T.m_len (by decide +kernel) (pa_cons (pv 0) pa_nil)))) pa_nil))))))), ?_⟩
    refine q_chk (ea_cons (ev_var rfl) ea_nil) (so_chkS hv) (fun hn H1 e1 => ?_) fun C hC H1 e1 => ?_
    · have hj : judge o = true := by
        cases hb : judge o with
        | true => rfl
        | false =>
          rw [hb] at hn
          cases hn
      obtain ⟨a, h, rfl, ha, oh⟩ := judge_yes hv hj
      obtain ⟨rs, R, rl⟩ := ord_rings oh
      have ho := oh.2
      have h1 := e1 a _ ha
      refine s_retLT (rs := rs.map nv) (elt_among (ev_var rfl) ?_ h1 oh R) fun q vs H3 hq e3 h3 ht3 => k a h rs q vs H3 hj rfl ha oh R rl (fresh_back e1 hq) (e1.trans e3) h3 ht3
      have g := el_rg1 (σ := start n_tables_of [.ref a]) (ev_len (K := K) (ta := tVar 0) (ev_var (i := 0) (v := .ref a) rfl) (sq_of h1)) (RgOk.of_le (by decide) (by rw [nv_len]; omega) (by decide) (by rw [nv_len]; omega))
      rw [nv_len, range_iz] at g
      exact g
    · cases hb : judge o with
      | true =>
        rw [hb] at hC
        cases hC
      | false =>
        rw [hb] at hC
        cases hC
        exact kE hb _ e1
end


local macro_rules | `(tactic| walk_at "call") => `(tactic| (with_reducible exact sv_whole))

/-! ### _law_word -/
section
variable {P : Program} {w : World} {K : PySem.W.Frag} {mg : Str → Option Value} {base : Heap}
def sp_law_word (T : Tx K mg) : Addr → Value → Option Addr → Sp := fun a cls d vs H Q _ => ∃ i, i < 8 ∧ cls = .ref (erA T i) ∧ d = none ∧ vs = [.ref a] ∧ RetV (.str (erW i)) H Q
theorem er_is (T : Tx K mg) {i : Nat} (hi : i < 8) : ExcD K (erA T i) ∧ PySem.W.exmOne K (.ref (erA T i)) (.ref T.cl_HallError) = some true ∧ (∀ j, j < 8 → PySem.W.kitOne K (.ref (erA T i)) (.ref (erA T j)) = some (decide (j = i))) ∧ PySem.W.kitOne K (.ref (erA T i)) (.type "ValueError") = some true := by
  have : i = 0 ∨ i = 1 ∨ i = 2 ∨ i = 3 ∨ i = 4 ∨ i = 5 ∨ i = 6 ∨ i = 7 := by omega
  rcases this with rfl | rfl | rfl | rfl | rfl | rfl | rfl | rfl
  · refine ⟨T.e_InvalidSeating, T.x_InvalidSeating, fun j hj => ?_, isRow_at T.t_InvalidSeating (by simp)⟩
    have : j = 0 ∨ j = 1 ∨ j = 2 ∨ j = 3 ∨ j = 4 ∨ j = 5 ∨ j = 6 ∨ j = 7 := by omega
    rcases this with rfl | rfl | rfl | rfl | rfl | rfl | rfl | rfl <;> exact isRow_at T.t_InvalidSeating (by simp [erA])
  · refine ⟨T.e_InvalidSizes, T.x_InvalidSizes, fun j hj => ?_, isRow_at T.t_InvalidSizes (by simp)⟩
    have : j = 0 ∨ j = 1 ∨ j = 2 ∨ j = 3 ∨ j = 4 ∨ j = 5 ∨ j = 6 ∨ j = 7 := by omega
    rcases this with rfl | rfl | rfl | rfl | rfl | rfl | rfl | rfl <;> exact isRow_at T.t_InvalidSizes (by simp [erA])
  · refine ⟨T.e_InvalidWeight, T.x_InvalidWeight, fun j hj => ?_, isRow_at T.t_InvalidWeight (by simp)⟩
    have : j = 0 ∨ j = 1 ∨ j = 2 ∨ j = 3 ∨ j = 4 ∨ j = 5 ∨ j = 6 ∨ j = 7 := by omega
    rcases this with rfl | rfl | rfl | rfl | rfl | rfl | rfl | rfl <;> exact isRow_at T.t_InvalidWeight (by simp [erA])
  · refine ⟨T.e_InvalidGuests, T.x_InvalidGuests, fun j hj => ?_, isRow_at T.t_InvalidGuests (by simp)⟩
    have : j = 0 ∨ j = 1 ∨ j = 2 ∨ j = 3 ∨ j = 4 ∨ j = 5 ∨ j = 6 ∨ j = 7 := by omega
    rcases this with rfl | rfl | rfl | rfl | rfl | rfl | rfl | rfl <;> exact isRow_at T.t_InvalidGuests (by simp [erA])
  · refine ⟨T.e_InvalidGuest, T.x_InvalidGuest, fun j hj => ?_, isRow_at T.t_InvalidGuest (by simp)⟩
    have : j = 0 ∨ j = 1 ∨ j = 2 ∨ j = 3 ∨ j = 4 ∨ j = 5 ∨ j = 6 ∨ j = 7 := by omega
    rcases this with rfl | rfl | rfl | rfl | rfl | rfl | rfl | rfl <;> exact isRow_at T.t_InvalidGuest (by simp [erA])
  · refine ⟨T.e_InvalidNumber, T.x_InvalidNumber, fun j hj => ?_, isRow_at T.t_InvalidNumber (by simp)⟩
    have : j = 0 ∨ j = 1 ∨ j = 2 ∨ j = 3 ∨ j = 4 ∨ j = 5 ∨ j = 6 ∨ j = 7 := by omega
    rcases this with rfl | rfl | rfl | rfl | rfl | rfl | rfl | rfl <;> exact isRow_at T.t_InvalidNumber (by simp [erA])
  · refine ⟨T.e_InvalidIndex, T.x_InvalidIndex, fun j hj => ?_, isRow_at T.t_InvalidIndex (by simp)⟩
    have : j = 0 ∨ j = 1 ∨ j = 2 ∨ j = 3 ∨ j = 4 ∨ j = 5 ∨ j = 6 ∨ j = 7 := by omega
    rcases this with rfl | rfl | rfl | rfl | rfl | rfl | rfl | rfl <;> exact isRow_at T.t_InvalidIndex (by simp [erA])
  · refine ⟨T.e_NoSeating, T.x_NoSeating, fun j hj => ?_, isRow_at T.t_NoSeating (by simp)⟩
    have : j = 0 ∨ j = 1 ∨ j = 2 ∨ j = 3 ∨ j = 4 ∨ j = 5 ∨ j = 6 ∨ j = 7 := by omega
    rcases this with rfl | rfl | rfl | rfl | rfl | rfl | rfl | rfl <;> exact isRow_at T.t_NoSeating (by simp [erA])
theorem ok_law_word (T : Tx K mg) : FnP P w K mg base CX0 1 T.f_law_word T.d_law_word ["caught"] (sp_law_word T) := by
  refine Kit.okP T.F_law_word sc_law_word (fun a cls d vs H Q E h => ?_) (fun cdv A outer s H vs Q E p cls d hot hz hr h => ?_)
  · obtain ⟨i, _, _, _, rfl, _⟩ := h
    rfl
  · obtain ⟨i, hi, rfl, rfl, rfl, k⟩ := h
    have hf : ∃ vs, p.2.data = .fields vs := hot.2.imp fun vs e => e.1
    have hp : p ∈ [p] := List.mem_cons_self
    obtain ⟨hC, _, hk, hv⟩ := er_is T hi
    generalize hCe : erA T i = C at hC hk hv hz
    refine ⟨_, (pss_cons (ps_set (i := 1) sc_law_word.nd rfl (Or.inl rfl) (pe_lst (pa_cons (pe_callB (id := "isinstance") (r := rIsE K C p.1) (Kit.call_isP hC hp hz hf) (by rfl) T.m_isinstance (by decide +kernel) (pa_cons (pv 0) (pa_cons (pe_gc (v := .ref T.cl_InvalidSeating) (by rfl) ⟨_, T.gc_InvalidSeating, rfl⟩) pa_nil))) (pa_cons (pe_callB (id := "isinstance") (r := rIsE K C p.1) (Kit.call_isP hC hp hz hf) (by rfl) T.m_isinstance (by decide +kernel) (pa_cons (pv 0) (pa_cons (pe_gc (v := .ref T.cl_InvalidSizes) (by rfl) ⟨_, T.gc_InvalidSizes, rfl⟩) pa_nil))) (pa_cons (pe_callB (id := "isinstance") (r := rIsE K C p.1) (Kit.call_isP hC hp hz hf) (by rfl) T.m_isinstance (by decide +kernel) (pa_cons (pv 0) (pa_cons (pe_gc (v := .ref T.cl_InvalidWeight) (by rfl) ⟨_, T.gc_InvalidWeight, rfl⟩) pa_nil))) pa_nil)))))
      (pss_cons (ps_set (i := 1) sc_law_word.nd rfl (Or.inl rfl) (pe_op op_cat (pv 1) (pe_lst (pa_cons (pe_callB (id := "isinstance") (r := rIsE K C p.1) (Kit.call_isP hC hp hz hf) (by rfl) T.m_isinstance (by decide +kernel) (pa_cons (pv 0) (pa_cons (pe_gc (v := .ref T.cl_InvalidGuests) (by rfl) ⟨_, T.gc_InvalidGuests, rfl⟩) pa_nil))) (pa_cons (pe_callB (id := "isinstance") (r := rIsE K C p.1) (Kit.call_isP hC hp hz hf) (by rfl) T.m_isinstance (by decide +kernel) (pa_cons (pv 0) (pa_cons (pe_gc (v := .ref T.cl_InvalidGuest) (by rfl) ⟨_, T.gc_InvalidGuest, rfl⟩) pa_nil))) pa_nil)))))
      (pss_cons (ps_set (i := 1) sc_law_word.nd rfl (Or.inl rfl) (pe_op op_cat (pv 1) (pe_lst (pa_cons (pe_callB (id := "isinstance") (r := rIsE K C p.1) (Kit.call_isP hC hp hz hf) (by rfl) T.m_isinstance (by decide +kernel) (pa_cons (pv 0) (pa_cons (pe_gc (v := .ref T.cl_InvalidNumber) (by rfl) ⟨_, T.gc_InvalidNumber, rfl⟩) pa_nil))) (pa_cons (pe_callB (id := "isinstance") (r := rIsE K C p.1) (Kit.call_isP hC hp hz hf) (by rfl) T.m_isinstance (by decide +kernel) (pa_cons (pv 0) (pa_cons (pe_gc (v := .ref T.cl_InvalidIndex) (by rfl) ⟨_, T.gc_InvalidIndex, rfl⟩) pa_nil))) (pa_cons (pe_callB (id := "isinstance") (r := rIsE K C p.1) (Kit.call_isP hC hp hz hf) (by rfl) T.m_isinstance (by decide +kernel) (pa_cons (pv 0) (pa_cons (pe_gc (v := .ref T.cl_NoSeating) (by rfl) ⟨_, T.gc_NoSeating, rfl⟩) pa_nil))) pa_nil))))))
      (pss_cons (ps_if (PW.pt (pw_or (pt_cmpR op_ne (pe_bm PySem.F.plainAttrs_list PySem.F.slot_list_count PySem.F.type_list_count Kit.mt_countF (pv 1) (pa_cons pe_bl pa_nil)) pe_int (nomark _)) (pw_or1 (pt_not (pt_val (pe_callB (id := "isinstance") (r := rIsE K C p.1) (Kit.call_isP hC hp hz hf) (by rfl) T.m_isinstance (by decide +kernel) (pa_cons (pv 0) (pa_cons (pe_bltn (v := .ty "ValueError") (by rfl) T.m_ValueError (by decide +kernel) rfl) pa_nil)))))))) (pss_one (ps_ret pe_str)) pss_nil)
      (pss_one (ps_ret (pe_ix ix_list (pe_lst (pa_cons pe_str (pa_cons pe_str (pa_cons pe_str (pa_cons pe_str (pa_cons pe_str (pa_cons pe_str (pa_cons pe_str (pa_cons pe_str pa_nil))))))))) (pe_bm PySem.F.plainAttrs_list PySem.F.slot_list_index PySem.F.type_list_index mt_index (pv 1) (pa_cons pe_bl pa_nil)) (fun _ _ => rfl)))))))), ?_⟩
    have ref : ∀ (b : Addr) (u : Value), RelV (.ref b) u → u = .ref b := fun b u r => r
    have tyv : ∀ (n : String) (u : Value), RelV (.ty n) u → u = .type n := fun n u r => r
    refine q_asgL (xs := [V.bl (decide (0 = i)), .bl (decide (1 = i)), .bl (decide (2 = i))]) (el_lst (ea_cons (ev_isP (ev_var rfl) ev_c (ref _) (hk 0 (by decide))) (ea_cons (ev_isP (ev_var rfl) ev_c (ref _) (hk 1 (by decide))) (ea_cons (ev_isP (ev_var rfl) ev_c (ref _) (hk 2 (by decide))) ea_nil))) (Nat.le_of_ble_eq_true rfl)) fun m0 H1 hm0 e1 h1 => ?_
    refine q_asgL (xs := [V.bl (decide (0 = i)), .bl (decide (1 = i)), .bl (decide (2 = i))] ++ [V.bl (decide (3 = i)), .bl (decide (4 = i))]) (el_catO (ev_var rfl) h1 (el_lst (ea_cons (ev_isP (ev_var rfl) ev_c (ref _) (hk 3 (by decide))) (ea_cons (ev_isP (ev_var rfl) ev_c (ref _) (hk 4 (by decide))) ea_nil)) (Nat.le_of_ble_eq_true rfl)) (Nat.le_of_ble_eq_true rfl)) fun m1 H2 hm1 e12 h2 => ?_
    refine q_asgL (xs := ([V.bl (decide (0 = i)), .bl (decide (1 = i)), .bl (decide (2 = i))] ++ [V.bl (decide (3 = i)), .bl (decide (4 = i))]) ++ [V.bl (decide (5 = i)), .bl (decide (6 = i)), .bl (decide (7 = i))]) (el_catO (ev_var rfl) h2 (el_lst (ea_cons (ev_isP (ev_var rfl) ev_c (ref _) (hk 5 (by decide))) (ea_cons (ev_isP (ev_var rfl) ev_c (ref _) (hk 6 (by decide))) (ea_cons (ev_isP (ev_var rfl) ev_c (ref _) (hk 7 (by decide))) ea_nil))) (Nat.le_of_ble_eq_true rfl)) (Nat.le_of_ble_eq_true rfl)) fun m H3 hm e23 h3 => ?_
    have e2 := e12.trans e23
    have e3 := e1.trans e2
    have ci : i = 0 ∨ i = 1 ∨ i = 2 ∨ i = 3 ∨ i = 4 ∨ i = 5 ∨ i = 6 ∨ i = 7 := by omega
    refine q_when (b := false) (et_is (et_or (b := false) (et_test (ev_op (ev_countF (K := K) (y := .bl true) (ev_var rfl) h3 ev_c rfl rfl) ev_c (rv_ne rfl))) fun _ => et_is (et_not (et_B (ev_isP (ev_var rfl) ev_c (tyv _) hv))) rfl) ?_) (fun hb => Bool.noConfusion hb) fun _ H4 e4 => ?_
    · rcases ci with rfl | rfl | rfl | rfl | rfl | rfl | rfl | rfl <;> decide +kernel
    · have h4 := e4 m _ h3
      refine s_ret (v := .str (erW i)) (ev_opL1 (xs := [V.str "seating", .str "sizes", .str "weight", .str "guests", .str "guest", .str "number", .str "index", .str "none of them"]) (el_lst (ea_cons ev_c (ea_cons ev_c (ea_cons ev_c (ea_cons ev_c (ea_cons ev_c (ea_cons ev_c (ea_cons ev_c (ea_cons ev_c ea_nil)))))))) (Nat.le_of_ble_eq_true rfl)) (fun H5 e5 => ev_indexF (K := K) (y := .bl true) i (ev_var rfl) (e5 m _ h4) ev_c rfl rfl ?_ ?_) fun q H5 hq e5 => rv_ixL (sq_of hq) ?_) fun H5 e5 => k _ (e3.trans (e4.trans e5))
      · rcases ci with rfl | rfl | rfl | rfl | rfl | rfl | rfl | rfl <;> exact ⟨_, rfl, rfl⟩
      · intro j z hj hz
        have cj : j = 0 ∨ j = 1 ∨ j = 2 ∨ j = 3 ∨ j = 4 ∨ j = 5 ∨ j = 6 ∨ j = 7 := by omega
        rcases ci with rfl | rfl | rfl | rfl | rfl | rfl | rfl | rfl <;> rcases cj with rfl | rfl | rfl | rfl | rfl | rfl | rfl | rfl <;> first | omega | (cases hz; rfl)
      · rcases ci with rfl | rfl | rfl | rfl | rfl | rfl | rfl | rfl <;> rfl
end


local macro_rules | `(tactic| walk_at "call") => `(tactic| (with_reducible exact sv_whole))

theorem given_at {n : Nat} (v : Nat → V) : given n (fun _ => true) v = (List.range n).map v := by
  unfold given
  rw [List.filter_eq_self.mpr fun _ _ => rfl]
theorem et_tru {K : PySem.W.Frag} {σ : L2.St} {H : Hp} {ta : TE} {a : Addr} {xs : List V} (h : Ev ta σ H (.ref a)) (hx : SqL K H a xs) : EvT (fun σ H Q => ta σ H fun x H' => ∃ k, TruV K x H' k ∧ Q k H') σ H (!xs.isEmpty) := fun H1 e Q q => h H1 e _ fun H2 e2 => ⟨_, .inl ⟨xs, ex_l (e.trans e2) hx, rfl⟩, q H2 e2⟩
section
variable {K : PySem.W.Frag} {σ : L2.St} {H : Hp} {ta te : TE} {tr : TA} {D : Ends}
theorem nv_flat (r : List Nat) : (nv r).all flatV = true := by
  rw [nv_eq, List.all_map, List.all_eq_true]
  intro x _
  rfl
theorem nv_in (r : List Nat) (x : Nat) : inV (.int x) (nv r) = decide (x ∈ r) := by
  unfold inV
  rw [nv_eq, List.any_map, Bool.eq_iff_iff, List.any_eq_true, decide_eq_true_iff]
  constructor
  · rintro ⟨y, hy, e⟩
    have : ((y : Int) == (x : Int)) = true := e
    have := eq_of_beq this
    have : y = x := by omega
    exact this ▸ hy
  · intro h
    exact ⟨x, h, beq_self_eq_true _⟩
theorem s_dropBM {r : V → List V → Hp → VK → Prop} {l : Addr} {xs : List V} (hl : H l = some (.lst xs)) (ha : Ev ta σ H (.ref l)) (k : ∀ H1, Ex H H1 → tr σ H1 fun vs H2 => r (.ref l) vs H2 fun _ H3 => D.nx σ H3) : tDrop (tBM K "list" r ta tr) D σ H :=
  ha H (Ex.refl H) _ fun H1 e1 => ⟨Or.inl ⟨rfl, xs, sq_of (e1 l _ hl)⟩, k H1 e1⟩
theorem ev_index {l : Addr} {r : List Nat} {x : Nat} (hl : H l = some (.lst (nv r))) (ha : Ev ta σ H (.ref l)) (he : Ev te σ H (.int (x : Int))) (hx : x ∈ r) : Ev (tBM K "list" (rIndex K) ta (tCons te tNil)) σ H (.int (r.idxOf x : Nat)) := fun H1 e Q q =>
  ha H1 e _ fun H2 e2 => ⟨Or.inl ⟨rfl, _, sq_of (e2 l _ (e l _ hl))⟩, he H2 (e.trans e2) _ fun H3 e3 => by
    have hlt := List.idxOf_lt_length_of_mem hx
    refine ⟨l, nv r, .int x, r.idxOf x, .int x, rfl, rfl, sq_of (e3 l _ (e2 l _ (e l _ hl))), rfl, nv_flat r, nv_get (by rw [List.getElem?_eq_getElem hlt, List.getElem_idxOf hlt]), beq_self_eq_true _, fun m z hm hz => ?_, q H3 (e2.trans e3)⟩
    have hml : m < r.length := by omega
    have := nv_get (List.getElem?_eq_getElem hml)
    rw [hz] at this
    have ez := Option.some.inj this
    subst ez
    show ((r[m] : Int) == (x : Int)) = false
    rw [beq_eq_false_iff_ne]
    intro ee
    have ee' : r[m] = x := by omega
    have h1 : r.idxOf x ≤ m := by
      have hh : r.findIdx (· == x) ≤ m := by
        refine Nat.le_of_not_lt fun hlt2 => ?_
        have := List.not_of_lt_findIdx hlt2
        rw [ee'] at this
        simp at this
      exact hh
    omega⟩
end

/-- a table at b: a list or a tuple -/
def Tb (H : Hp) (v : V) (r : List Nat) : Prop := ∃ b, v = .ref b ∧ (H b = some (.lst (nv r)) ∨ H b = some (.tup (nv r)))
theorem Tb.ex {H H' : Hp} {v : V} {r : List Nat} (e : Ex H H') (h : Tb H v r) : Tb H' v r := by
  obtain ⟨b, rfl, h | h⟩ := h
  · exact ⟨b, rfl, .inl (e b _ h)⟩
  · exact ⟨b, rfl, .inr (e b _ h)⟩
theorem nv_set {c : List Nat} {x y : Nat} : (nv c).set x (.int y) = nv (c.set x y) := by
  rw [nv_eq, nv_eq, List.map_set]
theorem nv_rep (n : Nat) : (List.replicate n [V.int 0]).flatten = nv (List.replicate n 0) := by
  rw [nv_eq, List.map_replicate]
  induction n with
  | zero => rfl
  | succ k ih =>
    rw [List.replicate_succ, List.flatten_cons, ih, List.replicate_succ]
    rfl
theorem nv_inj {a b : List Nat} (h : a = b) : nv a = nv b := by rw [h]
def sp_seating_with : Sp := fun vs H Q _ => ∃ (a : Addr) (ws : List V) (rs : List (List Nat)) (h : List Nat), vs = [.ref a] ∧ H a = some (.lst ws) ∧ Paired (Tb H) ws rs ∧ rs.flatten.Perm (List.range h.length) ∧ (∀ r ∈ rs, Rg h r) ∧ h.length ≤ 20 ∧ RetL (nv h) H Q
theorem paired_get {α β : Type} {F : α → β → Prop} : ∀ {l : List α} {m : List β} {i : Nat} {x : α}, Paired F l m → l[i]? = some x → ∃ y, m[i]? = some y ∧ F x y
  | _, _, 0, x, .cons h t, hx => ⟨_, rfl, (Option.some.inj (by simpa using hx)) ▸ h⟩
  | _, _, i + 1, x, .cons h t, hx => by
    obtain ⟨y, h1, h2⟩ := paired_get (i := i) t (by simpa using hx)
    exact ⟨y, by simpa using h1, h2⟩
  | _, _, 0, x, .nil, hx => by simp at hx
  | _, _, i + 1, x, .nil, hx => by simp at hx
theorem sum_len : ∀ rs : List (List Nat), ((rs.map fun r => (r.length : Int))).sum = (rs.flatten.length : Int)
  | [] => rfl
  | r :: l => by
    rw [List.map_cons, List.sum_cons, sum_len l, List.flatten_cons, List.length_append]
    omega
theorem flat_next {rs : List (List Nat)} {i : Nat} {r : List Nat} (h : rs[i]? = some r) : (rs.take (i + 1)).flatten = (rs.take i).flatten ++ r := by
  rw [take_next h, List.flatten_append]
  simp

/-! ### a list of new lists -/
structure LL (H0 : Hp) (p : Addr) (H : Hp) (bs : List Addr) (rs : List (List Nat)) : Prop where
  self : H p = some (.lst (bs.map V.ref))
  nd : bs.Nodup
  np : p ∉ bs
  fp : H0 p = none
  fr : ∀ b ∈ bs, H0 b = none
  len : bs.length = rs.length
  at_ : ∀ (i : Nat) (b : Addr) (r : List Nat), bs[i]? = some b → rs[i]? = some r → H b = some (.lst (nv r))
theorem LL.ex {H0 H H' : Hp} {p : Addr} {bs : List Addr} {rs : List (List Nat)} (L : LL H0 p H bs rs) (e : Ex H H') : LL H0 p H' bs rs :=
  ⟨e p _ L.self, L.nd, L.np, L.fp, L.fr, L.len, fun i b r h1 h2 => e b _ (L.at_ i b r h1 h2)⟩
theorem LL.get {H0 H : Hp} {p : Addr} {bs : List Addr} {rs : List (List Nat)} (L : LL H0 p H bs rs) {i : Nat} {r : List Nat} (h : rs[i]? = some r) : ∃ b, bs[i]? = some b ∧ H b = some (.lst (nv r)) ∧ b ≠ p ∧ H0 b = none := by
  have hi := (List.getElem?_eq_some_iff.mp h).1
  have hb : bs[i]? = some (bs[i]'(by rw [L.len]; exact hi)) := List.getElem?_eq_getElem _
  refine ⟨_, hb, L.at_ i _ r hb h, fun z => L.np ?_, L.fr _ (List.mem_of_getElem? hb)⟩
  rw [← z]
  exact List.mem_of_getElem? hb
theorem LL.nil {H0 H : Hp} {p : Addr} (h : H p = some (.lst [])) (fp : H0 p = none) : LL H0 p H [] [] :=
  ⟨h, List.nodup_nil, by simp, fp, by simp, rfl, fun i b r h1 => by simp at h1⟩
theorem LL.push {H0 H H' : Hp} {p q : Addr} {bs : List Addr} {rs : List (List Nat)} {r : List Nat} (L : LL H0 p H bs rs) (e0 : Ex H0 H) (e : Ex H H') (hq : H q = none) (h' : H' q = some (.lst (nv r))) : LL H0 p (upd H' p (.lst (bs.map V.ref ++ [.ref q]))) (bs ++ [q]) (rs ++ [r]) := by
  have nq : q ∉ bs := fun hm => by
    obtain ⟨i, hi⟩ := List.mem_iff_getElem?.mp hm
    have hl := (List.getElem?_eq_some_iff.mp hi).1
    have := L.at_ i q _ hi (List.getElem?_eq_getElem (by rw [← L.len]; exact hl))
    rw [hq] at this
    cases this
  have qp : q ≠ p := fun z => by
    have := L.self
    rw [← z, hq] at this
    cases this
  refine ⟨by rw [upd_same]; simp, ?_, ?_, L.fp, ?_, by simp [L.len], ?_⟩
  · exact List.nodup_append.mpr ⟨L.nd, by simp, fun a ha b hb z => nq (by
      rw [List.mem_singleton] at hb
      rw [← hb, ← z]
      exact ha)⟩
  · simp [L.np, Ne.symm qp]
  · intro b hb
    rcases List.mem_append.mp hb with h | h
    · exact L.fr b h
    · rw [List.mem_singleton] at h
      rw [h]
      exact fresh_back e0 hq
  · intro i b s h1 h2
    by_cases hi : i < bs.length
    · rw [List.getElem?_append_left hi] at h1
      rw [List.getElem?_append_left (by rw [← L.len]; exact hi)] at h2
      have hb := L.at_ i b s h1 h2
      rw [upd_ne (fun z => L.np (by rw [← z]; exact List.mem_of_getElem? h1))]
      exact e b _ hb
    · rw [List.getElem?_append_right (by omega)] at h1
      rw [List.getElem?_append_right (by rw [← L.len]; omega)] at h2
      have i0 : i - bs.length = 0 := by
        have := (List.getElem?_eq_some_iff.mp h1).1
        simp at this
        omega
      rw [i0] at h1
      rw [← L.len, i0] at h2
      have b1 : q = b := Option.some.inj h1
      have r1 : r = s := Option.some.inj h2
      rw [← b1, ← r1, upd_ne qp]
      exact h'
theorem LL.put {H0 H : Hp} {p b : Addr} {bs : List Addr} {rs : List (List Nat)} {r : List Nat} {i : Nat} (L : LL H0 p H bs rs) (hb : bs[i]? = some b) : LL H0 p (upd H b (.lst (nv r))) bs (rs.set i r) := by
  have bp : p ≠ b := fun z => L.np (by rw [z]; exact List.mem_of_getElem? hb)
  refine ⟨by rw [upd_ne bp]; exact L.self, L.nd, L.np, L.fp, L.fr, by simp [L.len], fun j c s h1 h2 => ?_⟩
  by_cases hj : i = j
  · subst hj
    have hl : i < rs.length := by rw [← L.len]; exact (List.getElem?_eq_some_iff.mp hb).1
    rw [List.getElem?_set_self hl] at h2
    rw [hb] at h1
    rw [← Option.some.inj h1, ← Option.some.inj h2, upd_same]
  · rw [List.getElem?_set_ne hj] at h2
    have : c ≠ b := fun z => by
      subst z
      exact hj (nd_ix L.nd hb h1)
    rw [upd_ne this]
    exact L.at_ j c s h1 h2
theorem LL.tb {H0 H : Hp} {p : Addr} {bs : List Addr} {rs : List (List Nat)} (L : LL H0 p H bs rs) : Paired (Tb H) (bs.map V.ref) rs := by
  have : ∀ (bs : List Addr) (rs : List (List Nat)), bs.length = rs.length → (∀ (i : Nat) (b : Addr) (r : List Nat), bs[i]? = some b → rs[i]? = some r → H b = some (.lst (nv r))) → Paired (Tb H) (bs.map V.ref) rs := fun bs => by
    induction bs with
    | nil => 
      intro rs hl _
      cases rs with
      | nil => exact .nil
      | cons r l => simp at hl
    | cons b bs ih =>
      intro rs hl ha
      cases rs with
      | nil => simp at hl
      | cons r l =>
        refine .cons ⟨b, rfl, .inl (ha 0 b r rfl rfl)⟩ (ih l (by simpa using hl) fun i c s h1 h2 => ha (i + 1) c s (by simpa using h1) (by simpa using h2))
  exact this bs rs L.len L.at_
/-- xs.append of a list among others -/
theorem set_end {α : Type} (l : List α) (x y : α) : (l ++ [x]).set l.length y = l ++ [y] := by
  rw [List.set_append_right _ _ (Nat.le_refl _)]
  simp
theorem paired_imp {α β : Type} {F G : α → β → Prop} (f : ∀ a b, F a b → G a b) : ∀ {l : List α} {m : List β}, Paired F l m → Paired G l m
  | _, _, .nil => .nil
  | _, _, .cons h t => .cons (f _ _ h) (paired_imp f t)
theorem list_end {α : Type} (l : List α) : l = [] ∨ ∃ i x, l = i ++ [x] := by
  rcases List.eq_nil_or_concat l with h | ⟨i, x, h⟩
  · exact .inl h
  · exact .inr ⟨i, x, by simpa using h⟩

/-! ### is_table, are_tables, seating_of -/
section
variable {K : PySem.W.Frag} {σ : L2.St} {H H' : Hp} {ta tb te tl : TE} {t : TT}
theorem el_lcT {a : Addr} {xs : List V} {tl : TE} {j : Nat} {vs : List Nat} (f : Nat → Bool) (v : Nat → V) (h : Ev tl σ H (.ref a)) (hx : SqT K H a xs) (hz : xs.length ≤ 40000) (hw : ∀ x, wipe ((wipe σ vs).set j (some x)) vs = wipe σ vs)
    (ht : ∀ (i : Nat) (x : V) H1, Ex H H1 → xs[i]? = some x → EvT t ((wipe σ vs).set j (some x)) H1 (f i)) (he : ∀ (i : Nat) (x : V) H1, Ex H H1 → xs[i]? = some x → f i = true → Ev te ((wipe σ vs).set j (some x)) H1 (v i)) : EvL (tLc (iTup K tl) (gName j) t te vs) σ H (given xs.length f v) := fun H0 e Q q => h H0 e _ fun H1 e1 =>
  ⟨a, rfl, ⟨xs, ex_t (e.trans e1) hx⟩, fun Dl hD => lc_tup (xs := xs) (Cw H1 f v Dl) ⟨hD, Ex.new hD, upd_same⟩ (fun i H' _ p => ex_t ((e.trans e1).trans p.2.1) hx)
    (fun i x H' hi p => ⟨hw x, cw_turn p (by have := (List.getElem?_eq_some_iff.mp hi).1; omega) (ht i x H1 (e.trans e1) hi) (fun hf => he i x H1 (e.trans e1) hi hf)⟩) (fun H' p => q Dl H' (fresh_back e1 p.1) (e1.trans p.2.1) p.2.2)⟩
/-- a call whose argument is a new list -/
theorem ev_call1L {sp : Sp} {dvs xs : List V} {v : V} {E : XK} (h : EvL te σ H xs) (hs : ∀ p H1, Ex H H1 → H1 p = some (.lst xs) → SpV sp ([.ref p] ++ dvs) H1 v) : Ev (tCall sp dvs E (tCons te tNil)) σ H v := fun H1 e Q q =>
  h H1 e _ fun p H2 _ e2 h2 => hs p H2 (e.trans e2) h2 H2 (Ex.refl _) Q (fun H3 e3 => q H3 (e2.trans e3)) E
theorem el_call1L {sp : Sp} {dvs xs ys : List V} {E : XK} (h : EvL te σ H xs) (hs : ∀ p H1, Ex H H1 → H1 p = some (.lst xs) → SpL sp ([.ref p] ++ dvs) H1 ys) : EvL (tCall sp dvs E (tCons te tNil)) σ H ys := fun H1 e Q q =>
  h H1 e _ fun p H2 _ e2 h2 => hs p H2 (e.trans e2) h2 H2 (Ex.refl _) Q (fun l H3 hl e3 h3 => q l H3 (fresh_back e2 hl) (e2.trans e3) h3) E
end

/-! ### _law_mixed, _law_entries -/
theorem q_parLL {σ : L2.St} {H : Hp} {ta tb : TE} {tz : TS} {D : Ends} {i j : Nat} {xs ys : List V} (ha : EvL ta σ H xs) (hb : EvL tb σ H ys) (k : ∀ p q H1, H p = none → H q = none → p ≠ q → Ex H H1 → H1 p = some (.lst xs) → H1 q = some (.lst ys) → tz D ((σ.set i (some (.ref p))).set j (some (.ref q))) H1) :
    tSeq (tPar i j (tCons ta (tCons tb tNil))) tz D σ H := ha H (Ex.refl H) _ fun p H1 hp e1 h1 => hb H1 e1 _ fun q H2 hq e2 h2 => ⟨_, _, rfl, k p q H2 hp (fresh_back e1 hq) (ne_of_none h1 hq) (e1.trans e2) (e2 p _ h1) h2⟩
theorem eqv_nil (xs : List V) (ns : List Int) : PyData.eqv (.list (ns.map PyData.int)) (.list []) = ns.isEmpty := by
  cases ns with
  | nil => decide
  | cons n l => rfl
theorem nv_erase (L : List Nat) (k : Nat) : (nv L).eraseIdx k = nv (L.eraseIdx k) := by
  rw [nv_eq, nv_eq, List.eraseIdx_eq_take_drop_succ, List.eraseIdx_eq_take_drop_succ, List.map_append, List.map_take, List.map_drop]
theorem shaped_nil : SeqAt.shaped (.list []) = true := by decide
theorem s_appE {K : PySem.W.Frag} {σ : L2.St} {H : Hp} {ta te : TE} {D : Ends} {l : Addr} {xs : List V} (hl : H l = some (.lst xs)) (ha : Ev ta σ H (.ref l)) (k : ∀ H1, Ex H H1 → te σ H1 fun v H2 => rAppend (.ref l) [v] H2 fun _ H3 => D.nx σ H3) : tDrop (tBM K "list" rAppend ta (tCons te tNil)) D σ H :=
  ha H (Ex.refl H) _ fun H1 e1 => ⟨Or.inl ⟨rfl, xs, sq_of (e1 l _ hl)⟩, k H1 e1⟩
theorem t_popAt {K : PySem.W.Frag} {σ : L2.St} {H : Hp} {ta te : TE} {Q : VK} {l : Addr} {xs : List V} (hl : H l = some (.lst xs)) (ha : Ev ta σ H (.ref l)) (k : ∀ H1, Ex H H1 → te σ H1 fun v H2 => rPopAt (.ref l) [v] H2 Q) : tBM K "list" rPopAt ta (tCons te tNil) σ H Q :=
  ha H (Ex.refl H) _ fun H1 e1 => ⟨Or.inl ⟨rfl, xs, sq_of (e1 l _ hl)⟩, k H1 e1⟩
theorem seq_at {j n : Nat} (h : j < n) : seqIndex? (j : Int) n = some j := by
  unfold seqIndex?
  have h1 : ¬ ((j : Int) < 0) := by omega
  have h2 : (0 : Int) ≤ j := by omega
  have h3 : (j : Int) < n := by omega
  simp [h1, h2, h3]
theorem erase_perm {L : List Nat} {j : Nat} (hj : j < L.length) : (L[j] :: L.eraseIdx j).Perm L := by
  have e2 : L.take j ++ L[j] :: L.drop (j + 1) = L := by rw [← List.drop_eq_getElem_cons hj, List.take_append_drop]
  rw [List.eraseIdx_eq_take_drop_succ]
  exact List.perm_middle.symm.trans (List.Perm.of_eq e2)

/-! ### _law_entries -/
def EvPA (p : Addr) (k : Nat) (ta : TA) (σ : L2.St) (H0 : Hp) (C : List V → Prop) : Prop := ∀ n H1, Ex H0 H1 → Po p n H1 → n + k ≤ 1000000000 →
  ∀ Q : List V → Hp → Prop, (∀ vs H2, C vs → Po p (n + k) H2 → Ex (Hm p H1) H2 → Q vs H2) → ta σ H1 Q
section
variable {K : PySem.W.Frag} {σ : L2.St} {H0 H : Hp} {p : Addr} {k k1 k2 : Nat} {te ta tb : TE} {R Ra Rb : V → Hp → Prop} {tr : TA} {A : V → Prop} {B C : List V → Prop}
theorem epa_nil : EvPA p 0 tNil σ H0 (fun vs => vs = []) := fun n H1 e hp _ Q q => q [] H1 rfl hp (hm_of (Ex.refl _))
theorem epa_cons (h0 : H0 p = none) (h : EvP p k1 te σ H0 (fun v _ => A v)) (hr : EvPA p k2 tr σ H0 B) : EvPA p (k1 + k2) (tCons te tr) σ H0 (fun vs => ∃ v r, vs = v :: r ∧ A v ∧ B r) := fun n H1 e hp hn Q q =>
  h n H1 e hp (by omega) _ fun v H2 hv p2 e2 => hr (n + k1) H2 (hm_next h0 e e2) p2 (by omega) _ fun vs H3 hvs p3 e3 => q (v :: vs) H3 ⟨v, vs, rfl, hv, hvs⟩ (by rw [← Nat.add_assoc]; exact p3) (hm_trans e2 e3)
theorem epa_pure {v : V} (h0 : H0 p = none) (h : Ev te σ H0 v) (hr : EvPA p k2 tr σ H0 B) : EvPA p (0 + k2) (tCons te tr) σ H0 (fun vs => ∃ x r, vs = x :: r ∧ x = v ∧ B r) := epa_cons (A := fun x => x = v) h0 (ep_ev h) hr
theorem ep_lst (h : EvPA p k tr σ H0 C) (hs : ∀ vs, C vs → vs.length ≤ 100000) : EvP p k (tLst tr) σ H0 (fun x H => ∃ l vs, l ≠ p ∧ x = .ref l ∧ H l = some (.lst vs) ∧ C vs) := fun n H1 e hp hn Q q =>
  h n H1 e hp hn _ fun vs H2 c p2 e2 => ⟨sz_of (hs vs c), fun l hl => q _ _ ⟨l, vs, p2.ne hl, rfl, upd_same, c⟩ (p2.ex (Ex.new hl)) (hm_trans e2 (hm_of (Ex.new hl)))⟩
theorem stb_lst : Stb p (fun x H => ∃ l vs, l ≠ p ∧ x = .ref l ∧ H l = some (.lst vs) ∧ C vs) := fun v H H' ⟨l, vs, ne, e, h, c⟩ s => ⟨l, vs, ne, e, hm_at s ne h, c⟩
theorem ep_ix (h0 : H0 p = none) {ix : V → Prop} (ha : EvP p k1 (tLst tr) σ H0 (fun x H => ∃ l vs, l ≠ p ∧ x = .ref l ∧ H l = some (.lst vs) ∧ C vs)) (hb : EvP p k2 tb σ H0 (fun v _ => ix v)) (hat : ∀ vs v, C vs → ix v → ∃ i z, v = .int i ∧ atI vs i = some z ∧ A z) :
    EvP p (k1 + k2) (tOp (rIxL K) (tLst tr) tb) σ H0 (fun v _ => A v) := ep_op h0 ha hb stb_lst stb_c fun x y H hx hy => by
  obtain ⟨l, vs, ne, rfl, hl, c⟩ := hx
  obtain ⟨i, z, rfl, hz, az⟩ := hat vs y c hy
  exact ⟨z, az, rv_ixL (sq_of hl) hz⟩
theorem ep_isZ (h0 : H0 p = none) (h : EvP p k te σ H0 (fun v _ => ∃ r, v = .int r ∧ 0 ≤ r)) : EvP p (k + 0) (tCB rIntB (tCons (tOp rEq te (tC (.int 0))) tNil)) σ H0 (fun v _ => v = .int 0 ∨ v = .int 1) := fun n H1 e hp hn Q q =>
  (ep_op (k1 := k) (k2 := 0) (R := fun v _ => ∃ b, v = .bl b) h0 h (ep_ev (v := .int 0) ev_c) stb_c stb_c fun x y H ⟨r, e1, _⟩ e2 => ⟨.bl (decide (x = y)), ⟨_, rfl⟩, by
    subst e1
    subst e2
    exact rv_eq rfl⟩) n H1 e hp hn _ fun v H2 ⟨b, hb⟩ p2 e2 => ⟨b, by rw [hb], q _ H2 (by cases b <;> simp) p2 e2⟩
theorem pq_parL {n i j : Nat} {D : Ends} {tz : TS} {ys : List V} (h : EvP p k ta σ H0 R) (e : Ex H0 H) (hp : Po p n H) (hn : n + k ≤ 1000000000) (hb : ∀ H1, EvL tb σ H1 ys) (q : ∀ v l H2 H3, R v H2 → H2 l = none → Ex H2 H3 → H3 l = some (.lst ys) → Po p (n + k) H3 → Ex (Hm p H) H2 → tz D ((σ.set i (some v)).set j (some (.ref l))) H3) :
    tSeq (tPar i j (tCons ta (tCons tb tNil))) tz D σ H := h n H e hp hn _ fun v H2 hv p2 e2 => hb H2 H2 (Ex.refl _) _ fun l H3 hl e3 h3 => ⟨_, _, rfl, q v l H2 H3 hv hl e3 h3 (p2.ex e3) e2⟩
end
def sp_law_entries : Sp := fun vs H Q _ => ∃ (p : Addr) (n m : Nat), vs = [.ref p, .int (m : Int)] ∧ Po p n H ∧ n + 3 * m + 1 < 1000000000 ∧ m ≤ 20 ∧
  ∀ l f H', H l = none → H' l = some (.lst (nv f)) → f.length = m → (∀ (i x : Nat), f[i]? = some x → x ≤ i) → Po p (n + 3 * m + 1) H' → Ex (Hm p H) H' → Q (.ref l) H'
section
variable {P : Program} {w : World} {K : PySem.W.Frag} {mg : Str → Option Value} {base : Heap}
theorem ok_law_entries (T : Tx K mg) : FnOk P w K mg base CX0 2 T.f_law_entries T.d_law_entries ["pouch", "many"] sp_law_entries := by
  refine T.F_law_entries.ok sc_law_entries (fun vs H Q E h => ?_) (fun cdv A outer s H vs Q E hr h => ?_)
  · obtain ⟨p, n, m, rfl, _⟩ := h
    rfl
  · obtain ⟨p, n, m, rfl, hpo, hn, hm, k⟩ := h
    refine ⟨_, (pss_cons (ps_par (i := 2) (j := 3) (by rfl) sc_law_entries.nd rfl rfl (by decide) rfl rfl (pa_cons (pe_call (ok_law_dip T) (hr.mono (by decide)) (by rfl) T.g_law_dip T.F_law_dip.kp T.b_law_dip .nil pass0 (pa_cons (pv 0) (pa_cons pe_int pa_nil))) (pa_cons (pe_lst pa_nil) pa_nil)) (by rfl))
      (pss_cons (ps_for PassesOwn.never rfl (pi_range1 (by rfl) T.m_range (pa_cons (pv 1) pa_nil)) (pg_name (i := 4) sc_law_entries.nd rfl (Or.inl rfl)) (pss_cons (ps_set (i := 5) sc_law_entries.nd rfl (Or.inl rfl) (pe_lst (pa_cons (pv 4) (pa_cons pe_int (pa_cons (pe_call (ok_law_dip T) (hr.mono (by decide)) (by rfl) T.g_law_dip T.F_law_dip.kp T.b_law_dip .nil pass0 (pa_cons (pv 0) (pa_cons (pe_op op_add (pv 4) pe_int) pa_nil))) (pa_cons (pe_callB (call_maxR rfl) (by rfl) T.m_max (by decide +kernel) (pa_cons pe_int (pa_cons (pe_op op_sub (pv 4) pe_int) pa_nil))) pa_nil))))))
      (pss_cons (ps_set (i := 6) sc_law_entries.nd rfl (Or.inl rfl) (pe_ix ix_list (pe_lst (pa_cons (pe_call (ok_law_dip T) (hr.mono (by decide)) (by rfl) T.g_law_dip T.F_law_dip.kp T.b_law_dip .nil pass0 (pa_cons (pv 0) (pa_cons pe_int pa_nil))) (pa_cons pe_int (pa_cons pe_int (pa_cons pe_int (pa_cons pe_int (pa_cons (pe_ix ix_list (pe_lst (pa_cons pe_int (pa_cons pe_int pa_nil))) (pe_callTy call_intB (by rfl) T.m_int (by decide +kernel) (pa_cons (pe_cmpR op_eq (pe_call (ok_law_dip T) (hr.mono (by decide)) (by rfl) T.g_law_dip T.F_law_dip.kp T.b_law_dip .nil pass0 (pa_cons (pv 0) (pa_cons pe_int pa_nil))) pe_int (nomark _)) pa_nil)) (fun _ _ => rfl)) pa_nil))))))) (pv 2) (fun _ _ => rfl)))
      (pss_one (ps_expr (pe_bm PySem.F.plainAttrs_list PySem.F.slot_list_append PySem.F.type_list_append mt_append (pv 3) (pa_cons (pe_ix ix_list (pv 5) (pv 6) (fun _ _ => rfl)) pa_nil)))))))
      (pss_one (ps_ret (pv 3))))), ?_⟩
    have hp0 : Hm p H p = none := hm_p
    refine pq_parL (p := p) (k := 1) (H0 := Hm p H) (ys := []) (ep_dipI (w := 6) hm_p (ev_var rfl) ev_c (by decide) (by decide)) hm_sub hpo (by omega) (fun H1 => el_lst ea_nil (Nat.le_of_ble_eq_true rfl)) ?_
    rintro v b H1 H2 ⟨st, rfl, s0, s1⟩ hb1 e2 hb2 p2 e1
    have hbp : b ≠ p := fun z => by
      subst z
      obtain ⟨x, y, z, q, _⟩ := p2
      rw [hb2] at q
      cases q
    have hb : H b = none := by
      have := fresh_back e1 hb1
      unfold Hm at this
      rw [if_neg hbp] at this
      exact this
    have e02 : Ex (Hm p H) H2 := e1.trans e2
    refine q_forR1 (n := (m : Int)) (by walk_at "ea") (by omega) (fun i σ' H' => ∃ (F : List Nat) (y4 y5 y6 : Option V), σ' = [some (.ref p), some (.int m), some (.int st), some (.ref b), y4, y5, y6] ∧ H' b = some (.lst (nv F)) ∧ F.length = i ∧ (∀ (j x : Nat), F[j]? = some x → x ≤ j) ∧ Po p (n + 3 * i + 1) H' ∧ Ex (Hm p H) H')
      (fun H3 e3 => ⟨[], none, none, none, rfl, e3 b _ hb2, rfl, by simp, p2.ex e3, hm_trans e02 (hm_of e3)⟩) ?_ ?_
    · rintro i σ' H' hi ⟨F, y4, y5, y6, rfl, hF, hFl, hFx, p3, e3⟩
      have him : i < m := by omega
      refine pq_asg (p := p) (k := 0 + (0 + (1 + (0 + 0)))) (H0 := Hm p H') (R := fun x H => ∃ l vs, l ≠ p ∧ x = .ref l ∧ H l = some (.lst vs) ∧ ∃ c d : Nat, vs = [.int (i : Nat), .int 0, .int c, .int d] ∧ c ≤ i ∧ d ≤ i) (ep_is (ep_lst (epa_pure (v := .int (i : Nat)) hm_p (ev_var rfl) (epa_pure hm_p ev_c (epa_cons (A := fun v => ∃ c : Nat, v = .int c ∧ c ≤ i) hm_p (ep_is (ep_dipI (w := (i : Int) + 1) hm_p (ev_var rfl) (by walk_at "ev") (by omega) (by omega)) ?_) (epa_pure (v := .int ((i - 1 : Nat) : Int)) hm_p ?_ epa_nil)))) ?_) ?_) hm_sub p3 (by omega) ?_
      · rintro v _ ⟨r, rfl, r0, r1⟩
        exact ⟨r.toNat, by congr 1; omega, by omega⟩
      · refine ev_is (ev_max2 (i := 0) (j := (i : Int) - 1) ev_c (by walk_at "ev")) ?_
        congr 1
        split <;> omega
      · rintro vs ⟨_, _, rfl, _, _, _, rfl, _, _, _, rfl, _, _, _, rfl, _, rfl⟩
        exact Nat.le_of_ble_eq_true rfl
      · rintro v H4 ⟨l, vs, ne, rfl, hl, _, _, rfl, rfl, _, _, rfl, rfl, _, _, rfl, ⟨c, rfl, hc⟩, _, _, rfl, rfl, rfl⟩
        exact ⟨l, _, ne, rfl, hl, c, i - 1, rfl, hc, by omega⟩
      rintro v H4 ⟨l, vs, lp, rfl, hl, c, d, rfl, hc, hd⟩ p4 e4
      refine pq_asg (p := p) (k := (1 + (0 + (0 + (0 + (0 + ((0 + (0 + 0)) + (1 + 0) + 0)))))) + 0) (H0 := Hm p H4) (R := fun v _ => ∃ r : Nat, v = .int r ∧ r < 4) (ep_ix (ix := fun v => v = .int st) (C := fun vs => ∃ a b : Nat, vs = [.int a, .int 2, .int 0, .int 1, .int 3, .int b] ∧ a < 4 ∧ b < 4) hm_p (ep_is (ep_lst (epa_cons (A := fun v => ∃ c : Nat, v = .int c ∧ c < 4) hm_p (ep_is (ep_dipI (w := 4) hm_p (ev_var rfl) ev_c (by decide) (by decide)) ?_) (epa_pure hm_p ev_c (epa_pure hm_p ev_c (epa_pure hm_p ev_c (epa_pure hm_p ev_c (epa_cons (A := fun v => ∃ c : Nat, v = .int c ∧ c < 4) hm_p (ep_ix (ix := fun v => v = .int 0 ∨ v = .int 1) hm_p (ep_lst (epa_pure hm_p ev_c (epa_pure hm_p ev_c epa_nil)) ?_) (ep_isZ hm_p (ep_is (ep_dipI (w := 3) hm_p (ev_var rfl) ev_c (by decide) (by decide)) ?_)) ?_) epa_nil)))))) ?_) ?_) (ep_ev (ev_var rfl)) ?_) hm_sub p4 (by omega) ?_
      · rintro v _ ⟨r, rfl, r0, r1⟩
        exact ⟨r.toNat, by congr 1; omega, by omega⟩
      · rintro vs ⟨_, _, rfl, _, _, _, rfl, _, rfl⟩
        exact Nat.le_of_ble_eq_true rfl
      · rintro v _ ⟨r, rfl, r0, r1⟩
        exact ⟨r, rfl, r0⟩
      · rintro vs v ⟨_, _, rfl, rfl, _, _, rfl, rfl, rfl⟩ (rfl | rfl)
        · exact ⟨0, .int 2, rfl, rfl, 2, rfl, by decide⟩
        · exact ⟨1, .int 0, rfl, rfl, 0, rfl, by decide⟩
      · rintro vs ⟨_, _, rfl, _, _, _, rfl, _, _, _, rfl, _, _, _, rfl, _, _, _, rfl, _, _, _, rfl, _, rfl⟩
        exact Nat.le_of_ble_eq_true rfl
      · rintro v H5 ⟨l, vs, ne, rfl, hl, _, _, rfl, ⟨a, rfl, ha⟩, _, _, rfl, rfl, _, _, rfl, rfl, _, _, rfl, rfl, _, _, rfl, rfl, _, _, rfl, ⟨b, rfl, hb⟩, rfl⟩
        exact ⟨l, _, ne, rfl, hl, a, b, rfl, ha, hb⟩
      · rintro vs v ⟨a, b, rfl, ha, hb⟩ rfl
        have : st = 0 ∨ st = 1 ∨ st = 2 ∨ st = 3 ∨ st = 4 ∨ st = 5 := by omega
        rcases this with rfl | rfl | rfl | rfl | rfl | rfl
        · exact ⟨0, .int a, rfl, rfl, a, rfl, ha⟩
        · exact ⟨1, .int 2, rfl, rfl, 2, rfl, by decide⟩
        · exact ⟨2, .int 0, rfl, rfl, 0, rfl, by decide⟩
        · exact ⟨3, .int 1, rfl, rfl, 1, rfl, by decide⟩
        · exact ⟨4, .int 3, rfl, rfl, 3, rfl, by decide⟩
        · exact ⟨5, .int b, rfl, rfl, b, rfl, hb⟩
      rintro v H5 ⟨r, rfl, hr4⟩ p5 e5
      have hl5 := hm_at e5 lp hl
      have hF5 := hm_at e5 hbp (hm_at e4 hbp hF)
      obtain ⟨x, hx, hxi⟩ : ∃ x : Nat, atI [V.int (i : Nat), .int 0, .int c, .int d] (r : Int) = some (.int x) ∧ x ≤ i := by
        have : r = 0 ∨ r = 1 ∨ r = 2 ∨ r = 3 := by omega
        rcases this with rfl | rfl | rfl | rfl
        · exact ⟨i, rfl, Nat.le_refl _⟩
        · exact ⟨0, rfl, Nat.zero_le _⟩
        · exact ⟨c, rfl, hc⟩
        · exact ⟨d, rfl, hd⟩
      refine s_app hF5 (ev_var rfl) (ev_op (ev_var rfl) (ev_var rfl) (rv_ixL (K := K) (sq_of hl5) hx)) (by rw [nv_len]; omega) fun H6 e6 => ?_
      have e36 := hm_trans (hm_trans (hm_trans e3 e4) e5) (hm_of e6)
      refine ⟨F ++ [x], _, _, _, rfl, by rw [upd_same, nv_app]; rfl, by simp [hFl], fun j y hy => ?_, ?_, Ex.mut e36 (by unfold Hm; rw [if_neg hbp]; exact hb)⟩
      · by_cases hj : j < F.length
        · rw [List.getElem?_append_left hj] at hy
          exact hFx j y hy
        · rw [List.getElem?_append_right (by omega)] at hy
          have : j - F.length = 0 := by
            have := (List.getElem?_eq_some_iff.mp hy).1
            simp at this
            omega
          rw [this] at hy
          have : x = y := Option.some.inj hy
          omega
      · obtain ⟨x, y, z, q1, q2⟩ := (p5.ex e6).mono (m := n + 3 * (i + 1) + 1) (by omega)
        exact ⟨x, y, z, by rw [upd_ne (Ne.symm hbp)]; exact q1, q2⟩
    · rintro σ' H' ⟨F, y4, y5, y6, rfl, hF, hFl, hFx, p3, e3⟩
      have em : ((m : Int)).toNat = m := Int.toNat_natCast m
      rw [em] at hFl p3
      exact s_ret (ev_var (i := 3) rfl) fun H4 e4 => k b F H4 hb (e4 b _ hF) hFl hFx (p3.ex e4) (hm_trans e3 (hm_of e4))
end

theorem mid_at {α : Type} (g : α → α) (l : List α) {j : Nat} {x : α} (h : l[j]? = some x) : ((l.take j).map g ++ l.drop j)[j]? = some x := by
  have hj := (List.getElem?_eq_some_iff.mp h).1
  rw [List.getElem?_append_right (by simp; omega)]
  simp [List.length_take, Nat.min_eq_left (Nat.le_of_lt hj), h]
theorem mid_set {α : Type} (g : α → α) (l : List α) {j : Nat} {x : α} (h : l[j]? = some x) : ((l.take j).map g ++ l.drop j).set j (g x) = (l.take (j + 1)).map g ++ l.drop (j + 1) := by
  obtain ⟨hj, e⟩ := List.getElem?_eq_some_iff.mp h
  rw [List.set_append_right _ _ (by simp; omega), take_next h, List.map_append, List.drop_eq_getElem_cons hj, e]
  simp [List.length_take, Nat.min_eq_left (Nat.le_of_lt hj)]
theorem set_same {α : Type} {l : List α} {j : Nat} {x : α} (h : l[j]? = some x) : l.set j x = l := by
  refine List.ext_getElem? fun i => ?_
  by_cases e : i = j
  · subst e
    rw [List.getElem?_set_self (List.getElem?_eq_some_iff.mp h).1, h]
  · rw [List.getElem?_set_ne (Ne.symm e)]
theorem mid_same {α : Type} (g : α → α) (l : List α) {j : Nat} {x : α} (h : l[j]? = some x) (e : g x = x) : (l.take j).map g ++ l.drop j = (l.take (j + 1)).map g ++ l.drop (j + 1) := by
  have := mid_set g l h
  rw [e] at this
  rw [← this]
  exact (set_same (mid_at g l h)).symm
def sp_law_rings : Sp := fun vs H Q _ => ∃ (a : Addr) (e : List Nat), vs = [.ref a] ∧ H a = some (.lst (nv e)) ∧ e.length ≤ 20 ∧ (∀ (i x : Nat), e[i]? = some x → x ≤ i) ∧
  ∀ l bs H', LL H l H' bs (ringsTo e e.length) → Ex H H' → Q (.ref l) H'
section
variable {P : Program} {w : World} {K : PySem.W.Frag} {mg : Str → Option Value} {base : Heap}
theorem ok_law_rings (T : Tx K mg) : FnOk P w K mg base CX0 1 T.f_law_rings T.d_law_rings ["entries"] sp_law_rings := by
  refine T.F_law_rings.ok sc_law_rings (fun vs H Q E h => ?_) (fun cdv A outer s H vs Q E hr h => ?_)
  · obtain ⟨a, e, rfl, _⟩ := h
    rfl
  · obtain ⟨a, f, rfl, ha, hn, hx, k⟩ := h
    refine ⟨_, (pss_cons (ps_set (i := 1) sc_law_rings.nd rfl (Or.inl rfl) (pe_lst pa_nil))
      (pss_cons (ps_for PassesOwn.never rfl (pi_enum (by rfl) T.m_enumerate (pa_cons (pv 0) pa_nil)) (pg_tup rfl (pgs_cons (pg_name (i := 2) sc_law_rings.nd rfl (Or.inl rfl)) (pgs_cons (pg_name (i := 3) sc_law_rings.nd rfl (Or.inl rfl)) pgs_nil))) (pss_cons (ps_if (pt_cmpR op_eq (pv 2) (pv 3) (nomark _)) (pss_one (ps_expr (pe_bm PySem.F.plainAttrs_list PySem.F.slot_list_append PySem.F.type_list_append mt_append (pv 1) (pa_cons (pe_lst (pa_cons (pv 2) pa_nil)) pa_nil)))) pss_nil)
      (pss_one (ps_for PassesOwn.never rfl (pi_list (pv 1)) (pg_name (i := 4) sc_law_rings.nd rfl (Or.inl rfl)) (pss_one (ps_if (PW.pt (pw_and (pt_cmpR op_in_seq (pv 3) (pv 4) (by rfl)) (pw_and1 (pt_cmpR op_ne (pv 3) (pv 2) (nomark _))))) (pss_one (ps_expr (pe_bm PySem.F.plainAttrs_list PySem.F.slot_list_insert PySem.F.type_list_insert mt_insert (pv 4) (pa_cons (pe_op op_add (pe_bm PySem.F.plainAttrs_list PySem.F.slot_list_index PySem.F.type_list_index mt_index (pv 4) (pa_cons (pv 3) pa_nil)) pe_int) (pa_cons (pv 2) pa_nil))))) pss_nil))))))
      (pss_one (ps_ret (pv 1))))), ?_⟩
    refine q_asgL (xs := []) (el_lst ea_nil (Nat.le_of_ble_eq_true rfl)) fun p H1 hp e1 h1 => ?_
    refine q_forEn (xs := nv f) (K := K) (by walk_at "ea") (sq_of (e1 a _ ha)) (fun m σ' H' => ∃ (bs : List Addr) (y2 y3 y4 : Option V), σ' = [some (.ref a), some (.ref p), y2, y3, y4] ∧ Ex H H' ∧ LL H p H' bs (ringsTo f m))
      (fun H2 e2 => ⟨[], none, none, none, rfl, e1.trans e2, LL.nil (e2 p _ h1) hp⟩) (fun m σ' H' _ ⟨_, _, _, _, _, e, _⟩ => sq_of (e a _ ha)) ?_ ?_
    · rintro m v σ' H' H2 hv ⟨bs, y2, y3, y4, rfl, e, L⟩ e2
      have hml : m < f.length := by
        have := (List.getElem?_eq_some_iff.mp hv).1
        rw [nv_len] at this
        exact this
      obtain ⟨x, hfx⟩ : ∃ x, f[m]? = some x := ⟨f[m], List.getElem?_eq_getElem hml⟩
      have ev : v = .int (x : Int) := by
        have := nv_get hfx
        rw [hv] at this
        exact Option.some.inj this
      subst ev
      have gx : f.getD m 0 = x := by
        rw [List.getD_eq_getElem?_getD, hfx]
        rfl
      have hxm := hx m x hfx
      have R := ringsTo_ok hx m (by omega)
      have L2 := L.ex e2
      have hz : (ringsTo f m).length ≤ m := by
        have : ∀ l : List (List Nat), (∀ r ∈ l, 0 < r.length) → l.length ≤ l.flatten.length := fun l => by
          induction l with
          | nil => intro _; simp
          | cons r l ih =>
            intro hl
            have := ih fun x hx => hl x (by simp [hx])
            have := hl r (by simp)
            rw [List.flatten_cons, List.length_append, List.length_cons]
            omega
        have h2 := this _ R.ne
        rw [R.all.length_eq, List.length_range] at h2
        exact h2
      have short : ∀ r ∈ ringsTo f m, r.length ≤ m := fun r hr => by
        have := List.Sublist.length_le (List.sublist_flatten_of_mem hr)
        rw [R.all.length_eq, List.length_range] at this
        exact this
      -- what is left: the inner loop
      have inner : ∀ (rs1 : List (List Nat)) (bs1 : List Addr) (H3 : Hp) (D : Ends), rs1 = (if m = x then ringsTo f m ++ [[m]] else ringsTo f m) → Ex H H3 → LL H p H3 bs1 rs1 → (∀ r ∈ rs1, r.length ≤ 20) → rs1.length ≤ 21 →
          (∀ σ4 H4, (∃ (bs : List Addr) (y2 y3 y4 : Option V), σ4 = [some (.ref a), some (.ref p), y2, y3, y4] ∧ Ex H H4 ∧ LL H p H4 bs (ringsTo f (m + 1))) → D.nx σ4 H4) →
          tFor (iList K (tVar 1)) (gName 4) (tIfS (tAnd (tTest (tOp (rIn K false) (tVar 3) (tVar 4))) (tTest (tOp rNe (tVar 3) (tVar 2)))) (tDrop (tBM K "list" (fun x vs H Q => ∃ (l : Addr) (xs : List V) (i : Int) (y : V), x = .ref l ∧ vs = [.int i, y] ∧ H l = some (.lst xs) ∧ xs.length < sizeLine ∧ 0 ≤ i ∧ i < 2 ^ 63 ∧
    Q .non (upd H l (.lst (xs.take i.toNat ++ [y] ++ xs.drop i.toNat)))) (tVar 4) (tCons (tOp (rI0 fun i j => .int (i + j)) (tBM K "list" (rIndex K) (tVar 4) (tCons (tVar 3) tNil)) (tC (.int 1))) (tCons (tVar 2) tNil)))) tNext) D [some (.ref a), some (.ref p), some (.int (m : Int)), some (.int (x : Int)), y4] H3 := fun rs1 bs1 H3 D hr1 e3 L3 sh1 sl1 hD => by
        have hbl : bs1.length = rs1.length := L3.len
        refine s_forLn (xs := bs1.map V.ref) (K := K) (ev_var rfl) (sq_of L3.self) (fun j σ' H' => ∃ (y4 : Option V), σ' = [some (.ref a), some (.ref p), some (.int (m : Int)), some (.int (x : Int)), y4] ∧ Ex H H' ∧ LL H p H' bs1 ((rs1.take j).map (insr x m) ++ rs1.drop j))
          (fun H4 e4 => ⟨y4, rfl, e3.trans e4, by simpa using L3.ex e4⟩) (fun j σ' H' _ ⟨_, _, _, L⟩ => sq_of L.self) ?_ ?_
        · rintro j v σ' H4 hv ⟨y4, rfl, e4, L4⟩
          rw [List.getElem?_map] at hv
          obtain ⟨b, hb, rfl⟩ := Option.map_eq_some_iff.mp hv
          have hj : j < rs1.length := by
            have := (List.getElem?_eq_some_iff.mp hb).1
            omega
          obtain ⟨r, hr⟩ : ∃ r, rs1[j]? = some r := ⟨rs1[j], List.getElem?_eq_getElem hj⟩
          have hrb := L4.at_ j b r hb (mid_at _ _ hr)
          have hb0 : H b = none := L4.fr b (List.mem_of_getElem? hb)
          have shr := sh1 r (List.mem_of_getElem? hr)
          refine s_if (b := decide (x ∈ r) && !decide (V.int (x : Int) = V.int (m : Int))) (et_and (et_test (ev_is (ev_op (ev_var rfl) (ev_var rfl) (rv_isL (K := K) (sq_of hrb) rfl (nv_flat r))) (by rw [nv_in]))) fun _ => et_test (ev_op (ev_var rfl) (ev_var rfl) (rv_ne rfl))) (fun hc H5 e5 => ?_) (fun hc H5 e5 => ?_)
          · rw [Bool.and_eq_true, decide_eq_true_iff] at hc
            have hne : x ≠ m := fun z => by
              rw [z] at hc
              simp at hc
            have hr5 := e5 b _ hrb
            refine s_dropBM hr5 (ev_var rfl) fun H6 e6 => ?_
            have hr6 := e6 b _ hr5
            refine (ea_cons (ev_op (ev_index (K := K) (ta := tVar 4) (te := tVar 3) (σ := [some (.ref a), some (.ref p), some (.int (m : Int)), some (.int (x : Int)), some (.ref b)]) hr6 (ev_var rfl) (ev_var rfl) hc.1) (ev_c (v := .int 1)) (rv_I0 (g := fun i j => .int (i + j)))) (ea_cons (ev_var (i := 2) rfl) ea_nil)) H6 (Ex.refl _) _ fun H7 e7 => ?_
            refine ⟨b, nv r, _, _, rfl, rfl, e7 b _ hr6, sz_lt (by rw [nv_len]; omega), by omega, by
              have := List.idxOf_lt_length_of_mem hc.1
              omega, ?_⟩
            have L7 := ((L4.ex e5).ex e6).ex e7
            refine ⟨_, rfl, Ex.mut (e4.trans (e5.trans (e6.trans e7))) hb0, ?_⟩
            have g := L7.put (r := insr x m r) hb
            rw [mid_set _ _ hr] at g
            have ei : nv (insr x m r) = (nv r).take ((r.idxOf x : Int) + 1).toNat ++ [.int (m : Int)] ++ (nv r).drop ((r.idxOf x : Int) + 1).toNat := by
              unfold insr
              rw [if_pos ⟨hc.1, hne⟩, nv_app, nv_app]
              have : ((r.idxOf x : Int) + 1).toNat = r.idxOf x + 1 := by omega
              rw [this]
              rw [nv_eq, nv_eq, nv_eq, nv_eq, List.map_take, List.map_drop]
              rfl
            rw [← ei]
            exact g
          · have same : insr x m r = r := by
              unfold insr
              refine if_neg fun q => ?_
              rw [decide_eq_true q.1] at hc
              have : V.int (x : Int) ≠ V.int (m : Int) := fun z => q.2 (by
                have := V.int.inj z
                omega)
              rw [decide_eq_false this] at hc
              exact Bool.noConfusion hc
            refine ⟨_, rfl, e4.trans e5, ?_⟩
            rw [← mid_same _ _ hr same]
            exact L4.ex e5
        · rintro σ' H4 ⟨y4, rfl, e4, L4⟩
          refine hD _ _ ⟨bs1, _, _, _, rfl, e4, ?_⟩
          rw [List.length_map, hbl, List.take_of_length_le (Nat.le_refl _), List.drop_of_length_le (Nat.le_refl _), List.append_nil] at L4
          show LL H p H4 bs1 (rstep (ringsTo f m) m (f.getD m 0))
          rw [gx]
          unfold rstep
          rw [← hr1]
          exact L4
      refine q_when (b := decide (V.int (m : Int) = V.int (x : Int))) (et_test (ev_op (ev_var rfl) (ev_var rfl) (rv_eq rfl))) (fun hc H3 e3 => ?_) (fun hc H3 e3 => ?_)
      · have hmx : m = x := by
          have := V.int.inj (of_decide_eq_true hc)
          omega
        refine s_appL (e3 p _ L2.self) (ev_var rfl) (by walk_at "el") (by rw [List.length_map, L2.len]; omega) fun q H4 hq e4 h4 => ?_
        refine inner (ringsTo f m ++ [[m]]) (bs ++ [q]) _ _ (by rw [if_pos hmx]) (Ex.mut ((e.trans e2).trans (e3.trans e4)) hp) ((L2.ex e3).push ((e.trans e2).trans e3) e4 hq h4) (fun r hr => ?_) (by simp; omega) (fun _ _ q => q)
        rcases List.mem_append.mp hr with z | z
        · have := short r z
          omega
        · rw [List.mem_singleton.mp z]; simp
      · have hmx : ¬ m = x := fun z => by
          rw [z] at hc
          simp at hc
        exact inner (ringsTo f m) bs _ _ (by rw [if_neg hmx]) ((e.trans e2).trans e3) (L2.ex e3) (fun r hr => by have := short r hr; omega) (by omega) (fun _ _ q => q)
    · rintro σ' H' ⟨bs, y2, y3, y4, rfl, e, L⟩
      rw [nv_len] at L
      exact s_ret (ev_var rfl) fun H2 e2 => k p bs H2 (L.ex e2) (e.trans e2)
end

/-! ### _law_seat -/
def rLenK : List V → Hp → VK → Prop := fun xs H Q => ∃ a kvs, xs = [V.ref a] ∧ H a = some (.dK kvs) ∧ Q (.int kvs.length) H
theorem call_lenK {X : Cx} : CallR X (.builtin "len") rLenK := call_lenD
section
variable {K : PySem.W.Frag} {σ : L2.St} {H : Hp} {ta tb te : TE} {D : Ends} {tz : TS}
theorem ev_lenK {a : Addr} {kvs : List (Key × V)} (h : Ev ta σ H (.ref a)) (ha : H a = some (.dK kvs)) : Ev (tCB rLenK (tCons ta tNil)) σ H (.int (kvs.length : Int)) := fun H1 e Q q => h H1 e _ fun H2 e2 => ⟨a, kvs, rfl, e2 a _ (e a _ ha), q H2 e2⟩
theorem ev_dgetI {a : Addr} {kvs : List (Key × V)} {x : Int} {v : V} (h : Ev ta σ H (.ref a)) (hx : Ev tb σ H (.int x)) (ha : H a = some (.dK kvs)) (hv : valV kvs (.inl x) = some v) : Ev (tDGet ta tb) σ H v := fun H1 e Q q =>
  h H1 e _ fun H2 e2 => hx H2 (e.trans e2) _ fun H3 e3 => ⟨a, v, rfl, by
    have := DGet.k (k := .inl x) (e3 a _ (e2 a _ (e a _ ha)))
    rw [hv] at this
    exact this, q H3 (e2.trans e3)⟩
theorem s_dputI {a : Addr} {kvs : List (Key × V)} {x : Int} {v : V} (h : Ev ta σ H (.ref a)) (hx : Ev tb σ H (.int x)) (hv : Ev te σ H v) (ha : H a = some (.dK kvs)) (hl : kvs.length < 100000) (k : ∀ H1, Ex H H1 → D.nx σ (upd H1 a (.dK (putK kvs (.inl x) v)))) : sDPut ta tb te D σ H :=
  hv H (Ex.refl _) _ fun H1 e1 => h H1 e1 _ fun H2 e2 => hx H2 (e1.trans e2) _ fun H3 e3 => ⟨a, _, rfl, DPut.k (k := .inl x) (e3 a _ (e2 a _ (e1 a _ ha))) (sz_lt hl), k H3 (e1.trans (e2.trans e3))⟩
theorem q_dnewK {i : Nat} (k : ∀ p H1, H p = none → Ex H H1 → H1 p = some (.dK []) → tz D (σ.set i (some (.ref p))) H1) : tSeq (tAsg tDNewK (gName i)) tz D σ H := fun p hp => k p _ hp (Ex.new hp) upd_same
end
/-- a list at b -/
def Lb (H : Hp) (v : V) (r : List Nat) : Prop := ∃ b, v = .ref b ∧ H b = some (.lst (nv r))
theorem Lb.ex {H H' : Hp} {v : V} {r : List Nat} (e : Ex H H') (h : Lb H v r) : Lb H' v r := by
  obtain ⟨b, rfl, h⟩ := h
  exact ⟨b, rfl, e b _ h⟩
def prev (r : List Nat) (j : Nat) : Nat := r.getD ((j + (r.length - 1)) % r.length) 0
theorem prev_at {r : List Nat} {k : Nat} (h : k < r.length) : atI (nv r) ((k : Int) - 1) = some (.int (prev r k : Nat)) ∧ prev r k ∈ r ∧ r[(k + (r.length - 1)) % r.length]? = some (prev r k) := by
  have hm := Nat.mod_lt (k + (r.length - 1)) (show r.length > 0 by omega)
  have e : r[(k + (r.length - 1)) % r.length]? = some (prev r k) := by
    unfold prev
    rw [List.getD_eq_getElem?_getD, List.getElem?_eq_getElem hm]
    rfl
  refine ⟨?_, List.mem_of_getElem? e, e⟩
  cases k with
  | zero =>
    rcases list_end r with z | ⟨i, x, z⟩
    · rw [z] at h; simp at h
    · have : (0 + (r.length - 1)) % r.length = i.length := by
        rw [Nat.zero_add, Nat.mod_eq_of_lt (by omega), z]
        simp
      rw [this, z] at e
      simp at e
      rw [z, ← e, nv_app]
      exact atI_last _ _
  | succ k =>
    have : (k + 1 + (r.length - 1)) % r.length = k := by
      rw [show k + 1 + (r.length - 1) = k + r.length by omega, Nat.add_mod_right, Nat.mod_eq_of_lt (by omega)]
    rw [this] at e
    have e2 : (((k + 1 : Nat) : Int) - 1) = (k : Int) := by omega
    rw [e2]
    exact atI_nat (nv_get e)
theorem prev_inj {r : List Nat} (nd : r.Nodup) {j k : Nat} (hj : j < r.length) (hk : k < r.length) (h : prev r j = prev r k) : j = k := by
  have h1 := (prev_at hj).2.2
  have h2 := (prev_at hk).2.2
  rw [← h] at h2
  have := nd_ix nd h1 h2
  by_cases a : j = 0
  · by_cases b : k = 0
    · omega
    · rw [show k + (r.length - 1) = (k - 1) + r.length by omega, Nat.add_mod_right, Nat.mod_eq_of_lt (show k - 1 < r.length by omega), a, Nat.zero_add, Nat.mod_eq_of_lt (show r.length - 1 < r.length by omega)] at this
      omega
  · rw [show j + (r.length - 1) = (j - 1) + r.length by omega, Nat.add_mod_right, Nat.mod_eq_of_lt (show j - 1 < r.length by omega)] at this
    by_cases b : k = 0
    · rw [b, Nat.zero_add, Nat.mod_eq_of_lt (show r.length - 1 < r.length by omega)] at this
      omega
    · rw [show k + (r.length - 1) = (k - 1) + r.length by omega, Nat.add_mod_right, Nat.mod_eq_of_lt (show k - 1 < r.length by omega)] at this
      omega
theorem prev_all {r : List Nat} {x : Nat} (h : x ∈ r) : ∃ j, j < r.length ∧ prev r j = x := by
  obtain ⟨i, hi⟩ := List.mem_iff_getElem?.mp h
  have hl := (List.getElem?_eq_some_iff.mp hi).1
  have hm := Nat.mod_lt (i + 1) (show r.length > 0 by omega)
  refine ⟨(i + 1) % r.length, hm, ?_⟩
  have e := (prev_at hm).2.2
  have : ((i + 1) % r.length + (r.length - 1)) % r.length = i := by
    rw [Nat.mod_add_mod, show i + 1 + (r.length - 1) = i + r.length by omega, Nat.add_mod_right, Nat.mod_eq_of_lt hl]
  rw [this, hi] at e
  exact (Option.some.inj e).symm
def dones (r : List Nat) (k : Nat) : List Nat := (List.range k).map (prev r)
theorem dones_next (r : List Nat) (k : Nat) : dones r (k + 1) = dones r k ++ [prev r k] := by
  unfold dones
  rw [List.range_succ, List.map_append]
  rfl
theorem dones_mem {r : List Nat} {k x : Nat} : x ∈ dones r k ↔ ∃ j, j < k ∧ prev r j = x := by
  unfold dones
  rw [List.mem_map]
  constructor
  · rintro ⟨j, hj, e⟩
    exact ⟨j, List.mem_range.mp hj, e⟩
  · rintro ⟨j, hj, e⟩
    exact ⟨j, List.mem_range.mpr hj, e⟩
theorem dones_all {r : List Nat} {x : Nat} : x ∈ dones r r.length ↔ x ∈ r := by
  rw [dones_mem]
  constructor
  · rintro ⟨j, hj, rfl⟩
    exact (prev_at hj).2.1
  · exact prev_all
theorem succ_prev {rs : List (List Nat)} (nd : rs.flatten.Nodup) {r : List Nat} (hr : r ∈ rs) {k : Nat} (hk : k < r.length) : r[k]? = some (succ rs (prev r k)) := by
  rw [succ_at nd hr (prev_at hk).2.2, Nat.mod_add_mod, show k + (r.length - 1) + 1 = k + r.length by omega, Nat.add_mod_right, Nat.mod_eq_of_lt hk, List.getD_eq_getElem?_getD, List.getElem?_eq_getElem hk]
  rfl
/-- the dict: of the guests in l their left neighbours -/
def Near (rs : List (List Nat)) (kvs : List (Key × V)) (l : List Nat) : Prop := kvs.length = l.length ∧ ∀ x : Nat, valV kvs (.inl (x : Int)) = if x ∈ l then some (.int (succ rs x : Nat)) else none
theorem Near.put {rs : List (List Nat)} {kvs : List (Key × V)} {l : List Nat} (N : Near rs kvs l) {x : Nat} (h : x ∉ l) : Near rs (putK kvs (.inl (x : Int)) (.int (succ rs x : Nat))) (l ++ [x]) := by
  have hv := N.2 x
  rw [if_neg h] at hv
  refine ⟨by rw [putK_new _ hv, List.length_append, List.length_append, N.1]; rfl, fun y => ?_⟩
  rw [valV_put]
  by_cases e : y = x
  · subst e
    rw [if_pos rfl, if_pos (by simp)]
  · rw [if_neg (fun z => e (by
      have := Sum.inl.inj z
      omega)), N.2 y]
    simp [e]
def sp_law_seat : Sp := fun vs H Q _ => ∃ (a : Addr) (ws : List V) (rs : List (List Nat)) (n : Nat), vs = [.ref a] ∧ H a = some (.lst ws) ∧ Paired (Lb H) ws rs ∧ rs.flatten.Perm (List.range n) ∧ n ≤ 20 ∧ RetL (nv (seat rs n)) H Q
theorem sl_seat {H : Hp} {a : Addr} {ws : List V} {rs : List (List Nat)} {n : Nat} (ha : H a = some (.lst ws)) (ht : Paired (Lb H) ws rs) (hp : rs.flatten.Perm (List.range n)) (hn : n ≤ 20) : SpL sp_law_seat ([.ref a] ++ []) H (nv (seat rs n)) := fun H1 e Q q E =>
  ⟨a, ws, rs, n, rfl, e a _ ha, paired_imp (fun _ _ x => Lb.ex e x) ht, hp, hn, q⟩
section
variable {P : Program} {w : World} {K : PySem.W.Frag} {mg : Str → Option Value} {base : Heap}
theorem ok_law_seat (T : Tx K mg) : FnOk P w K mg base CX0 1 T.f_law_seat T.d_law_seat ["rings"] sp_law_seat := by
  refine T.F_law_seat.ok sc_law_seat (fun vs H Q E h => ?_) (fun cdv A outer s H vs Q E hr h => ?_)
  · obtain ⟨a, ws, rs, n, rfl, _⟩ := h
    rfl
  · obtain ⟨a, ws, rs, n, rfl, ha, ht, hp, hn, k⟩ := h
    refine ⟨_, (pss_cons (ps_set (i := 1) sc_law_seat.nd rfl (Or.inr rfl) pe_dnewK)
      (pss_cons (ps_for PassesOwn.never rfl (pi_list (pv 0)) (pg_name (i := 2) sc_law_seat.nd rfl (Or.inl rfl)) (pss_one (ps_for PassesOwn.never rfl (pi_range1 (by rfl) T.m_range (pa_cons (pe_callB call_lenR (by rfl) T.m_len (by decide +kernel) (pa_cons (pv 2) pa_nil)) pa_nil)) (pg_name (i := 3) sc_law_seat.nd rfl (Or.inl rfl)) (pss_one (ps_dput (hu_of hr) (pv 1) (pe_ix ix_list (pv 2) (pe_op op_sub (pv 3) pe_int) (fun _ _ => rfl)) (pe_ix ix_list (pv 2) (pv 3) (fun _ _ => rfl)) rfl)))))
      (pss_one (ps_ret (pe_lc (own := [("one", 4)]) (g := (gName 4)) (tt := tYes) rfl sc_law_seat.nd (pi_range1 (by rfl) T.m_range (pa_cons (pe_callB (id := "len") (r := rLenK) call_lenK (by rfl) T.m_len (by decide +kernel) (pa_cons (pv 1) pa_nil)) pa_nil)) (blkOk_by (own := [("one", 4)]) (N := n_law_seat) (sc := defScope s_law_seat) (by decide +kernel)) (fun _ _ _ _ _ => (pg_name (i := 4) sc_law_seat.nd rfl (Or.inl rfl))) (fun _ _ _ _ _ => pts_nil) (fun _ _ _ _ _ => (pe_dget (hu_of hr) (pv 1) (pv 4) (fun _ _ => rfl)))))))), ?_⟩
    have nd : rs.flatten.Nodup := hp.nodup_iff.mpr List.nodup_range
    have hfl : rs.flatten.length = n := by rw [hp.length_eq, List.length_range]
    have hlen : ws.length = rs.length := Paired.length ht
    refine q_dnewK fun p H1 hp1 e1 h1 => ?_
    refine q_forLn (xs := ws) (K := K) (ev_var rfl) (sq_of (e1 a _ ha)) (fun i σ' H' => ∃ (kvs : List (Key × V)) (y2 y3 : Option V), σ' = [some (.ref a), some (.ref p), y2, y3, none] ∧ Ex H H' ∧ H' p = some (.dK kvs) ∧ Near rs kvs (rs.take i).flatten)
      (fun H2 e2 => ⟨[], none, none, rfl, e1.trans e2, e2 p _ h1, rfl, fun x => by simp [valV_nil]⟩) (fun i σ' H' _ ⟨_, _, _, _, e, _⟩ => sq_of (e a _ ha)) ?_ ?_
    · rintro i v σ' H' hv ⟨kvs, y2, y3, rfl, e, hk, N⟩
      obtain ⟨r, hr, b, rfl, hb⟩ := paired_get ht hv
      have hrm := List.mem_of_getElem? hr
      have ndr : r.Nodup := List.Pairwise.sublist (List.sublist_flatten_of_mem hrm) nd
      have hfn := flat_next hr
      have hsub : (rs.take (i + 1)).flatten.Nodup := by
        refine List.Pairwise.sublist ?_ nd
        conv => rhs; rw [← List.take_append_drop (i + 1) rs, List.flatten_append]
        exact List.sublist_append_left _ _
      rw [hfn, List.nodup_append] at hsub
      have hle : (rs.take i).flatten.length + r.length ≤ n := by
        rw [← List.length_append, ← hfn, ← hfl]
        conv => rhs; rw [← List.take_append_drop (i + 1) rs, List.flatten_append, List.length_append]
        omega
      refine s_forR1 (n := (r.length : Int)) (ea_cons (by
        have := ev_len (K := K) (ta := tVar 2) (σ := [some (V.ref a), some (.ref p), some (.ref b), y3, none]) (ev_var (i := 2) rfl) (sq_of (e b _ hb))
        rw [nv_len] at this
        exact this) ea_nil) (by omega) (fun j σ' H' => ∃ (kvs : List (Key × V)) (y3 : Option V), σ' = [some (.ref a), some (.ref p), some (.ref b), y3, none] ∧ Ex H H' ∧ H' p = some (.dK kvs) ∧ Near rs kvs ((rs.take i).flatten ++ dones r j))
        (fun H2 e2 => ⟨kvs, y3, rfl, e.trans e2, e2 p _ hk, by simpa [dones] using N⟩) ?_ ?_
      · rintro j σ' H2 hj ⟨kvs, y3, rfl, e2, hk2, N2⟩
        have hjl : j < r.length := by omega
        obtain ⟨p1, p2, p3⟩ := prev_at hjl
        have hb2 := e2 b _ hb
        have new : prev r j ∉ (rs.take i).flatten ++ dones r j := fun hm => by
          rcases List.mem_append.mp hm with z | z
          · exact hsub.2.2 _ z _ p2 rfl
          · obtain ⟨m, hm1, hm2⟩ := dones_mem.mp z
            have := prev_inj ndr (by omega) hjl hm2
            omega
        have kl := N2.1
        have kl2 : ((rs.take i).flatten ++ dones r j).length ≤ 20 := by
          rw [List.length_append]
          unfold dones
          rw [List.length_map, List.length_range]
          omega
        refine s_dputI (ev_var rfl) (ev_op (ev_var rfl) (ev_op (ev_var rfl) ev_c rv_I0) (rv_ixL (K := K) (sq_of hb2) p1)) (ev_op (ev_var rfl) (ev_var rfl) (rv_ixL (K := K) (sq_of hb2) (atI_nat (nv_get (succ_prev nd hrm hjl))))) hk2 (by omega) fun H3 e3 => ?_
        refine ⟨_, _, rfl, Ex.mut (e2.trans e3) hp1, upd_same, ?_⟩
        rw [dones_next, ← List.append_assoc]
        exact N2.put new
      · rintro σ' H2 ⟨kvs, y3, rfl, e2, hk2, N2⟩
        rw [Int.toNat_natCast] at N2
        refine ⟨kvs, _, _, rfl, e2, hk2, ?_, fun x => ?_⟩
        · rw [N2.1, hfn, List.length_append, List.length_append]
          unfold dones
          rw [List.length_map, List.length_range]
        · rw [N2.2 x, hfn]
          congr 1
          rw [List.mem_append, List.mem_append, dones_all]
    · rintro σ' H' ⟨kvs, y2, y3, rfl, e, hk, N⟩
      rw [hlen, List.take_of_length_le (Nat.le_refl _)] at N
      have kl : kvs.length = n := by rw [N.1, hfl]
      refine s_retL (xs := nv (seat rs n)) ?_ fun q H2 hq e2 h2 => k q H2 (fresh_back e hq) (e.trans e2) h2
      have el : nv (seat rs n) = given ((n : Int)).toNat (fun _ => true) (fun i => V.int (succ rs i : Nat)) := by
        rw [given_at, Int.toNat_natCast, nv_eq]
        unfold seat
        rw [List.map_map]
        rfl
      rw [el]
      refine el_lcR1 (n := (n : Int)) _ _ (ea_cons (by
        have := ev_lenK (ta := tVar 1) (σ := [some (V.ref a), some (.ref p), y2, y3, none]) (ev_var (i := 1) rfl) hk
        rw [kl] at this
        exact this) ea_nil) (by omega) (fun _ => rfl) (fun _ _ _ _ => et_yes) fun i H2 e2 hi _ => ?_
      have hx := N.2 i
      rw [if_pos (hp.mem_iff.mpr (List.mem_range.mpr (by omega)))] at hx
      exact ev_dgetI (ev_var rfl) (ev_var rfl) (e2 p _ hk) hx
end

/-! ### _law_cut -/
def EvLB (te : TE) (σ : L2.St) (H : Hp) (rs : List (List Nat)) : Prop := ∀ H1, Ex H H1 → ∀ Q : VK, (∀ p vs H2, H1 p = none → Ex H1 H2 → H2 p = some (.lst vs) → Paired (Lb H2) vs rs → Q (.ref p) H2) → te σ H1 Q
theorem s_retLB {te : TE} {σ : L2.St} {H : Hp} {D : Ends} {rs : List (List Nat)} (h : EvLB te σ H rs) (k : ∀ p vs H1, H p = none → Ex H H1 → H1 p = some (.lst vs) → Paired (Lb H1) vs rs → D.rt (.ref p) H1) : tRet te D σ H := h H (Ex.refl H) _ k
def Lc (Dl : Addr) (H : Hp) (v : V) (r : List Nat) : Prop := ∃ b, v = .ref b ∧ b ≠ Dl ∧ H b = some (.lst (nv r))
theorem Lc.ex {Dl : Addr} {H H' : Hp} {v : V} {r : List Nat} (e : Ex H H') (h : Lc Dl H v r) : Lc Dl H' v r := by
  obtain ⟨b, rfl, n, h⟩ := h
  exact ⟨b, rfl, n, e b _ h⟩
theorem Lc.upd {Dl : Addr} {H : Hp} {o : HO} {v : V} {r : List Nat} (h : Lc Dl H v r) : Lc Dl (upd H Dl o) v r := by
  obtain ⟨b, rfl, n, h⟩ := h
  exact ⟨b, rfl, n, by rw [upd_ne n]; exact h⟩
theorem Lc.lb {Dl : Addr} {H : Hp} {v : V} {r : List Nat} (h : Lc Dl H v r) : Lb H v r := by
  obtain ⟨b, rfl, n, h⟩ := h
  exact ⟨b, rfl, h⟩

/-! ### _law_right: rules -/
theorem LL.lb {H0 H : Hp} {p : Addr} {bs : List Addr} {rs : List (List Nat)} (L : LL H0 p H bs rs) : Paired (Lb H) (bs.map V.ref) rs := by
  have : ∀ (bs : List Addr) (rs : List (List Nat)), bs.length = rs.length → (∀ (i : Nat) (b : Addr) (r : List Nat), bs[i]? = some b → rs[i]? = some r → H b = some (.lst (nv r))) → Paired (Lb H) (bs.map V.ref) rs := fun bs => by
    induction bs with
    | nil =>
      intro rs hl _
      cases rs with
      | nil => exact .nil
      | cons r l => simp at hl
    | cons b bs ih =>
      intro rs hl ha
      cases rs with
      | nil => simp at hl
      | cons r l => exact .cons ⟨b, rfl, ha 0 b r rfl rfl⟩ (ih l (by simpa using hl) fun i c s h1 h2 => ha (i + 1) c s (by simpa using h1) (by simpa using h2))
  exact this bs rs L.len L.at_
theorem LL.weak {H0 H1 H : Hp} {p : Addr} {bs : List Addr} {rs : List (List Nat)} (L : LL H1 p H bs rs) (e : Ex H0 H1) : LL H0 p H bs rs := ⟨L.self, L.nd, L.np, fresh_back e L.fp, fun b hb => fresh_back e (L.fr b hb), L.len, L.at_⟩
def di (r : List Nat) : PyData := .list ((iz r).map PyData.int)
def dt (r : List Nat) : PyData := .tuple ((iz r).map PyData.int)
theorem canLay_ints : ∀ ms : List Int, PyData.canLayAll0 (ms.map PyData.int) = true
  | [] => rfl
  | m :: r => by simp [PyData.canLayAll0, PyData.canLay0, canLay_ints r]
theorem depth_ints : ∀ ms : List Int, PyData.depthAll (ms.map PyData.int) = 0
  | [] => rfl
  | m :: r => by simp [PyData.depthAll, PyData.depth, depth_ints r]
theorem canLay_dts : ∀ rs : List (List Nat), PyData.canLayAll0 (rs.map dt) = true
  | [] => rfl
  | m :: r => by simp [PyData.canLayAll0, PyData.canLay0, dt, canLay_ints, canLay_dts r]
theorem depth_dts : ∀ rs : List (List Nat), PyData.depthAll (rs.map dt) ≤ 1
  | [] => by simp [PyData.depthAll]
  | m :: r => by
    have := depth_dts r
    simp [PyData.depthAll, PyData.depth, dt, depth_ints]
    omega
theorem shaped_two (r s : List Nat) : SeqAt.shaped (.list [di r, di s]) = true := by
  simp [SeqAt.shaped, PyData.canLay0, PyData.canLayAll0, di, canLay_ints, PyData.depth, PyData.depthAll, depth_ints]
theorem shaped_kept (r : List Nat) (rs : List (List Nat)) : SeqAt.shaped (.list [di r, .list (rs.map dt)]) = true := by
  have := depth_dts rs
  simp [SeqAt.shaped, PyData.canLay0, PyData.canLayAll0, di, canLay_ints, canLay_dts, PyData.depth, PyData.depthAll, depth_ints]
  omega
theorem shaped_di (r : List Nat) : SeqAt.shaped (di r) = true := shaped_ints _
section
variable {K : PySem.W.Frag} {σ : L2.St} {H H' : Hp} {ta tb te : TE} {D : Ends} {tz : TS}
theorem dpa_nv (r : List Nat) : DpAll K H (nv r) ((iz r).map PyData.int) := dpa_ints _
theorem dpa_TL : ∀ {ws : List V} {rs : List (List Nat)}, TL H ws (rs.map nv) → DpAll K H ws (rs.map dt)
  | [], [], _ => .nil
  | _ :: _, r :: _, .cons ⟨b, e, h⟩ t => by
    subst e
    exact .cons (.tup (st_of h) (dpa_nv r)) (dpa_TL t)
theorem dp_L {a : Addr} {r : List Nat} (h : H a = some (.lst (nv r))) : Dp K H (.ref a) (di r) := .lst (sq_of h) (dpa_nv r)
theorem ed_L {r : List Nat} (h : EvL te σ H (nv r)) : EvD K te σ H (di r) := ed_ofL h (dpa_nv r)
theorem ed_two {r s : List Nat} (h : EvD K ta σ H (di r)) (h2 : EvD K tb σ H (di s)) : EvD K (tLst (tCons ta (tCons tb tNil))) σ H (.list [di r, di s]) := ed_lst (eda_cons h (eda_cons h2 eda_nil)) (Nat.le_of_ble_eq_true rfl)
theorem el_callK {sp : Sp} {gV : List V → List V → List V} {E : XK} {t tk : TA} {vs zs xs : List V} (h : EvA t σ H vs) (hk : EvA tk σ H zs) (hs : SpL sp (gV vs zs) H xs) : EvL (tCallK sp gV E t tk) σ H xs := fun H1 e Q q =>
  h H1 e _ fun H2 e2 => hk H2 (e.trans e2) _ fun H3 e3 => hs H3 ((e.trans e2).trans e3) Q (fun l H4 hl e4 h4 => q l H4 (fresh_back (e2.trans e3) hl) ((e2.trans e3).trans e4) h4) E
theorem el_catV {a b : Addr} {xs ys : List V} (h : Ev ta σ H (.ref a)) (h2 : Ev tb σ H (.ref b)) (ha : H a = some (.lst xs)) (hb : H b = some (.lst ys)) (hl : xs.length + ys.length ≤ 100000) : EvL (tOp rCat ta tb) σ H (xs ++ ys) := fun H1 e Q q =>
  h H1 e _ fun H2 e2 => h2 H2 (e.trans e2) _ fun H3 e3 => ⟨a, b, xs, ys, rfl, rfl, e3 a _ (e2 a _ (e a _ ha)), e3 b _ (e2 b _ (e b _ hb)), sz_of hl, fun l hl => q l _ (fresh_back (e2.trans e3) hl) ((e2.trans e3).trans (Ex.new hl)) upd_same⟩
theorem q_parLLT {i j : Nat} {xs : List V} {rs : List (List V)} (h : EvL ta σ H xs) (h2 : EvLT tb σ H rs) (k : ∀ p q ws H1, H p = none → H q = none → Ex H H1 → H1 p = some (.lst xs) → H1 q = some (.lst ws) → TL H1 ws rs → tz D ((σ.set i (some (.ref p))).set j (some (.ref q))) H1) :
    tSeq (tPar i j (tCons ta (tCons tb tNil))) tz D σ H := h H (Ex.refl H) _ fun p H1 hp e1 h1 => h2 H1 e1 _ fun q ws H2 hq e2 h3 ht => ⟨_, _, rfl, k p q ws H2 hp (fresh_back e1 hq) (e1.trans e2) (e2 p _ h1) h3 ht⟩
theorem q_parDL {i j : Nat} {d : PyData} {ys : List V} (h : EvD K ta σ H d) (h2 : EvL tb σ H ys) (k : ∀ v q H1, H q = none → Ex H H1 → Dp K H1 v d → H1 q = some (.lst ys) → tz D ((σ.set i (some v)).set j (some (.ref q))) H1) :
    tSeq (tPar i j (tCons ta (tCons tb tNil))) tz D σ H := h H (Ex.refl H) _ fun v H1 e1 h1 => h2 H1 e1 _ fun q H2 hq e2 h3 => ⟨_, _, rfl, k v q H2 (fresh_back e1 hq) (e1.trans e2) (Dp.ex e2 d v h1) h3⟩
theorem q_rings {i n m : Nat} {p : Addr} {E E' : XK} {t : TA} (h : EvA t σ H [.ref p, .int (m : Int)]) (hp : Po p n H) (hn : n + 3 * m + 1 < 1000000000) (hm : m ≤ 20)
    (k : ∀ l bs rs H1, RI m rs → LL (Hm p H) l H1 bs rs → l ≠ p → (∀ b ∈ bs, b ≠ p) → Po p (n + 3 * m + 1) H1 → Ex (Hm p H) H1 → tz D (σ.set i (some (.ref l))) H1) : tSeq (tAsg (tCall sp_law_rings [] E (tCons (tCall sp_law_entries [] E' t) tNil)) (gName i)) tz D σ H :=
  h H (Ex.refl H) _ fun H1 e1 => ⟨p, n, m, rfl, hp.ex e1, hn, hm, fun l f H2 hl h2 hlen hx p2 e2 => ⟨l, f, rfl, h2, by omega, hx, fun q bs H3 L e3 => by
    have R := ringsTo_ok hx f.length (Nat.le_refl _)
    have e12 := hm_trans (hm_of e1) e2
    refine k q bs _ H3 (hlen ▸ R) (L.weak e12) (p2.ne L.fp) (fun b hb => p2.ne (L.fr b hb)) (p2.ex e3) (hm_trans e12 (hm_of e3))⟩⟩
/-- a call whose argument is a new list of new lists -/
theorem el_call1LB {sp : Sp} {dvs ys : List V} {rs : List (List Nat)} {E : XK} (h : EvLB te σ H rs) (hs : ∀ p ws H1, Ex H H1 → H1 p = some (.lst ws) → Paired (Lb H1) ws rs → SpL sp ([.ref p] ++ dvs) H1 ys) : EvL (tCall sp dvs E (tCons te tNil)) σ H ys := fun H1 e Q q =>
  h H1 e _ fun p ws H2 _ e2 h2 hw => hs p ws H2 (e.trans e2) h2 hw H2 (Ex.refl _) Q (fun l H3 hl e3 h3 => q l H3 (fresh_back e2 hl) (e2.trans e3) h3) E
/-- [[..] for r in rs], rs an old list of lists -/
theorem elb_map {a : Addr} {ws : List V} {rs : List (List Nat)} {j : Nat} {vs : List Nat} (F : List Nat → List Nat) (h : Ev ta σ H (.ref a)) (ha : H a = some (.lst ws)) (hr : Paired (Lb H) ws rs) (hz : ws.length ≤ 40000) (hw : ∀ x, wipe ((wipe σ vs).set j (some x)) vs = wipe σ vs)
    (he : ∀ (b : Addr) (r : List Nat) H1, Ex H H1 → r ∈ rs → H1 b = some (.lst (nv r)) → EvL te ((wipe σ vs).set j (some (.ref b))) H1 (nv (F r))) : EvLB (tLc (iList K ta) (gName j) tYes te vs) σ H (rs.map F) := fun H0 e Q q => h H0 e _ fun H1 e1 => ⟨a, rfl, ⟨ws, sq_of (e1 a _ (e a _ ha))⟩, fun Dl hD =>
  lc_list (xs := ws) (fun i H' => Ex H1 H' ∧ ∃ us, H' Dl = some (.lst us) ∧ Paired (Lc Dl H') us ((rs.map F).take i)) ⟨Ex.new hD, [], upd_same, .nil⟩ (fun i H' _ p => sq_of (p.1 a _ (e1 a _ (e a _ ha)))) (fun i x H' hi p => by
    obtain ⟨p1, us, p2, p3⟩ := p
    obtain ⟨r, hr1, b, rfl, hb⟩ := paired_get hr hi
    have hl := Paired.length hr
    have hil := (List.getElem?_eq_some_iff.mp hi).1
    have ul : us.length = i := by
      have := Paired.length p3
      rw [List.length_take, List.length_map] at this
      omega
    show wipe ((wipe σ vs).set j (some (.ref b))) vs = wipe σ vs ∧ te ((wipe σ vs).set j (some (.ref b))) H' fun y H4 => ∃ acc, H4 Dl = some (.lst acc) ∧ acc.length < sizeLine ∧ _
    refine ⟨hw _, he b r H1 (e.trans e1) (List.mem_of_getElem? hr1) (e1 b _ (e b _ hb)) H' p1 _ fun l H4 hl4 e4 h4 => ?_⟩
    have lD : l ≠ Dl := fun z => by
      subst z
      rw [hl4] at p2
      cases p2
    refine ⟨us, e4 Dl _ p2, sz_lt (by omega), Ex.mut (p1.trans e4) hD, _, upd_same, ?_⟩
    have gz : (rs.map F)[i]? = some (F r) := by rw [List.getElem?_map, hr1]; rfl
    rw [List.take_add_one, gz]
    exact Paired.snoc (paired_imp (fun _ _ z => (z.ex e4).upd) p3) ⟨l, rfl, lD, by rw [upd_ne lD]; exact h4⟩) (fun H' p => by
      obtain ⟨p1, us, p2, p3⟩ := p
      rw [List.take_of_length_le (by rw [List.length_map]; have := Paired.length hr; omega)] at p3
      exact q Dl us H' (fresh_back e1 hD) (e1.trans p1) p2 (paired_imp (fun _ _ z => z.lb) p3))⟩
end


local macro_rules | `(tactic| walk_at "call") => `(tactic| (with_reducible exact sv_whole))

theorem ev_lenH {K : PySem.W.Frag} {σ : L2.St} {H : Hp} {i : Nat} {a : Addr} {h : List Nat} (e : σ[i]? = some (some (.ref a))) (ha : H a = some (.lst (nv h))) : Ev (tCB (rLenS K) (tCons (tVar i) tNil)) σ H (.int (h.length : Int)) := by
  have := ev_len (K := K) (ev_var e) (sq_of ha)
  rw [nv_len] at this
  exact this

/-! ### _law_is_row -/
theorem eqv_nilD (ds : List PyData) : PyData.eqv (.list ds) (.list []) = ds.isEmpty := by
  cases ds with
  | nil => decide
  | cons n l => rfl
theorem none_odd : ∀ ds : List PyData, (ds.filter fun d => !isI d).isEmpty = ds.all isI
  | [] => rfl
  | d :: r => by
    have ih := none_odd r
    cases hi : isI d
    · simp [List.filter_cons, hi]
    · rw [List.filter_cons, hi, List.all_cons, hi]
      exact ih
theorem ita_given {K : PySem.W.Frag} {H : Hp} {xs : List V} {ds : List PyData} (hd : ItAll K H xs ds) (f : PyData → Bool) : ItAll K H (given xs.length (fun i => f (ds.getD i .none)) (fun i => xs.getD i .non)) (ds.filter f) := by
  have hl : xs.length = ds.length := hd.len
  have e : ds.filter f = ((List.range ds.length).filter fun i => f (ds.getD i .none)).map fun i => ds.getD i .none := by
    conv => lhs; rw [range_get ds .none, List.filter_map]
    rfl
  unfold given ItAll
  rw [e, hl]
  refine paired_map _ _ _ fun i hi => ?_
  have hi := List.mem_range.mp (List.mem_filter.mp hi).1
  have hix : i < xs.length := by omega
  obtain ⟨d, h1, h2⟩ := ita_get hd (List.getElem?_eq_getElem hix)
  rw [List.getD_eq_getElem?_getD, List.getElem?_eq_getElem hix, List.getD_eq_getElem?_getD, h1]
  exact h2
section
variable {P : Program} {w : World} {K : PySem.W.Frag} {mg : Str → Option Value} {base : Heap}
theorem ok_law_is_row (T : Tx K mg) : FnOk P w K mg base CX0 1 T.f_law_is_row T.d_law_is_row ["item"] (sp_any K) := by
  refine T.F_law_is_row.ok sc_law_is_row (fun vs H Q E h => ?_) (fun cdv A outer s H vs Q E hr h => ?_)
  · obtain ⟨v, o, rfl, _⟩ := h
    rfl
  · obtain ⟨v, o, rfl, hv, k⟩ := h
    refine ⟨_, (pss_cons (ps_if (PW.pt (pw_or (pt_not (pt_val (pe_callB call_isi (by rfl) T.m_isinstance (by decide +kernel) (pa_cons (pv 0) (pa_cons (pe_bltn (v := .ty "list") (by rfl) T.m_list (by decide +kernel) rfl) pa_nil))))) (pw_or1 (pt_not (pt_chain op_le op_le pe_int (pe_callB call_lenR (by rfl) T.m_len (by decide +kernel) (pa_cons (pv 0) pa_nil)) pe_int))))) (pss_one (ps_ret pe_bl)) pss_nil)
      (pss_cons (ps_if (pt_cmpR (op_neD hr.units) (pe_lc (own := [("one", 1)]) (g := (gName 1)) rfl sc_law_is_row.nd (pi_list (pv 0)) (blkOk_by (own := [("one", 1)]) (N := n_law_is_row) (sc := defScope s_law_is_row) (by decide +kernel)) (fun _ _ _ _ _ => (pg_name (i := 1) sc_law_is_row.nd rfl (Or.inl rfl))) (fun _ _ _ _ _ => (pts_one (PW.pt (pw_or (pt_val (pe_callB (id := "isinstance") (r := rIsi K) call_isi (by rfl) T.m_isinstance (by decide +kernel) (pa_cons (pv 1) (pa_cons (pe_bltn (v := .ty "bool") (by rfl) T.m_bool (by decide +kernel) rfl) pa_nil)))) (pw_or1 (pt_not (pt_val (pe_callB (id := "isinstance") (r := rIsi K) call_isi (by rfl) T.m_isinstance (by decide +kernel) (pa_cons (pv 1) (pa_cons (pe_bltn (v := .ty "int") (by rfl) T.m_int (by decide +kernel) rfl) pa_nil)))))))))) (fun _ _ _ _ _ => (pv 1))) (pe_lst pa_nil) (nomark _)) (pss_one (ps_ret pe_bl)) pss_nil)
      (pss_one (ps_ret (pe_cmpR (op_eqD hr.units) (pe_callB cr_sorted (by rfl) T.m_sorted (by decide +kernel) (pa_cons (pv 0) pa_nil)) (pe_listRg rfl (by rfl) T.m_list (prg_1 (by rfl) T.m_range (pe_callB call_lenR (by rfl) T.m_len (by decide +kernel) (pa_cons (pv 0) pa_nil)))) (nomark _)))))), ?_⟩
    cases o with
    | none =>
      refine q_when (b := true) (et_is (et_or (b := false) (et_not (et_B (ev_isList (ev_var rfl) hv))) fun z => Bool.noConfusion z) rfl) (fun _ H1 e1 => ?_) fun hb => Bool.noConfusion hb
      exact s_ret ev_c fun H2 e2 => k _ (e1.trans e2)
    | some ds =>
      have hv0 := hv
      cases hv with
      | @lst a xs _ ha hd hf =>
        have hl : xs.length = ds.length := hd.len
        refine q_when (b := !lenOk ds.length) (et_is (et_or (et_not (et_B (ev_isList (ev_var rfl) hv0))) fun _ => et_not (et_test (ev_chainI ev_c (ev_len (ev_var rfl) (sq_of ha)) ev_c))) (by rw [hl]; rfl)) (fun hb H1 e1 => ?_) fun hb H1 e1 => ?_
        · have hb : lenOk ds.length = false := by simpa using hb
          have ej : judge (some ds) = false := by
            unfold judge
            simp only
            rw [hb]
            rfl
          rw [ej] at k
          exact s_ret ev_c fun H2 e2 => k _ (e1.trans e2)
        · have hb : lenOk ds.length = true := by simpa using hb
          have hn : 1 ≤ ds.length ∧ ds.length ≤ 20 := by
            unfold lenOk at hb
            simp at hb
            omega
          have h1 := e1 a _ ha
          have odd : EvD K (tLc (iList K (tVar 0)) (gName 1) (tOr (tB (tCB (rIsi K) (tCons (tVar 1) (tCons (tC (.ty "bool")) tNil)))) (tNot (tB (tCB (rIsi K) (tCons (tVar 1) (tCons (tC (.ty "int")) tNil)))))) (tVar 1) [1]) (start n_law_is_row [.ref a]) H1 (.list (ds.filter fun d => !isI d)) := by
            have g := el_lcL (K := K) (te := tVar 1) (j := 1) (vs := [1]) (σ := start n_law_is_row [.ref a]) (H := H1) (t := tOr (tB (tCB (rIsi K) (tCons (tVar 1) (tCons (tC (.ty "bool")) tNil)))) (tNot (tB (tCB (rIsi K) (tCons (tVar 1) (tCons (tC (.ty "int")) tNil)))))) (fun i => !isI (ds.getD i .none)) (fun i => xs.getD i .non) (ev_var (i := 0) rfl) (sq_of h1) (by omega) (fun _ => rfl) (fun i x H2 e2 hx => ?_) (fun i x H2 e2 hx _ => ?_)
            · exact ed_ofL g (ita_given (hd.ex e1) fun d => !isI d).dp
            · obtain ⟨d, hd1, hd2⟩ := ita_get (hd.ex e1) hx
              have gd : ds.getD i .none = d := by rw [List.getD_eq_getElem?_getD, hd1] <;> rfl
              show EvT _ _ _ (!isI (ds.getD i .none))
              rw [gd]
              exact et_noInt (ev_var rfl) (hd2.ex e2)
            · have gx : xs.getD i .non = x := by rw [List.getD_eq_getElem?_getD, hx] <;> rfl
              show Ev _ _ _ (xs.getD i .non)
              rw [gx]
              exact ev_var rfl
          have fs : SeqAt.shaped (.list (ds.filter fun d => !isI d)) = true := (hf.sub fun x hx => (List.mem_filter.mp hx).1).shaped
          have em := none_odd ds
          refine q_when (b := !(ds.all isI)) (et_is (et_test (ev_neD odd (ed_lst eda_nil (by decide)) fs shaped_nil)) (by rw [eqv_nilD, em])) (fun hb2 H2 e2 => ?_) fun hb2 H2 e2 => ?_
          · have hb2 : ds.all isI = false := by simpa using hb2
            have ej : judge (some ds) = false := by
              unfold judge
              simp only
              rw [hb2, Bool.false_and, Bool.and_false]
            rw [ej] at k
            exact s_ret ev_c fun H3 e3 => k _ (e1.trans (e2.trans e3))
          · have hb2 : ds.all isI = true := by simpa using hb2
            have ex := ints_of hd hb2
            have il : (intsOf ds).length = ds.length := by simp [intsOf]
            have h2 := e2 a _ h1
            have sr : EvD K (tCB (rSorted K) (tCons (tVar 0) tNil)) (start n_law_is_row [.ref a]) H2 (.list ((sortI (intsOf ds)).map PyData.int)) :=
              ed_sorted (ns := intsOf ds) (ev_var rfl) (sq_of (by rw [← ex]; exact h2)) (by omega) (sortI_perm _) (sortI_sorted _)
            have rg : EvD K (tLstRg (tRg1 (tCB (rLenS K) (tCons (tVar 0) tNil)))) (start n_law_is_row [.ref a]) H2 (.list ((iz (List.range ds.length)).map PyData.int)) :=
              ed_ofL (xs := nv (List.range ds.length)) (by
                have g := el_rg1 (σ := start n_law_is_row [.ref a]) (ev_len (K := K) (ta := tVar 0) (ev_var (i := 0) (v := .ref a) rfl) (sq_of h2)) (RgOk.of_le (by decide) (by omega) (by decide) (by omega))
                rw [hl, range_iz] at g
                exact g) (dpa_ints _)
            have ej : judge (some ds) = sorts ds := by
              unfold judge
              simp only
              rw [hb, hb2, Bool.true_and, Bool.true_and]
            rw [ej] at k
            exact s_ret (ev_eqD sr rg (shaped_ints _) (shaped_ints _)) fun H3 e3 => k _ (e1.trans (e2.trans e3))
end

section
variable {K : PySem.W.Frag}
theorem hm_in {p a : Addr} {H : Hp} {o : HO} (ne : a ≠ p) (h : H a = some o) : Hm p H a = some o := by
  unfold Hm
  rw [if_neg ne]
  exact h
end

/-! ### _law_things -/
def Itm (K : PySem.W.Frag) (H : Hp) (v : V) : Prop := ∃ d, It K H v d ∧ d.canLay0 = true ∧ d.depth ≤ 5
theorem Itm.ex {K : PySem.W.Frag} {H H' : Hp} {v : V} (e : Ex H H') (h : Itm K H v) : Itm K H' v := h.imp fun d x => ⟨x.1.ex e, x.2⟩
theorem itm_int {K : PySem.W.Frag} {H : Hp} (i : Int) : Itm K H (.int i) := ⟨_, .int i, rfl, Nat.zero_le _⟩
theorem itm_bl {K : PySem.W.Frag} {H : Hp} (b : Bool) : Itm K H (.bl b) := ⟨_, .bl b, rfl, Nat.zero_le _⟩
theorem itm_non {K : PySem.W.Frag} {H : Hp} : Itm K H .non := ⟨_, .non, rfl, Nat.zero_le _⟩
theorem itm_str {K : PySem.W.Frag} {H : Hp} : Itm K H (.str (Str.ofString "0")) := ⟨_, .str _, by decide +kernel, Nat.zero_le _⟩
theorem itm_nv {K : PySem.W.Frag} {H : Hp} {r : List Nat} : ∀ v ∈ nv r, Itm K H v := fun v hv => by
  rw [nv_eq] at hv
  obtain ⟨x, _, rfl⟩ := List.mem_map.mp hv
  exact itm_int _
theorem itm_row {K : PySem.W.Frag} {H : Hp} {a : Addr} {r : List Nat} (ha : H a = some (.lst (nv r))) : Itm K H (.ref a) := ⟨_, .lst ha (dpa_nv r), canLay_ints _, by
  simp [PyData.depth, depth_ints]⟩
theorem itm_one {K : PySem.W.Frag} {H : Hp} {v : V} (h : Itm K H v) : ∀ x ∈ [v], Itm K H x := fun x hx => by
  rw [List.mem_singleton.mp hx]
  exact h
theorem itm_app {K : PySem.W.Frag} {H : Hp} {xs ys : List V} (h : ∀ v ∈ xs, Itm K H v) (h2 : ∀ v ∈ ys, Itm K H v) : ∀ v ∈ xs ++ ys, Itm K H v := fun v hv => (List.mem_append.mp hv).elim (h v) (h2 v)
theorem itm_cut {K : PySem.W.Frag} {H : Hp} {xs : List V} (h : ∀ v ∈ xs, Itm K H v) (lo hi : Option Int) : ∀ v ∈ cutV xs lo hi, Itm K H v := fun v hv => h v (by
  unfold cutV at hv
  exact List.mem_of_mem_drop (List.mem_of_mem_take hv))
theorem itm_two {K : PySem.W.Frag} {H : Hp} {v u : V} (h : Itm K H v) (h2 : Itm K H u) : ∀ x ∈ [v, u], Itm K H x := fun x hx => by
  rcases List.mem_cons.mp hx with e | hx
  · rw [e]
    exact h
  · rw [List.mem_singleton.mp hx]
    exact h2
theorem itm_rg {K : PySem.W.Frag} {H : Hp} (a b : Int) : ∀ v ∈ rgV a b, Itm K H v := fun v hv => by
  unfold rgV at hv
  obtain ⟨i, _, rfl⟩ := List.mem_map.mp hv
  exact itm_int _
theorem ita_all {K : PySem.W.Frag} {H : Hp} : ∀ {xs : List V}, (∀ v ∈ xs, Itm K H v) → ∃ ds, ItAll K H xs ds ∧ Fine ds
  | [], _ => ⟨[], .nil, fine_nil⟩
  | x :: r, h => by
    obtain ⟨ds, a, b⟩ := ita_all fun v hv => h v (List.mem_cons_of_mem _ hv)
    obtain ⟨d, c, e, f⟩ := h x List.mem_cons_self
    exact ⟨d :: ds, .cons c a, fine_cons e f b⟩
theorem at_paired {K : PySem.W.Frag} {H : Hp} : ∀ {ws : List V}, (∀ v ∈ ws, AT K H v) → ∃ os, Paired (Th K H) ws os
  | [], _ => ⟨[], .nil⟩
  | x :: r, h => by
    obtain ⟨os, a⟩ := at_paired fun v hv => h v (List.mem_cons_of_mem _ hv)
    obtain ⟨o, c⟩ := h x List.mem_cons_self
    exact ⟨o :: os, .cons c a⟩
theorem at_list {K : PySem.W.Frag} {H : Hp} {a : Addr} {xs : List V} (ha : H a = some (.lst xs)) (h : ∀ v ∈ xs, Itm K H v) : AT K H (.ref a) := by
  obtain ⟨ds, d, f⟩ := ita_all h
  exact ⟨_, .lst ha d f⟩
section
variable {K : PySem.W.Frag} {σ : L2.St} {H0 H H' : Hp} {p : Addr} {k k1 k2 : Nat} {te ta tb tc : TE} {t1 t2 t3 t4 t5 t6 : TE} {D : Ends} {tz : TS}
theorem th_I {xs : List V} (h : EvL te σ H xs) (hi : ∀ v ∈ xs, Itm K H v) : EvTh K te σ H := th_L h (ita_all hi)
theorem el_repO {a : Addr} {xs : List V} {n : Nat} (ha : Ev ta σ H (.ref a)) (h : H a = some (.lst xs)) (hb : Ev tb σ H (.int (n : Int))) (hn : n ≤ 50) (hx : xs.length ≤ 50) : EvL (tOp rRep ta tb) σ H (List.replicate n xs).flatten := fun H1 e Q q =>
  ha H1 e _ fun H2 e2 => hb H2 (e.trans e2) _ fun H3 e3 => ⟨a, (n : Int), xs, rfl, rfl, e3 a _ (e2 a _ (e a _ h)), by omega, by omega, sz_of (by
    rw [Int.toNat_natCast]
    exact Nat.le_trans (Nat.mul_le_mul hx hn) (by decide)), fun l hl => q l _ (fresh_back (e2.trans e3) hl) ((e2.trans e3).trans (Ex.new hl)) (by rw [upd_same, Int.toNat_natCast])⟩
theorem itm_rep {xs : List V} (h : ∀ v ∈ xs, Itm K H v) (n : Nat) : ∀ v ∈ (List.replicate n xs).flatten, Itm K H v := fun v hv => by
  obtain ⟨l, hl, hv⟩ := List.mem_flatten.mp hv
  rw [List.eq_of_mem_replicate hl] at hv
  exact h v hv
theorem pq_par3 {n i j l : Nat} {A B : V → Prop} {xs : List V} (h0 : H0 p = none) (h1 : EvP p k1 ta σ H0 (fun v _ => A v)) (h2 : EvP p k2 tb σ H0 (fun v _ => B v)) (h3 : EvL tc σ H0 xs) (e : Ex H0 H) (hp : Po p n H) (hn : n + (k1 + k2) ≤ 1000000000)
    (q : ∀ u v b H2 H3, A u → B v → b ≠ p → H2 b = none → Ex (Hm p H) H2 → Ex H2 H3 → H3 b = some (.lst xs) → Po p (n + (k1 + k2)) H3 → tz D (((σ.set i (some u)).set j (some v)).set l (some (.ref b))) H3) : tSeq (tPar3 i j l (tCons ta (tCons tb (tCons tc tNil)))) tz D σ H :=
  h1 n H e hp (by omega) _ fun u H1 au p1 e1 => h2 (n + k1) H1 (hm_next h0 e e1) p1 (by omega) _ fun v H2 bv p2 e2 => h3 H2 (hm_next h0 (hm_next h0 e e1) e2) _ fun b H3 hb e3 v3 =>
    ⟨u, v, .ref b, rfl, q u v b H2 H3 au bv (p2.ne hb) hb (hm_trans e1 e2) e3 v3 (by rw [← Nat.add_assoc]; exact p2.ex e3)⟩
/-- [n, -1, None, '0', [0], z][a draw] -/
theorem pq_odd {n i : Nat} {x1 x2 x6 : Int} (h0 : H0 p = none) (a1 : Ev t1 σ H0 (.int x1)) (a2 : Ev t2 σ H0 (.int x2)) (a3 : Ev t3 σ H0 .non) (a4 : Ev t4 σ H0 (.str (Str.ofString "0"))) (a5 : EvL t5 σ H0 (nv [0])) (a6 : Ev t6 σ H0 (.int x6))
    (hd : EvP p 1 tb σ H0 (fun v _ => ∃ r, v = .int r ∧ 0 ≤ r ∧ r < 6)) (e : Ex H0 H) (hp : Po p n H) (hn : n + 1 ≤ 1000000000) (q : ∀ v H2, ((∀ G, Itm K G v) ∨ ∃ l, v = .ref l ∧ H l = none ∧ l ≠ p ∧ H2 l = some (.lst (nv [0]))) → Po p (n + 1) H2 → Ex (Hm p H) H2 → tz D (σ.set i (some v)) H2) :
    tSeq (tAsg (tOp (rIxL K) (tLst (tCons t1 (tCons t2 (tCons t3 (tCons t4 (tCons t5 (tCons t6 tNil))))))) tb) (gName i)) tz D σ H :=
  a1 H e _ fun H1 e1 => a2 H1 (e.trans e1) _ fun H2 e2 => a3 H2 ((e.trans e1).trans e2) _ fun H3 e3 => a4 H3 (((e.trans e1).trans e2).trans e3) _ fun H4 e4 => a5 H4 ((((e.trans e1).trans e2).trans e3).trans e4) _ fun l5 H5 hl5 e5 h5 =>
    a6 H5 (((((e.trans e1).trans e2).trans e3).trans e4).trans e5) _ fun H6 e6 => ⟨sz_of (Nat.le_of_ble_eq_true rfl), fun l hl => by
      have e16 := e1.trans (e2.trans (e3.trans (e4.trans (e5.trans e6))))
      have p6 : Po p n (upd H6 l (.lst [V.int x1, V.int x2, V.non, V.str (Str.ofString "0"), V.ref l5, V.int x6])) := (hp.ex e16).ex (Ex.new hl)
      have lp := (hp.ex e16).ne hl
      have l5p := ((hp.ex e1).ex (e2.trans (e3.trans e4))).ne hl5
      refine hd n _ ((e.trans e16).trans (Ex.new hl)) p6 hn _ fun v H7 hv p7 e7 => ?_
      obtain ⟨r, rfl, r0, r1⟩ := hv
      have h7 := hm_at e7 lp upd_same
      have h57 := hm_at e7 l5p ((Ex.new hl) l5 _ (e6 l5 _ h5))
      have fin : ∀ z, atI [V.int x1, .int x2, .non, .str (Str.ofString "0"), .ref l5, .int x6] r = some z → ((∀ G, Itm K G z) ∨ ∃ l, z = .ref l ∧ H l = none ∧ l ≠ p ∧ H7 l = some (.lst (nv [0]))) → rIxL K (.ref l) (.int r) H7 fun v H8 => tz D (σ.set i (some v)) H8 := fun z hz it => ⟨l, _, r, z, rfl, rfl, sq_of h7, hz, q z H7 it p7 (hm_trans (hm_of (e16.trans (Ex.new hl))) e7)⟩
      have : r = 0 ∨ r = 1 ∨ r = 2 ∨ r = 3 ∨ r = 4 ∨ r = 5 := by omega
      rcases this with rfl | rfl | rfl | rfl | rfl | rfl
      · exact fin _ rfl (.inl fun _ => itm_int _)
      · exact fin _ rfl (.inl fun _ => itm_int _)
      · exact fin _ rfl (.inl fun _ => itm_non)
      · exact fin _ rfl (.inl fun _ => itm_str)
      · exact fin _ rfl (.inr ⟨l5, rfl, fresh_back (e1.trans (e2.trans (e3.trans e4))) hl5, l5p, h57⟩)
      · exact fin _ rfl (.inl fun _ => itm_int _)⟩
theorem q_asgTL {i n : Nat} (h : EvTL K te σ H n) (q : ∀ b vs H1, H b = none → Ex H H1 → H1 b = some (.lst vs) → vs.length = n → (∀ v ∈ vs, AT K H1 v) → tz D (σ.set i (some (.ref b))) H1) : tSeq (tAsg te (gName i)) tz D σ H := h H (Ex.refl H) _ q
theorem s_retTL {n : Nat} (h : EvTL K te σ H n) (q : ∀ b vs H1, H b = none → Ex H H1 → H1 b = some (.lst vs) → vs.length = n → (∀ v ∈ vs, AT K H1 v) → D.rt (.ref b) H1) : tRet te D σ H := h H (Ex.refl H) _ q
end
/-! ### any thing that is not the pouch, nor holds it -/
def InH (p : Addr) (H : Hp) : Prop := ∃ o, H p = some o
theorem InH.ex {p : Addr} {H H' : Hp} (h : InH p H) (e : Ex H H') : InH p H' := h.imp fun o z => e p o z
theorem InH.ne {p q : Addr} {H : Hp} (h : InH p H) (hq : H q = none) : q ≠ p := fun z => by
  subst z
  obtain ⟨o, e⟩ := h
  rw [hq] at e
  cases e
theorem Po.inH {p : Addr} {n : Nat} {H : Hp} (h : Po p n H) : InH p H := by
  obtain ⟨a, b, c, e, _⟩ := h
  exact ⟨_, e⟩
section
variable {K : PySem.W.Frag} {σ : L2.St} {H H' : Hp} {te ta tb : TE} {t tr : TA} {p : Addr} {D : Ends} {tz : TS}
theorem hm_in2 {a : Addr} {o : HO} (ap : a ≠ p) (h : H a = some o) : Hm p H a = some o := by
  unfold Hm
  rw [if_neg ap]
  exact h
def EvThP (p : Addr) (K : PySem.W.Frag) (te : TE) (σ : L2.St) (H : Hp) : Prop := ∀ H1, Ex H H1 → ∀ Q : VK, (∀ v H2, Ex H1 H2 → AT K (Hm p H2) v → Q v H2) → te σ H1 Q
def EvThAP (p : Addr) (K : PySem.W.Frag) (ta : TA) (σ : L2.St) (H : Hp) (n : Nat) : Prop := ∀ H1, Ex H H1 → ∀ Q : List V → Hp → Prop, (∀ vs H2, Ex H1 H2 → vs.length = n → (∀ v ∈ vs, AT K (Hm p H2) v) → Q vs H2) → ta σ H1 Q
theorem thap_nil : EvThAP p K tNil σ H 0 := fun H1 _ _ q => q [] H1 (Ex.refl H1) rfl (by simp)
theorem thap_cons {n : Nat} (h : EvThP p K te σ H) (hr : EvThAP p K tr σ H n) : EvThAP p K (tCons te tr) σ H (n + 1) := fun H1 e _ q =>
  h H1 e _ fun v H2 e2 hv => hr H2 (e.trans e2) _ fun vs H3 e3 hl hvs => q (v :: vs) H3 (e2.trans e3) (by simp [hl]) fun x hx => by
    rcases List.mem_cons.mp hx with z | z
    · rw [z]
      exact hv.ex (hm_mono e3)
    · exact hvs x z
theorem thp_non (h : Ev te σ H .non) : EvThP p K te σ H := fun H1 e Q q => h H1 e Q fun H2 e2 => q _ H2 e2 ⟨_, .non⟩
theorem thp_bl {b : Bool} (h : Ev te σ H (.bl b)) : EvThP p K te σ H := fun H1 e Q q => h H1 e Q fun H2 e2 => q _ H2 e2 ⟨_, .bl b⟩
theorem thp_int {i : Int} (h : Ev te σ H (.int i)) : EvThP p K te σ H := fun H1 e Q q => h H1 e Q fun H2 e2 => q _ H2 e2 ⟨_, .int i⟩
theorem thp_str {x : Str} (h : Ev te σ H (.str x)) : EvThP p K te σ H := fun H1 e Q q => h H1 e Q fun H2 e2 => q _ H2 e2 ⟨_, .str x⟩
theorem thp_U (hp : InH p H) {xs : List V} (h : EvU te σ H xs) : EvThP p K te σ H := fun H1 e Q q => h H1 e Q fun l H2 hl e2 h2 => q _ H2 e2 ⟨_, .tup (hm_in2 ((hp.ex e).ne hl) h2)⟩
theorem thp_I (hp : InH p H) {xs : List V} (h : EvL te σ H xs) (hi : ∀ v ∈ xs, Itm K (Hm p H) v) : EvThP p K te σ H := fun H1 e Q q => h H1 e Q fun l H2 hl e2 h2 => q _ H2 e2 (by
  obtain ⟨ds, d, f⟩ := ita_all hi
  exact ⟨_, .lst (hm_in2 ((hp.ex e).ne hl) h2) (d.ex (hm_mono (e.trans e2))) f⟩)
def EvIAP (p : Addr) (K : PySem.W.Frag) (ta : TA) (σ : L2.St) (H : Hp) (ds : List PyData) : Prop := ∀ H1, Ex H H1 → ∀ Q : List V → Hp → Prop, (∀ vs H2, Ex H1 H2 → ItAll K (Hm p H2) vs ds → Q vs H2) → ta σ H1 Q
def EvIP (p : Addr) (K : PySem.W.Frag) (te : TE) (σ : L2.St) (H : Hp) (d : PyData) : Prop := ∀ H1, Ex H H1 → ∀ Q : VK, (∀ v H2, Ex H1 H2 → It K (Hm p H2) v d → Q v H2) → te σ H1 Q
theorem iap_nil : EvIAP p K tNil σ H [] := fun H1 _ _ q => q [] H1 (Ex.refl H1) .nil
theorem iap_cons {d : PyData} {ds : List PyData} (h : EvIP p K te σ H d) (hr : EvIAP p K tr σ H ds) : EvIAP p K (tCons te tr) σ H (d :: ds) := fun H1 e _ q =>
  h H1 e _ fun v H2 e2 dv => hr H2 (e.trans e2) _ fun vs H3 e3 dvs => q (v :: vs) H3 (e2.trans e3) (.cons (dv.ex (hm_mono e3)) dvs)
theorem itp_int {i : Int} (h : Ev te σ H (.int i)) : EvIP p K te σ H (.int i) := fun H1 e Q q => h H1 e Q fun H2 e2 => q _ H2 e2 (.int i)
theorem itp_one (hp : InH p H) {i : Int} (h : Ev te σ H (.int i)) : EvIP p K (tLst (tCons te tNil)) σ H (.list [.int i]) := fun H1 e Q q =>
  h H1 e _ fun H2 e2 => ⟨sz_of (Nat.le_of_ble_eq_true rfl), fun l hl => q _ _ (e2.trans (Ex.new hl)) (.lst (hm_in2 (((hp.ex e).ex e2).ne hl) upd_same) (.cons (.int i) .nil))⟩
theorem thp_D (hp : InH p H) {ds : List PyData} (h : EvIAP p K t σ H ds) (hf : Fine ds) (hl : ds.length ≤ 100000) : EvThP p K (tLst t) σ H := fun H1 e Q q =>
  h H1 e _ fun vs H2 e2 dv => ⟨sz_of (by rw [dv.len]; exact hl), fun l hl' => q _ _ (e2.trans (Ex.new hl')) ⟨_, .lst (hm_in2 (((hp.ex e).ex e2).ne hl') upd_same) (dv.ex (hm_mono (Ex.new hl'))) hf⟩⟩
theorem thp_var {i : Nat} {v : V} (h : σ[i]? = some (some v)) (hv : AT K (Hm p H) v) : EvThP p K (tVar i) σ H := fun H1 e Q q => ⟨v, h, q v H1 (Ex.refl _) (hv.ex (hm_mono e))⟩
theorem thp_dnew (hp : InH p H) : EvThP p K tDNewK σ H := fun H1 e Q q l hl => q _ _ (Ex.new hl) ⟨_, .dct (hm_in2 ((hp.ex e).ne hl) upd_same)⟩
theorem thp_disp (hp : InH p H) {x : Str} {i : Int} : EvThP p K (tDisp [(tC (.str x), tC (.int i))]) σ H := fun H1 e Q q l hl =>
  ⟨upd_same, [(.inr x, .int i)], rfl, Nat.le_of_ble_eq_true rfl, q _ _ (Ex.mut (Ex.new hl) hl) ⟨_, .dct (hm_in2 ((hp.ex e).ne hl) upd_same)⟩⟩
def EvTLP (p : Addr) (K : PySem.W.Frag) (te : TE) (σ : L2.St) (H : Hp) (n : Nat) : Prop := ∀ H1, Ex H H1 → ∀ Q : VK, (∀ l vs H2, H1 l = none → Ex H1 H2 → H2 l = some (.lst vs) → vs.length = n → (∀ v ∈ vs, AT K (Hm p H2) v) → Q (.ref l) H2) → te σ H1 Q
theorem tlp_lst {n : Nat} (h : EvThAP p K t σ H n) (hn : n ≤ 100000) : EvTLP p K (tLst t) σ H n := fun H1 e Q q =>
  h H1 e _ fun vs H2 e2 hl hv => ⟨sz_of (by omega), fun l hl' => q l vs _ (fresh_back e2 hl') (e2.trans (Ex.new hl')) upd_same hl fun v z => (hv v z).ex (hm_mono (Ex.new hl'))⟩
theorem tlp_cat {a : Addr} {xs : List V} {n : Nat} (h : Ev ta σ H (.ref a)) (ha : H a = some (.lst xs)) (hx : ∀ v ∈ xs, AT K (Hm p H) v) (h2 : EvTLP p K tb σ H n) (hz : xs.length + n ≤ 1000) : EvTLP p K (tOp rCat ta tb) σ H (xs.length + n) := fun H1 e Q q =>
  h H1 e _ fun H2 e2 => h2 H2 (e.trans e2) _ fun b vs H3 _ e3 h3 hl hv =>
    ⟨a, b, xs, vs, rfl, rfl, e3 a _ (e2 a _ (e a _ ha)), h3, sz_of (by omega), fun l hl' => q l _ _ (fresh_back (e2.trans e3) hl') ((e2.trans e3).trans (Ex.new hl')) upd_same (by rw [List.length_append, hl]) fun v z => by
      rcases List.mem_append.mp z with z | z
      · exact (hx v z).ex (hm_mono (e.trans (e2.trans (e3.trans (Ex.new hl')))))
      · exact (hv v z).ex (hm_mono (Ex.new hl'))⟩
theorem qp_asgTL {i n : Nat} (h : EvTLP p K te σ H n) (q : ∀ b vs H1, H b = none → Ex H H1 → H1 b = some (.lst vs) → vs.length = n → (∀ v ∈ vs, AT K (Hm p H1) v) → tz D (σ.set i (some (.ref b))) H1) : tSeq (tAsg te (gName i)) tz D σ H := h H (Ex.refl H) _ q
theorem sp_retTL {n : Nat} (h : EvTLP p K te σ H n) (q : ∀ b vs H1, H b = none → Ex H H1 → H1 b = some (.lst vs) → vs.length = n → (∀ v ∈ vs, AT K (Hm p H1) v) → D.rt (.ref b) H1) : tRet te D σ H := h H (Ex.refl H) _ q
end

/-- a guest as a truth -/
def tru (x : Nat) : V := if x = 0 then .bl false else if x = 1 then .bl true else .int (x : Int)
def sp_law_things (K : PySem.W.Frag) : Sp := fun vs H Q _ => ∃ (p a : Addr) (n : Nat) (h : List Nat), vs = [.ref p, .ref a] ∧ Po p n H ∧ n + 3 < 1000000000 ∧ a ≠ p ∧ H a = some (.lst (nv h)) ∧ (1 ≤ h.length ∧ h.length ≤ 20) ∧
  ∀ l ws H', H l = none → H' l = some (.lst ws) → ws.length ≤ 100 → (∀ v ∈ ws, AT K (Hm p H') v) → Po p (n + 3) H' → Ex (Hm p H) H' → Q (.ref l) H'
section
variable {P : Program} {w : World} {K : PySem.W.Frag} {mg : Str → Option Value} {base : Heap}
theorem ok_law_things (T : Tx K mg) : FnOk P w K mg base CX0 2 T.f_law_things T.d_law_things ["pouch", "row"] (sp_law_things K) := by
  refine T.F_law_things.ok sc_law_things (fun vs H Q E h => ?_) (fun cdv A outer s H vs Q E hr h => ?_)
  · obtain ⟨p, a, n, h, rfl, _⟩ := h
    rfl
  · obtain ⟨p, a, n, h, rfl, hpo, hn, ap, ha, o, k⟩ := h
    refine ⟨_, (pss_cons (ps_par3 (i := 2) (j := 3) (l := 4) (by rfl) sc_law_things.nd rfl rfl rfl (by decide) (by decide) (by decide) rfl rfl rfl (pa_cons (pe_call (ok_law_dip T) (hr.mono (by decide)) (by rfl) T.g_law_dip T.F_law_dip.kp T.b_law_dip .nil pass0 (pa_cons (pv 0) (pa_cons (pe_callB call_lenR (by rfl) T.m_len (by decide +kernel) (pa_cons (pv 1) pa_nil)) pa_nil))) (pa_cons (pe_call (ok_law_dip T) (hr.mono (by decide)) (by rfl) T.g_law_dip T.F_law_dip.kp T.b_law_dip .nil pass0 (pa_cons (pv 0) (pa_cons (pe_callB call_lenR (by rfl) T.m_len (by decide +kernel) (pa_cons (pv 1) pa_nil)) pa_nil))) (pa_cons (pe_callTy call_listR (by rfl) T.m_list (by decide +kernel) (pa_cons (pv 1) pa_nil)) pa_nil))) (by rfl))
      (pss_cons (ps_set (i := 5) sc_law_things.nd rfl (Or.inl rfl) (pe_ix ix_list (pe_lst (pa_cons (pe_callB call_lenR (by rfl) T.m_len (by decide +kernel) (pa_cons (pv 1) pa_nil)) (pa_cons (pe_un un_neg pe_int) (pa_cons pe_non (pa_cons pe_str (pa_cons (pe_lst (pa_cons pe_int pa_nil)) (pa_cons (pe_op op_powX pe_int pe_int) pa_nil))))))) (pe_call (ok_law_dip T) (hr.mono (by decide)) (by rfl) T.g_law_dip T.F_law_dip.kp T.b_law_dip .nil pass0 (pa_cons (pv 0) (pa_cons pe_int pa_nil))) (fun _ _ => rfl)))
      (pss_cons (ps_asg (pe_ix ix_list (pv 1) (pv 3) (fun _ _ => rfl)) (pg_sub (pv 4) (pv 2) set_list))
      (pss_cons (ps_setLc (i := 7) (own := [("one", 6)]) (g := (gName 6)) (tt := tYes) rfl sc_law_things.nd rfl rfl (sw_true rfl rfl rfl (by decide +kernel)) (pi_list (pv 1)) (blkOk_by (own := [("one", 6)]) (N := n_law_things) (sc := defScope s_law_things) (by decide +kernel)) (fun _ _ _ _ _ => (pg_name (i := 6) sc_law_things.nd rfl (Or.inl rfl))) (fun _ _ _ _ _ => pts_nil) (fun _ _ _ _ _ => (pe_ifExp (pt_cmpR op_lt (pv 6) pe_int (nomark _)) (pe_ix (r := rIxL K) ix_list (pe_lst (pa_cons pe_bl (pa_cons pe_bl pa_nil))) (pv 6) (fun _ _ => rfl)) (pv 6))))
      (pss_cons (ps_set (i := 8) sc_law_things.nd rfl (Or.inl rfl) (pe_lst (pa_cons pe_non (pa_cons pe_bl (pa_cons pe_int (pa_cons pe_int (pa_cons pe_str (pa_cons pe_str (pa_cons pe_dnewK (pa_cons (pe_lst pa_nil) (pa_cons (pe_tup (pa_cons pe_int pa_nil)) (pa_cons (pe_callTy call_tupR (by rfl) T.m_tuple (by decide +kernel) (pa_cons (pv 1) pa_nil)) (pa_cons (pe_lst (pa_cons (pv 1) pa_nil)) (pa_cons (pe_lst (pa_cons pe_int pa_nil)) (pa_cons (pe_lst (pa_cons pe_bl pa_nil)) (pa_cons (pe_lst (pa_cons pe_bl pa_nil)) (pa_cons (pe_lst (pa_cons pe_non pa_nil)) (pa_cons (pe_lst (pa_cons (pe_lst (pa_cons pe_int pa_nil)) pa_nil)) (pa_cons (pe_disp (pps_cons pe_str pe_int pps_nil) rfl rfl (by simp) (by decide)) pa_nil)))))))))))))))))))
      (pss_cons (ps_set (i := 8) sc_law_things.nd rfl (Or.inl rfl) (pe_op op_cat (pv 8) (pe_lst (pa_cons (pe_op op_cat (pv 1) (pe_lst (pa_cons pe_int pa_nil))) (pa_cons (pe_op op_cat (pv 1) (pe_lst (pa_cons (pe_callB call_lenR (by rfl) T.m_len (by decide +kernel) (pa_cons (pv 1) pa_nil)) pa_nil))) (pa_cons (pe_slice sl_list (pv 1) po_none (po_some (pe_un un_neg pe_int))) (pa_cons (pe_op op_cat (pe_op op_cat (pe_slice sl_list (pv 1) po_none (po_some (pv 2))) (pe_lst (pa_cons (pv 5) pa_nil))) (pe_slice sl_list (pv 1) (po_some (pe_op op_add (pv 2) pe_int)) po_none)) (pa_cons (pv 4) (pa_cons (pv 7) (pa_cons (pe_lst (pa_cons (pe_un un_neg pe_int) (pa_cons pe_int pa_nil))) pa_nil))))))))))
      (pss_cons (ps_set (i := 8) sc_law_things.nd rfl (Or.inl rfl) (pe_op op_cat (pv 8) (pe_lst (pa_cons (pe_revL (pv 1)) (pa_cons (pe_listRg rfl (by rfl) T.m_list (prg_1 (by rfl) T.m_range pe_int)) (pa_cons (pe_listRg rfl (by rfl) T.m_list (prg_1 (by rfl) T.m_range pe_int)) (pa_cons (pe_lst (pa_cons pe_int (pa_cons pe_int pa_nil))) (pa_cons (pe_lst (pa_cons pe_int (pa_cons pe_int pa_nil))) (pa_cons (pe_lst (pa_cons pe_str pa_nil)) (pa_cons (pe_op op_cat (pv 1) (pe_lst (pa_cons pe_non pa_nil))) (pa_cons (pe_op op_rep (pv 1) pe_int) pa_nil)))))))))))
      (pss_one (ps_ret (pe_op op_cat (pv 8) (pe_lst (pa_cons (pe_lst (pa_cons (pe_op op_powX pe_int pe_int) pa_nil)) (pa_cons (pe_lst (pa_cons pe_int (pa_cons pe_int (pa_cons pe_int (pa_cons (pe_lst (pa_cons pe_int pa_nil)) pa_nil))))) (pa_cons pe_str pa_nil)))))))))))))), ?_⟩
    have o2 := o
    have dip : EvP p 1 (tCall sp_law_dip [] E0 (tCons (tVar 0) (tCons (tCB (rLenS K) (tCons (tVar 1) tNil)) tNil))) (start n_law_things [.ref p, .ref a]) (Hm p H) (fun v _ => ∃ x : Nat, v = .int (x : Int) ∧ x < h.length) :=
      ep_is (ep_dipI (w := (h.length : Int)) hm_p (ev_var (i := 0) rfl) (ev_lenH (i := 1) rfl (hm_in ap ha)) (by omega) (by omega)) fun v H ⟨r, e, r0, r1⟩ => ⟨r.toNat, by rw [e]; exact congrArg V.int (by omega), by omega⟩
    refine pq_par3 (p := p) (k1 := 1) (k2 := 1) (H0 := Hm p H) (A := fun v => ∃ x : Nat, v = .int (x : Int) ∧ x < h.length) (B := fun v => ∃ x : Nat, v = .int (x : Int) ∧ x < h.length) (xs := nv h) hm_p dip dip (el_list (K := K) (ev_var (i := 1) rfl) (sq_of (hm_in ap ha))) hm_sub hpo (by omega) ?_
    rintro u v b H1 H2 ⟨sp, rfl, hsp⟩ ⟨ot, rfl, hot⟩ bp hb1 e1 e2 hb2 p2
    have ha2 := e2 a _ (hm_at e1 ap ha)
    have ab : a ≠ b := ne_of_none (hm_at e1 ap ha) hb1
    refine pq_odd (K := K) (p := p) (H0 := Hm p H2) (x1 := (h.length : Int)) (x2 := -1) (x6 := (10 : Int) ^ (30 : Int).toNat) hm_p (ev_lenH rfl (hm_in ap ha2)) (ev_un ev_c ru_neg) ev_c ev_c (el_lst (ea_cons ev_c ea_nil) (Nat.le_of_ble_eq_true rfl)) (ev_op ev_c ev_c (rv_I (by constructor <;> decide +kernel))) (ep_dipI (w := 6) hm_p (ev_var rfl) ev_c (by decide) (by decide)) hm_sub p2 (by omega) ?_
    intro od H3 hod p3 e3
    have ha3 := hm_at e3 ap ha2
    have hb3 := hm_at e3 bp hb2
    obtain ⟨x, hx⟩ : ∃ x : Nat, h[ot]? = some x := ⟨h[ot], List.getElem?_eq_getElem hot⟩
    refine q_setL (xs := nv h) (j := sp) hb3 (ev_op (ev_var rfl) (ev_var rfl) (rv_ixL (K := K) (sq_of ha3) (atI_nat (nv_get hx)))) (ev_var rfl) (ev_var rfl) (by rw [nv_len]; exact hsp) fun H4 e4 => ?_
    -- from here on nothing is drawn
    have hH1b : Hm p H b = none := fresh_back e1 hb1
    have base4 : Ex (Hm p H) H4 := hm_trans (e1.trans e2) (hm_trans e3 (hm_of e4))
    generalize hG : upd H4 b (HO.lst ((nv h).set sp (.int (x : Int)))) = G
    have eG : Ex (Hm p H) G := hG ▸ Ex.mut base4 hH1b
    have pG : Po p (n + 3) G := by
      obtain ⟨y1, y2, y3, q1, q2⟩ := p3.ex e4
      exact ⟨y1, y2, y3, by rw [← hG, upd_ne (Ne.symm bp)]; exact q1, q2⟩
    have haG : G a = some (.lst (nv h)) := by
      rw [← hG, upd_ne ab]
      exact e4 a _ ha3
    have hbG : G b = some (.lst (nv (h.set sp x))) := by
      rw [← hG, upd_same, nv_set]
    have odG : Itm K (Hm p G) od := by
      rcases hod with h | ⟨l, rfl, hl0, lp, hl⟩
      · exact h _
      · have lb : l ≠ b := fun z => by
          rw [z, hb2] at hl0
          cases hl0
        exact itm_row (r := [0]) (hm_in2 lp (by rw [← hG, upd_ne lb]; exact e4 l _ hl))
    refine q_asgL (xs := (List.range (nv h).length).map fun i => tru (h.getD i 0)) (el_mapI (K := K) (te := tIf (tTest (tOp (rI0 fun i j => .bl (decide (i < j))) (tVar 6) (tC (.int 2)))) (tOp (rIxL K) (tLst (tCons (tC (.bl false)) (tCons (tC (.bl true)) tNil))) (tVar 6)) (tVar 6)) (fun i => tru (h.getD i 0)) (ev_var rfl) (sq_of haG) (by rw [nv_len]; omega) (fun _ => rfl) fun i v H5 e5 hv => ?_) fun t7 H5 ht7 e5 h7 => ?_
    · have hil : i < h.length := by
        have := (List.getElem?_eq_some_iff.mp hv).1
        rw [nv_len] at this
        exact this
      have hi2 : h[i]? = some (h.getD i 0) := by
        rw [List.getD_eq_getElem?_getD, List.getElem?_eq_getElem hil]
        rfl
      have ev : v = .int (h.getD i 0 : Nat) := by
        have := nv_get hi2
        rw [hv] at this
        exact Option.some.inj this
      subst ev
      generalize h.getD i 0 = y
      refine ev_if (b := decide ((y : Int) < 2)) (et_test (ev_op (ev_var rfl) ev_c rv_I0)) (fun hb => ?_) fun hb => ?_
      · have hb := of_decide_eq_true hb
        refine ev_opL1 (el_lst (ea_cons ev_c (ea_cons ev_c ea_nil)) (Nat.le_of_ble_eq_true rfl)) (fun H6 e6 => ev_var rfl) fun q H6 hq e6 => rv_ixL (sq_of hq) ?_
        have : y = 0 ∨ y = 1 := by omega
        rcases this with rfl | rfl
        · rfl
        · rfl
      · have hb := of_decide_eq_false hb
        have e : tru y = .int (y : Int) := by
          unfold tru
          rw [if_neg (by omega), if_neg (by omega)]
        rw [e]
        exact ev_var rfl
    have ha5 := e5 a _ haG
    have hb5 := e5 b _ hbG
    have od5 := odG.ex (hm_mono e5)
    have t7p : t7 ≠ p := pG.inH.ne ht7
    have i5 : InH p H5 := (pG.ex e5).inH
    have it7 : ∀ H : Hp, ∀ v ∈ (List.range (nv h).length).map fun i => tru (h.getD i 0), Itm K H v := fun H v hv => by
      obtain ⟨i, _, rfl⟩ := List.mem_map.mp hv
      unfold tru
      split
      · exact itm_bl _
      · split
        · exact itm_bl _
        · exact itm_int _
    have lenR : (nv h).length ≤ 20 := by rw [nv_len]; omega
    refine qp_asgTL (p := p) (K := K) (n := 17) (tlp_lst (thap_cons (thp_non ev_c) (thap_cons (thp_bl ev_c) (thap_cons (thp_int ev_c) (thap_cons (thp_int ev_c) (thap_cons (thp_str ev_c) (thap_cons (thp_str ev_c) (thap_cons (thp_dnew i5) (thap_cons (thp_I i5 (el_lst ea_nil (Nat.zero_le _)) (by simp)) (thap_cons (thp_U i5 (eu_tup (ea_cons ev_c ea_nil) (Nat.le_of_ble_eq_true rfl))) (thap_cons (thp_U i5 (eu_tupOf (K := K) (ev_var rfl) (sq_of ha5)))
      (thap_cons (thp_I i5 (el_lst (ea_cons (ev_var rfl) ea_nil) (Nat.le_of_ble_eq_true rfl)) (itm_one (itm_row (hm_in2 ap ha5)))) (thap_cons (thp_I i5 (el_lst (ea_cons ev_c ea_nil) (Nat.le_of_ble_eq_true rfl)) (itm_one (itm_int _))) (thap_cons (thp_I i5 (el_lst (ea_cons ev_c ea_nil) (Nat.le_of_ble_eq_true rfl)) (itm_one (itm_bl _))) (thap_cons (thp_I i5 (el_lst (ea_cons ev_c ea_nil) (Nat.le_of_ble_eq_true rfl)) (itm_one (itm_bl _))) (thap_cons (thp_I i5 (el_lst (ea_cons ev_c ea_nil) (Nat.le_of_ble_eq_true rfl)) (itm_one itm_non))
      (thap_cons (thp_D i5 (ds := [.list [.int 0]]) (iap_cons (itp_one i5 ev_c) iap_nil) (fine_cons rfl (by decide) fine_nil) (Nat.le_of_ble_eq_true rfl)) (thap_cons (thp_disp i5) thap_nil))))))))))))))))) (by decide)) fun f1 ws1 H6 hf1 e6 h6 l6 w6 => ?_
    have ha6 := e6 a _ ha5
    have od6 := od5.ex (hm_mono e6)
    have i6 := i5.ex e6
    refine qp_asgTL (p := p) (K := K) (n := ws1.length + 7) (tlp_cat (ev_var rfl) h6 w6 (tlp_lst (thap_cons (thp_I i6 (el_catO (ev_var rfl) ha6 (el_lst (ea_cons ev_c ea_nil) (Nat.le_of_ble_eq_true rfl)) (by simp; omega)) (itm_app itm_nv (itm_one (itm_int _)))) (thap_cons (thp_I i6 (el_catO (ev_var rfl) ha6 (el_lst (ea_cons (ev_lenH rfl ha6) ea_nil) (Nat.le_of_ble_eq_true rfl)) (by simp; omega)) (itm_app itm_nv (itm_one (itm_int _)))) (thap_cons (thp_I i6 (el_sl (K := K) (ev_var rfl) eo_none (eo_some (ev_un ev_c ru_neg)) (sq_of ha6)) (itm_cut itm_nv _ _))
      (thap_cons (thp_I i6 (el_cat (el_cat (el_sl (K := K) (ev_var rfl) eo_none (eo_some (ev_var rfl)) (sq_of ha6)) (el_lst (ea_cons (ev_var rfl) ea_nil) (Nat.le_of_ble_eq_true rfl)) ?_) (el_sl (K := K) (ev_var rfl) (eo_some (ev_op (ev_var rfl) ev_c rv_I0)) eo_none (sq_of ha6)) ?_) (itm_app (itm_app (itm_cut itm_nv _ _) (itm_one od6)) (itm_cut itm_nv _ _)))
      (thap_cons (thp_var rfl (at_list (hm_in2 bp (e6 b _ hb5)) itm_nv)) (thap_cons (thp_var rfl (at_list (hm_in2 t7p (e6 t7 _ h7)) (it7 _))) (thap_cons (thp_I i6 (el_lst (ea_cons (ev_un ev_c ru_neg) (ea_cons ev_c ea_nil)) (Nat.le_of_ble_eq_true rfl)) fun v hv => ?_) thap_nil))))))) (by decide)) (by omega)) fun f2 ws2 H7 hf2 e7 h7' l7 w7 => ?_
    · have := cutV_length (nv h) none (some (sp : Int))
      simp at this ⊢
      omega
    · have := cutV_length (nv h) none (some (sp : Int))
      have := cutV_length (nv h) (some ((sp : Int) + 1)) none
      simp at *
      omega
    · rcases List.mem_cons.mp hv with e | hv
      · rw [e]
        exact itm_int _
      · rw [List.mem_singleton.mp hv]
        exact itm_int _
    have ha7 := e7 a _ ha6
    have i7' := i6.ex e7
    refine qp_asgTL (p := p) (K := K) (n := ws2.length + 8) (tlp_cat (ev_var rfl) h7' w7 (tlp_lst (thap_cons (thp_I i7' (el_rev (K := K) (ev_var rfl) (sq_of ha7)) fun v hv => itm_nv v (List.mem_reverse.mp hv)) (thap_cons (thp_I i7' (el_rg1 (b := 21) ev_c (RgOk.of_le (by decide) (by decide) (by decide) (by decide))) (itm_rg 0 21)) (thap_cons (thp_I i7' (el_rg1 (b := 20) ev_c (RgOk.of_le (by decide) (by decide) (by decide) (by decide))) (itm_rg 0 20))
      (thap_cons (thp_I i7' (el_lst (ea_cons ev_c (ea_cons ev_c ea_nil)) (Nat.le_of_ble_eq_true rfl)) (itm_two (itm_int _) (itm_int _))) (thap_cons (thp_I i7' (el_lst (ea_cons ev_c (ea_cons ev_c ea_nil)) (Nat.le_of_ble_eq_true rfl)) (itm_two (itm_int _) (itm_int _))) (thap_cons (thp_I i7' (el_lst (ea_cons ev_c ea_nil) (Nat.le_of_ble_eq_true rfl)) (itm_one itm_str)) (thap_cons (thp_I i7' (el_catO (ev_var rfl) ha7 (el_lst (ea_cons ev_c ea_nil) (Nat.le_of_ble_eq_true rfl)) (by simp; omega)) (itm_app itm_nv (itm_one itm_non)))
      (thap_cons (thp_I i7' (el_repO (n := 2) (ev_var rfl) ha7 ev_c (by decide) (by omega)) (itm_rep itm_nv 2)) thap_nil)))))))) (by decide)) (by omega)) fun f3 ws3 H8 hf3 e8 h8 l8 w8 => ?_
    have i8 := i7'.ex e8
    refine sp_retTL (p := p) (K := K) (n := ws3.length + 3) (tlp_cat (ev_var rfl) h8 w8 (tlp_lst (thap_cons (thp_I i8 (el_lst (ea_cons (ev_op ev_c ev_c (rv_I (by constructor <;> decide +kernel))) ea_nil) (Nat.le_of_ble_eq_true rfl)) (itm_one (itm_int _))) (thap_cons (thp_D i8 (ds := [.int 0, .int 1, .int 2, .list [.int 3]]) (iap_cons (itp_int ev_c) (iap_cons (itp_int ev_c) (iap_cons (itp_int ev_c) (iap_cons (itp_one i8 ev_c) iap_nil)))) (fine_cons rfl (by decide) (fine_cons rfl (by decide) (fine_cons rfl (by decide) (fine_cons rfl (by decide) fine_nil)))) (Nat.le_of_ble_eq_true rfl))
      (thap_cons (thp_str ev_c) thap_nil))) (by decide)) (by omega)) fun l ws H9 hl e9 h9 l9 w9 => ?_
    have e59 := e5.trans (e6.trans (e7.trans (e8.trans e9)))
    have fr : H l = none := by
      have lp : l ≠ p := ((((pG.ex e5).ex e6).ex e7).ex e8).ne hl
      have := fresh_back (eG.trans (e5.trans (e6.trans (e7.trans e8)))) hl
      unfold Hm at this
      rw [if_neg lp] at this
      exact this
    exact k l ws H9 fr h9 (by omega) w9 (pG.ex e59) (eG.trans e59)
end

/-! ### draws of any ints -/
def AllI (n : Nat) (vs : List V) : Prop := vs.length = n ∧ ∀ v ∈ vs, ∃ x : Int, v = .int x
section
variable {K : PySem.W.Frag} {σ : L2.St} {H0 H : Hp} {p : Addr} {k k1 k2 : Nat} {te ta tb tm : TE} {tr : TA} {D : Ends} {tz : TS}
theorem p_ret {n : Nat} {R : V → Hp → Prop} (h : EvP p k te σ H0 R) (e : Ex H0 H) (hp : Po p n H) (hn : n + k ≤ 1000000000) (q : ∀ v H2, R v H2 → Po p (n + k) H2 → Ex (Hm p H) H2 → D.rt v H2) : tRet te D σ H := h n H e hp hn _ q
theorem epi_nil : EvPA p 0 tNil σ H0 (AllI 0) := fun n H1 e hp _ Q q => q [] H1 ⟨rfl, by simp⟩ hp (hm_of (Ex.refl _))
theorem epi_cons {m : Nat} (h0 : H0 p = none) (h : EvP p k1 te σ H0 (fun v _ => ∃ x : Int, v = .int x)) (hr : EvPA p k2 tr σ H0 (AllI m)) : EvPA p (k1 + k2) (tCons te tr) σ H0 (AllI (m + 1)) := fun n H1 e hp hn Q q =>
  epa_cons (A := fun v => ∃ x : Int, v = .int x) h0 h hr n H1 e hp hn Q fun vs H2 ⟨v, r, e1, hv, hl, ha⟩ p2 e2 => q vs H2 ⟨by rw [e1]; simp [hl], fun x hx => by
    rw [e1] at hx
    rcases List.mem_cons.mp hx with z | z
    · rw [z]
      exact hv
    · exact ha x z⟩ p2 e2
theorem epi_pure {m : Nat} {x : Int} (h0 : H0 p = none) (h : Ev te σ H0 (.int x)) (hr : EvPA p k2 tr σ H0 (AllI m)) : EvPA p (0 + k2) (tCons te tr) σ H0 (AllI (m + 1)) := epi_cons h0 (ep_is (ep_ev h) fun v _ e => ⟨x, e⟩) hr
theorem allI_at {m : Nat} {vs : List V} (h : AllI m vs) {i : Int} (i0 : 0 ≤ i) (i1 : i < m) : ∃ x : Int, atI vs i = some (.int x) := by
  have hl : i.toNat < vs.length := by rw [h.1]; omega
  obtain ⟨x, hx⟩ := h.2 _ (List.getElem_mem hl)
  refine ⟨x, ?_⟩
  have := atI_nat (xs := vs) (j := i.toNat) (v := .int x) (by rw [List.getElem?_eq_getElem hl, hx])
  rwa [Int.toNat_of_nonneg i0] at this
/-- [.., ..][a draw] -/
theorem epi_ix {m : Nat} (h0 : H0 p = none) (hm : m ≤ 100) (ha : EvPA p k1 tr σ H0 (AllI m)) (hb : EvP p k2 tb σ H0 (fun v _ => ∃ r : Int, v = .int r ∧ 0 ≤ r ∧ r < m)) : EvP p (k1 + k2) (tOp (rIxL K) (tLst tr) tb) σ H0 (fun v _ => ∃ x : Int, v = .int x) :=
  ep_ix (A := fun v => ∃ x : Int, v = .int x) (ix := fun v => ∃ r : Int, v = .int r ∧ 0 ≤ r ∧ r < m) (C := AllI m) h0 (ep_lst ha fun vs h => by rw [h.1]; omega) hb fun vs v h ⟨r, e, r0, r1⟩ => by
    obtain ⟨x, hx⟩ := allI_at h r0 r1
    exact ⟨r, .int x, e, hx, x, rfl⟩
/-- xs[a draw], xs an old list -/
theorem ep_ixO {l : Addr} {vs : List V} {m i : Nat} (h0 : H0 p = none) (hv : AllI m vs) (hs : σ[i]? = some (some (.ref l))) (lp : l ≠ p) (hl : H0 l = some (.lst vs)) (hb : EvP p k tb σ H0 (fun v _ => ∃ r : Int, v = .int r ∧ 0 ≤ r ∧ r < m)) : EvP p (0 + k) (tOp (rIxL K) (tVar i) tb) σ H0 (fun v _ => ∃ x : Int, v = .int x) :=
  ep_op (Ra := fun x H => x = .ref l ∧ H l = some (.lst vs)) (Rb := fun v _ => ∃ r : Int, v = .int r ∧ 0 ≤ r ∧ r < m) h0 (fun n H1 e hp _ Q q => ⟨_, hs, q _ H1 ⟨rfl, e l _ hl⟩ hp (hm_of (Ex.refl _))⟩) hb (fun v G G' ⟨e, h⟩ s => ⟨e, hm_at s lp h⟩) stb_c fun x y G ⟨e1, h1⟩ ⟨r, e2, r0, r1⟩ => by
    obtain ⟨z, hz⟩ := allI_at hv r0 r1
    subst e1
    subst e2
    exact ⟨_, ⟨z, rfl⟩, rv_ixL (sq_of h1) hz⟩
theorem ep_subI {c : Int} (h0 : H0 p = none) (ha : EvP p k ta σ H0 (fun v _ => ∃ r : Int, v = .int r)) (hb : Ev tb σ H0 (.int c)) : EvP p (k + 0) (tOp (rI0 fun i j => .int (i - j)) ta tb) σ H0 (fun v _ => ∃ x : Int, v = .int x) :=
  ep_op h0 ha (ep_ev hb) stb_c stb_c fun x y H ⟨r, e1⟩ e2 => ⟨.int (r - c), ⟨_, rfl⟩, by
    subst e1
    subst e2
    exact rv_I0⟩
theorem ep_addI {c : Int} (h0 : H0 p = none) (ha : Ev ta σ H0 (.int c)) (hb : EvP p k tb σ H0 (fun v _ => ∃ r : Int, v = .int r)) : EvP p (0 + k) (tOp (rI0 fun i j => .int (i + j)) ta tb) σ H0 (fun v _ => ∃ x : Int, v = .int x) :=
  ep_op h0 (ep_ev ha) hb stb_c stb_c fun x y H e1 ⟨r, e2⟩ => ⟨.int (c + r), ⟨_, rfl⟩, by
    subst e1
    subst e2
    exact rv_I0⟩
/-- a, b = two draws, a new tuple between -/
theorem pq_tup2 {n i j : Nat} {A B : V → Prop} (h0 : H0 p = none) (h1 : EvP p k1 ta σ H0 (fun v _ => A v)) (h2 : EvP p k2 tb σ H0 (fun v _ => B v)) (e : Ex H0 H) (hp : Po p n H) (hn : n + (k1 + k2) ≤ 1000000000)
    (q : ∀ u v H2, A u → B v → Po p (n + (k1 + k2)) H2 → Ex (Hm p H) H2 → tz D ((σ.set i (some u)).set j (some v)) H2) : tSeq (tAsg (tTup (tCons ta (tCons tb tNil))) (gTup K 2 (gCons (gName i) (gCons (gName j) gNil)))) tz D σ H :=
  h1 n H e hp (by omega) _ fun u H1 au p1 e1 => h2 (n + k1) H1 (hm_next h0 e e1) p1 (by omega) _ fun v H2 bv p2 e2 => ⟨sz_of (by simp), fun t ht =>
    ⟨t, [u, v], rfl, st_of upd_same, rfl, u, [v], rfl, v, [], rfl, rfl, q u v _ au bv (by rw [← Nat.add_assoc]; exact p2.ex (Ex.new ht)) (hm_trans e1 (hm_trans e2 (hm_of (Ex.new ht))))⟩⟩
end


local macro_rules | `(tactic| walk_at "call") => `(tactic| (with_reducible exact sv_whole))

/-! ### _law_is_sizes, _law_is_allowed -/
theorem none_oddP (g : PyData → Bool) : ∀ ds : List PyData, (ds.filter fun d => !g d).isEmpty = ds.all g
  | [] => rfl
  | d :: r => by
    have ih := none_oddP g r
    cases hi : g d
    · simp [List.filter_cons, hi]
    · rw [List.filter_cons, hi, List.all_cons, hi]
      exact ih
section
variable {K : PySem.W.Frag} {σ : L2.St} {H : Hp} {ta : TE} {t : TT}
/-- isinstance(v, bool) or not isinstance(v, int) or what is asked of an int -/
theorem et_noIntP {v : V} {d : PyData} {g : PyData → Bool} (h : Ev ta σ H v) (hv : It K H v d) (hg : ∀ d, isI d = false → g d = false) (ht : ∀ i, d = .int i → EvT t σ H (!g d)) : EvT (tOr (tB (tCB (rIsi K) (tCons ta (tCons (tC (.ty "bool")) tNil)))) (tOr (tNot (tB (tCB (rIsi K) (tCons ta (tCons (tC (.ty "int")) tNil))))) t)) σ H (!g d) := by
  have one : Ev (tCB (rIsi K) (tCons ta (tCons (tC (.ty "bool")) tNil))) σ H (.bl (isB d)) := fun H1 e Q q => h H1 e _ fun H2 e2 => by
    obtain ⟨n, ht, hb⟩ := it_isB (hv.ex (e.trans e2))
    exact ⟨v, .ty "bool", _, .type "bool", _, rfl, .ty "bool", ht, hb, q H2 e2⟩
  have two : Ev (tCB (rIsi K) (tCons ta (tCons (tC (.ty "int")) tNil))) σ H (.bl (isI d || isB d)) := fun H1 e Q q => h H1 e _ fun H2 e2 => by
    obtain ⟨n, ht, hb⟩ := it_isI (hv.ex (e.trans e2))
    exact ⟨v, .ty "int", _, .type "int", _, rfl, .ty "int", ht, hb, q H2 e2⟩
  cases hi : isI d with
  | true =>
    obtain ⟨i, rfl⟩ : ∃ i, d = .int i := by
      cases d with
      | int i => exact ⟨i, rfl⟩
      | _ => exact Bool.noConfusion hi
    exact et_is (et_or (et_B one) fun _ => et_or (et_not (et_B two)) fun _ => ht i rfl) rfl
  | false =>
    refine et_is (et_or (et_B one) fun _ => et_or (b := false) (et_not (et_B two)) fun z => ?_) ?_
    · rename_i z2
      rw [hi, z2] at z
      exact Bool.noConfusion z
    · rw [hg d hi, hi]
      cases isB d <;> rfl
end
section
variable {P : Program} {w : World} {K : PySem.W.Frag} {mg : Str → Option Value} {base : Heap}
/-- what a comprehension over a list of things leaves -/
theorem ed_left {σ : L2.St} {H : Hp} {a : Addr} {xs : List V} {ds : List PyData} {t : TT} {g : PyData → Bool} (ha : H a = some (.lst xs)) (h0 : σ[0]? = some (some (.ref a))) (hw : ∀ x, wipe ((wipe σ [1]).set 1 (some x)) [1] = wipe σ [1]) (h1 : ∀ x, ((wipe σ [1]).set 1 (some x))[1]? = some (some x)) (hd : ItAll K H xs ds) (hl : xs.length ≤ 40000)
    (ht : ∀ x d H1, Ex H H1 → It K H1 x d → EvT t ((wipe σ [1]).set 1 (some x)) H1 (!g d)) : EvD K (tLc (iList K (tVar 0)) (gName 1) t (tVar 1) [1]) σ H (.list (ds.filter fun d => !g d)) := by
  have g2 := el_lcL (K := K) (te := tVar 1) (j := 1) (vs := [1]) (σ := σ) (H := H) (t := t) (fun i => !g (ds.getD i .none)) (fun i => xs.getD i .non) (ev_var h0) (sq_of ha) hl hw (fun i x H2 e2 hx => ?_) (fun i x H2 e2 hx _ => ?_)
  · exact ed_ofL g2 (ita_given hd fun d => !g d).dp
  · obtain ⟨d, hd1, hd2⟩ := ita_get hd hx
    have gd : ds.getD i .none = d := by rw [List.getD_eq_getElem?_getD, hd1] <;> rfl
    show EvT _ _ _ (!g (ds.getD i .none))
    rw [gd]
    exact ht x d H2 e2 (hd2.ex e2)
  · have gx : xs.getD i .non = x := by rw [List.getD_eq_getElem?_getD, hx] <;> rfl
    show Ev _ _ _ (xs.getD i .non)
    rw [gx]
    exact ev_var (h1 x)
theorem ok_law_is_sizes (T : Tx K mg) : FnOk P w K mg base CX0 1 T.f_law_is_sizes T.d_law_is_sizes ["item"] (sp_anyZ K) := by
  refine T.F_law_is_sizes.ok sc_law_is_sizes (fun vs H Q E h => ?_) (fun cdv A outer s H vs Q E hr h => ?_)
  · obtain ⟨v, o, rfl, _⟩ := h
    rfl
  · obtain ⟨v, o, rfl, ⟨hv, hz⟩, k⟩ := h
    refine ⟨_, (pss_cons (ps_if (pt_not (pt_val (pe_callB call_isi (by rfl) T.m_isinstance (by decide +kernel) (pa_cons (pv 0) (pa_cons (pe_bltn (v := .ty "list") (by rfl) T.m_list (by decide +kernel) rfl) pa_nil))))) (pss_one (ps_ret pe_bl)) pss_nil)
      (pss_cons (ps_if (pt_cmpR (op_neD hr.units) (pe_lc (own := [("one", 1)]) (g := (gName 1)) rfl sc_law_is_sizes.nd (pi_list (pv 0)) (blkOk_by (own := [("one", 1)]) (N := n_law_is_sizes) (sc := defScope s_law_is_sizes) (by decide +kernel)) (fun _ _ _ _ _ => (pg_name (i := 1) sc_law_is_sizes.nd rfl (Or.inl rfl))) (fun _ _ _ _ _ => (pts_one (PW.pt (pw_or (pt_val (pe_callB (id := "isinstance") (r := rIsi K) call_isi (by rfl) T.m_isinstance (by decide +kernel) (pa_cons (pv 1) (pa_cons (pe_bltn (v := .ty "bool") (by rfl) T.m_bool (by decide +kernel) rfl) pa_nil)))) (pw_or (pt_not (pt_val (pe_callB (id := "isinstance") (r := rIsi K) call_isi (by rfl) T.m_isinstance (by decide +kernel) (pa_cons (pv 1) (pa_cons (pe_bltn (v := .ty "int") (by rfl) T.m_int (by decide +kernel) rfl) pa_nil))))) (pw_or1 (pt_cmpR op_lt (pv 1) pe_int (nomark _)))))))) (fun _ _ _ _ _ => (pv 1))) (pe_lst pa_nil) (nomark _)) (pss_one (ps_ret pe_bl)) pss_nil)
      (pss_one (ps_ret (pe_chain op_le op_le pe_int (pe_callB (cr_sum rfl) (by rfl) T.m_sum (by decide +kernel) (pa_cons (pv 0) pa_nil)) pe_int))))), ?_⟩
    refine q_when (b := !o.isSome) (et_is (et_not (et_B (ev_isList (ev_var rfl) hv))) rfl) (fun hb H1 e1 => ?_) fun hb H1 e1 => ?_
    · cases o with
      | none => exact s_ret ev_c fun H2 e2 => k _ (e1.trans e2)
      | some ds => exact Bool.noConfusion hb
    · cases o with
      | none => exact Bool.noConfusion hb
      | some ds =>
        have hz : ds.length ≤ 60 := hz
        cases hv with
        | @lst a xs _ ha hd hf =>
          have hl : xs.length = ds.length := hd.len
          have h1 := e1 a _ ha
          have fs : SeqAt.shaped (.list (ds.filter fun d => !posI d)) = true := (hf.sub fun x hx => (List.mem_filter.mp hx).1).shaped
          refine q_when (b := !(ds.all posI)) (et_is (et_test (ev_neD (ed_left (g := posI) h1 rfl (fun _ => rfl) (fun _ => rfl) (hd.ex e1) (by omega) fun x d H2 e2 hx => et_noIntP (ev_var rfl) hx (fun d hd => by cases d <;> first | rfl | exact Bool.noConfusion hd) fun i hi => ?_) (ed_lst eda_nil (by decide)) fs shaped_nil)) (by rw [eqv_nilD, none_oddP])) (fun hb2 H2 e2 => ?_) fun hb2 H2 e2 => ?_
          · subst hi
            cases hx
            refine et_is (et_test (ev_op (ev_var rfl) ev_c rv_I0)) ?_
            show decide (i < 1) = !decide (i ≥ 1)
            rw [Bool.eq_iff_iff]
            simp
          · have hb2 : ds.all posI = false := by simpa using hb2
            have ej : judgeZ (some ds) = false := by
              show (ds.all posI && _) = false
              rw [hb2]
              rfl
            rw [ej] at k
            exact s_ret ev_c fun H3 e3 => k _ (e1.trans (e2.trans e3))
          · have hb2 : ds.all posI = true := by simpa using hb2
            have ex := ints_of hd (pos_isI hb2)
            have ej : judgeZ (some ds) = (decide (1 ≤ (intsOf ds).sum) && decide ((intsOf ds).sum ≤ 20)) := by
              show (ds.all posI && _) = _
              rw [hb2]
              rfl
            rw [ej] at k
            have h2 := e2 a _ h1
            rw [ex] at h2
            have sm : Ev (tCB (rSum K) (tCons (tVar 0) tNil)) (start n_law_is_sizes [.ref a]) H2 (.int (intsOf ds).sum) := fun H2 e Q q => ev_var (i := 0) (v := .ref a) rfl H2 e _ fun H3 e3 => ⟨a, intsOf ds, rfl, sq_of (e3 a _ (e a _ h2)), q H3 e3⟩
            exact s_ret (ev_chainI ev_c sm ev_c) fun H3 e3 => k _ (e1.trans (e2.trans e3))
end

def sp_allow (K : PySem.W.Frag) : Sp := fun vs H Q _ => ∃ (v : V) (o : Option (List PyData)), vs = [v] ∧ ThS K H v o ∧ RetV (.bl (judgeA o)) H Q
theorem sv_allow {K : PySem.W.Frag} {H : Hp} {v : V} {o : Option (List PyData)} (hv : ThS K H v o) : SpV (sp_allow K) ([v] ++ []) H (.bl (judgeA o)) := fun H1 e Q q E => ⟨v, o, rfl, hv.ex e, q⟩
theorem inD_all {ds : List PyData} (hb2 : ds.all (inD 1 20) = true) : ds.all isI = true ∧ ∀ x ∈ intsOf ds, 1 ≤ x ∧ x ≤ 20 := by
  refine ⟨?_, fun x hx => ?_⟩
  · rw [List.all_eq_true] at hb2 ⊢
    intro d hd
    have := hb2 d hd
    cases d with
    | int i => rfl
    | _ => exact Bool.noConfusion this
  · unfold intsOf at hx
    obtain ⟨d, hd, rfl⟩ := List.mem_map.mp hx
    have := List.all_eq_true.mp hb2 d hd
    cases d with
    | int i =>
      have : (decide ((1 : Int) ≤ i) && decide (i ≤ 20)) = true := this
      simp at this
      exact this
    | _ => exact Bool.noConfusion this
section
variable {P : Program} {w : World} {K : PySem.W.Frag} {mg : Str → Option Value} {base : Heap}
theorem ok_law_is_allowed (T : Tx K mg) : FnOk P w K mg base CX0 1 T.f_law_is_allowed T.d_law_is_allowed ["item"] (sp_allow K) := by
  refine T.F_law_is_allowed.ok sc_law_is_allowed (fun vs H Q E h => ?_) (fun cdv A outer s H vs Q E hr h => ?_)
  · obtain ⟨v, o, rfl, _⟩ := h
    rfl
  · obtain ⟨v, o, rfl, ⟨hv, hz⟩, k⟩ := h
    refine ⟨_, (pss_cons (ps_if (PW.pt (pw_or (pt_not (pt_val (pe_callB call_isi (by rfl) T.m_isinstance (by decide +kernel) (pa_cons (pv 0) (pa_cons (pe_bltn (v := .ty "list") (by rfl) T.m_list (by decide +kernel) rfl) pa_nil))))) (pw_or1 (pt_cmpR (op_eqD hr.units) (pv 0) (pe_lst pa_nil) (nomark _))))) (pss_one (ps_ret pe_bl)) pss_nil)
      (pss_cons (ps_if (pt_cmpR (op_neD hr.units) (pe_lc (own := [("one", 1)]) (g := (gName 1)) rfl sc_law_is_allowed.nd (pi_list (pv 0)) (blkOk_by (own := [("one", 1)]) (N := n_law_is_allowed) (sc := defScope s_law_is_allowed) (by decide +kernel)) (fun _ _ _ _ _ => (pg_name (i := 1) sc_law_is_allowed.nd rfl (Or.inl rfl))) (fun _ _ _ _ _ => (pts_one (PW.pt (pw_or (pt_val (pe_callB (id := "isinstance") (r := rIsi K) call_isi (by rfl) T.m_isinstance (by decide +kernel) (pa_cons (pv 1) (pa_cons (pe_bltn (v := .ty "bool") (by rfl) T.m_bool (by decide +kernel) rfl) pa_nil)))) (pw_or (pt_not (pt_val (pe_callB (id := "isinstance") (r := rIsi K) call_isi (by rfl) T.m_isinstance (by decide +kernel) (pa_cons (pv 1) (pa_cons (pe_bltn (v := .ty "int") (by rfl) T.m_int (by decide +kernel) rfl) pa_nil))))) (pw_or1 (pt_not (pt_chain op_le op_le pe_int (pv 1) pe_int)))))))) (fun _ _ _ _ _ => (pv 1))) (pe_lst pa_nil) (nomark _)) (pss_one (ps_ret pe_bl)) pss_nil)
      (pss_one (ps_ret (pe_cmpR (op_eqD hr.units) (pv 0) (pe_callB (id := "sorted") (r := rSortedSet _) (cr_sortedSet rfl) (by rfl) T.m_sorted (by decide +kernel) (pa_cons (pe_callTy (r := rSetI _ _) (cr_setI rfl) (by rfl) T.m_set (by decide +kernel) (pa_cons (pv 0) pa_nil)) pa_nil)) (nomark _)))))), ?_⟩
    cases o with
    | none =>
      refine q_when (b := true) (et_is (et_or (b := false) (et_not (et_B (ev_isList (ev_var rfl) hv))) fun z => Bool.noConfusion z) rfl) (fun _ H1 e1 => ?_) fun hb => Bool.noConfusion hb
      exact s_ret ev_c fun H2 e2 => k _ (e1.trans e2)
    | some ds =>
      have hv0 := hv
      have hz : ds.length ≤ 60 := hz
      cases hv with
      | @lst a xs _ ha hd hf =>
        have hl : xs.length = ds.length := hd.len
        refine q_when (b := ds.isEmpty) (et_is (et_or (et_not (et_B (ev_isList (ev_var rfl) hv0))) fun _ => et_test (ev_eqD (ed_of (ev_var rfl) (.lst (sq_of ha) hd.dp)) (ed_lst eda_nil (by decide)) hf.shaped shaped_nil)) (by rw [eqv_nilD]; rfl)) (fun hb H1 e1 => ?_) fun hb H1 e1 => ?_
        · have ej : judgeA (some ds) = false := by
            cases ds with
            | nil => rfl
            | cons d r => exact Bool.noConfusion hb
          rw [ej] at k
          exact s_ret ev_c fun H2 e2 => k _ (e1.trans e2)
        · have h1 := e1 a _ ha
          have hn : decide (ds.length = 0) = false := by
            cases ds with
            | nil => exact Bool.noConfusion hb
            | cons d r => rfl
          have fs : SeqAt.shaped (.list (ds.filter fun d => !inD 1 20 d)) = true := (hf.sub fun x hx => (List.mem_filter.mp hx).1).shaped
          refine q_when (b := !(ds.all (inD 1 20))) (et_is (et_test (ev_neD (ed_left (g := inD 1 20) h1 rfl (fun _ => rfl) (fun _ => rfl) (hd.ex e1) (by omega) fun x d H2 e2 hx => et_noIntP (ev_var rfl) hx (fun d hd => by cases d <;> first | rfl | exact Bool.noConfusion hd) fun i hi => ?_) (ed_lst eda_nil (by decide)) fs shaped_nil)) (by rw [eqv_nilD, none_oddP])) (fun hb2 H2 e2 => ?_) fun hb2 H2 e2 => ?_
          · subst hi
            cases hx
            exact et_is (et_not (et_test (ev_chainI ev_c (ev_var rfl) ev_c))) rfl
          · have hb2 : ds.all (inD 1 20) = false := by simpa using hb2
            have ej : judgeA (some ds) = false := by
              show (!decide (ds.length = 0) && (ds.all (inD 1 20) && _)) = false
              rw [hn, hb2]
              rfl
            rw [ej] at k
            exact s_ret ev_c fun H3 e3 => k _ (e1.trans (e2.trans e3))
          · have hb2 : ds.all (inD 1 20) = true := by simpa using hb2
            obtain ⟨ai, bd⟩ := inD_all hb2
            have ex := ints_of hd ai
            have il : (intsOf ds).length = ds.length := by simp [intsOf]
            have ej : judgeA (some ds) = PyData.eqv (.list ((intsOf ds).map PyData.int)) (.list ((upTo (intsOf ds)).map PyData.int)) := by
              show (!decide (ds.length = 0) && (ds.all (inD 1 20) && _)) = _
              rw [hn, hb2]
              rfl
            rw [ej] at k
            have h2 := e2 a _ h1
            rw [ex] at h2
            exact s_ret (ev_eqD (ed_of (ev_var rfl) (.lst (sq_of h2) (dpa_ints _))) (ed_ofL (el_sortSet (ev_var rfl) (sq_of h2) (by omega) (upTo_asc _) (upTo_mem bd)) (dpa_ints _)) (shaped_ints _) (shaped_ints _)) fun H3 e3 => k _ (e1.trans (e2.trans e3))
end


local macro_rules | `(tactic| walk_at "call") => `(tactic| (with_reducible exact sv_whole))

/-! ### _law_odd -/
def AZ (K : PySem.W.Frag) (H : Hp) (v : V) : Prop := ∃ o, ThS K H v o
theorem AZ.ex {K : PySem.W.Frag} {H H' : Hp} {v : V} (e : Ex H H') (h : AZ K H v) : AZ K H' v := h.imp fun o x => x.ex e
section
variable {K : PySem.W.Frag} {σ : L2.St} {H : Hp} {te ta tb : TE} {t tr : TA} {D : Ends} {tz : TS}
def EvZ (K : PySem.W.Frag) (te : TE) (σ : L2.St) (H : Hp) : Prop := ∀ H1, Ex H H1 → ∀ Q : VK, (∀ v H2, Ex H1 H2 → AZ K H2 v → Q v H2) → te σ H1 Q
def EaZ (K : PySem.W.Frag) (ta : TA) (σ : L2.St) (H : Hp) (n : Nat) : Prop := ∀ H1, Ex H H1 → ∀ Q : List V → Hp → Prop, (∀ vs H2, Ex H1 H2 → vs.length = n → (∀ v ∈ vs, AZ K H2 v) → Q vs H2) → ta σ H1 Q
theorem zz_non (h : Ev te σ H .non) : EvZ K te σ H := fun H1 e Q q => h H1 e Q fun H2 e2 => q _ H2 e2 ⟨_, .non, Nat.zero_le _⟩
theorem zz_bl {b : Bool} (h : Ev te σ H (.bl b)) : EvZ K te σ H := fun H1 e Q q => h H1 e Q fun H2 e2 => q _ H2 e2 ⟨_, .bl b, Nat.zero_le _⟩
theorem zz_int {i : Int} (h : Ev te σ H (.int i)) : EvZ K te σ H := fun H1 e Q q => h H1 e Q fun H2 e2 => q _ H2 e2 ⟨_, .int i, Nat.zero_le _⟩
theorem zz_str {x : Str} (h : Ev te σ H (.str x)) : EvZ K te σ H := fun H1 e Q q => h H1 e Q fun H2 e2 => q _ H2 e2 ⟨_, .str x, Nat.zero_le _⟩
theorem zz_U {xs : List V} (h : EvU te σ H xs) : EvZ K te σ H := fun H1 e Q q => h H1 e Q fun p H2 _ e2 h2 => q _ H2 e2 ⟨_, .tup h2, Nat.zero_le _⟩
theorem zz_dnew : EvZ K tDNewK σ H := fun H1 e Q q p hp => q _ _ (Ex.new hp) ⟨_, .dct upd_same, Nat.zero_le _⟩
theorem zz_I {xs : List V} (h : EvL te σ H xs) (hi : ∀ v ∈ xs, Itm K H v) (hl : xs.length ≤ 60) : EvZ K te σ H := fun H1 e Q q => h H1 e Q fun p H2 _ e2 h2 => q _ H2 e2 (by
  obtain ⟨ds, d, f⟩ := ita_all hi
  have := d.len
  exact ⟨_, .lst h2 (d.ex (e.trans e2)) f, by show ds.length ≤ 60; omega⟩)
theorem zz_D {ds : List PyData} (h : EvIA K t σ H ds) (hf : Fine ds) (hl : ds.length ≤ 60) : EvZ K (tLst t) σ H := fun H1 e Q q => h H1 e _ fun vs H2 e2 hv => ⟨sz_of (by have := hv.len; omega), fun p hp => q _ _ (e2.trans (Ex.new hp)) ⟨_, .lst upd_same (hv.ex (Ex.new hp)) hf, hl⟩⟩
theorem zza_nil : EaZ K tNil σ H 0 := fun H1 _ _ q => q [] H1 (Ex.refl H1) rfl (by simp)
theorem zza_cons {n : Nat} (h : EvZ K te σ H) (hr : EaZ K tr σ H n) : EaZ K (tCons te tr) σ H (n + 1) := fun H1 e _ q =>
  h H1 e _ fun v H2 e2 hv => hr H2 (e.trans e2) _ fun vs H3 e3 hl hvs => q (v :: vs) H3 (e2.trans e3) (by simp [hl]) fun x hx => by
    rcases List.mem_cons.mp hx with z | z
    · rw [z]
      exact hv.ex e3
    · exact hvs x z
def EvZL (K : PySem.W.Frag) (te : TE) (σ : L2.St) (H : Hp) (n : Nat) : Prop := ∀ H1, Ex H H1 → ∀ Q : VK, (∀ p vs H2, H1 p = none → Ex H1 H2 → H2 p = some (.lst vs) → vs.length = n → (∀ v ∈ vs, AZ K H2 v) → Q (.ref p) H2) → te σ H1 Q
theorem zl_lst {n : Nat} (h : EaZ K t σ H n) (hn : n ≤ 100000) : EvZL K (tLst t) σ H n := fun H1 e Q q =>
  h H1 e _ fun vs H2 e2 hl hv => ⟨sz_of (by omega), fun p hp => q p vs _ (fresh_back e2 hp) (e2.trans (Ex.new hp)) upd_same hl fun v z => (hv v z).ex (Ex.new hp)⟩
theorem zl_cat {a : Addr} {xs : List V} {n : Nat} (h : Ev ta σ H (.ref a)) (ha : H a = some (.lst xs)) (hx : ∀ v ∈ xs, AZ K H v) (h2 : EvZL K tb σ H n) (hz : xs.length + n ≤ 1000) : EvZL K (tOp rCat ta tb) σ H (xs.length + n) := fun H1 e Q q =>
  h H1 e _ fun H2 e2 => h2 H2 (e.trans e2) _ fun p vs H3 _ e3 h3 hl hv =>
    ⟨a, p, xs, vs, rfl, rfl, e3 a _ (e2 a _ (e a _ ha)), h3, sz_of (by omega), fun l hl' => q l _ _ (fresh_back (e2.trans e3) hl') ((e2.trans e3).trans (Ex.new hl')) upd_same (by rw [List.length_append, hl]) fun v z => by
      rcases List.mem_append.mp z with z | z
      · exact (hx v z).ex (e.trans (e2.trans (e3.trans (Ex.new hl'))))
      · exact (hv v z).ex (Ex.new hl')⟩
theorem q_asgZL {i n : Nat} (h : EvZL K te σ H n) (q : ∀ b vs H1, H b = none → Ex H H1 → H1 b = some (.lst vs) → vs.length = n → (∀ v ∈ vs, AZ K H1 v) → tz D (σ.set i (some (.ref b))) H1) : tSeq (tAsg te (gName i)) tz D σ H := h H (Ex.refl H) _ q
theorem s_retZL {n : Nat} (h : EvZL K te σ H n) (q : ∀ b vs H1, H b = none → Ex H H1 → H1 b = some (.lst vs) → vs.length = n → (∀ v ∈ vs, AZ K H1 v) → D.rt (.ref b) H1) : tRet te D σ H := h H (Ex.refl H) _ q
end


local macro_rules | `(tactic| walk_at "call") => `(tactic| (with_reducible exact sv_whole))

section
variable {K : PySem.W.Frag} {σ : L2.St} {H0 H : Hp} {tb t1 t2 t3 t4 t5 t6 t7 t8 t9 : TE} {D : Ends} {tz : TS} {p : Addr}
/-- [0, -1, None, '1', [1], z, True, 20, 21][a draw] -/
theorem pq_odd9 {n i : Nat} {x1 x2 x6 x8 x9 : Int} {z : Str} (h0 : H0 p = none) (hz : ∀ G, Itm K G (.str z)) (a1 : Ev t1 σ H0 (.int x1)) (a2 : Ev t2 σ H0 (.int x2)) (a3 : Ev t3 σ H0 .non) (a4 : Ev t4 σ H0 (.str z)) (a5 : EvL t5 σ H0 (nv [1])) (a6 : Ev t6 σ H0 (.int x6)) (a7 : Ev t7 σ H0 (.bl true)) (a8 : Ev t8 σ H0 (.int x8)) (a9 : Ev t9 σ H0 (.int x9))
    (hd : EvP p 1 tb σ H0 (fun v _ => ∃ r, v = .int r ∧ 0 ≤ r ∧ r < 9)) (e : Ex H0 H) (hp : Po p n H) (hn : n + 1 ≤ 1000000000) (q : ∀ v H2, Itm K H2 v → Po p (n + 1) H2 → Ex (Hm p H) H2 → tz D (σ.set i (some v)) H2) :
    tSeq (tAsg (tOp (rIxL K) (tLst (tCons t1 (tCons t2 (tCons t3 (tCons t4 (tCons t5 (tCons t6 (tCons t7 (tCons t8 (tCons t9 tNil)))))))))) tb) (gName i)) tz D σ H :=
  a1 H e _ fun H1 e1 => a2 H1 (e.trans e1) _ fun H2 e2 => a3 H2 ((e.trans e1).trans e2) _ fun H3 e3 => a4 H3 (((e.trans e1).trans e2).trans e3) _ fun H4 e4 => a5 H4 ((((e.trans e1).trans e2).trans e3).trans e4) _ fun l5 H5 hl5 e5 h5 =>
    a6 H5 (((((e.trans e1).trans e2).trans e3).trans e4).trans e5) _ fun H6 e6 => a7 H6 ((((((e.trans e1).trans e2).trans e3).trans e4).trans e5).trans e6) _ fun H7 e7 => a8 H7 (((((((e.trans e1).trans e2).trans e3).trans e4).trans e5).trans e6).trans e7) _ fun H8 e8 => a9 H8 ((((((((e.trans e1).trans e2).trans e3).trans e4).trans e5).trans e6).trans e7).trans e8) _ fun H9 e9 => ⟨sz_of (Nat.le_of_ble_eq_true rfl), fun l hl => by
      have e59 := e6.trans (e7.trans (e8.trans e9))
      have e16 := e1.trans (e2.trans (e3.trans (e4.trans (e5.trans e59))))
      have p6 : Po p n (upd H9 l (.lst [V.int x1, V.int x2, V.non, V.str z, V.ref l5, V.int x6, V.bl true, V.int x8, V.int x9])) := (hp.ex e16).ex (Ex.new hl)
      have lp := (hp.ex e16).ne hl
      have l5p := ((hp.ex e1).ex (e2.trans (e3.trans e4))).ne hl5
      refine hd n _ ((e.trans e16).trans (Ex.new hl)) p6 hn _ fun v HB hv p7 e7 => ?_
      obtain ⟨r, rfl, r0, r1⟩ := hv
      have h7 := hm_at e7 lp upd_same
      have h57 := hm_at e7 l5p ((Ex.new hl) l5 _ (e59 l5 _ h5))
      have fin : ∀ y, atI [V.int x1, .int x2, .non, .str z, .ref l5, .int x6, .bl true, .int x8, .int x9] r = some y → Itm K HB y → rIxL K (.ref l) (.int r) HB fun v H8 => tz D (σ.set i (some v)) H8 := fun y hy it => ⟨l, _, r, y, rfl, rfl, sq_of h7, hy, q y HB it p7 (hm_trans (hm_of (e16.trans (Ex.new hl))) e7)⟩
      have : r = 0 ∨ r = 1 ∨ r = 2 ∨ r = 3 ∨ r = 4 ∨ r = 5 ∨ r = 6 ∨ r = 7 ∨ r = 8 := by omega
      rcases this with rfl | rfl | rfl | rfl | rfl | rfl | rfl | rfl | rfl
      · exact fin _ rfl (itm_int _)
      · exact fin _ rfl (itm_int _)
      · exact fin _ rfl itm_non
      · exact fin _ rfl (hz _)
      · exact fin _ rfl (itm_row h57)
      · exact fin _ rfl (itm_int _)
      · exact fin _ rfl (itm_bl _)
      · exact fin _ rfl (itm_int _)
      · exact fin _ rfl (itm_int _)⟩
end
def sp_law_odd (K : PySem.W.Frag) : Sp := fun vs H Q _ => ∃ (p a : Addr) (n : Nat) (s : List Nat), vs = [.ref p, .ref a] ∧ Po p n H ∧ n + 2 < 1000000000 ∧ a ≠ p ∧ H a = some (.lst (nv s)) ∧ (1 ≤ s.length ∧ s.length ≤ 20) ∧
  ∀ l ws H', H' l = some (.lst ws) → (∀ v ∈ ws, AZ K H' v) → Po p (n + 2) H' → Ex (Hm p H) H' → Q (.ref l) H'
section
variable {P : Program} {w : World} {K : PySem.W.Frag} {mg : Str → Option Value} {base : Heap}
theorem itm_lit {G : Hp} : Itm K G (.str (Str.ofString "1")) := ⟨_, .str _, by decide +kernel, Nat.zero_le _⟩
theorem itm_all {G : Hp} {xs : List Int} : ∀ v ∈ xs.map V.int, Itm K G v := fun v hv => by
  obtain ⟨x, _, rfl⟩ := List.mem_map.mp hv
  exact itm_int _
theorem ok_law_odd (T : Tx K mg) : FnOk P w K mg base CX0 2 T.f_law_odd T.d_law_odd ["pouch", "row"] (sp_law_odd K) := by
  refine T.F_law_odd.ok sc_law_odd (fun vs H Q E h => ?_) (fun cdv A outer s H vs Q E hr h => ?_)
  · obtain ⟨p, a, n, h, rfl, _⟩ := h
    rfl
  · obtain ⟨p, a, n, h, rfl, hpo, hn, ap, ha, o2, k⟩ := h
    refine ⟨_, (pss_cons (ps_set (i := 2) sc_law_odd.nd rfl (Or.inl rfl) (pe_call (ok_law_dip T) (hr.mono (by decide)) (by rfl) T.g_law_dip T.F_law_dip.kp T.b_law_dip .nil pass0 (pa_cons (pv 0) (pa_cons (pe_callB call_lenR (by rfl) T.m_len (by decide +kernel) (pa_cons (pv 1) pa_nil)) pa_nil))))
      (pss_cons (ps_set (i := 3) sc_law_odd.nd rfl (Or.inl rfl) (pe_ix ix_list (pe_lst (pa_cons pe_int (pa_cons (pe_un un_neg pe_int) (pa_cons pe_non (pa_cons pe_str (pa_cons (pe_lst (pa_cons pe_int pa_nil)) (pa_cons (pe_op op_powX pe_int pe_int) (pa_cons pe_bl (pa_cons pe_int (pa_cons pe_int pa_nil)))))))))) (pe_call (ok_law_dip T) (hr.mono (by decide)) (by rfl) T.g_law_dip T.F_law_dip.kp T.b_law_dip .nil pass0 (pa_cons (pv 0) (pa_cons pe_int pa_nil))) (fun _ _ => rfl)))
      (pss_cons (ps_set (i := 4) sc_law_odd.nd rfl (Or.inl rfl) (pe_lst (pa_cons pe_non (pa_cons pe_bl (pa_cons pe_int (pa_cons pe_str (pa_cons pe_str (pa_cons pe_dnewK (pa_cons (pe_lst pa_nil) (pa_cons (pe_tup (pa_cons pe_int pa_nil)) (pa_cons (pe_callTy call_tupR (by rfl) T.m_tuple (by decide +kernel) (pa_cons (pv 1) pa_nil)) (pa_cons (pe_lst (pa_cons (pv 1) pa_nil)) (pa_cons (pe_lst (pa_cons pe_int pa_nil)) (pa_cons (pe_lst (pa_cons pe_int pa_nil)) (pa_cons (pe_lst (pa_cons pe_int pa_nil)) (pa_cons (pe_op op_rep (pe_lst (pa_cons pe_int pa_nil)) pe_int) (pa_cons (pe_op op_rep (pe_lst (pa_cons pe_int pa_nil)) pe_int) (pa_cons (pe_lst (pa_cons pe_non pa_nil)) pa_nil))))))))))))))))))
      (pss_cons (ps_set (i := 4) sc_law_odd.nd rfl (Or.inl rfl) (pe_op op_cat (pv 4) (pe_lst (pa_cons (pe_op op_cat (pv 1) (pe_lst (pa_cons pe_int pa_nil))) (pa_cons (pe_op op_cat (pe_op op_cat (pe_slice sl_list (pv 1) po_none (po_some (pv 2))) (pe_lst (pa_cons (pv 3) pa_nil))) (pe_slice sl_list (pv 1) (po_some (pe_op op_add (pv 2) pe_int)) po_none)) (pa_cons (pe_lst (pa_cons pe_bl pa_nil)) (pa_cons (pe_lst (pa_cons pe_int (pa_cons pe_bl pa_nil))) (pa_cons (pe_lst (pa_cons pe_int (pa_cons pe_int pa_nil))) (pa_cons (pe_lst (pa_cons pe_int (pa_cons pe_int pa_nil))) (pa_cons (pe_lst (pa_cons pe_int (pa_cons pe_int pa_nil))) pa_nil))))))))))
      (pss_cons (ps_set (i := 4) sc_law_odd.nd rfl (Or.inl rfl) (pe_op op_cat (pv 4) (pe_lst (pa_cons (pe_lst (pa_cons (pe_lst (pa_cons pe_int pa_nil)) pa_nil)) (pa_cons (pe_lst (pa_cons pe_int (pa_cons pe_int pa_nil))) (pa_cons (pe_lst (pa_cons pe_int (pa_cons pe_int pa_nil))) (pa_cons (pe_lst (pa_cons pe_int (pa_cons pe_int (pa_cons pe_int pa_nil)))) (pa_cons (pe_listRg rfl (by rfl) T.m_list (prg_2 (by rfl) T.m_range pe_int pe_int)) (pa_cons (pe_listRg rfl (by rfl) T.m_list (prg_1 (by rfl) T.m_range pe_int)) (pa_cons (pe_lst (pa_cons pe_int (pa_cons pe_int (pa_cons pe_int pa_nil)))) pa_nil))))))))))
      (pss_one (ps_ret (pe_op op_cat (pv 4) (pe_lst (pa_cons (pe_lst (pa_cons (pe_op op_powX pe_int pe_int) pa_nil)) (pa_cons (pe_callB cr_sorted (by rfl) T.m_sorted (by decide +kernel) (pa_cons (pv 1) pa_nil)) pa_nil))))))))))), ?_⟩
    refine pq_asg (p := p) (k := 1) (H0 := Hm p H) (R := fun v _ => ∃ x : Nat, v = .int (x : Int) ∧ x < h.length) (ep_is (ep_dipI (w := (h.length : Int)) hm_p (ev_var (i := 0) rfl) (ev_lenH (i := 1) rfl (hm_in ap ha)) (by omega) (by omega)) fun v H ⟨r, e, r0, r1⟩ => ⟨r.toNat, by rw [e]; exact congrArg V.int (by omega), by omega⟩) hm_sub hpo (by omega) ?_
    rintro _ H1 ⟨sp, rfl, hsp⟩ p1 e1
    have ha1 := hm_at e1 ap ha
    refine pq_odd9 (K := K) (p := p) (H0 := Hm p H1) (x1 := 0) (x2 := -1) (x6 := (10 : Int) ^ (30 : Int).toNat) (x8 := 20) (x9 := 21) (z := "1") hm_p (fun _ => itm_lit) ev_c (ev_un ev_c ru_neg) ev_c ev_c (el_lst (ea_cons ev_c ea_nil) (Nat.le_of_ble_eq_true rfl)) (ev_op ev_c ev_c (rv_I (by constructor <;> decide +kernel))) ev_c ev_c ev_c (ep_dipI (w := 9) hm_p (ev_var rfl) ev_c (by decide) (by decide)) hm_sub p1 (by omega) ?_
    intro od G odG pG e2
    have haG := hm_at e2 ap ha1
    have eG : Ex (Hm p H) G := hm_trans e1 e2
    have lenR : (nv h).length ≤ 20 := by rw [nv_len]; omega
    have row : ∀ {G' : Hp}, Ex G G' → Itm K G' (.ref a) := fun e => itm_row (e a _ haG)
    have one : ∀ {G' : Hp} (i : Int), ∀ v ∈ [V.int i], Itm K G' v := fun i => itm_one (itm_int _)
    have two : ∀ {G' : Hp} (i j : Int), ∀ v ∈ [V.int i, V.int j], Itm K G' v := fun i j => itm_two (itm_int _) (itm_int _)
    have three : ∀ {G' : Hp} (i j l : Int), ∀ v ∈ [V.int i, V.int j, V.int l], Itm K G' v := fun i j l => itm_all (xs := [i, j, l])
    refine q_asgZL (K := K) (n := 16) (zl_lst (zza_cons (zz_non ev_c) (zza_cons (zz_bl ev_c) (zza_cons (zz_int ev_c) (zza_cons (zz_str ev_c) (zza_cons (zz_str ev_c) (zza_cons zz_dnew (zza_cons (zz_I (el_lst ea_nil (Nat.zero_le _)) (by simp) (by simp)) (zza_cons (zz_U (eu_tup (ea_cons ev_c ea_nil) (Nat.le_of_ble_eq_true rfl))) (zza_cons (zz_U (eu_tupOf (K := K) (ev_var rfl) (sq_of haG)))
      (zza_cons (zz_I (el_lst (ea_cons (ev_var rfl) ea_nil) (Nat.le_of_ble_eq_true rfl)) (itm_one (row (Ex.refl _))) (by simp)) (zza_cons (zz_I (el_lst (ea_cons ev_c ea_nil) (Nat.le_of_ble_eq_true rfl)) (one _) (by simp)) (zza_cons (zz_I (el_lst (ea_cons ev_c ea_nil) (Nat.le_of_ble_eq_true rfl)) (one _) (by simp)) (zza_cons (zz_I (el_lst (ea_cons ev_c ea_nil) (Nat.le_of_ble_eq_true rfl)) (one _) (by simp))
      (zza_cons (zz_I (el_rep (k := 20) (el_lst (ea_cons ev_c ea_nil) (Nat.le_of_ble_eq_true rfl)) ev_c (by decide) (by decide) (by simp)) (itm_rep (one 1) 20) (by simp)) (zza_cons (zz_I (el_rep (k := 21) (el_lst (ea_cons ev_c ea_nil) (Nat.le_of_ble_eq_true rfl)) ev_c (by decide) (by decide) (by simp)) (itm_rep (one 1) 21) (by simp)) (zza_cons (zz_I (el_lst (ea_cons ev_c ea_nil) (Nat.le_of_ble_eq_true rfl)) (itm_one itm_non) (by simp)) zza_nil)))))))))))))))) (by decide)) fun f1 ws1 H6 hf1 e6 h6 l6 w6 => ?_
    have ha6 := e6 a _ haG
    refine q_asgZL (K := K) (n := ws1.length + 7) (zl_cat (ev_var rfl) h6 w6 (zl_lst (zza_cons (zz_I (el_catO (ev_var rfl) ha6 (el_lst (ea_cons ev_c ea_nil) (Nat.le_of_ble_eq_true rfl)) (by simp; omega)) (itm_app itm_nv (itm_one (itm_int _))) (by simp; omega))
      (zza_cons (zz_I (el_cat (el_cat (el_sl (K := K) (ev_var rfl) eo_none (eo_some (ev_var rfl)) (sq_of ha6)) (el_lst (ea_cons (ev_var rfl) ea_nil) (Nat.le_of_ble_eq_true rfl)) ?_) (el_sl (K := K) (ev_var rfl) (eo_some (ev_op (ev_var rfl) ev_c rv_I0)) eo_none (sq_of ha6)) ?_) (itm_app (itm_app (itm_cut itm_nv _ _) (itm_one (odG.ex e6))) (itm_cut itm_nv _ _)) ?_)
      (zza_cons (zz_I (el_lst (ea_cons ev_c ea_nil) (Nat.le_of_ble_eq_true rfl)) (itm_one (itm_bl _)) (by simp)) (zza_cons (zz_I (el_lst (ea_cons ev_c (ea_cons ev_c ea_nil)) (Nat.le_of_ble_eq_true rfl)) (itm_two (itm_int _) (itm_bl _)) (by simp)) (zza_cons (zz_I (el_lst (ea_cons ev_c (ea_cons ev_c ea_nil)) (Nat.le_of_ble_eq_true rfl)) (two _ _) (by simp))
      (zza_cons (zz_I (el_lst (ea_cons ev_c (ea_cons ev_c ea_nil)) (Nat.le_of_ble_eq_true rfl)) (two _ _) (by simp)) (zza_cons (zz_I (el_lst (ea_cons ev_c (ea_cons ev_c ea_nil)) (Nat.le_of_ble_eq_true rfl)) (two _ _) (by simp)) zza_nil))))))) (by decide)) (by omega)) fun f2 ws2 H7 hf2 e7 h7' l7 w7 => ?_
    · have := cutV_length (nv h) none (some (sp : Int))
      simp at this ⊢
      omega
    · have := cutV_length (nv h) none (some (sp : Int))
      have := cutV_length (nv h) (some ((sp : Int) + 1)) none
      simp at *
      omega
    · have := cutV_length (nv h) none (some (sp : Int))
      have := cutV_length (nv h) (some ((sp : Int) + 1)) none
      simp at *
      omega
    have ha7 := e7 a _ ha6
    refine q_asgZL (K := K) (n := ws2.length + 7) (zl_cat (ev_var rfl) h7' w7 (zl_lst (zza_cons (zz_D (ds := [.list [.int 1]]) (ia_cons (it_D (eda_cons (ed_int ev_c) eda_nil) (by decide)) ia_nil) (fine_cons rfl (by decide) fine_nil) (by decide)) (zza_cons (zz_I (el_lst (ea_cons ev_c (ea_cons ev_c ea_nil)) (Nat.le_of_ble_eq_true rfl)) (two _ _) (by simp)) (zza_cons (zz_I (el_lst (ea_cons ev_c (ea_cons ev_c ea_nil)) (Nat.le_of_ble_eq_true rfl)) (two _ _) (by simp)) (zza_cons (zz_I (el_lst (ea_cons ev_c (ea_cons ev_c (ea_cons ev_c ea_nil))) (Nat.le_of_ble_eq_true rfl)) (three _ _ _) (by simp))
      (zza_cons (zz_I (el_rg2 (a := 1) (b := 21) ev_c ev_c (RgOk.of_le (by decide) (by decide) (by decide) (by decide))) (itm_rg 1 21) (by decide)) (zza_cons (zz_I (el_rg1 (b := 21) ev_c (RgOk.of_le (by decide) (by decide) (by decide) (by decide))) (itm_rg 0 21) (by decide)) (zza_cons (zz_I (el_lst (ea_cons ev_c (ea_cons ev_c (ea_cons ev_c ea_nil))) (Nat.le_of_ble_eq_true rfl)) (three _ _ _) (by simp)) zza_nil))))))) (by decide)) (by omega)) fun f3 ws3 H8 hf3 e8 h8 l8 w8 => ?_
    have ha8 := e8 a _ ha7
    have srt : EvL (tCB (rSorted K) (tCons (tVar 1) tNil)) [some (V.ref p), some (.ref a), some (.int (sp : Int)), some od, some (.ref f3)] H8 ((sortI (iz h)).map V.int) := fun H1 e Q q => ev_var (i := 1) (v := .ref a) rfl H1 e _ fun H2 e2 => ⟨a, iz h, rfl, sq_of (e2 a _ (e a _ ha8)), by simp [iz]; omega, fun ns' l pm so new => by
      have eq : ns' = sortI (iz h) := List.Perm.eq_of_pairwise (le := fun a b : Int => a ≤ b) (fun a b _ _ h1 h2 => Int.le_antisymm h1 h2) so (sortI_sorted _) (pm.trans (sortI_perm _).symm)
      subst eq
      exact q l _ (fresh_back e2 new) (e2.trans (Ex.new new)) upd_same⟩
    refine s_retZL (K := K) (n := ws3.length + 2) (zl_cat (ev_var rfl) h8 w8 (zl_lst (zza_cons (zz_I (el_lst (ea_cons (ev_op ev_c ev_c (rv_I (by constructor <;> decide +kernel))) ea_nil) (Nat.le_of_ble_eq_true rfl)) (itm_one (itm_int _)) (by simp)) (zza_cons (zz_I srt itm_all (by rw [List.length_map, (sortI_perm _).length_eq]; simp [iz]; omega)) zza_nil)) (by decide)) (by omega)) fun l ws H9 hl e9 h9 l9 w9 => ?_
    have e59 := e6.trans (e7.trans (e8.trans e9))
    exact k l ws H9 h9 w9 ((pG.ex e59).mono (by omega)) (eG.trans e59)
end


local macro_rules | `(tactic| walk_at "call") => `(tactic| (with_reducible exact sv_whole))

/-! ### _law_some_widths -/
section
variable {K : PySem.W.Frag} {σ : L2.St} {H0 H : Hp} {te : TE} {D : Ends} {p b : Addr} {k : Nat}
theorem ps_appP {ta : TE} {n : Nat} {xs : List V} {A : V → Prop} (bp : b ≠ p) (hb : H0 b = some (.lst xs)) (hs : Ev ta σ H (.ref b)) (h : EvP p k te σ H0 (fun v _ => A v)) (e : Ex H0 H) (hp : Po p n H) (hn : n + k ≤ 1000000000) (hz : xs.length < 100000)
    (q : ∀ v H2, A v → Po p (n + k) H2 → Ex (Hm p H) H2 → D.nx σ (upd H2 b (.lst (xs ++ [v])))) : tDrop (tBM K "list" rAppend ta (tCons te tNil)) D σ H :=
  hs H (Ex.refl H) _ fun H1 e1 => ⟨Or.inl ⟨rfl, xs, sq_of (e1 b _ (e b _ hb))⟩, h n H1 (e.trans e1) (hp.ex e1) hn _ fun v H2 av p2 e2 =>
    ⟨b, xs, v, rfl, rfl, hm_at e2 bp (e1 b _ (e b _ hb)), sz_lt hz, q v H2 av p2 (hm_trans (hm_of e1) e2)⟩⟩
end
def sp_law_some_widths : Sp := fun vs H Q _ => ∃ (p : Addr) (n m : Nat), vs = [.ref p, .int (m : Int)] ∧ Po p n H ∧ n + 2 * m + 1 < 1000000000 ∧ 1 ≤ m ∧ m ≤ 20 ∧
  ∀ l s H', H l = none → H' l = some (.lst (nv s)) → (∀ x ∈ s, 1 ≤ x) → s.sum = m → s.length ≤ m → Po p (n + 2 * m + 1) H' → Ex (Hm p H) H' → Q (.ref l) H'
section
variable {P : Program} {w : World} {K : PySem.W.Frag} {mg : Str → Option Value} {base : Heap}
theorem iz_sum : ∀ s : List Nat, (iz s).sum = (s.sum : Int)
  | [] => rfl
  | x :: r => by
    show (x : Int) + (iz r).sum = ((x + r.sum : Nat) : Int)
    rw [iz_sum r]
    omega
theorem sum_ge : ∀ {s : List Nat}, (∀ x ∈ s, 1 ≤ x) → s.length ≤ s.sum
  | [], _ => Nat.le_refl _
  | x :: r, h => by
    have := sum_ge (s := r) fun y hy => h y (List.mem_cons_of_mem _ hy)
    have := h x List.mem_cons_self
    rw [List.length_cons, List.sum_cons]
    omega
theorem ok_law_some_widths (T : Tx K mg) : FnOk P w K mg base CX0 2 T.f_law_some_widths T.d_law_some_widths ["pouch", "many"] sp_law_some_widths := by
  refine T.F_law_some_widths.ok sc_law_some_widths (fun vs H Q E h => ?_) (fun cdv A outer s H vs Q E hr h => ?_)
  · obtain ⟨p, n, m, rfl, _⟩ := h
    rfl
  · obtain ⟨p, n, m, rfl, hpo, hn, hm1, hm, k⟩ := h
    refine ⟨_, (pss_cons (ps_par (i := 2) (j := 3) (by rfl) sc_law_some_widths.nd rfl rfl (by decide) rfl rfl (pa_cons (pe_call (ok_law_dip T) (hr.mono (by decide)) (by rfl) T.g_law_dip T.F_law_dip.kp T.b_law_dip .nil pass0 (pa_cons (pv 0) (pa_cons pe_int pa_nil))) (pa_cons (pe_lst pa_nil) pa_nil)) (by rfl))
      (pss_cons (ps_while PassesOwn.never (pt_cmpR op_lt (pe_callB (cr_sum rfl) (by rfl) T.m_sum (by decide +kernel) (pa_cons (pv 3) pa_nil)) (pv 1) (nomark _)) (pss_cons (ps_set (i := 4) sc_law_some_widths.nd rfl (Or.inl rfl) (pe_op op_sub (pv 1) (pe_callB (cr_sum rfl) (by rfl) T.m_sum (by decide +kernel) (pa_cons (pv 3) pa_nil))))
      (pss_one (ps_expr (pe_bm PySem.F.plainAttrs_list PySem.F.slot_list_append PySem.F.type_list_append mt_append (pv 3) (pa_cons (pe_ix ix_list (pe_lst (pa_cons (pe_op op_add pe_int (pe_call (ok_law_dip T) (hr.mono (by decide)) (by rfl) T.g_law_dip T.F_law_dip.kp T.b_law_dip .nil pass0 (pa_cons (pv 0) (pa_cons (pv 4) pa_nil)))) (pa_cons (pe_callB (call_minR rfl) (by rfl) T.m_min (by decide +kernel) (pa_cons (pv 4) (pa_cons pe_int pa_nil))) (pa_cons (pe_op op_add pe_int (pe_call (ok_law_dip T) (hr.mono (by decide)) (by rfl) T.g_law_dip T.F_law_dip.kp T.b_law_dip .nil pass0 (pa_cons (pv 0) (pa_cons (pe_callB (call_minR rfl) (by rfl) T.m_min (by decide +kernel) (pa_cons (pv 4) (pa_cons pe_int pa_nil))) pa_nil)))) (pa_cons (pv 4) (pa_cons pe_int pa_nil)))))) (pv 2) (fun _ _ => rfl)) pa_nil))))))
      (pss_one (ps_ret (pv 3))))), ?_⟩
    have hp0 : Hm p H p = none := hm_p
    refine pq_parL (p := p) (k := 1) (H0 := Hm p H) (ys := []) (ep_dipI (w := 5) hm_p (ev_var rfl) ev_c (by decide) (by decide)) hm_sub hpo (by omega) (fun H1 => el_lst ea_nil (Nat.le_of_ble_eq_true rfl)) ?_
    rintro v b H1 H2 ⟨st, rfl, s0, s1⟩ hb1 e2 hb2 p2 e1
    have hbp : b ≠ p := fun z => by
      subst z
      obtain ⟨x, y, z, q, _⟩ := p2
      rw [hb2] at q
      cases q
    have hbm : Hm p H b = none := fresh_back e1 hb1
    have hb : H b = none := by
      have := hbm
      unfold Hm at this
      rw [if_neg hbp] at this
      exact this
    have e02 : Ex (Hm p H) H2 := e1.trans e2
    refine q_while (fun mm σ' H' => ∃ (s : List Nat) (y : Option V), σ' = [some (.ref p), some (.int m), some (.int st), some (.ref b), y] ∧ H' b = some (.lst (nv s)) ∧ (∀ x ∈ s, 1 ≤ x) ∧ s.sum ≤ m ∧ Po p (n + 2 * s.length + 1) H' ∧ Ex (Hm p H) H' ∧ mm = m - s.sum) m ⟨[], none, rfl, hb2, by simp, by simp, p2, e02, by simp⟩ ?_
    rintro mm σ' H' ⟨s, y, rfl, hs, h1, hsum, p3, e3, rfl⟩
    have sl := sum_ge h1
    have sm : ∀ (σ : L2.St) (G : Hp), σ[3]? = some (some (.ref b)) → G b = some (.lst (nv s)) → Ev (tCB (rSum K) (tCons (tVar 3) tNil)) σ G (.int (s.sum : Int)) := fun σ G h3 hG H1 e Q q => ev_var (i := 3) (v := .ref b) h3 H1 e _ fun H2 e2 => ⟨b, iz s, rfl, sq_of (e2 b _ (e b _ hG)), by rw [iz_sum]; exact q H2 e2⟩
    refine ⟨decide ((s.sum : Int) < (m : Int)), et_test (ev_op (sm _ _ rfl hs) (ev_var rfl) rv_I0), fun hb2 H3 e4 => ?_, fun hb2 H3 e4 => ?_⟩
    · have hlt := of_decide_eq_true hb2
      have hs3 := e4 b _ hs
      have p4 := p3.ex e4
      refine ⟨fun σ2 H4 => ∃ (s' : List Nat) (y : Option V), σ2 = [some (.ref p), some (.int m), some (.int st), some (.ref b), y] ∧ H4 b = some (.lst (nv s')) ∧ (∀ x ∈ s', 1 ≤ x) ∧ s'.sum ≤ m ∧ Po p (n + 2 * s'.length + 1) H4 ∧ Ex (Hm p H) H4 ∧ s.sum < s'.sum, fun σ2 H4 ⟨s', y, a1, a2, a3, a4, a5, a6, a7⟩ => ⟨m - s'.sum, by omega, s', y, a1, a2, a3, a4, a5, a6, rfl⟩, ?_⟩
      refine q_asg (v := .int ((m : Int) - (s.sum : Int))) (ev_op (ev_var rfl) (sm _ _ rfl hs3) rv_I0) fun H4 e5 => ?_
      have hs4 := e5 b _ hs3
      have p5 := p4.ex e5
      obtain ⟨L, hL⟩ : ∃ L : Nat, (m : Int) - (s.sum : Int) = (L : Int) := ⟨m - s.sum, by omega⟩
      rw [hL]
      have L1 : 1 ≤ L := by omega
      have mn : ∀ (c : Nat) (σ : L2.St) (G : Hp), σ[4]? = some (some (.int (L : Int))) → Ev (tCB rMin2 (tCons (tVar 4) (tCons (tC (.int (c : Int))) tNil))) σ G (.int ((min L c : Nat) : Int)) := fun c σ G h4 => ev_is (ev_min2 (ev_var h4) ev_c) (by congr 1; split <;> omega)
      refine ps_appP (K := K) (p := p) (b := b) (k := ((0 + 1) + (0 + ((0 + 1) + (0 + (0 + 0))))) + 0) (H0 := Hm p H4) (A := fun v => ∃ x : Nat, v = .int (x : Int) ∧ 1 ≤ x ∧ x ≤ L) hbp (hm_in hbp hs4) (ev_var rfl) (ep_ix (ix := fun v => v = .int st) (C := fun vs => ∃ a c : Nat, vs = [.int a, .int ((min L 2 : Nat) : Int), .int c, .int L, .int 1] ∧ (1 ≤ a ∧ a ≤ L) ∧ (1 ≤ c ∧ c ≤ L)) hm_p
        (ep_is (ep_lst (epa_cons (A := fun v => ∃ a : Nat, v = .int (a : Int) ∧ 1 ≤ a ∧ a ≤ L) hm_p (ep_is (ep_add hm_p ev_c (ep_dipI (w := (L : Int)) hm_p (ev_var rfl) (ev_var rfl) (by omega) (by omega))) ?_) (epa_pure hm_p (mn 2 _ _ rfl) (epa_cons (A := fun v => ∃ a : Nat, v = .int (a : Int) ∧ 1 ≤ a ∧ a ≤ L) hm_p (ep_is (ep_add hm_p ev_c (ep_dipI (w := ((min L 3 : Nat) : Int)) hm_p (ev_var rfl) (mn 3 _ _ rfl) (by omega) (by omega))) ?_) (epa_pure hm_p (ev_var rfl) (epa_pure hm_p ev_c epa_nil))))) ?_) ?_) (ep_ev (v := .int st) (ev_var rfl)) ?_) hm_sub p5 (by omega) (by rw [nv_len]; omega) ?_
      · rintro v _ ⟨r, rfl, r0, r1⟩
        exact ⟨(1 + r).toNat, congrArg V.int (by omega), by omega, by omega⟩
      · rintro v _ ⟨r, rfl, r0, r1⟩
        exact ⟨(1 + r).toNat, congrArg V.int (by omega), by omega, by omega⟩
      · rintro vs ⟨_, _, rfl, _, _, _, rfl, _, _, _, rfl, _, _, _, rfl, _, _, _, rfl, _, rfl⟩
        exact Nat.le_of_ble_eq_true rfl
      · rintro v H5 ⟨l, vs, ne, rfl, hl, _, _, rfl, ⟨a, rfl, ha⟩, _, _, rfl, rfl, _, _, rfl, ⟨c, rfl, hc⟩, _, _, rfl, rfl, _, _, rfl, rfl, rfl⟩
        exact ⟨l, _, ne, rfl, hl, a, c, rfl, ha, hc⟩
      · rintro vs v ⟨a, c, rfl, ha, hc⟩ rfl
        have : st = 0 ∨ st = 1 ∨ st = 2 ∨ st = 3 ∨ st = 4 := by omega
        rcases this with rfl | rfl | rfl | rfl | rfl
        · exact ⟨0, .int a, rfl, rfl, a, rfl, ha⟩
        · exact ⟨1, .int ((min L 2 : Nat) : Int), rfl, rfl, min L 2, rfl, by omega, by omega⟩
        · exact ⟨2, .int c, rfl, rfl, c, rfl, hc⟩
        · exact ⟨3, .int L, rfl, rfl, L, rfl, L1, Nat.le_refl _⟩
        · exact ⟨4, .int 1, rfl, rfl, 1, rfl, Nat.le_refl _, L1⟩
      · rintro v H5 ⟨x, rfl, x1, x2⟩ p6 e6
        refine ⟨s ++ [x], _, rfl, by rw [upd_same, nv_app]; rfl, fun y hy => ?_, by rw [List.sum_append]; simp; omega, ?_, Ex.mut (hm_trans e3 (hm_trans (hm_of (e4.trans e5)) e6)) hbm, by rw [List.sum_append]; simp; omega⟩
        · rcases List.mem_append.mp hy with z | z
          · exact h1 y z
          · rw [List.mem_singleton.mp z]
            exact x1
        · obtain ⟨y1, y2, y3, q1, q2, q3, q4⟩ := p6
          exact ⟨y1, y2, y3, by rw [upd_ne (Ne.symm hbp)]; exact q1, q2, q3, by rw [List.length_append, List.length_singleton]; omega⟩
    · have hge := of_decide_eq_false hb2
      have : s.sum = m := by omega
      exact s_ret (ev_var rfl) fun H4 e5 => k b s H4 hb (e5 b _ (e4 b _ hs)) h1 this (by omega) ((p3.ex (e4.trans e5)).mono (by omega)) (e3.trans (e4.trans e5))
end


local macro_rules | `(tactic| walk_at "call") => `(tactic| (with_reducible exact sv_whole))

section
variable {P : Program} {w : World} {K : PySem.W.Frag} {mg : Str → Option Value} {base : Heap}
/-! ### fraction -/
def cd (a b : Int) : Int := ((Nat.gcd a.natAbs b.natAbs : Nat) : Int)
theorem cd_pos {a b : Int} (h : 0 < b) : 0 < cd a b := by
  unfold cd
  have := Nat.gcd_pos_of_pos_right a.natAbs (show 0 < b.natAbs by omega)
  omega
theorem cd_le {a b : Int} (h : 0 < b) : cd a b ≤ b := by
  unfold cd
  have := Nat.le_of_dvd (show 0 < b.natAbs by omega) (Nat.gcd_dvd_right a.natAbs b.natAbs)
  omega
theorem cd_dvd1 {a b : Int} : cd a b ∣ a := Int.ofNat_dvd_left.mpr (Nat.gcd_dvd_left a.natAbs b.natAbs)
theorem cd_dvd2 {a b : Int} : cd a b ∣ b := Int.ofNat_dvd_left.mpr (Nat.gcd_dvd_right a.natAbs b.natAbs)
def sp_fraction : Sp := fun vs H Q _ => ∃ a b : Int, vs = [.int a, .int b] ∧ 0 < b ∧ b.natAbs < 2 ^ 8000 ∧ RetU [.int (a / cd a b), .int (b / cd a b)] H Q
theorem su_fraction {H : Hp} {a b : Int} (h0 : 0 < b) (h1 : b.natAbs < 2 ^ 8000) : SpU sp_fraction ([.int a, .int b] ++ []) H [.int (a / cd a b), .int (b / cd a b)] := fun H1 _ Q q E => ⟨a, b, rfl, h0, h1, q⟩
theorem ok_fraction (T : Tx K mg) : FnOk P w K mg base CX0 1 T.f_fraction T.d_fraction ["top", "bottom"] sp_fraction := by
  refine T.F_fraction.ok sc_fraction (fun vs H Q E h => ?_) (fun cdv A outer s H vs Q E hr h => ?_)
  · obtain ⟨a, b, rfl, _⟩ := h
    rfl
  · obtain ⟨a, b, rfl, h0, h1, k⟩ := h
    refine ⟨_, (pss_cons (ps_set (i := 2) sc_fraction.nd rfl (Or.inl rfl) (pe_callBfun cr_gcd (by rfl) T.i_gcd (pa_cons (pv 0) (pa_cons (pv 1) pa_nil))))
      (pss_one (ps_ret (pe_tup (pa_cons (pe_op op_fdivW (pv 0) (pv 2)) (pa_cons (pe_op op_fdivW (pv 1) (pv 2)) pa_nil)))))), ?_⟩
    refine q_asg (by walk_at "ev") fun H1 e1 => ?_
    have hd : ∀ x : Int, CDivW x (cd a b) := fun x => wide_div (cd_pos h0) (Nat.lt_of_le_of_lt (by have := cd_le (a := a) h0; have := cd_pos (a := a) h0; omega) h1) (by decide) (by decide)
    have hd1 := hd a
    have hd2 := hd b
    refine s_retU (by walk_at "eu") fun p H2 hp e2 h2 => k p H2 (fresh_back e1 hp) (e1.trans e2) h2
local macro_rules | `(tactic| walk_at "callU") => `(tactic| ((with_reducible refine' su_fraction ?c1 ?c2); (case c1 => walk_at "side"); (case c2 => walk_at "side")))
end

/-! ### rising products -/
def rise (w : Int) : Nat → Int
  | 0 => 1
  | n + 1 => rise w n * (w + n)
theorem rise_pos {w : Int} (h : 1 ≤ w) : ∀ n, 0 < rise w n
  | 0 => by
    show (0 : Int) < 1
    decide
  | n + 1 => Int.mul_pos (rise_pos h n) (by omega)

/-! ### numbers -/
theorem rise_le {w : Int} (h : w.natAbs < 2 ^ 130) : ∀ n : Nat, n ≤ 100 → (rise w n).natAbs ≤ 2 ^ (131 * n)
  | 0, _ => by
    show (1 : Int).natAbs ≤ 2 ^ 0
    decide
  | n + 1, hn => by
    have ih := rise_le h n (by omega)
    show (rise w n * (w + n)).natAbs ≤ _
    rw [Int.natAbs_mul, Nat.mul_succ, Nat.pow_add]
    exact Nat.mul_le_mul ih (by omega)
def sp_pow : Sp := fun vs H Q _ => ∃ b t : Int, vs = [.int b, .int t] ∧ b.natAbs < 2 ^ 130 ∧ 0 ≤ t ∧ t ≤ 40 ∧ RetV (.int (b ^ t.toNat)) H Q
theorem sv_pow {H : Hp} {b t : Int} (hb : b.natAbs < 2 ^ 130) (h0 : 0 ≤ t) (h1 : t ≤ 40) : SpV sp_pow ([.int b, .int t] ++ []) H (.int (b ^ t.toNat)) := fun H1 _ Q q E => ⟨b, t, rfl, hb, h0, h1, q⟩
def sp_rise : Sp := fun vs H Q _ => ∃ (b : Int) (n : Nat), vs = [.int b, .int n] ∧ b.natAbs < 2 ^ 130 ∧ n ≤ 40 ∧ RetV (.int (rise b n)) H Q
theorem sv_rise {H : Hp} {b : Int} {n : Nat} (hb : b.natAbs < 2 ^ 130) (h1 : n ≤ 40) : SpV sp_rise ([.int b, .int (n : Int)] ++ []) H (.int (rise b n)) := fun H1 _ Q q E => ⟨b, n, rfl, hb, h1, q⟩
local macro_rules | `(tactic| walk_at "call") => `(tactic| ((with_reducible refine' sv_pow ?c1 ?c2 ?c3); (case c1 => walk_at "side"); (case c2 => walk_at "side"); (case c3 => walk_at "side")))
local macro_rules | `(tactic| walk_at "call") => `(tactic| ((with_reducible refine' sv_rise ?c1 ?c2); (case c1 => walk_at "side"); (case c2 => walk_at "side")))

section
variable {P : Program} {w : World} {K : PySem.W.Frag} {mg : Str → Option Value} {base : Heap}
theorem ok_raised (T : Tx K mg) : FnOk P w K mg base CX0 1 T.f_raised T.d_raised ["base","times"] sp_pow := by
  refine T.F_raised.ok sc_raised (fun vs H Q E h => ?_) (fun cdv A outer s H vs Q E hr h => ?_)
  · obtain ⟨b, t, rfl, _⟩ := h
    rfl
  · obtain ⟨b, t, rfl, hb, ht0, ht1, k⟩ := h
    refine ⟨_, (pss_cons (ps_set (i := 2) sc_raised.nd rfl (Or.inl rfl) pe_int)
      (pss_cons (ps_for PassesOwn.never rfl (pi_range1 (by rfl) T.m_range (pa_cons (pv 1) pa_nil)) (pg_name (i := 3) sc_raised.nd rfl (Or.inl rfl)) (pss_one (ps_set (i := 2) sc_raised.nd rfl (Or.inl rfl) (pe_op op_mulX (pv 2) (pv 0)))))
      (pss_one (ps_ret (pv 2))))), ?_⟩
    refine q_asg ev_c fun H1 e1 => ?_
    refine q_forR1 (n := t) (by walk_at "ea") ⟨ht0, by omega⟩ (fun i σ' H' => ∃ y, σ' = [some (.int b), some (.int t), some (.int (b ^ i)), y] ∧ Ex H H') (fun H2 e2 => ⟨none, by rw [Int.pow_zero]; rfl, e1.trans e2⟩) ?_ ?_
    · rintro i σ' H' hi ⟨y, rfl, e⟩
      have hm : CMulX (b ^ i) b := mulx_ok (lt_of_le2 (natAbs_pow_le hb i)) hb (by omega)
      exact s_asg (by walk_at "ev") fun H2 e2 => ⟨_, by rw [Int.pow_succ]; rfl, e.trans e2⟩
    · rintro σ' H' ⟨y, rfl, e⟩
      exact s_ret (by walk_at "ev") fun H2 e2 => k _ (e.trans e2)

theorem ok_rising (T : Tx K mg) : FnOk P w K mg base CX0 1 T.f_rising T.d_rising ["weight","guests"] sp_rise := by
  refine T.F_rising.ok sc_rising (fun vs H Q E h => ?_) (fun cdv A outer s H vs Q E hr h => ?_)
  · obtain ⟨b, n, rfl, _⟩ := h
    rfl
  · obtain ⟨b, n, rfl, hb, hn, k⟩ := h
    refine ⟨_, (pss_cons (ps_set (i := 2) sc_rising.nd rfl (Or.inl rfl) pe_int)
      (pss_cons (ps_for PassesOwn.never rfl (pi_range1 (by rfl) T.m_range (pa_cons (pv 1) pa_nil)) (pg_name (i := 3) sc_rising.nd rfl (Or.inl rfl)) (pss_one (ps_set (i := 2) sc_rising.nd rfl (Or.inl rfl) (pe_op op_mulX (pv 2) (pe_op op_add (pv 0) (pv 3))))))
      (pss_one (ps_ret (pv 2))))), ?_⟩
    refine q_asg ev_c fun H1 e1 => ?_
    refine q_forR1 (n := (n : Int)) (by walk_at "ea") ⟨by omega, by omega⟩ (fun i σ' H' => ∃ y, σ' = [some (.int b), some (.int n), some (.int (rise b i)), y] ∧ Ex H H') (fun H2 e2 => ⟨none, rfl, e1.trans e2⟩) ?_ ?_
    · rintro i σ' H' hi ⟨y, rfl, e⟩
      have hs : (b + (i : Int)).natAbs < 2 ^ 131 := by omega
      have hm : CMulX (rise b i) (b + (i : Int)) := mulx_ok (lt_of_le2 (rise_le hb i (by omega))) hs (by omega)
      exact s_asg (by walk_at "ev") fun H2 e2 => ⟨_, rfl, e.trans e2⟩
    · rintro σ' H' ⟨y, rfl, e⟩
      exact s_ret (by walk_at "ev") fun H2 e2 => k _ (e.trans e2)

theorem ok_law_rise (T : Tx K mg) : FnOk P w K mg base CX0 1 T.f_law_rise T.d_law_rise ["heavy","many"] sp_rise := by
  refine T.F_law_rise.ok sc_law_rise (fun vs H Q E h => ?_) (fun cdv A outer s H vs Q E hr h => ?_)
  · obtain ⟨b, n, rfl, _⟩ := h
    rfl
  · obtain ⟨b, n, rfl, hb, hn, k⟩ := h
    refine ⟨_, (pss_cons (ps_set (i := 2) sc_law_rise.nd rfl (Or.inl rfl) pe_int)
      (pss_cons (ps_for PassesOwn.never rfl (pi_range1 (by rfl) T.m_range (pa_cons (pv 1) pa_nil)) (pg_name (i := 3) sc_law_rise.nd rfl (Or.inl rfl)) (pss_one (ps_set (i := 2) sc_law_rise.nd rfl (Or.inl rfl) (pe_op op_mulX (pv 2) (pe_op op_add (pv 0) (pv 3))))))
      (pss_one (ps_ret (pv 2))))), ?_⟩
    refine q_asg ev_c fun H1 e1 => ?_
    refine q_forR1 (n := (n : Int)) (by walk_at "ea") ⟨by omega, by omega⟩ (fun i σ' H' => ∃ y, σ' = [some (.int b), some (.int n), some (.int (rise b i)), y] ∧ Ex H H') (fun H2 e2 => ⟨none, rfl, e1.trans e2⟩) ?_ ?_
    · rintro i σ' H' hi ⟨y, rfl, e⟩
      have hs : (b + (i : Int)).natAbs < 2 ^ 131 := by omega
      have hm : CMulX (rise b i) (b + (i : Int)) := mulx_ok (lt_of_le2 (rise_le hb i (by omega))) hs (by omega)
      exact s_asg (by walk_at "ev") fun H2 e2 => ⟨_, rfl, e.trans e2⟩
    · rintro σ' H' ⟨y, rfl, e⟩
      exact s_ret (by walk_at "ev") fun H2 e2 => k _ (e.trans e2)

end


local macro_rules | `(tactic| walk_at "call") => `(tactic| (with_reducible exact sv_whole))

section
variable {K : PySem.W.Frag} {σ : L2.St} {H : Hp} {ta te : TE}
theorem ev_countFL {ys : List V} {y : V} (h : EvL ta σ H ys) (he : ∀ H1, Ex H H1 → Ev te σ H1 y) (fy : flatV y = true) (fys : ys.all flatV = true) : Ev (tBM K "list" (rCntF K) ta (tCons te tNil)) σ H (.int ((ys.countP fun z => eqV z y : Nat) : Int)) := fun H1 e Q q =>
  h H1 e _ fun p H2 _ e2 h2 => ⟨.inl ⟨rfl, _, sq_of h2⟩, he H2 (e.trans e2) H2 (Ex.refl _) _ fun H3 e3 => ⟨p, ys, y, rfl, rfl, sq_of (e3 p _ h2), fy, fys, q H3 (e2.trans e3)⟩⟩
theorem count_nv (x : Nat) : ∀ s : List Nat, (nv s).countP (fun z => eqV z (.int (x : Int))) = s.count x
  | [] => rfl
  | y :: r => by
    have ih := count_nv x r
    show (V.int (y : Int) :: nv r).countP _ = _
    rw [List.countP_cons, ih, List.count_cons]
    congr 1
    show (if eqV (.int (y : Int)) (.int (x : Int)) = true then 1 else 0) = _
    have : eqV (.int (y : Int)) (.int (x : Int)) = (y == x) := by
      show decide (_ = _) = _
      rw [Bool.eq_iff_iff]
      simp
      omega
    rw [this]
theorem cut_to {f : List Nat} {hi : Nat} (h : hi ≤ f.length) : cutV (nv f) none (some (hi : Int)) = nv (f.take hi) := by
  unfold cutV
  rw [HT.sIx_none, HT.sIx_nat, nv_len, Nat.min_eq_left h, Nat.sub_zero, List.drop_zero, nv_eq, nv_eq, List.map_take]
end
/-- the product that ways_with_sizes divides by -/
def botTo (s : List Nat) : Nat → Nat
  | 0 => 1
  | i + 1 => botTo s i * s.getD i 0 * (s.take (i + 1)).count (s.getD i 0)
theorem le_sum {s : List Nat} {x : Nat} (h : x ∈ s) : x ≤ s.sum := by
  induction s with
  | nil => cases h
  | cons y r ih =>
    rw [List.sum_cons]
    rcases List.mem_cons.mp h with e | h
    · omega
    · have := ih h
      omega
/-- a list of sizes -/
def Szs (s : List Nat) : Prop := (∀ x ∈ s, 1 ≤ x) ∧ 1 ≤ s.sum ∧ s.sum ≤ 20
/-- a list of sizes, perhaps none -/
def Sz0 (s : List Nat) : Prop := (∀ x ∈ s, 1 ≤ x) ∧ s.sum ≤ 20
theorem Szs.z {s : List Nat} (o : Szs s) : Sz0 s := ⟨o.1, o.2.2⟩
theorem botTo_bd {s : List Nat} (o : Sz0 s) : ∀ i, i ≤ s.length → 1 ≤ botTo s i ∧ botTo s i ≤ 400 ^ i
  | 0, _ => ⟨Nat.le_refl _, Nat.le_refl _⟩
  | i + 1, h => by
    obtain ⟨a, b⟩ := botTo_bd o i (by omega)
    have hx : s[i]? = some (s.getD i 0) := by
      rw [List.getD_eq_getElem?_getD, List.getElem?_eq_getElem (by omega)]
      rfl
    have hm := List.mem_of_getElem? hx
    have x1 := o.1 _ hm
    have x2 : s.getD i 0 ≤ 20 := Nat.le_trans (le_sum hm) o.2
    have c1 : 1 ≤ (s.take (i + 1)).count (s.getD i 0) := by
      refine List.count_pos_iff.mpr ?_
      rw [take_next hx]
      simp
    have c2 : (s.take (i + 1)).count (s.getD i 0) ≤ 20 := by
      have := List.count_le_length (a := s.getD i 0) (l := s.take (i + 1))
      rw [List.length_take] at this
      have := sum_ge o.1
      have := o.2
      omega
    show 1 ≤ botTo s i * s.getD i 0 * (s.take (i + 1)).count (s.getD i 0) ∧ botTo s i * s.getD i 0 * (s.take (i + 1)).count (s.getD i 0) ≤ 400 ^ (i + 1)
    refine ⟨Nat.mul_pos (Nat.mul_pos a x1) c1, ?_⟩
    rw [Nat.pow_succ, Nat.mul_assoc]
    exact Nat.mul_le_mul b (Nat.mul_le_mul x2 c2)
def wws (s : List Nat) : Nat := fac s.sum / botTo s s.length
def sp_ways_with_sizes : Sp := fun vs H Q _ => ∃ (a : Addr) (s : List Nat), vs = [.ref a] ∧ H a = some (.lst (nv s)) ∧ Sz0 s ∧ RetV (.int (wws s : Nat)) H Q
theorem sv_wws {H : Hp} {a : Addr} {s : List Nat} (ha : H a = some (.lst (nv s))) (o : Szs s) : SpV sp_ways_with_sizes ([.ref a] ++ []) H (.int (wws s : Nat)) := fun H1 e Q q E => ⟨a, s, rfl, e a _ ha, o.z, q⟩
theorem sv_wws0 {H : Hp} {a : Addr} {s : List Nat} (ha : H a = some (.lst (nv s))) (o : Sz0 s) : SpV sp_ways_with_sizes ([.ref a] ++ []) H (.int (wws s : Nat)) := fun H1 e Q q E => ⟨a, s, rfl, e a _ ha, o, q⟩
section
variable {P : Program} {w : World} {K : PySem.W.Frag} {mg : Str → Option Value} {base : Heap}
theorem ok_ways_with_sizes (T : Tx K mg) : FnOk P w K mg base CX0 1 T.f_ways_with_sizes T.d_ways_with_sizes ["sizes"] sp_ways_with_sizes := by
  refine T.F_ways_with_sizes.ok sc_ways_with_sizes (fun vs H Q E h => ?_) (fun cdv A outer s H vs Q E hr h => ?_)
  · obtain ⟨a, s, rfl, _⟩ := h
    rfl
  · obtain ⟨a, z, rfl, ha, o, k⟩ := h
    refine ⟨_, (pss_cons (ps_set (i := 1) sc_ways_with_sizes.nd rfl (Or.inl rfl) pe_int)
      (pss_cons (ps_for PassesOwn.never rfl (pi_enum (by rfl) T.m_enumerate (pa_cons (pv 0) pa_nil)) (pg_tup rfl (pgs_cons (pg_name (i := 2) sc_ways_with_sizes.nd rfl (Or.inl rfl)) (pgs_cons (pg_name (i := 3) sc_ways_with_sizes.nd rfl (Or.inl rfl)) pgs_nil))) (pss_one (ps_set (i := 1) sc_ways_with_sizes.nd rfl (Or.inl rfl) (pe_op op_mulX (pe_op op_mulX (pv 1) (pv 3)) (pe_bm PySem.F.plainAttrs_list PySem.F.slot_list_count PySem.F.type_list_count Kit.mt_countF (pe_slice sl_list (pv 0) po_none (po_some (pe_op op_add (pv 2) pe_int))) (pa_cons (pv 3) pa_nil))))))
      (pss_one (ps_ret (pe_op op_fdivW (pe_callBfun cr_factorial (by rfl) T.i_factorial (pa_cons (pe_callB (cr_sum rfl) (by rfl) T.m_sum (by decide +kernel) (pa_cons (pv 0) pa_nil)) pa_nil)) (pv 1)))))), ?_⟩
    have zl := sum_ge o.1
    have z20 := o.2
    refine q_asg (v := .int ((botTo z 0 : Nat) : Int)) ev_c fun H1 e1 => ?_
    have ha1 := e1 a _ ha
    refine q_forEn (xs := nv z) (K := K) (ea_cons (ev_var rfl) ea_nil) (sq_of ha1) (fun m σ' H' => ∃ (y3 y4 : Option V), σ' = [some (.ref a), some (.int ((botTo z m : Nat) : Int)), y3, y4] ∧ Ex H1 H')
      (fun H5 e5 => ⟨none, none, rfl, e5⟩) (fun m σ' H' _ ⟨_, _, _, e⟩ => sq_of (e a _ ha1)) ?_ ?_
    · rintro m v σ' H5 H6 hv ⟨y3, y4, rfl, e5⟩ e6
      have hml : m < z.length := by
        have := (List.getElem?_eq_some_iff.mp hv).1
        rw [nv_len] at this
        exact this
      have hx : z[m]? = some (z.getD m 0) := by
        rw [List.getD_eq_getElem?_getD, List.getElem?_eq_getElem hml]
        rfl
      have ev : v = .int (z.getD m 0 : Nat) := by
        have := nv_get hx
        rw [hv] at this
        exact Option.some.inj this
      subst ev
      have e06 := e5.trans e6
      have ha6 := e06 a _ ha1
      have xm : z.getD m 0 ≤ 20 := Nat.le_trans (le_sum (List.mem_of_getElem? hx)) z20
      have bd := (botTo_bd o m (by omega)).2
      have bd2 : botTo z m < 2 ^ 200 := Nat.lt_of_le_of_lt bd (Nat.lt_of_le_of_lt (Nat.pow_le_pow_right (by decide) (show m ≤ 20 by omega)) (by decide))
      have c2 : (z.take (m + 1)).count (z.getD m 0) ≤ 20 := by
        have := List.count_le_length (a := z.getD m 0) (l := z.take (m + 1))
        rw [List.length_take] at this
        omega
      have m1 : CMulX ((botTo z m : Nat) : Int) (z.getD m 0 : Nat) := mulx_ok (a := 250) (b := 64) (by rw [Int.natAbs_natCast]; exact Nat.lt_of_lt_of_le bd2 (Nat.pow_le_pow_right (by decide) (by decide))) (by omega) (by decide)
      have m2 : CMulX (((botTo z m : Nat) : Int) * (z.getD m 0 : Nat)) (((z.take (m + 1)).count (z.getD m 0) : Nat) : Int) := mulx_ok (a := 300) (b := 64) (by
        rw [← Int.natCast_mul, Int.natAbs_natCast]
        exact Nat.lt_of_lt_of_le (Nat.mul_lt_mul_of_lt_of_le bd2 (show z.getD m 0 ≤ 32 by omega) (by decide)) (by decide)) (by omega) (by decide)
      have g := el_sl (K := K) (te := tVar 0) (σ := [some (.ref a), some (.int ((botTo z m : Nat) : Int)), some (.int (m : Int)), some (.int (z.getD m 0 : Nat))]) (H := H6) (lo := none) (hi := some ((m : Int) + 1)) (tl := tNoPart) (th := tPart (tOp (rI0 fun i j => .int (i + j)) (tVar 2) (tC (.int 1)))) (ev_var rfl) eo_none (eo_some (ev_op (ev_var rfl) ev_c rv_I0)) (sq_of ha6)
      rw [show (m : Int) + 1 = ((m + 1 : Nat) : Int) by omega, cut_to (by omega)] at g
      have cnt := ev_countFL (K := K) (te := tVar 3) (y := .int (z.getD m 0 : Nat)) g (fun H7 e7 => ev_var rfl) rfl (nv_flat _)
      rw [count_nv] at cnt
      refine s_asg (v := .int ((botTo z (m + 1) : Nat) : Int)) (ev_is (ev_op (ev_op (ev_var rfl) (ev_var rfl) (rv_I m1)) cnt (rv_I m2)) ?_) fun H7 e7 => ⟨_, _, rfl, e06.trans e7⟩
      show V.int (((botTo z m : Nat) : Int) * (z.getD m 0 : Nat) * (((z.take (m + 1)).count (z.getD m 0) : Nat) : Int)) = V.int ((botTo z m * z.getD m 0 * (z.take (m + 1)).count (z.getD m 0) : Nat) : Int)
      rw [Int.natCast_mul, Int.natCast_mul]
    · rintro σ' H' ⟨y3, y4, rfl, e⟩
      rw [nv_len]
      have bd := botTo_bd o z.length (Nat.le_refl _)
      have bd2 : botTo z z.length < 2 ^ 200 := Nat.lt_of_le_of_lt bd.2 (Nat.lt_of_le_of_lt (Nat.pow_le_pow_right (by decide) (show z.length ≤ 20 by omega)) (by decide))
      have sm : Ev (tCB (rSum K) (tCons (tVar 0) tNil)) [some (.ref a), some (.int ((botTo z z.length : Nat) : Int)), y3, y4] H' (.int (z.sum : Int)) := fun H1 e' Q q => ev_var (i := 0) (v := .ref a) rfl H1 e' _ fun H2 e2 => ⟨a, iz z, rfl, sq_of (e2 a _ (e' a _ (e a _ ha1))), by rw [iz_sum]; exact q H2 e2⟩
      have dv : CDivW ((fac z.sum : Nat) : Int) ((botTo z z.length : Nat) : Int) := divw_ok (by omega) (by omega)
      exact s_ret (ev_is (ev_op (ev_fac sm (by omega)) (ev_var rfl) (rv_I dv)) (congrArg V.int (Int.natCast_ediv _ _).symm)) fun H2 e2 => k _ (e1.trans (e.trans e2))
end


local macro_rules | `(tactic| walk_at "call") => `(tactic| (with_reducible exact sv_whole))

/-! ### the functions of sizes -/
theorem judgeZ_get {K : PySem.W.Frag} {H : Hp} {v : V} {o : Option (List PyData)} (hv : ThS K H v o) (hj : judgeZ o = true) : ∃ (a : Addr) (s : List Nat), v = .ref a ∧ H a = some (.lst (nv s)) ∧ Szs s ∧ o = some ((iz s).map PyData.int) := by
  obtain ⟨hv, _⟩ := hv
  cases hv with
  | @lst a xs ds ha hd hf =>
    unfold judgeZ at hj
    simp only [Bool.and_eq_true] at hj
    obtain ⟨hp, h1, h2⟩ := hj
    have ai := pos_isI hp
    have ex := ints_of hd ai
    have pos : ∀ n ∈ intsOf ds, 1 ≤ n := fun n hn => by
      unfold intsOf at hn
      obtain ⟨d, hd, rfl⟩ := List.mem_map.mp hn
      have := List.all_eq_true.mp hp d hd
      cases d with
      | int i => exact of_decide_eq_true this
      | _ => exact Bool.noConfusion this
    obtain ⟨s, es⟩ := nat_of_ints (ns := intsOf ds) fun n hn => by have := pos n hn; omega
    have back : ∀ l : List PyData, l.all isI = true → l = (intsOf l).map PyData.int := by
      intro l
      induction l with
      | nil => intro _; rfl
      | cons d r ih =>
        intro h
        rw [List.all_cons, Bool.and_eq_true] at h
        have ih := ih h.2
        cases d with
        | int i =>
          show PyData.int i :: r = PyData.int i :: (intsOf r).map PyData.int
          rw [← ih]
        | _ => exact Bool.noConfusion h.1
    have h1 := of_decide_eq_true h1
    have h2 := of_decide_eq_true h2
    rw [es, iz_sum] at h1 h2
    refine ⟨a, s, rfl, by rw [ha, ex, es]; rfl, ⟨fun x hx => ?_, by omega, by omega⟩, by rw [back ds ai, es]⟩
    have := pos (x : Int) (by rw [es]; exact List.mem_map.mpr ⟨x, hx, rfl⟩)
    omega
  | non => exact Bool.noConfusion hj
  | bl b => exact Bool.noConfusion hj
  | int i => exact Bool.noConfusion hj
  | str x => exact Bool.noConfusion hj
  | tup h => exact Bool.noConfusion hj
  | dct h => exact Bool.noConfusion hj
def dZ (o : Option (List PyData)) : Option Nat := if judgeZ o then none else some 1
/-- the product that ways_by_opening divides by -/
def botO (s : List Nat) : Nat → Nat
  | 0 => 1
  | i + 1 => botO s i * (s.drop i).sum
theorem drop_sum {s : List Nat} {i : Nat} (h : i < s.length) : (s.drop i).sum = s.getD i 0 + (s.drop (i + 1)).sum := by
  rw [List.drop_eq_getElem_cons h, List.sum_cons, List.getD_eq_getElem?_getD, List.getElem?_eq_getElem h]
  rfl
theorem drop_le (s : List Nat) (i : Nat) : (s.drop i).sum ≤ s.sum := by
  conv => rhs; rw [← List.take_append_drop i s, List.sum_append]
  omega
theorem botO_bd {s : List Nat} (o : Szs s) : ∀ i, i ≤ s.length → 1 ≤ botO s i ∧ botO s i ≤ 20 ^ i
  | 0, _ => ⟨Nat.le_refl _, Nat.le_refl _⟩
  | i + 1, h => by
    obtain ⟨a, b⟩ := botO_bd o i (by omega)
    have d := drop_sum (s := s) (i := i) (by omega)
    have hx : s[i]? = some (s.getD i 0) := by
      rw [List.getD_eq_getElem?_getD, List.getElem?_eq_getElem (by omega)]
      rfl
    have x1 := o.1 _ (List.mem_of_getElem? hx)
    have dl := drop_le s i
    have o2 := o.2.2
    show 1 ≤ botO s i * (s.drop i).sum ∧ botO s i * (s.drop i).sum ≤ 20 ^ (i + 1)
    refine ⟨Nat.mul_pos a (by omega), ?_⟩
    rw [Nat.pow_succ]
    exact Nat.mul_le_mul b (by omega)
def wbo (s : List Nat) : Nat := fac s.sum / botO s s.length
def sp_ways_by_opening : Sp := fun vs H Q _ => ∃ (a : Addr) (s : List Nat), vs = [.ref a] ∧ H a = some (.lst (nv s)) ∧ Szs s ∧ RetV (.int (wbo s : Nat)) H Q
theorem sv_wbo {H : Hp} {a : Addr} {s : List Nat} (ha : H a = some (.lst (nv s))) (o : Szs s) : SpV sp_ways_by_opening ([.ref a] ++ []) H (.int (wbo s : Nat)) := fun H1 e Q q E => ⟨a, s, rfl, e a _ ha, o, q⟩
theorem ev_sumV {K : PySem.W.Frag} {σ : L2.St} {H : Hp} {i : Nat} {a : Addr} {s : List Nat} (h : σ[i]? = some (some (.ref a))) (ha : H a = some (.lst (nv s))) : Ev (tCB (rSum K) (tCons (tVar i) tNil)) σ H (.int (s.sum : Int)) := fun H1 e Q q => ev_var (i := i) (v := .ref a) h H1 e _ fun H2 e2 => ⟨a, iz s, rfl, sq_of (e2 a _ (e a _ ha)), by rw [iz_sum]; exact q H2 e2⟩
section
variable {P : Program} {w : World} {K : PySem.W.Frag} {mg : Str → Option Value} {base : Heap}
theorem ok_ways_by_opening (T : Tx K mg) : FnOk P w K mg base CX0 1 T.f_ways_by_opening T.d_ways_by_opening ["sizes"] sp_ways_by_opening := by
  refine T.F_ways_by_opening.ok sc_ways_by_opening (fun vs H Q E h => ?_) (fun cdv A outer s H vs Q E hr h => ?_)
  · obtain ⟨a, s, rfl, _⟩ := h
    rfl
  · obtain ⟨a, z, rfl, ha, o, k⟩ := h
    refine ⟨_, (pss_cons (ps_set (i := 1) sc_ways_by_opening.nd rfl (Or.inl rfl) (pe_callB (cr_sum rfl) (by rfl) T.m_sum (by decide +kernel) (pa_cons (pv 0) pa_nil)))
      (pss_cons (ps_set (i := 2) sc_ways_by_opening.nd rfl (Or.inl rfl) (pe_callBfun cr_factorial (by rfl) T.i_factorial (pa_cons (pv 1) pa_nil)))
      (pss_cons (ps_set (i := 3) sc_ways_by_opening.nd rfl (Or.inl rfl) pe_int)
      (pss_cons (ps_for PassesOwn.never rfl (pi_list (pv 0)) (pg_name (i := 4) sc_ways_by_opening.nd rfl (Or.inl rfl)) (pss_cons (ps_set (i := 3) sc_ways_by_opening.nd rfl (Or.inl rfl) (pe_op op_mulX (pv 3) (pv 1)))
      (pss_one (ps_aug (i := 1) sc_ways_by_opening.nd rfl (Or.inl rfl) (pv 4) ip_sub))))
      (pss_one (ps_ret (pe_op op_fdivW (pv 2) (pv 3)))))))), ?_⟩
    have zl := sum_ge o.1
    have z20 := o.2.2
    refine q_asg (v := .int ((z.drop 0).sum : Nat)) (ev_sumV rfl ha) fun H1 e1 => ?_
    refine q_asg (v := .int ((fac z.sum : Nat) : Int)) (ev_fac (n := z.sum) (ev_var rfl) (by omega)) fun H2 e2 => ?_
    refine q_asg (v := .int ((botO z 0 : Nat) : Int)) ev_c fun H3 e3 => ?_
    have e03 := e1.trans (e2.trans e3)
    have ha3 := e03 a _ ha
    refine q_forLn (xs := nv z) (K := K) (ev_var rfl) (sq_of ha3) (fun m σ' H' => ∃ (y : Option V), σ' = [some (.ref a), some (.int ((z.drop m).sum : Nat)), some (.int ((fac z.sum : Nat) : Int)), some (.int ((botO z m : Nat) : Int)), y] ∧ Ex H3 H')
      (fun H5 e5 => ⟨none, rfl, e5⟩) (fun m σ' H' _ ⟨_, _, e⟩ => sq_of (e a _ ha3)) ?_ ?_
    · rintro m v σ' H5 hv ⟨y, rfl, e5⟩
      have hml : m < z.length := by
        have := (List.getElem?_eq_some_iff.mp hv).1
        rw [nv_len] at this
        exact this
      have hx : z[m]? = some (z.getD m 0) := by
        rw [List.getD_eq_getElem?_getD, List.getElem?_eq_getElem hml]
        rfl
      have ev : v = .int (z.getD m 0 : Nat) := by
        have := nv_get hx
        rw [hv] at this
        exact Option.some.inj this
      subst ev
      have bd := (botO_bd o m (by omega)).2
      have dl := drop_le z m
      have ds := drop_sum hml
      have bd2 : botO z m < 2 ^ 100 := Nat.lt_of_le_of_lt bd (Nat.lt_of_le_of_lt (Nat.pow_le_pow_right (by decide) (show m ≤ 20 by omega)) (by decide))
      have m1 : CMulX ((botO z m : Nat) : Int) ((z.drop m).sum : Nat) := mulx_ok (a := 250) (b := 64) (by rw [Int.natAbs_natCast]; exact Nat.lt_of_lt_of_le bd2 (Nat.pow_le_pow_right (by decide) (by decide))) (by omega) (by decide)
      refine q_asg (v := .int ((botO z (m + 1) : Nat) : Int)) (ev_is (ev_op (ev_var rfl) (ev_var rfl) (rv_I m1)) ?_) fun H6 e6 => ?_
      · show V.int (((botO z m : Nat) : Int) * (((z.drop m).sum : Nat) : Int)) = V.int ((botO z m * (z.drop m).sum : Nat) : Int)
        rw [Int.natCast_mul]
      · refine s_aug (a := ((z.drop m).sum : Nat)) (b := (z.getD m 0 : Nat)) rfl (ev_var rfl) fun H7 e7 => ⟨some (.int (z.getD m 0 : Nat)), ?_, e5.trans (e6.trans e7)⟩
        have : (((z.drop m).sum : Nat) : Int) - (z.getD m 0 : Nat) = ((z.drop (m + 1)).sum : Nat) := by omega
        rw [this]
        rfl
    · rintro σ' H' ⟨y, rfl, e⟩
      rw [nv_len]
      have bd := botO_bd o z.length (Nat.le_refl _)
      have bd2 : botO z z.length < 2 ^ 100 := Nat.lt_of_le_of_lt bd.2 (Nat.lt_of_le_of_lt (Nat.pow_le_pow_right (by decide) (show z.length ≤ 20 by omega)) (by decide))
      have dv : CDivW ((fac z.sum : Nat) : Int) ((botO z z.length : Nat) : Int) := divw_ok (by omega) (by omega)
      exact s_ret (ev_is (ev_op (ev_var rfl) (ev_var rfl) (rv_I dv)) (congrArg V.int (Int.natCast_ediv _ _).symm)) fun H4 e4 => k _ (e03.trans (e.trans e4))
def sp_z1 (T : Tx K mg) : Sp := fun vs H Q E => ∃ (v : V) (o : Option (List PyData)), vs = [v] ∧ ThS K H v o ∧ Out ((dZ o).map (erA T)) H Q E
theorem ok_count_sizes (T : Tx K mg) : FnOk P w K mg base (L2N.CX P w) 5 T.f_count_sizes T.d_count_sizes ["sizes"] (sp_z1 T) := by
  refine Kit.okN T.F_count_sizes sc_count_sizes (fun vs H Q E h => ?_) (fun cdv A outer s H vs Q E hr h => ?_)
  · obtain ⟨v, o, rfl, _⟩ := h
    rfl
  · obtain ⟨v, o, rfl, hv, k⟩ := h
    refine ⟨_, (pss_cons (ps_expr (pe_call (ok_check_sizes T) (hr.mono (by decide)) (by rfl) T.g_check_sizes T.F_check_sizes.kp T.b_check_sizes .nil Kit.passN (pa_cons (pv 0) pa_nil)))
      (PSs.nox (pss_one (ps_ret (pe_call (ok_ways_with_sizes T) (hr.mono (by decide)) (by rfl) T.g_ways_with_sizes T.F_ways_with_sizes.kp T.b_ways_with_sizes .nil pass0 (pa_cons (pv 0) pa_nil)))))), ?_⟩
    refine q_chk (ea_cons (ev_var rfl) ea_nil) (so_chkZ hv) (fun hn H1 e1 => ?_) fun C hC H1 e1 => ?_
    · have hj := due_no hn
      obtain ⟨a, z, rfl, ha, oz, _⟩ := judgeZ_get (hv.ex e1) hj
      have kn := k.no (by unfold dZ; rw [if_pos hj]; rfl)
      exact s_ret (ev_call (ea_cons (ev_var rfl) ea_nil) (sv_wws ha oz)) fun H2 e2 => kn _ _ (e1.trans e2)
    · obtain ⟨hj, rfl⟩ := due_yes hC
      exact k.yes _ (by unfold dZ; rw [if_neg (by simpa using hj)]; rfl) _ e1
theorem ok_count_by_opening (T : Tx K mg) : FnOk P w K mg base (L2N.CX P w) 5 T.f_count_by_opening T.d_count_by_opening ["sizes"] (sp_z1 T) := by
  refine Kit.okN T.F_count_by_opening sc_count_by_opening (fun vs H Q E h => ?_) (fun cdv A outer s H vs Q E hr h => ?_)
  · obtain ⟨v, o, rfl, _⟩ := h
    rfl
  · obtain ⟨v, o, rfl, hv, k⟩ := h
    refine ⟨_, (pss_cons (ps_expr (pe_call (ok_check_sizes T) (hr.mono (by decide)) (by rfl) T.g_check_sizes T.F_check_sizes.kp T.b_check_sizes .nil Kit.passN (pa_cons (pv 0) pa_nil)))
      (PSs.nox (pss_one (ps_ret (pe_call (ok_ways_by_opening T) (hr.mono (by decide)) (by rfl) T.g_ways_by_opening T.F_ways_by_opening.kp T.b_ways_by_opening .nil pass0 (pa_cons (pv 0) pa_nil)))))), ?_⟩
    refine q_chk (ea_cons (ev_var rfl) ea_nil) (so_chkZ hv) (fun hn H1 e1 => ?_) fun C hC H1 e1 => ?_
    · have hj := due_no hn
      obtain ⟨a, z, rfl, ha, oz, _⟩ := judgeZ_get (hv.ex e1) hj
      have kn := k.no (by unfold dZ; rw [if_pos hj]; rfl)
      exact s_ret (ev_call (ea_cons (ev_var rfl) ea_nil) (sv_wbo ha oz)) fun H2 e2 => kn _ _ (e1.trans e2)
    · obtain ⟨hj, rfl⟩ := due_yes hC
      exact k.yes _ (by unfold dZ; rw [if_neg (by simpa using hj)]; rfl) _ e1
end


local macro_rules | `(tactic| walk_at "call") => `(tactic| (with_reducible exact sv_whole))

def wOk (x : Int) : Prop := 1 ≤ x ∧ x ≤ 1000000000000
instance (x : Int) : Decidable (wOk x) := inferInstanceAs (Decidable (_ ∧ _))
def dZW (o : Option (List PyData)) (x : Int) : Option Nat := if judgeZ o then (if 1 ≤ x ∧ x ≤ 1000000000000 then none else some 2) else some 1
theorem wws_le {s : List Nat} (o : Szs s) : wws s < 2 ^ 64 ∧ wbo s < 2 ^ 64 := by
  have f20 : fac s.sum < 2 ^ 64 := Nat.lt_of_le_of_lt (fac_mono o.2.2) fac20
  exact ⟨Nat.lt_of_le_of_lt (Nat.div_le_self _ _) f20, Nat.lt_of_le_of_lt (Nat.div_le_self _ _) f20⟩
def sp_share_of_ways : Sp := fun vs H Q _ => ∃ (W : Nat) (a : Addr) (s : List Nat) (x : Int), vs = [.int (W : Int), .ref a, .int x] ∧ W < 2 ^ 64 ∧ H a = some (.lst (nv s)) ∧ Szs s ∧ (1 ≤ x ∧ x ≤ 1000000000000) ∧ ∀ v H1, Ex H H1 → Q v H1
section
variable {P : Program} {w : World} {K : PySem.W.Frag} {mg : Str → Option Value} {base : Heap}
theorem ok_share_of_ways (T : Tx K mg) : FnOk P w K mg base CX0 2 T.f_share_of_ways T.d_share_of_ways ["ways", "sizes", "weight"] sp_share_of_ways := by
  refine T.F_share_of_ways.ok sc_share_of_ways (fun vs H Q E h => ?_) (fun cdv A outer s H vs Q E hr h => ?_)
  · obtain ⟨W, a, s, x, rfl, _⟩ := h
    rfl
  · obtain ⟨W, a, z, x, rfl, hW, ha, o, hx, k⟩ := h
    refine ⟨_, (pss_one (ps_ret (pe_call (ok_fraction T) (hr.mono (by decide)) (by rfl) T.g_fraction T.F_fraction.kp T.b_fraction .nil pass0 (pa_cons (pe_op op_mulX (pv 0) (pe_call (ok_raised T) (hr.mono (by decide)) (by rfl) T.g_raised T.F_raised.kp T.b_raised .nil pass0 (pa_cons (pv 2) (pa_cons (pe_callB call_lenR (by rfl) T.m_len (by decide +kernel) (pa_cons (pv 1) pa_nil)) pa_nil)))) (pa_cons (pe_call (ok_rising T) (hr.mono (by decide)) (by rfl) T.g_rising T.F_rising.kp T.b_rising .nil pass0 (pa_cons (pv 2) (pa_cons (pe_callB (cr_sum rfl) (by rfl) T.m_sum (by decide +kernel) (pa_cons (pv 1) pa_nil)) pa_nil))) pa_nil))))), ?_⟩
    have zl := sum_ge o.1
    have z20 := o.2.2
    have hb : x.natAbs < 2 ^ 130 := by omega
    have l1 := ev_lenH (K := K) (σ := start n_share_of_ways [.int (W : Int), .ref a, .int x]) (i := 1) rfl ha
    have pw := ev_call (E := E0) (ea_cons (ev_var (i := 2) (v := .int x) (σ := start n_share_of_ways [.int (W : Int), .ref a, .int x]) rfl) (ea_cons l1 ea_nil)) (sv_pow hb (by omega) (by omega))
    rw [Int.toNat_natCast] at pw
    have hm : CMulX (W : Int) (x ^ z.length) := mulx_ok (a := 64) (by omega) (lt_of_le2 (natAbs_pow_le hb z.length)) (by omega)
    refine s_retU (eu_call (ea_cons (ev_op (ev_var rfl) pw (rv_I hm)) (ea_cons (ev_call (ea_cons (ev_var rfl) (ea_cons (ev_sumV rfl ha) ea_nil)) (sv_rise hb (by omega))) ea_nil)) (su_fraction (rise_pos hx.1 _) (lt2_mono (lt_of_le2 (rise_le hb _ (by omega))) (by omega)))) fun p H3 hp e3 h3 => k _ _ e3
def sp_zw (T : Tx K mg) : Sp := fun vs H Q E => ∃ (v : V) (o : Option (List PyData)) (x : Int), vs = [v, .int x] ∧ ThS K H v o ∧ Out ((dZW o x).map (erA T)) H Q E
theorem ok_sizes_share (T : Tx K mg) : FnOk P w K mg base (L2N.CX P w) 5 T.f_sizes_share T.d_sizes_share ["sizes", "weight"] (sp_zw T) := by
  refine Kit.okN T.F_sizes_share sc_sizes_share (fun vs H Q E h => ?_) (fun cdv A outer s H vs Q E hr h => ?_)
  · obtain ⟨v, o, x, rfl, _⟩ := h
    rfl
  · obtain ⟨v, o, x, rfl, hv, k⟩ := h
    refine ⟨_, (pss_cons (ps_expr (pe_call (ok_check_sizes T) (hr.mono (by decide)) (by rfl) T.g_check_sizes T.F_check_sizes.kp T.b_check_sizes .nil Kit.passN (pa_cons (pv 0) pa_nil)))
      (pss_cons (ps_expr (pe_call (ok_check_weight T) (hr.mono (by decide)) (by rfl) T.g_check_weight T.F_check_weight.kp T.b_check_weight .nil Kit.passN (pa_cons (pv 1) pa_nil)))
      (PSs.nox (pss_one (ps_ret (pe_call (ok_share_of_ways T) (hr.mono (by decide)) (by rfl) T.g_share_of_ways T.F_share_of_ways.kp T.b_share_of_ways .nil pass0 (pa_cons (pe_call (ok_ways_with_sizes T) (hr.mono (by decide)) (by rfl) T.g_ways_with_sizes T.F_ways_with_sizes.kp T.b_ways_with_sizes .nil pass0 (pa_cons (pv 0) pa_nil)) (pa_cons (pv 0) (pa_cons (pv 1) pa_nil))))))))), ?_⟩
    refine q_chk (ea_cons (ev_var rfl) ea_nil) (so_chkZ hv) (fun hn H1 e1 => ?_) fun C hC H1 e1 => ?_
    · have hj := due_no hn
      refine q_chk (ea_cons (ev_var rfl) ea_nil) so_chk1 (fun hn2 H2 e2 => ?_) fun C hC H2 e2 => ?_
      · have hx := due_no hn2
        obtain ⟨a, z, rfl, ha, oz, _⟩ := judgeZ_get (hv.ex (e1.trans e2)) hj
        have kn := k.no (by unfold dZW; rw [if_pos hj, if_pos hx]; rfl)
        exact s_retCall (vs := [.int (wws z : Nat), .ref a, .int x]) (ea_cons (ev_call (ea_cons (ev_var rfl) ea_nil) (sv_wws ha oz)) (ea_cons (ev_var rfl) (ea_cons (ev_var rfl) ea_nil))) fun H3 e3 => ⟨_, a, z, x, rfl, (wws_le oz).1, e3 a _ ha, oz, hx, fun v H4 e4 => kn _ _ (e1.trans (e2.trans (e3.trans e4)))⟩
      · obtain ⟨hx, rfl⟩ := due_yes hC
        exact k.yes _ (by unfold dZW; rw [if_pos hj, if_neg hx]; rfl) _ (e1.trans e2)
    · obtain ⟨hj, rfl⟩ := due_yes hC
      exact k.yes _ (by unfold dZW; rw [if_neg (by simpa using hj)]; rfl) _ e1
theorem ok_opening_share (T : Tx K mg) : FnOk P w K mg base (L2N.CX P w) 5 T.f_opening_share T.d_opening_share ["sizes", "weight"] (sp_zw T) := by
  refine Kit.okN T.F_opening_share sc_opening_share (fun vs H Q E h => ?_) (fun cdv A outer s H vs Q E hr h => ?_)
  · obtain ⟨v, o, x, rfl, _⟩ := h
    rfl
  · obtain ⟨v, o, x, rfl, hv, k⟩ := h
    refine ⟨_, (pss_cons (ps_expr (pe_call (ok_check_sizes T) (hr.mono (by decide)) (by rfl) T.g_check_sizes T.F_check_sizes.kp T.b_check_sizes .nil Kit.passN (pa_cons (pv 0) pa_nil)))
      (pss_cons (ps_expr (pe_call (ok_check_weight T) (hr.mono (by decide)) (by rfl) T.g_check_weight T.F_check_weight.kp T.b_check_weight .nil Kit.passN (pa_cons (pv 1) pa_nil)))
      (PSs.nox (pss_one (ps_ret (pe_call (ok_share_of_ways T) (hr.mono (by decide)) (by rfl) T.g_share_of_ways T.F_share_of_ways.kp T.b_share_of_ways .nil pass0 (pa_cons (pe_call (ok_ways_by_opening T) (hr.mono (by decide)) (by rfl) T.g_ways_by_opening T.F_ways_by_opening.kp T.b_ways_by_opening .nil pass0 (pa_cons (pv 0) pa_nil)) (pa_cons (pv 0) (pa_cons (pv 1) pa_nil))))))))), ?_⟩
    refine q_chk (ea_cons (ev_var rfl) ea_nil) (so_chkZ hv) (fun hn H1 e1 => ?_) fun C hC H1 e1 => ?_
    · have hj := due_no hn
      refine q_chk (ea_cons (ev_var rfl) ea_nil) so_chk1 (fun hn2 H2 e2 => ?_) fun C hC H2 e2 => ?_
      · have hx := due_no hn2
        obtain ⟨a, z, rfl, ha, oz, _⟩ := judgeZ_get (hv.ex (e1.trans e2)) hj
        have kn := k.no (by unfold dZW; rw [if_pos hj, if_pos hx]; rfl)
        exact s_retCall (vs := [.int (wbo z : Nat), .ref a, .int x]) (ea_cons (ev_call (ea_cons (ev_var rfl) ea_nil) (sv_wbo ha oz)) (ea_cons (ev_var rfl) (ea_cons (ev_var rfl) ea_nil))) fun H3 e3 => ⟨_, a, z, x, rfl, (wws_le oz).2, e3 a _ ha, oz, hx, fun v H4 e4 => kn _ _ (e1.trans (e2.trans (e3.trans e4)))⟩
      · obtain ⟨hx, rfl⟩ := due_yes hC
        exact k.yes _ (by unfold dZW; rw [if_pos hj, if_neg hx]; rfl) _ (e1.trans e2)
    · obtain ⟨hj, rfl⟩ := due_yes hC
      exact k.yes _ (by unfold dZW; rw [if_neg (by simpa using hj)]; rfl) _ e1
end


local macro_rules | `(tactic| walk_at "call") => `(tactic| (with_reducible exact sv_whole))

/-! ### given_together -/
def sumO (o : Option (List PyData)) : Int := (intsOf (o.getD [])).sum
theorem sumO_ints (s : List Nat) : sumO (some ((iz s).map PyData.int)) = (s.sum : Int) := by
  unfold sumO
  have : intsOf ((iz s).map PyData.int) = iz s := by
    unfold intsOf
    rw [List.map_map]
    exact List.map_id _
  show (intsOf ((iz s).map PyData.int)).sum = _
  rw [this, iz_sum]
def dT (o : Option (List PyData)) : Option Nat := if judgeZ o then (if 2 ≤ sumO o then none else some 1) else some 1
section
variable {P : Program} {w : World} {K : PySem.W.Frag} {mg : Str → Option Value} {base : Heap}
def sp_t1 (T : Tx K mg) : Sp := fun vs H Q E => ∃ (v : V) (o : Option (List PyData)), vs = [v] ∧ ThS K H v o ∧ Out ((dT o).map (erA T)) H Q E
theorem ok_given_together (T : Tx K mg) : FnOk P w K mg base (L2N.CX P w) 5 T.f_given_together T.d_given_together ["sizes"] (sp_t1 T) := by
  refine Kit.okN T.F_given_together sc_given_together (fun vs H Q E h => ?_) (fun cdv A outer s H vs Q E hr h => ?_)
  · obtain ⟨v, o, rfl, _⟩ := h
    rfl
  · obtain ⟨v, o, rfl, hv, k⟩ := h
    refine ⟨_, (pss_cons (ps_expr (pe_call (ok_check_sizes T) (hr.mono (by decide)) (by rfl) T.g_check_sizes T.F_check_sizes.kp T.b_check_sizes .nil Kit.passN (pa_cons (pv 0) pa_nil)))
      (pss_cons (ps_set (i := 1) sc_given_together.nd rfl (Or.inl rfl) (pe_callB (cr_sum rfl) (by rfl) T.m_sum (by decide +kernel) (pa_cons (pv 0) pa_nil)))
      (pss_cons (ps_if (pt_cmpR op_lt (pv 1) pe_int (nomark _)) (pss_one (Kit.ps_raiseN rfl Kit.takesN T.e_InvalidSizes T.gc_InvalidSizes (by rfl) pe_str)) pss_nil)
      (PSs.nox (pss_one (ps_ret (pe_call (ok_fraction T) (hr.mono (by decide)) (by rfl) T.g_fraction T.F_fraction.kp T.b_fraction .nil pass0 (pa_cons (pe_callB (cr_sum rfl) (by rfl) T.m_sum (by decide +kernel) (pa_cons (pe_lc (own := [("size", 2)]) (g := (gName 2)) (tt := tYes) rfl sc_given_together.nd (pi_list (pv 0)) (blkOk_by (own := [("size", 2)]) (N := n_given_together) (sc := defScope s_given_together) (by decide +kernel)) (fun _ _ _ _ _ => (pg_name (i := 2) sc_given_together.nd rfl (Or.inl rfl))) (fun _ _ _ _ _ => pts_nil) (fun _ _ _ _ _ => (pe_op op_mulX (pv 2) (pe_op op_sub (pv 2) pe_int)))) pa_nil)) (pa_cons (pe_op op_mulX (pv 1) (pe_op op_sub (pv 1) pe_int)) pa_nil))))))))), ?_⟩
    refine q_chk (ea_cons (ev_var rfl) ea_nil) (so_chkZ hv) (fun hn H1 e1 => ?_) fun C hC H1 e1 => ?_
    · have hj := due_no hn
      obtain ⟨a, z, rfl, ha, oz, eo⟩ := judgeZ_get (hv.ex e1) hj
      have so : sumO o = (z.sum : Int) := by rw [eo, sumO_ints]
      have z20 := oz.2.2
      have zl := sum_ge oz.1
      refine q_asg (v := .int (z.sum : Int)) (ev_sumV rfl ha) fun H2 e2 => ?_
      have ha2 := e2 a _ ha
      refine q_when (b := decide ((z.sum : Int) < 2)) (et_test (ev_op (ev_var rfl) ev_c rv_I0)) (fun hb H3 e3 => ?_) fun hb H3 e3 => ?_
      · have hb := of_decide_eq_true hb
        exact k.yes _ (by unfold dT; rw [if_pos hj, so, if_neg (by omega)]; rfl) _ (e1.trans (e2.trans e3))
      · have hb := of_decide_eq_false hb
        have kn := k.no (by unfold dT; rw [if_pos hj, so, if_pos (by omega)]; rfl)
        have ha3 := e3 a _ ha2
        have e0 : ((List.range (nv z).length).map fun i => V.int ((z.getD i 0 : Int) * ((z.getD i 0 : Int) - 1))) = (z.map fun x : Nat => (x : Int) * ((x : Int) - 1)).map V.int := by
          rw [nv_len, List.map_map]
          conv => rhs; rw [range_get z 0]
          rw [List.map_map]
          rfl
        have sm : Ev (tCB (rSum K) (tCons (tLc (iList K (tVar 0)) (gName 2) tYes (tOp (rI CMulX fun i j => .int (i * j)) (tVar 2) (tOp (rI0 fun i j => .int (i - j)) (tVar 2) (tC (.int 1)))) [2]) tNil)) [some (.ref a), some (.int (z.sum : Int)), none] H3 (.int (z.map fun x : Nat => (x : Int) * ((x : Int) - 1)).sum) := by
          refine ev_sumN (ns := z.map fun x : Nat => (x : Int) * ((x : Int) - 1)) ?_
          rw [← e0]
          refine el_mapI _ (ev_var rfl) (sq_of ha3) (by rw [nv_len]; omega) (fun _ => rfl) fun i x H4 e4 hx => ?_
          have il := (List.getElem?_eq_some_iff.mp hx).1
          rw [nv_len] at il
          have hz : z[i]? = some (z.getD i 0) := by
            rw [List.getD_eq_getElem?_getD, List.getElem?_eq_getElem il]
            rfl
          have := nv_get hz
          rw [this] at hx
          cases hx
          have xm : z.getD i 0 ≤ 20 := Nat.le_trans (le_sum (List.mem_of_getElem? hz)) z20
          exact ev_op (ev_var rfl) (ev_op (ev_var rfl) ev_c rv_I0) (rv_I (mulx_ok (a := 64) (b := 64) (by omega) (by omega) (by decide)))
        have bp : 0 < (z.sum : Int) * ((z.sum : Int) - 1) := Int.mul_pos (by omega) (by omega)
        have bl : ((z.sum : Int) * ((z.sum : Int) - 1)).natAbs < 2 ^ 8000 := by
          rw [Int.natAbs_mul]
          exact Nat.lt_of_le_of_lt (Nat.mul_le_mul (show (z.sum : Int).natAbs ≤ 20 by omega) (show ((z.sum : Int) - 1).natAbs ≤ 20 by omega)) (by decide +kernel)
        exact s_retU (eu_call (ea_cons sm (ea_cons (ev_op (ev_var rfl) (ev_op (ev_var rfl) ev_c rv_I0) (rv_I (mulx_ok (a := 64) (b := 64) (by omega) (by omega) (by decide)))) ea_nil)) (su_fraction bp bl)) fun p H4 hp e4 h4 => kn _ _ (e1.trans (e2.trans (e3.trans e4)))
    · obtain ⟨hj, rfl⟩ := due_yes hC
      exact k.yes _ (by unfold dT; rw [if_neg (by simpa using hj)]; rfl) _ e1
end


local macro_rules | `(tactic| walk_at "call") => `(tactic| (with_reducible exact sv_whole))

/-! ### given_open -/
def dGO (o : Option (List PyData)) (x : Int) : Option Nat := if judgeZ o then (if 0 ≤ x ∧ x < sumO o then none else some 4) else some 1
section
variable {P : Program} {w : World} {K : PySem.W.Frag} {mg : Str → Option Value} {base : Heap}
def sp_go (T : Tx K mg) : Sp := fun vs H Q E => ∃ (v : V) (o : Option (List PyData)) (x : Int), vs = [v, .int x] ∧ ThS K H v o ∧ Out ((dGO o x).map (erA T)) H Q E
theorem ok_given_open (T : Tx K mg) : FnOk P w K mg base (L2N.CX P w) 5 T.f_given_open T.d_given_open ["sizes", "guest"] (sp_go T) := by
  refine Kit.okN T.F_given_open sc_given_open (fun vs H Q E h => ?_) (fun cdv A outer s H vs Q E hr h => ?_)
  · obtain ⟨v, o, x, rfl, _⟩ := h
    rfl
  · obtain ⟨v, o, x, rfl, hv, k⟩ := h
    refine ⟨_, (pss_cons (ps_expr (pe_call (ok_check_sizes T) (hr.mono (by decide)) (by rfl) T.g_check_sizes T.F_check_sizes.kp T.b_check_sizes .nil Kit.passN (pa_cons (pv 0) pa_nil)))
      (pss_cons (ps_set (i := 2) sc_given_open.nd rfl (Or.inr rfl) (pe_callB (cr_sum rfl) (by rfl) T.m_sum (by decide +kernel) (pa_cons (pv 0) pa_nil)))
      (pss_cons (ps_expr (pe_call (ok_check_guest T) (hr.mono (by decide)) (by rfl) T.g_check_guest T.F_check_guest.kp T.b_check_guest .nil Kit.passN (pa_cons (pv 1) (pa_cons (pv 2) pa_nil))))
      (PSs.nox (pss_cons (ps_set (i := 4) sc_given_open.nd rfl (Or.inl rfl) (pe_callB (cr_sum rfl) (by rfl) T.m_sum (by decide +kernel) (pa_cons (pe_lc (own := [("size", 3)]) (g := (gName 3)) (tt := tYes) rfl sc_given_open.nd (pi_list (pv 0)) (blkOk_by (own := [("size", 3)]) (N := n_given_open) (sc := defScope s_given_open) (by decide +kernel)) (fun _ _ _ _ _ => (pg_name (i := 3) sc_given_open.nd rfl (Or.inl rfl))) (fun _ _ _ _ _ => pts_nil) (fun _ _ _ _ _ => (pe_op op_mulX (pv 3) (pe_callBfun cr_comb (by rfl) T.i_comb (pa_cons (pe_op op_sub (pv 2) (pv 3)) (pa_cons (pv 1) pa_nil)))))) pa_nil)))
      (pss_one (ps_ret (pe_call (ok_fraction T) (hr.mono (by decide)) (by rfl) T.g_fraction T.F_fraction.kp T.b_fraction .nil pass0 (pa_cons (pv 4) (pa_cons (pe_op op_mulX (pv 2) (pe_callBfun cr_comb (by rfl) T.i_comb (pa_cons (pe_op op_sub (pv 2) pe_int) (pa_cons (pv 1) pa_nil)))) pa_nil)))))))))), ?_⟩
    refine q_chk (ea_cons (ev_var rfl) ea_nil) (so_chkZ hv) (fun hn H1 e1 => ?_) fun C hC H1 e1 => ?_
    · have hj := due_no hn
      obtain ⟨a, z, rfl, ha, oz, eo⟩ := judgeZ_get (hv.ex e1) hj
      have so : sumO o = (z.sum : Int) := by rw [eo, sumO_ints]
      have z1 := oz.2.1
      have z20 := oz.2.2
      have zl := sum_ge oz.1
      refine q_asg (v := .int (z.sum : Int)) (ev_sumV rfl ha) fun H2 e2 => ?_
      have ha2 := e2 a _ ha
      refine q_chk (ea_cons (ev_var rfl) (ea_cons (ev_var rfl) ea_nil)) (so_chkG (by omega)) (fun hn2 H3 e3 => ?_) fun C hC H3 e3 => ?_
      · have hx := due_no hn2
        have kn := k.no (by unfold dGO; rw [if_pos hj, so, if_pos hx]; rfl)
        obtain ⟨g, rfl⟩ : ∃ g : Nat, x = (g : Int) := ⟨x.toNat, by omega⟩
        have gl : g < z.sum := by omega
        have ha3 := e3 a _ ha2
        have e0 : ∀ Z : Nat, ((List.range (nv z).length).map fun i => V.int ((z.getD i 0 : Int) * (cho (Z - z.getD i 0) g : Int))) = (z.map fun y : Nat => (y : Int) * (cho (Z - y) g : Int)).map V.int := fun Z => by
          rw [nv_len, List.map_map]
          conv => rhs; rw [range_get z 0]
          rw [List.map_map]
          rfl
        have chb : ∀ n k, n ≤ 20 → ((cho n k : Nat) : Int).natAbs < 2 ^ 64 := fun n k hn => by
          rw [Int.natAbs_natCast]
          exact Nat.lt_of_le_of_lt (cho_le n k) (Nat.lt_of_le_of_lt (Nat.pow_le_pow_right (by decide) hn) (by decide))
        refine q_asg (v := .int (z.map fun y : Nat => (y : Int) * (cho (z.sum - y) g : Int)).sum) ?_ fun H4 e4 => ?_
        · refine ev_sumN (ns := z.map fun y : Nat => (y : Int) * (cho (z.sum - y) g : Int)) ?_
          rw [← e0]
          refine el_mapI _ (ev_var rfl) (sq_of ha3) (by rw [nv_len]; omega) (fun _ => rfl) fun i x H4 e4 hx => ?_
          have il := (List.getElem?_eq_some_iff.mp hx).1
          rw [nv_len] at il
          have hz : z[i]? = some (z.getD i 0) := by
            rw [List.getD_eq_getElem?_getD, List.getElem?_eq_getElem il]
            rfl
          have := nv_get hz
          rw [this] at hx
          cases hx
          have xm := le_sum (List.mem_of_getElem? hz)
          exact ev_op (ev_var rfl) (ev_comb (n := z.sum - z.getD i 0) (k := g) (ev_is (ev_op (ev_var rfl) (ev_var rfl) rv_I0) (congrArg V.int (by omega))) (ev_var rfl) (by omega)) (rv_I (mulx_ok (a := 64) (b := 64) (by omega) (chb _ _ (by omega)) (by decide)))
        · have cp := cho_pos (n := z.sum - 1) (k := g) (by omega)
          have bp : 0 < (z.sum : Int) * (cho (z.sum - 1) g : Int) := Int.mul_pos (by omega) (by omega)
          have bl : ((z.sum : Int) * (cho (z.sum - 1) g : Int)).natAbs < 2 ^ 8000 := by
            rw [Int.natAbs_mul]
            exact Nat.lt_of_le_of_lt (Nat.mul_le_mul (show (z.sum : Int).natAbs ≤ 20 by omega) (Nat.le_of_lt (chb (z.sum - 1) g (by omega)))) (by decide +kernel)
          exact s_retU (eu_call (ea_cons (ev_var rfl) (ea_cons (ev_op (ev_var rfl) (ev_comb (n := z.sum - 1) (k := g) (ev_is (ev_op (ev_var rfl) ev_c rv_I0) (congrArg V.int (by omega))) (ev_var rfl) (by omega)) (rv_I (mulx_ok (a := 64) (b := 64) (by omega) (chb _ _ (by omega)) (by decide)))) ea_nil)) (su_fraction bp bl)) fun p H5 hp e5 h5 => kn _ _ (e1.trans (e2.trans (e3.trans (e4.trans e5))))
      · obtain ⟨hx, rfl⟩ := due_yes hC
        exact k.yes _ (by unfold dGO; rw [if_pos hj, so, if_neg hx]; rfl) _ (e1.trans (e2.trans e3))
    · obtain ⟨hj, rfl⟩ := due_yes hC
      exact k.yes _ (by unfold dGO; rw [if_neg (by simpa using hj)]; rfl) _ e1
end


local macro_rules | `(tactic| walk_at "call") => `(tactic| (with_reducible exact sv_whole))

/-! ### tables_weight, weight_with_size -/
def sp_tables_weight : Sp := fun vs H Q _ => ∃ (g s : Nat) (x : Int), vs = [.int (g : Int), .int x, .int (s : Int)] ∧ (1 ≤ g ∧ g ≤ 20) ∧ (1 ≤ s ∧ s ≤ 20) ∧ (1 ≤ x ∧ x ≤ 1000000000000) ∧ RetV (.int (x * prm (g - 1) (s - 1))) H Q
theorem sv_tw {H : Hp} {g s : Nat} {x : Int} (hg : 1 ≤ g ∧ g ≤ 20) (hs : 1 ≤ s ∧ s ≤ 20) (hx : 1 ≤ x ∧ x ≤ 1000000000000) : SpV sp_tables_weight ([.int (g : Int), .int x, .int (s : Int)] ++ []) H (.int (x * prm (g - 1) (s - 1))) := fun H1 e Q q E => ⟨g, s, x, rfl, hg, hs, hx, q⟩
theorem prm_bd : ∀ n : Nat, n < 20 → ∀ k : Nat, k < 20 → (prm n k).natAbs < 2 ^ 64 := by decide +kernel
section
variable {P : Program} {w : World} {K : PySem.W.Frag} {mg : Str → Option Value} {base : Heap}
theorem ok_tables_weight (T : Tx K mg) : FnOk P w K mg base CX0 1 T.f_tables_weight T.d_tables_weight ["guests", "weight", "size"] sp_tables_weight := by
  refine T.F_tables_weight.ok sc_tables_weight (fun vs H Q E h => ?_) (fun cdv A outer s H vs Q E hr h => ?_)
  · obtain ⟨g, s, x, rfl, _⟩ := h
    rfl
  · obtain ⟨g, z, x, rfl, hg, hs, hx, k⟩ := h
    refine ⟨_, (pss_one (ps_ret (pe_op op_mulX (pv 1) (pe_callBfun cr_perm (by rfl) T.i_perm (pa_cons (pe_op op_sub (pv 0) pe_int) (pa_cons (pe_op op_sub (pv 2) pe_int) pa_nil)))))), ?_⟩
    exact s_ret (ev_op (ev_var rfl) (ev_perm (n := g - 1) (k := z - 1) (ev_is (ev_op (ev_var rfl) ev_c rv_I0) (congrArg V.int (by omega))) (ev_is (ev_op (ev_var rfl) ev_c rv_I0) (congrArg V.int (by omega))) (by omega) (by omega)) (rv_I (mulx_ok (a := 64) (b := 64) (by omega) (prm_bd _ (by omega) _ (by omega)) (by decide)))) fun H1 e1 => k _ e1
def sp_wws2 : Sp := fun vs H Q _ => ∃ (g s : Nat) (x : Int), vs = [.int (g : Int), .int x, .int (s : Int)] ∧ (1 ≤ g ∧ g ≤ 20) ∧ (1 ≤ s ∧ s ≤ g) ∧ (1 ≤ x ∧ x ≤ 1000000000000) ∧ RetV (.int (x * prm (g - 1) (s - 1) * rise x (g - s))) H Q
theorem ok_weight_with_size (T : Tx K mg) : FnOk P w K mg base CX0 2 T.f_weight_with_size T.d_weight_with_size ["guests", "weight", "size"] sp_wws2 := by
  refine T.F_weight_with_size.ok sc_weight_with_size (fun vs H Q E h => ?_) (fun cdv A outer s H vs Q E hr h => ?_)
  · obtain ⟨g, s, x, rfl, _⟩ := h
    rfl
  · obtain ⟨g, z, x, rfl, hg, hs, hx, k⟩ := h
    refine ⟨_, (pss_one (ps_ret (pe_op op_mulX (pe_call (ok_tables_weight T) (hr.mono (by decide)) (by rfl) T.g_tables_weight T.F_tables_weight.kp T.b_tables_weight .nil pass0 (pa_cons (pv 0) (pa_cons (pv 1) (pa_cons (pv 2) pa_nil)))) (pe_call (ok_rising T) (hr.mono (by decide)) (by rfl) T.g_rising T.F_rising.kp T.b_rising .nil pass0 (pa_cons (pv 1) (pa_cons (pe_op op_sub (pv 0) (pv 2)) pa_nil)))))), ?_⟩
    have hb : x.natAbs < 2 ^ 130 := by omega
    have pb := prm_bd (g - 1) (by omega) (z - 1) (by omega)
    have ml : (x * prm (g - 1) (z - 1)).natAbs < 2 ^ 150 := by
      rw [Int.natAbs_mul]
      exact Nat.lt_of_le_of_lt (Nat.mul_le_mul (show x.natAbs ≤ 1000000000000 by omega) (Nat.le_of_lt pb)) (by decide +kernel)
    exact s_ret (ev_op (ev_call (ea_cons (ev_var rfl) (ea_cons (ev_var rfl) (ea_cons (ev_var rfl) ea_nil))) (sv_tw hg ⟨hs.1, by omega⟩ hx)) (ev_call (ea_cons (ev_var rfl) (ea_cons (ev_is (ev_op (ev_var rfl) (ev_var rfl) rv_I0) (congrArg V.int (show (g : Int) - (z : Int) = ((g - z : Nat) : Int) by omega))) ea_nil)) (sv_rise hb (by omega))) (rv_I (mulx_ok (a := 150) ml (lt_of_le2 (rise_le hb _ (by omega))) (by omega)))) fun H1 e1 => k _ e1
end

/-! ### size_share, mean_number: only where an error is due -/
def dSN (x w n : Int) : Option Nat := if 1 ≤ x ∧ x ≤ 20 then (if 1 ≤ w ∧ w ≤ 1000000000000 then (if 1 ≤ n ∧ n ≤ x then none else some 5) else some 2) else some 3
section
variable {P : Program} {w : World} {K : PySem.W.Frag} {mg : Str → Option Value} {base : Heap}
def sp_sn (T : Tx K mg) : Sp := fun vs H Q E => ∃ x y n : Int, vs = [.int x, .int y, .int n] ∧ dSN x y n ≠ none ∧ Out ((dSN x y n).map (erA T)) H Q E
theorem ok_size_share (T : Tx K mg) : FnOk P w K mg base (L2N.CX P w) 4 T.f_size_share T.d_size_share ["guests", "weight", "size"] (sp_sn T) := by
  refine Kit.okN T.F_size_share sc_size_share (fun vs H Q E h => ?_) (fun cdv A outer s H vs Q E hr h => ?_)
  · obtain ⟨x, y, n, rfl, _⟩ := h
    rfl
  · obtain ⟨x, y, n, rfl, hd, k⟩ := h
    refine ⟨_, (pss_cons (ps_expr (pe_call (ok_check_guests T) (hr.mono (by decide)) (by rfl) T.g_check_guests T.F_check_guests.kp T.b_check_guests .nil Kit.passN (pa_cons (pv 0) pa_nil)))
      (pss_cons (ps_expr (pe_call (ok_check_weight T) (hr.mono (by decide)) (by rfl) T.g_check_weight T.F_check_weight.kp T.b_check_weight .nil Kit.passN (pa_cons (pv 1) pa_nil)))
      (pss_cons (ps_expr (pe_call (ok_check_number T) (hr.mono (by decide)) (by rfl) T.g_check_number T.F_check_number.kp T.b_check_number .nil Kit.passN (pa_cons (pv 2) (pa_cons pe_int (pa_cons (pv 0) pa_nil)))))
      (PSs.nox (pss_one (ps_ret (pe_call (ok_fraction T) (hr.mono (by decide)) (by rfl) T.g_fraction T.F_fraction.kp T.b_fraction .nil pass0 (pa_cons (pe_call (ok_weight_with_size T) (hr.mono (by decide)) (by rfl) T.g_weight_with_size T.F_weight_with_size.kp T.b_weight_with_size .nil pass0 (pa_cons (pv 0) (pa_cons (pv 1) (pa_cons (pv 2) pa_nil)))) (pa_cons (pe_call (ok_rising T) (hr.mono (by decide)) (by rfl) T.g_rising T.F_rising.kp T.b_rising .nil pass0 (pa_cons (pv 1) (pa_cons (pv 0) pa_nil))) pa_nil))))))))), ?_⟩
    refine q_chk (ea_cons (ev_var rfl) ea_nil) so_chk1 (fun hn H1 e1 => ?_) fun C hC H1 e1 => ?_
    · have h1 := due_no hn
      refine q_chk (ea_cons (ev_var rfl) ea_nil) so_chk1 (fun hn2 H2 e2 => ?_) fun C hC H2 e2 => ?_
      · have h2 := due_no hn2
        refine q_chk (ea_cons (ev_var rfl) (ea_cons ev_c (ea_cons (ev_var rfl) ea_nil))) (so_chkN (by decide) (Nat.lt_of_le_of_lt (m := 20) (by omega) (by decide +kernel))) (fun hn3 H3 e3 => ?_) fun C hC H3 e3 => ?_
        · exact absurd (show dSN x y n = none by unfold dSN; rw [if_pos h1, if_pos h2, if_pos (due_no hn3)]) hd
        · obtain ⟨h3, rfl⟩ := due_yes hC
          exact k.yes _ (by unfold dSN; rw [if_pos h1, if_pos h2, if_neg h3]; rfl) _ (e1.trans (e2.trans e3))
      · obtain ⟨h2, rfl⟩ := due_yes hC
        exact k.yes _ (by unfold dSN; rw [if_pos h1, if_neg h2]; rfl) _ (e1.trans e2)
    · obtain ⟨h1, rfl⟩ := due_yes hC
      exact k.yes _ (by unfold dSN; rw [if_neg h1]; rfl) _ e1
theorem ok_mean_number (T : Tx K mg) : FnOk P w K mg base (L2N.CX P w) 4 T.f_mean_number T.d_mean_number ["guests", "weight", "size"] (sp_sn T) := by
  refine Kit.okN T.F_mean_number sc_mean_number (fun vs H Q E h => ?_) (fun cdv A outer s H vs Q E hr h => ?_)
  · obtain ⟨x, y, n, rfl, _⟩ := h
    rfl
  · obtain ⟨x, y, n, rfl, hd, k⟩ := h
    refine ⟨_, (pss_cons (ps_expr (pe_call (ok_check_guests T) (hr.mono (by decide)) (by rfl) T.g_check_guests T.F_check_guests.kp T.b_check_guests .nil Kit.passN (pa_cons (pv 0) pa_nil)))
      (pss_cons (ps_expr (pe_call (ok_check_weight T) (hr.mono (by decide)) (by rfl) T.g_check_weight T.F_check_weight.kp T.b_check_weight .nil Kit.passN (pa_cons (pv 1) pa_nil)))
      (pss_cons (ps_expr (pe_call (ok_check_number T) (hr.mono (by decide)) (by rfl) T.g_check_number T.F_check_number.kp T.b_check_number .nil Kit.passN (pa_cons (pv 2) (pa_cons pe_int (pa_cons (pv 0) pa_nil)))))
      (PSs.nox (pss_one (ps_ret (pe_call (ok_fraction T) (hr.mono (by decide)) (by rfl) T.g_fraction T.F_fraction.kp T.b_fraction .nil pass0 (pa_cons (pe_op op_mulX (pv 0) (pe_call (ok_weight_with_size T) (hr.mono (by decide)) (by rfl) T.g_weight_with_size T.F_weight_with_size.kp T.b_weight_with_size .nil pass0 (pa_cons (pv 0) (pa_cons (pv 1) (pa_cons (pv 2) pa_nil))))) (pa_cons (pe_op op_mulX (pv 2) (pe_call (ok_rising T) (hr.mono (by decide)) (by rfl) T.g_rising T.F_rising.kp T.b_rising .nil pass0 (pa_cons (pv 1) (pa_cons (pv 0) pa_nil)))) pa_nil))))))))), ?_⟩
    refine q_chk (ea_cons (ev_var rfl) ea_nil) so_chk1 (fun hn H1 e1 => ?_) fun C hC H1 e1 => ?_
    · have h1 := due_no hn
      refine q_chk (ea_cons (ev_var rfl) ea_nil) so_chk1 (fun hn2 H2 e2 => ?_) fun C hC H2 e2 => ?_
      · have h2 := due_no hn2
        refine q_chk (ea_cons (ev_var rfl) (ea_cons ev_c (ea_cons (ev_var rfl) ea_nil))) (so_chkN (by decide) (Nat.lt_of_le_of_lt (m := 20) (by omega) (by decide +kernel))) (fun hn3 H3 e3 => ?_) fun C hC H3 e3 => ?_
        · exact absurd (show dSN x y n = none by unfold dSN; rw [if_pos h1, if_pos h2, if_pos (due_no hn3)]) hd
        · obtain ⟨h3, rfl⟩ := due_yes hC
          exact k.yes _ (by unfold dSN; rw [if_pos h1, if_pos h2, if_neg h3]; rfl) _ (e1.trans (e2.trans e3))
      · obtain ⟨h2, rfl⟩ := due_yes hC
        exact k.yes _ (by unfold dSN; rw [if_pos h1, if_neg h2]; rfl) _ (e1.trans e2)
    · obtain ⟨h1, rfl⟩ := due_yes hC
      exact k.yes _ (by unfold dSN; rw [if_neg h1]; rfl) _ e1
end


local macro_rules | `(tactic| walk_at "call") => `(tactic| (with_reducible exact sv_whole))

/-! ### weights_with_allowed -/
def partsA (x : Int) (al : List Nat) (sums : List Int) (m : Nat) : List Int := ((List.range al.length).filter fun i => decide (al.getD i 0 ≤ m)).map fun i => x * prm (m - 1) (al.getD i 0 - 1) * sums.getD (m - al.getD i 0) 0
def wA (x : Int) (al : List Nat) : Nat → List Int
  | 0 => [1]
  | m + 1 => wA x al m ++ [(partsA x al (wA x al m) (m + 1)).sum]
theorem wA_len (x : Int) (al : List Nat) : ∀ m, (wA x al m).length = m + 1
  | 0 => rfl
  | m + 1 => by
    show (wA x al m ++ [_]).length = _
    rw [List.length_append, wA_len x al m]
    rfl
theorem abs_sum {B : Nat} : ∀ l : List Int, (∀ v ∈ l, v.natAbs ≤ B) → l.sum.natAbs ≤ l.length * B
  | [], _ => by simp
  | v :: r, h => by
    have h1 := abs_sum r fun y hy => h y (List.mem_cons_of_mem _ hy)
    have h2 := h v List.mem_cons_self
    rw [List.sum_cons, List.length_cons, Nat.succ_mul]
    have := Int.natAbs_add_le v r.sum
    omega
/-- an ascending list of sizes, or any list of sizes -/
def Alw (al : List Nat) : Prop := (∀ s ∈ al, 1 ≤ s ∧ s ≤ 20) ∧ al.length ≤ 60
theorem getD_abs {l : List Int} {B : Nat} (h : ∀ v ∈ l, v.natAbs ≤ B) (i : Nat) : (l.getD i 0).natAbs ≤ B := by
  rw [List.getD_eq_getElem?_getD]
  cases hi : l[i]? with
  | none => exact Nat.zero_le _
  | some v => exact h v (List.mem_of_getElem? hi)
theorem term_bd {x : Int} {al : List Nat} (o : Alw al) (hx : 1 ≤ x ∧ x ≤ 1000000000000) {m i B : Nat} {sums : List Int} (hm : m < 20) (hi : i < al.length) (h : ∀ v ∈ sums, v.natAbs ≤ B) : (x * prm m (al.getD i 0 - 1) * sums.getD (m + 1 - al.getD i 0) 0).natAbs ≤ 2 ^ 104 * B ∧ (x * prm m (al.getD i 0 - 1)).natAbs < 2 ^ 104 := by
  have hz : al[i]? = some (al.getD i 0) := by
    rw [List.getD_eq_getElem?_getD, List.getElem?_eq_getElem hi]
    rfl
  have os := o.1 _ (List.mem_of_getElem? hz)
  have pb := prm_bd m hm (al.getD i 0 - 1) (by omega)
  have a : (x * prm m (al.getD i 0 - 1)).natAbs < 2 ^ 104 := by
    rw [Int.natAbs_mul]
    exact Nat.lt_of_le_of_lt (Nat.mul_le_mul (show x.natAbs ≤ 1000000000000 by omega) (Nat.le_of_lt pb)) (by decide +kernel)
  refine ⟨?_, a⟩
  rw [Int.natAbs_mul]
  exact Nat.mul_le_mul (Nat.le_of_lt a) (getD_abs h _)
theorem wA_bd {x : Int} {al : List Nat} (o : Alw al) (hx : 1 ≤ x ∧ x ≤ 1000000000000) : ∀ m, m ≤ 20 → ∀ v ∈ wA x al m, v.natAbs ≤ 2 ^ (120 * m)
  | 0, _ => fun v hv => by
    rw [List.mem_singleton.mp hv]
    decide
  | m + 1, hm => fun v hv => by
    have ih := wA_bd o hx m (by omega)
    rcases List.mem_append.mp hv with z | z
    · exact Nat.le_trans (ih v z) (Nat.pow_le_pow_right (by decide) (by omega))
    · rw [List.mem_singleton.mp z]
      have h1 := abs_sum (B := 2 ^ 104 * 2 ^ (120 * m)) (partsA x al (wA x al m) (m + 1)) fun y hy => by
        unfold partsA at hy
        obtain ⟨i, hi, rfl⟩ := List.mem_map.mp hy
        exact (term_bd o hx (by omega) (List.mem_range.mp (List.mem_filter.mp hi).1) ih).1
      have hl : (partsA x al (wA x al m) (m + 1)).length ≤ 64 := by
        unfold partsA
        rw [List.length_map]
        have := List.length_filter_le (fun i => decide (al.getD i 0 ≤ m + 1)) (List.range al.length)
        rw [List.length_range] at this
        have := o.2
        omega
      refine Nat.le_trans h1 (Nat.le_trans (Nat.mul_le_mul_right _ hl) ?_)
      rw [show 120 * (m + 1) = 120 * m + 120 by omega, Nat.pow_add, ← Nat.mul_assoc, Nat.mul_comm (2 ^ (120 * m))]
      exact Nat.mul_le_mul_right _ (by decide +kernel)
def sp_wA : Sp := fun vs H Q _ => ∃ (g : Nat) (x : Int) (a : Addr) (al : List Nat), vs = [.int (g : Int), .int x, .ref a] ∧ g ≤ 20 ∧ (1 ≤ x ∧ x ≤ 1000000000000) ∧ H a = some (.lst (nv al)) ∧ Alw al ∧ RetL ((wA x al g).map V.int) H Q
theorem sl_wA {H : Hp} {g : Nat} {x : Int} {a : Addr} {al : List Nat} (hg : g ≤ 20) (hx : 1 ≤ x ∧ x ≤ 1000000000000) (ha : H a = some (.lst (nv al))) (o : Alw al) : SpL sp_wA ([.int (g : Int), .int x, .ref a] ++ []) H ((wA x al g).map V.int) := fun H1 e Q q E => ⟨g, x, a, al, rfl, hg, hx, e a _ ha, o, q⟩
section
variable {P : Program} {w : World} {K : PySem.W.Frag} {mg : Str → Option Value} {base : Heap}
theorem ok_weights_with_allowed (T : Tx K mg) : FnOk P w K mg base CX0 2 T.f_weights_with_allowed T.d_weights_with_allowed ["guests", "weight", "allowed"] sp_wA := by
  refine T.F_weights_with_allowed.ok sc_weights_with_allowed (fun vs H Q E h => ?_) (fun cdv A outer s H vs Q E hr h => ?_)
  · obtain ⟨g, x, a, al, rfl, _⟩ := h
    rfl
  · obtain ⟨g, x, a, al, rfl, hg, hx, ha, o, k⟩ := h
    refine ⟨_, (pss_cons (ps_set (i := 3) sc_weights_with_allowed.nd rfl (Or.inr rfl) (pe_lst (pa_cons pe_int pa_nil)))
      (pss_cons (ps_for PassesOwn.never rfl (pi_range2 (by rfl) T.m_range (pa_cons pe_int (pa_cons (pe_op op_add (pv 0) pe_int) pa_nil))) (pg_name (i := 4) sc_weights_with_allowed.nd rfl (Or.inr rfl)) (pss_cons (ps_setLc (i := 6) (own := [("size", 5)]) (g := (gName 5)) rfl sc_weights_with_allowed.nd rfl rfl (sw_true rfl rfl rfl (by decide +kernel)) (pi_list (pv 2)) (blkOk_by (own := [("size", 5)]) (N := n_weights_with_allowed) (sc := defScope s_weights_with_allowed) (by decide +kernel)) (fun _ _ _ _ _ => (pg_name (i := 5) sc_weights_with_allowed.nd rfl (Or.inl rfl))) (fun _ _ _ _ _ => (pts_one (pt_cmpR op_le (pv 5) (pv 4) (nomark _)))) (fun _ _ _ _ _ => (pe_op op_mulX (pe_call (ok_tables_weight T) (hr.mono (by decide)) (by rfl) T.g_tables_weight T.F_tables_weight.kp T.b_tables_weight .nil pass0 (pa_cons (pv 4) (pa_cons (pv 1) (pa_cons (pv 5) pa_nil)))) (pe_ix (r := rIxL K) ix_list (pv 3) (pe_op op_sub (pv 4) (pv 5)) (fun _ _ => rfl)))))
      (pss_one (ps_expr (pe_bm PySem.F.plainAttrs_list PySem.F.slot_list_append PySem.F.type_list_append mt_append (pv 3) (pa_cons (pe_callB (cr_sum rfl) (by rfl) T.m_sum (by decide +kernel) (pa_cons (pv 6) pa_nil)) pa_nil))))))
      (pss_one (ps_ret (pv 3))))), ?_⟩
    have al60 := o.2
    refine q_asgL (xs := [V.int 1]) (el_lst (ea_cons ev_c ea_nil) (Nat.le_of_ble_eq_true rfl)) fun b H1 nb e1 hb => ?_
    have ab : a ≠ b := ne_of_none ha nb
    refine q_forR2 (lo := 1) (n := ((g : Int) + 1)) (ea_cons ev_c (ea_cons (ev_op (ev_var rfl) ev_c rv_I0) ea_nil)) (by omega) (fun i σ' H' => ∃ (y1 y2 y3 : Option V), σ' = [some (.int (g : Int)), some (.int x), some (.ref a), some (.ref b), y1, y2, y3] ∧ Ex H H' ∧ H' b = some (.lst ((wA x al i).map V.int)))
      (fun H2 e2 => ⟨none, none, none, rfl, e1.trans e2, e2 b _ hb⟩) ?_ ?_
    · rintro i σ' H' hi ⟨y1, y2, y3, rfl, e, hb'⟩
      have ig : i < g := by omega
      have ev1 : (1 : Int) + (i : Int) = ((i + 1 : Nat) : Int) := by omega
      rw [ev1]
      have ha' := e a _ ha
      have bd := wA_bd o hx i (by omega)
      have wl := wA_len x al i
      refine q_asgL (xs := (partsA x al (wA x al i) (i + 1)).map V.int) ?_ fun c H2 nc e2 hc => ?_
      · have eg : (partsA x al (wA x al i) (i + 1)).map V.int = given (nv al).length (fun j => decide (al.getD j 0 ≤ i + 1)) (fun j => V.int (x * prm i (al.getD j 0 - 1) * (wA x al i).getD (i + 1 - al.getD j 0) 0)) := by
          unfold partsA given
          rw [nv_len, List.map_map]
          rfl
        rw [eg]
        refine el_lcL _ _ (ev_var rfl) (sq_of ha') (by rw [nv_len]; omega) (fun _ => rfl) (fun j v H2 e2 hv => ?_) (fun j v H2 e2 hv hf => ?_)
        · have jl := (List.getElem?_eq_some_iff.mp hv).1
          rw [nv_len] at jl
          have hz : al[j]? = some (al.getD j 0) := by
            rw [List.getD_eq_getElem?_getD, List.getElem?_eq_getElem jl]
            rfl
          have := nv_get hz
          rw [this] at hv
          cases hv
          refine et_is (et_test (ev_op (ev_var rfl) (ev_var rfl) rv_I0)) ?_
          rw [Bool.eq_iff_iff, decide_eq_true_iff, decide_eq_true_iff]
          omega
        · have jl := (List.getElem?_eq_some_iff.mp hv).1
          rw [nv_len] at jl
          have hz : al[j]? = some (al.getD j 0) := by
            rw [List.getD_eq_getElem?_getD, List.getElem?_eq_getElem jl]
            rfl
          have := nv_get hz
          rw [this] at hv
          cases hv
          have hf := of_decide_eq_true hf
          have os := o.1 _ (List.mem_of_getElem? hz)
          have tb := term_bd o hx (m := i) (i := j) (by omega) jl bd
          have at0 : atI ((wA x al i).map V.int) ((i + 1 - al.getD j 0 : Nat) : Int) = some (.int ((wA x al i).getD (i + 1 - al.getD j 0) 0)) := by
            have ql : i + 1 - al.getD j 0 < i + 1 := by omega
            generalize i + 1 - al.getD j 0 = q at ql ⊢
            refine atI_nat ?_
            rw [List.getElem?_map, List.getD_eq_getElem?_getD, List.getElem?_eq_getElem (by omega)]
            rfl
          exact ev_op (ev_call (ea_cons (ev_var rfl) (ea_cons (ev_var rfl) (ea_cons (ev_var rfl) ea_nil))) (sv_tw (g := i + 1) ⟨by omega, by omega⟩ os hx)) (ev_op (ev_var rfl) (ev_is (ev_op (ev_var rfl) (ev_var rfl) rv_I0) (congrArg V.int (show ((i + 1 : Nat) : Int) - (al.getD j 0 : Nat) = ((i + 1 - al.getD j 0 : Nat) : Int) by omega))) (rv_ixL (K := K) (sq_of (e2 b _ hb')) at0)) (rv_I (mulx_ok tb.2 (lt_of_le2 (getD_abs bd _)) (by omega)))
      · have sm : Ev (tCB (rSum K) (tCons (tVar 6) tNil)) [some (.int (g : Int)), some (.int x), some (.ref a), some (.ref b), some (.int ((i + 1 : Nat) : Int)), y2, some (.ref c)] H2 (.int (partsA x al (wA x al i) (i + 1)).sum) := fun H3 e3 Q q => ev_var (i := 6) (v := .ref c) rfl H3 e3 _ fun H4 e4 => ⟨c, _, rfl, sq_of (e4 c _ (e3 c _ hc)), q H4 e4⟩
        refine s_app (e2 b _ hb') (ev_var rfl) sm (by rw [List.length_map]; omega) fun H3 e3 => ⟨_, _, _, rfl, Ex.mut (e.trans (e2.trans e3)) nb, ?_⟩
        rw [upd_same]
        show some (HO.lst ((wA x al i).map V.int ++ [V.int _])) = some (HO.lst ((wA x al i ++ [_]).map V.int))
        rw [List.map_append]
        rfl
    · rintro σ' H' ⟨y1, y2, y3, rfl, e, hb'⟩
      rw [show ((g : Int) + 1 - 1).toNat = g by omega] at hb'
      exact s_ret (ev_var rfl) fun H3 e3 => k b H3 nb (e.trans e3) (e3 b _ hb')
end


local macro_rules | `(tactic| walk_at "call") => `(tactic| (with_reducible exact sv_whole))

/-! ### count_allowed, allowed_share -/
theorem judgeA_get {K : PySem.W.Frag} {H : Hp} {v : V} {o : Option (List PyData)} (hv : ThS K H v o) (hj : judgeA o = true) : ∃ (a : Addr) (al : List Nat), v = .ref a ∧ H a = some (.lst (nv al)) ∧ Alw al ∧ o = some ((iz al).map PyData.int) := by
  obtain ⟨hv, hz⟩ := hv
  cases hv with
  | @lst a xs ds ha hd hf =>
    unfold judgeA at hj
    simp only [Bool.and_eq_true] at hj
    obtain ⟨_, hp, _⟩ := hj
    obtain ⟨ai, bd⟩ := inD_all hp
    have ex := ints_of hd ai
    obtain ⟨s, es⟩ := nat_of_ints (ns := intsOf ds) fun n hn => by have := bd n hn; omega
    have back : ∀ l : List PyData, l.all isI = true → l = (intsOf l).map PyData.int := by
      intro l
      induction l with
      | nil => intro _; rfl
      | cons d r ih =>
        intro h
        rw [List.all_cons, Bool.and_eq_true] at h
        have ih := ih h.2
        cases d with
        | int i =>
          show PyData.int i :: r = PyData.int i :: (intsOf r).map PyData.int
          rw [← ih]
        | _ => exact Bool.noConfusion h.1
    have sl : s.length = ds.length := by
      have : (intsOf ds).length = ds.length := by simp [intsOf]
      rw [← this, es]
      simp [iz]
    have hz : ds.length ≤ 60 := hz
    refine ⟨a, s, rfl, by rw [ha, ex, es]; rfl, ⟨fun x hx => ?_, by omega⟩, by rw [back ds ai, es]⟩
    have := bd (x : Int) (by rw [es]; exact List.mem_map.mpr ⟨x, hx, rfl⟩)
    omega
  | non => exact Bool.noConfusion hj
  | bl b => exact Bool.noConfusion hj
  | int i => exact Bool.noConfusion hj
  | str x => exact Bool.noConfusion hj
  | tup h => exact Bool.noConfusion hj
  | dct h => exact Bool.noConfusion hj
def dCA (x : Int) (o : Option (List PyData)) : Option Nat := if 1 ≤ x ∧ x ≤ 20 then (if judgeA o then none else some 1) else some 3
def dAS (x y : Int) (o : Option (List PyData)) : Option Nat := if 1 ≤ x ∧ x ≤ 20 then (if 1 ≤ y ∧ y ≤ 1000000000000 then (if judgeA o then none else some 1) else some 2) else some 3
theorem wA_at (x : Int) (al : List Nat) (g : Nat) : atI ((wA x al g).map V.int) (g : Int) = some (.int ((wA x al g).getD g 0)) := by
  have wl := wA_len x al g
  refine atI_nat ?_
  rw [List.getElem?_map, List.getD_eq_getElem?_getD, List.getElem?_eq_getElem (by omega)]
  rfl
section
variable {P : Program} {w : World} {K : PySem.W.Frag} {mg : Str → Option Value} {base : Heap}
def sp_ca (T : Tx K mg) : Sp := fun vs H Q E => ∃ (x : Int) (v : V) (o : Option (List PyData)), vs = [.int x, v] ∧ ThS K H v o ∧ Out ((dCA x o).map (erA T)) H Q E
def sp_as (T : Tx K mg) : Sp := fun vs H Q E => ∃ (x y : Int) (v : V) (o : Option (List PyData)), vs = [.int x, .int y, v] ∧ ThS K H v o ∧ Out ((dAS x y o).map (erA T)) H Q E
theorem ok_count_allowed (T : Tx K mg) : FnOk P w K mg base (L2N.CX P w) 5 T.f_count_allowed T.d_count_allowed ["guests", "allowed"] (sp_ca T) := by
  refine Kit.okN T.F_count_allowed sc_count_allowed (fun vs H Q E h => ?_) (fun cdv A outer s H vs Q E hr h => ?_)
  · obtain ⟨x, v, o, rfl, _⟩ := h
    rfl
  · obtain ⟨x, v, o, rfl, hv, k⟩ := h
    refine ⟨_, (pss_cons (ps_expr (pe_call (ok_check_guests T) (hr.mono (by decide)) (by rfl) T.g_check_guests T.F_check_guests.kp T.b_check_guests .nil Kit.passN (pa_cons (pv 0) pa_nil)))
      (pss_cons (ps_expr (pe_call (ok_check_allowed T) (hr.mono (by decide)) (by rfl) T.g_check_allowed T.F_check_allowed.kp T.b_check_allowed .nil Kit.passN (pa_cons (pv 1) pa_nil)))
      (PSs.nox (pss_one (ps_ret (pe_ix ix_list (pe_call (ok_weights_with_allowed T) (hr.mono (by decide)) (by rfl) T.g_weights_with_allowed T.F_weights_with_allowed.kp T.b_weights_with_allowed .nil pass0 (pa_cons (pv 0) (pa_cons pe_int (pa_cons (pv 1) pa_nil)))) (pv 0) (fun _ _ => rfl))))))), ?_⟩
    refine q_chk (ea_cons (ev_var rfl) ea_nil) so_chk1 (fun hn H1 e1 => ?_) fun C hC H1 e1 => ?_
    · have hx := due_no hn
      refine q_chk (ea_cons (ev_var rfl) ea_nil) (so_chkA (hv.ex e1)) (fun hn2 H2 e2 => ?_) fun C hC H2 e2 => ?_
      · have hj := due_no hn2
        obtain ⟨a, al, rfl, ha, oa, _⟩ := judgeA_get (hv.ex (e1.trans e2)) hj
        have kn := k.no (by unfold dCA; rw [if_pos hx, if_pos hj]; rfl)
        obtain ⟨g, rfl⟩ : ∃ g : Nat, x = (g : Int) := ⟨x.toNat, by omega⟩
        exact s_ret (ev_opL1 (el_call (ea_cons (ev_var rfl) (ea_cons ev_c (ea_cons (ev_var rfl) ea_nil))) (sl_wA (by omega) (by decide) ha oa)) (fun H4 e4 => ev_var rfl) fun p H4 hp e4 => rv_ixL (sq_of hp) (wA_at 1 al g)) fun H3 e3 => kn _ _ (e1.trans (e2.trans e3))
      · obtain ⟨hj, rfl⟩ := due_yes hC
        exact k.yes _ (by unfold dCA; rw [if_pos hx, if_neg (by simpa using hj)]; rfl) _ (e1.trans e2)
    · obtain ⟨hx, rfl⟩ := due_yes hC
      exact k.yes _ (by unfold dCA; rw [if_neg hx]; rfl) _ e1
theorem ok_allowed_share (T : Tx K mg) : FnOk P w K mg base (L2N.CX P w) 5 T.f_allowed_share T.d_allowed_share ["guests", "weight", "allowed"] (sp_as T) := by
  refine Kit.okN T.F_allowed_share sc_allowed_share (fun vs H Q E h => ?_) (fun cdv A outer s H vs Q E hr h => ?_)
  · obtain ⟨x, y, v, o, rfl, _⟩ := h
    rfl
  · obtain ⟨x, y, v, o, rfl, hv, k⟩ := h
    refine ⟨_, (pss_cons (ps_expr (pe_call (ok_check_guests T) (hr.mono (by decide)) (by rfl) T.g_check_guests T.F_check_guests.kp T.b_check_guests .nil Kit.passN (pa_cons (pv 0) pa_nil)))
      (pss_cons (ps_expr (pe_call (ok_check_weight T) (hr.mono (by decide)) (by rfl) T.g_check_weight T.F_check_weight.kp T.b_check_weight .nil Kit.passN (pa_cons (pv 1) pa_nil)))
      (pss_cons (ps_expr (pe_call (ok_check_allowed T) (hr.mono (by decide)) (by rfl) T.g_check_allowed T.F_check_allowed.kp T.b_check_allowed .nil Kit.passN (pa_cons (pv 2) pa_nil)))
      (PSs.nox (pss_one (ps_ret (pe_call (ok_fraction T) (hr.mono (by decide)) (by rfl) T.g_fraction T.F_fraction.kp T.b_fraction .nil pass0 (pa_cons (pe_ix ix_list (pe_call (ok_weights_with_allowed T) (hr.mono (by decide)) (by rfl) T.g_weights_with_allowed T.F_weights_with_allowed.kp T.b_weights_with_allowed .nil pass0 (pa_cons (pv 0) (pa_cons (pv 1) (pa_cons (pv 2) pa_nil)))) (pv 0) (fun _ _ => rfl)) (pa_cons (pe_call (ok_rising T) (hr.mono (by decide)) (by rfl) T.g_rising T.F_rising.kp T.b_rising .nil pass0 (pa_cons (pv 1) (pa_cons (pv 0) pa_nil))) pa_nil))))))))), ?_⟩
    refine q_chk (ea_cons (ev_var rfl) ea_nil) so_chk1 (fun hn H1 e1 => ?_) fun C hC H1 e1 => ?_
    · have hx := due_no hn
      refine q_chk (ea_cons (ev_var rfl) ea_nil) so_chk1 (fun hn1 H2 e2 => ?_) fun C hC H2 e2 => ?_
      · have hy := due_no hn1
        refine q_chk (ea_cons (ev_var rfl) ea_nil) (so_chkA (hv.ex (e1.trans e2))) (fun hn2 H3 e3 => ?_) fun C hC H3 e3 => ?_
        · have hj := due_no hn2
          have e13 := e1.trans (e2.trans e3)
          obtain ⟨a, al, rfl, ha, oa, _⟩ := judgeA_get (hv.ex e13) hj
          have kn := k.no (by unfold dAS; rw [if_pos hx, if_pos hy, if_pos hj]; rfl)
          obtain ⟨g, rfl⟩ : ∃ g : Nat, x = (g : Int) := ⟨x.toNat, by omega⟩
          have hb : y.natAbs < 2 ^ 130 := by omega
          exact s_retU (eu_call (ea_cons (ev_opL1 (el_call (ea_cons (ev_var rfl) (ea_cons (ev_var rfl) (ea_cons (ev_var rfl) ea_nil))) (sl_wA (by omega) hy ha oa)) (fun H4 e4 => ev_var rfl) fun p H4 hp e4 => rv_ixL (sq_of hp) (wA_at y al g)) (ea_cons (ev_call (ea_cons (ev_var rfl) (ea_cons (ev_var rfl) ea_nil)) (sv_rise hb (by omega))) ea_nil)) (su_fraction (rise_pos hy.1 _) (lt2_mono (lt_of_le2 (rise_le hb _ (by omega))) (by omega)))) fun p H4 hp e4 h4 => kn _ _ (e13.trans e4)
        · obtain ⟨hj, rfl⟩ := due_yes hC
          exact k.yes _ (by unfold dAS; rw [if_pos hx, if_pos hy, if_neg (by simpa using hj)]; rfl) _ (e1.trans (e2.trans e3))
      · obtain ⟨hy, rfl⟩ := due_yes hC
        exact k.yes _ (by unfold dAS; rw [if_pos hx, if_neg hy]; rfl) _ (e1.trans e2)
    · obtain ⟨hx, rfl⟩ := due_yes hC
      exact k.yes _ (by unfold dAS; rw [if_neg hx]; rfl) _ e1
end


local macro_rules | `(tactic| walk_at "call") => `(tactic| (with_reducible exact sv_whole))

/-! ### first_allowed: only where an error is due -/
def alO (o : Option (List PyData)) : List Nat := (intsOf (o.getD [])).map Int.toNat
theorem alO_ints (al : List Nat) : alO (some ((iz al).map PyData.int)) = al := by
  unfold alO
  have : intsOf ((iz al).map PyData.int) = iz al := by
    unfold intsOf
    rw [List.map_map]
    exact List.map_id _
  show (intsOf ((iz al).map PyData.int)).map Int.toNat = al
  rw [this]
  unfold iz
  rw [List.map_map]
  exact (List.map_congr_left fun x _ => by simp).trans (List.map_id _)
def dFA (x y : Int) (o : Option (List PyData)) : Option Nat := if 1 ≤ x ∧ x ≤ 20 then (if 1 ≤ y ∧ y ≤ 1000000000000 then (if judgeA o then (if (wA y (alO o) x.toNat).getD x.toNat 0 = 0 then some 7 else none) else some 1) else some 2) else some 3
section
variable {P : Program} {w : World} {K : PySem.W.Frag} {mg : Str → Option Value} {base : Heap}
def sp_fa (T : Tx K mg) : Sp := fun vs H Q E => ∃ (x y : Int) (v : V) (o : Option (List PyData)), vs = [.int x, .int y, v] ∧ ThS K H v o ∧ dFA x y o ≠ none ∧ Out ((dFA x y o).map (erA T)) H Q E
theorem ok_first_allowed (T : Tx K mg) : FnOk P w K mg base (L2N.CX P w) 5 T.f_first_allowed T.d_first_allowed ["guests", "weight", "allowed"] (sp_fa T) := by
  refine Kit.okN T.F_first_allowed sc_first_allowed (fun vs H Q E h => ?_) (fun cdv A outer s H vs Q E hr h => ?_)
  · obtain ⟨x, y, v, o, rfl, _⟩ := h
    rfl
  · obtain ⟨x, y, v, o, rfl, hv, hd, k⟩ := h
    refine ⟨_, (pss_cons (ps_expr (pe_call (ok_check_guests T) (hr.mono (by decide)) (by rfl) T.g_check_guests T.F_check_guests.kp T.b_check_guests .nil Kit.passN (pa_cons (pv 0) pa_nil)))
      (pss_cons (ps_expr (pe_call (ok_check_weight T) (hr.mono (by decide)) (by rfl) T.g_check_weight T.F_check_weight.kp T.b_check_weight .nil Kit.passN (pa_cons (pv 1) pa_nil)))
      (pss_cons (ps_expr (pe_call (ok_check_allowed T) (hr.mono (by decide)) (by rfl) T.g_check_allowed T.F_check_allowed.kp T.b_check_allowed .nil Kit.passN (pa_cons (pv 2) pa_nil)))
      (pss_cons (ps_set (i := 3) sc_first_allowed.nd rfl (Or.inl rfl) (pe_call (ok_weights_with_allowed T) (hr.mono (by decide)) (by rfl) T.g_weights_with_allowed T.F_weights_with_allowed.kp T.b_weights_with_allowed .nil pass0 (pa_cons (pv 0) (pa_cons (pv 1) (pa_cons (pv 2) pa_nil)))))
      (pss_cons (ps_if (pt_cmpR op_eq (pe_ix ix_list (pv 3) (pv 0) (fun _ _ => rfl)) pe_int (nomark _)) (pss_one (Kit.ps_raiseN rfl Kit.takesN T.e_NoSeating T.gc_NoSeating (by rfl) pe_str)) pss_nil)
      (PSs.nox (pss_cons (ps_set (i := 4) sc_first_allowed.nd rfl (Or.inl rfl) (pe_lst pa_nil))
      (pss_cons (ps_for PassesOwn.never rfl (pi_list (pv 2)) (pg_name (i := 5) sc_first_allowed.nd rfl (Or.inl rfl)) (pss_cons (ps_set (i := 6) sc_first_allowed.nd rfl (Or.inl rfl) (pe_ifExp (pt_cmpR op_le (pv 5) (pv 0) (nomark _)) (pe_op op_mulX (pe_call (ok_tables_weight T) (hr.mono (by decide)) (by rfl) T.g_tables_weight T.F_tables_weight.kp T.b_tables_weight .nil pass0 (pa_cons (pv 0) (pa_cons (pv 1) (pa_cons (pv 5) pa_nil)))) (pe_ix ix_list (pv 3) (pe_op op_sub (pv 0) (pv 5)) (fun _ _ => rfl))) pe_int))
      (pss_one (ps_expr (pe_bm PySem.F.plainAttrs_list PySem.F.slot_list_append PySem.F.type_list_append mt_append (pv 4) (pa_cons (pe_call (ok_fraction T) (hr.mono (by decide)) (by rfl) T.g_fraction T.F_fraction.kp T.b_fraction .nil pass0 (pa_cons (pv 6) (pa_cons (pe_ix ix_list (pv 3) (pv 0) (fun _ _ => rfl)) pa_nil))) pa_nil))))))
      (pss_one (ps_ret (pv 4))))))))))), ?_⟩
    refine q_chk (ea_cons (ev_var rfl) ea_nil) so_chk1 (fun hn H1 e1 => ?_) fun C hC H1 e1 => ?_
    · have hx := due_no hn
      refine q_chk (ea_cons (ev_var rfl) ea_nil) so_chk1 (fun hn1 H2 e2 => ?_) fun C hC H2 e2 => ?_
      · have hy := due_no hn1
        refine q_chk (ea_cons (ev_var rfl) ea_nil) (so_chkA (hv.ex (e1.trans e2))) (fun hn2 H3 e3 => ?_) fun C hC H3 e3 => ?_
        · have hj := due_no hn2
          have e13 := e1.trans (e2.trans e3)
          obtain ⟨a, al, rfl, ha, oa, eo⟩ := judgeA_get (hv.ex e13) hj
          obtain ⟨g, rfl⟩ : ∃ g : Nat, x = (g : Int) := ⟨x.toNat, by omega⟩
          have z0 : (wA y al g).getD g 0 = 0 := by
            unfold dFA at hd
            rw [if_pos hx, if_pos hy, if_pos hj, eo, alO_ints, Int.toNat_natCast] at hd
            by_cases c : (wA y al g).getD g 0 = 0
            · exact c
            · rw [if_neg c] at hd
              exact absurd rfl hd
          have due : dFA g y o = some 7 := by
            unfold dFA
            rw [if_pos hx, if_pos hy, if_pos hj, eo, alO_ints, Int.toNat_natCast, if_pos z0]
          refine q_asgL (xs := (wA y al g).map V.int) (el_call (ea_cons (ev_var rfl) (ea_cons (ev_var rfl) (ea_cons (ev_var rfl) ea_nil))) (sl_wA (by omega) hy ha oa)) fun b H4 nb e4 hb => ?_
          refine q_when (b := true) (et_is (et_test (ev_op (ev_op (ev_var rfl) (ev_var rfl) (rv_ixL (K := K) (sq_of hb) (wA_at y al g))) ev_c (rv_eq rfl))) (by rw [z0]; decide)) (fun _ H5 e5 => ?_) fun hb => Bool.noConfusion hb
          exact k.yes _ (by rw [due]; rfl) _ (e13.trans (e4.trans e5))
        · obtain ⟨hj, rfl⟩ := due_yes hC
          exact k.yes _ (by unfold dFA; rw [if_pos hx, if_pos hy, if_neg (by simpa using hj)]; rfl) _ (e1.trans (e2.trans e3))
      · obtain ⟨hy, rfl⟩ := due_yes hC
        exact k.yes _ (by unfold dFA; rw [if_pos hx, if_neg hy]; rfl) _ (e1.trans e2)
    · obtain ⟨hx, rfl⟩ := due_yes hC
      exact k.yes _ (by unfold dFA; rw [if_neg hx]; rfl) _ e1
end


/-! ### ways with sizes, told by the first table -/
def botP : List Nat → Nat
  | [] => 1
  | x :: r => x * (r.count x + 1) * botP r
theorem botP_perm {a b : List Nat} (h : a.Perm b) : botP a = botP b := by
  induction h with
  | nil => rfl
  | cons x h ih =>
    show x * (_ + 1) * botP _ = x * (_ + 1) * botP _
    rw [h.count_eq, ih]
  | swap x y l =>
    show y * ((x :: l).count y + 1) * (x * (l.count x + 1) * botP l) = x * ((y :: l).count x + 1) * (y * (l.count y + 1) * botP l)
    by_cases e : x = y
    · subst e
      rfl
    · rw [List.count_cons_of_ne e, List.count_cons_of_ne (Ne.symm e)]
      generalize l.count x + 1 = A
      generalize l.count y + 1 = B
      generalize botP l = C
      simp only [Nat.mul_assoc, Nat.mul_left_comm, Nat.mul_comm]
  | trans _ _ a b => exact a.trans b
theorem botTo_P (s : List Nat) : ∀ i, i ≤ s.length → botTo s i = botP (s.take i).reverse
  | 0, _ => by simp [botTo, botP]
  | i + 1, h => by
    have ih := botTo_P s i (by omega)
    have hx : s[i]? = some (s.getD i 0) := by
      rw [List.getD_eq_getElem?_getD, List.getElem?_eq_getElem (by omega)]
      rfl
    show botTo s i * s.getD i 0 * (s.take (i + 1)).count (s.getD i 0) = _
    rw [take_next hx, List.reverse_append, ih, List.count_append]
    show _ = s.getD i 0 * ((s.take i).reverse.count (s.getD i 0) + 1) * botP (s.take i).reverse
    rw [List.count_reverse]
    have : [s.getD i 0].count (s.getD i 0) = 1 := by simp
    rw [this]
    generalize botP (s.take i).reverse = C
    generalize (s.take i).count (s.getD i 0) + 1 = B
    simp only [Nat.mul_assoc, Nat.mul_left_comm, Nat.mul_comm]
theorem wws_P (s : List Nat) : wws s = fac s.sum / botP s := by
  unfold wws
  rw [botTo_P s s.length (Nat.le_refl _), List.take_length, botP_perm (List.reverse_perm s)]
theorem psumN {a b : List Nat} (h : a.Perm b) : a.sum = b.sum := by
  induction h with
  | nil => rfl
  | cons x _ ih => rw [List.sum_cons, List.sum_cons, ih]
  | swap x y l => simp only [List.sum_cons]; omega
  | trans _ _ a b => exact a.trans b
theorem wws_perm {a b : List Nat} (h : a.Perm b) : wws a = wws b := by rw [wws_P, wws_P, botP_perm h, psumN h]
theorem erase_sum {s : List Nat} {x : Nat} (h : x ∈ s) : x + (s.erase x).sum = s.sum := by
  have := psumN (List.perm_cons_erase h)
  rw [List.sum_cons] at this
  omega
theorem botP_take {s : List Nat} {x : Nat} (h : x ∈ s) : botP s = x * s.count x * botP (s.erase x) := by
  rw [botP_perm (List.perm_cons_erase h)]
  show x * ((s.erase x).count x + 1) * botP (s.erase x) = _
  have c := List.count_pos_iff.mpr h
  rw [List.count_erase_self, show s.count x - 1 + 1 = s.count x by omega]
theorem botP_pos {s : List Nat} (h : ∀ x ∈ s, 1 ≤ x) : 1 ≤ botP s := by
  induction s with
  | nil => exact Nat.le_refl _
  | cons x r ih => exact Nat.mul_pos (Nat.mul_pos (h x List.mem_cons_self) (Nat.succ_pos _)) (ih fun y hy => h y (List.mem_cons_of_mem _ hy))
theorem keys_of (s : List Nat) : ∃ K : List Nat, K.Nodup ∧ ∀ x, x ∈ K ↔ x ∈ s := by
  induction s with
  | nil => exact ⟨[], List.nodup_nil, fun x => Iff.rfl⟩
  | cons y r ih =>
    obtain ⟨K, nd, h⟩ := ih
    by_cases e : y ∈ K
    · refine ⟨K, nd, fun x => ?_⟩
      rw [List.mem_cons, ← h]
      exact ⟨.inr, fun q => q.elim (fun z => z ▸ e) id⟩
    · refine ⟨y :: K, List.nodup_cons.mpr ⟨e, nd⟩, fun x => ?_⟩
      rw [List.mem_cons, List.mem_cons, h]
theorem one_key {K : List Nat} (nd : K.Nodup) {y : Nat} (h : y ∈ K) : (K.map fun x => if x = y then y else 0).sum = y := by
  induction K with
  | nil => cases h
  | cons z r ih =>
    have hn := List.nodup_cons.mp nd
    rw [List.map_cons, List.sum_cons]
    by_cases e : z = y
    · have : (r.map fun x => if x = y then y else 0) = r.map fun _ => 0 := List.map_congr_left fun x hx => if_neg fun (q : x = y) => hn.1 (by rw [e, ← q]; exact hx)
      rw [if_pos e, this]
      have : ∀ l : List Nat, (l.map fun _ => 0).sum = 0 := fun l => by
        induction l with
        | nil => rfl
        | cons _ _ ih => rw [List.map_cons, List.sum_cons, ih]
      rw [this]
      rfl
    · rw [if_neg e, ih hn.2 ((List.mem_cons.mp h).resolve_left fun q => e q.symm)]
      omega
theorem add_map {α : Type} (f g : α → Nat) (l : List α) : (l.map fun x => f x + g x).sum = (l.map f).sum + (l.map g).sum := by
  induction l with
  | nil => rfl
  | cons x r ih => simp only [List.map_cons, List.sum_cons, ih]; omega
theorem sum_count {K : List Nat} (nd : K.Nodup) : ∀ {s : List Nat}, (∀ x ∈ s, x ∈ K) → (K.map fun x => x * s.count x).sum = s.sum
  | [], _ => by
    have : (K.map fun x => x * ([] : List Nat).count x) = K.map fun _ => 0 := List.map_congr_left fun x _ => by simp
    rw [this]
    have z : ∀ l : List Nat, (l.map fun _ => 0).sum = 0 := fun l => by
      induction l with
      | nil => rfl
      | cons _ _ ih => rw [List.map_cons, List.sum_cons, ih]
    rw [z]
    rfl
  | y :: r, h => by
    have ih := sum_count nd (s := r) fun x hx => h x (List.mem_cons_of_mem _ hx)
    have : (K.map fun x => x * (y :: r).count x) = K.map fun x => x * r.count x + if x = y then y else 0 := List.map_congr_left fun x _ => by
      rw [List.count_cons]
      by_cases e : x = y
      · subst e
        simp [Nat.mul_add]
      · rw [if_neg e, if_neg (by simpa using fun q : y = x => e q.symm)]
        rfl
    rw [this, add_map, ih, one_key nd (h y List.mem_cons_self), List.sum_cons]
    omega
theorem mul_mapI {α : Type} (a : Int) (f : α → Int) (l : List α) : a * (l.map f).sum = (l.map fun x => a * f x).sum := by
  induction l with
  | nil => simp
  | cons x r ih => rw [List.map_cons, List.sum_cons, Int.mul_add, ih, List.map_cons, List.sum_cons]
theorem sum_castN {α : Type} (f : α → Nat) (l : List α) : (((l.map f).sum : Nat) : Int) = (l.map fun x => (f x : Int)).sum := by
  induction l with
  | nil => rfl
  | cons x r ih => rw [List.map_cons, List.sum_cons, List.map_cons, List.sum_cons, ← ih, Int.natCast_add]
/-- all seatings with these sizes, by the size of the first one's table -/
theorem wws_step {s K : List Nat} (pos : ∀ x ∈ s, 1 ≤ x) (ne : s ≠ []) (nd : K.Nodup) (hm : ∀ x, x ∈ K ↔ x ∈ s) (ih : ∀ x ∈ s, botP (s.erase x) * wws (s.erase x) = fac (s.erase x).sum) :
    botP s * wws s = fac s.sum ∧ (wws s : Int) = (K.map fun x => prm (s.sum - 1) (x - 1) * (wws (s.erase x) : Int)).sum := by
  have n1 : 1 ≤ s.sum := by
    cases s with
    | nil => exact absurd rfl ne
    | cons y r =>
      have := pos y List.mem_cons_self
      rw [List.sum_cons]
      omega
  have bp := botP_pos pos
  have key : (botP s : Int) * (K.map fun x => prm (s.sum - 1) (x - 1) * (wws (s.erase x) : Int)).sum = (fac s.sum : Int) := by
    rw [mul_mapI]
    have e : (K.map fun x => (botP s : Int) * (prm (s.sum - 1) (x - 1) * (wws (s.erase x) : Int))) = K.map fun x => (fac (s.sum - 1) : Int) * ((x * s.count x : Nat) : Int) := List.map_congr_left fun x hx => by
      have hx := (hm x).mp hx
      have x1 := pos x hx
      have es := erase_sum hx
      have pf := prm_fac (n := s.sum - 1) (k := x - 1) (by omega)
      rw [show s.sum - 1 - (x - 1) = (s.erase x).sum by omega] at pf
      have hi := congrArg (Nat.cast : Nat → Int) (ih x hx)
      rw [← pf, ← hi, botP_take hx]
      push_cast
      generalize (wws (s.erase x) : Int) = A
      generalize (botP (s.erase x) : Int) = B
      generalize prm (s.sum - 1) (x - 1) = C
      generalize (x : Int) = D
      generalize (s.count x : Int) = F
      grind
    rw [e, ← mul_mapI, ← sum_castN, sum_count nd fun x hx => (hm x).mpr hx, ← Int.natCast_mul]
    have := fac_succ (s.sum - 1)
    rw [show s.sum - 1 + 1 = s.sum by omega] at this
    rw [this]
  have e2 : (wws s : Int) = (K.map fun x => prm (s.sum - 1) (x - 1) * (wws (s.erase x) : Int)).sum := by
    rw [wws_P, Int.natCast_ediv, ← key, Int.mul_ediv_cancel_left _ (by omega)]
  refine ⟨?_, e2⟩
  rw [← e2, ← Int.natCast_mul] at key
  exact Int.ofNat_inj.mp key
theorem wws_ok : ∀ (n : Nat) (s : List Nat), s.length = n → (∀ x ∈ s, 1 ≤ x) → botP s * wws s = fac s.sum
  | 0, s, h, _ => by
    rw [List.length_eq_zero_iff.mp h]
    decide
  | n + 1, s, h, pos => by
    obtain ⟨K, nd, hm⟩ := keys_of s
    refine (wws_step pos (fun e => by rw [e] at h; cases h) nd hm fun x hx => wws_ok n _ ?_ fun y hy => pos y (List.mem_of_mem_erase hy)).1
    rw [List.length_erase_of_mem hx]
    omega
theorem wws_by {s K : List Nat} (pos : ∀ x ∈ s, 1 ≤ x) (ne : s ≠ []) (nd : K.Nodup) (hm : ∀ x, x ∈ K ↔ x ∈ s) : (wws s : Int) = (K.map fun x => prm (s.sum - 1) (x - 1) * (wws (s.erase x) : Int)).sum :=
  (wws_step pos ne nd hm fun x _ => wws_ok _ _ rfl fun y hy => pos y (List.mem_of_mem_erase hy)).2
theorem prm_none (n : Nat) : prm n 0 = 1 := by
  have h := prm_fac (Nat.zero_le n)
  have p := fac_pos n
  rw [Nat.sub_zero] at h
  exact Int.eq_of_mul_eq_mul_right (a := (fac n : Int)) (by omega) (by rw [h, Int.one_mul])
theorem prm_gt {n k : Nat} (h : n < k) : prm n k = 0 := PySem.W.mcPerm_above (by omega)
theorem prm_up {n k : Nat} : prm (n + 1) (k + 1) = ((n : Int) + 1) * prm n k := by
  by_cases h : k ≤ n
  · have a := prm_fac (n := n) (k := k) h
    have b := prm_fac (n := n + 1) (k := k + 1) (by omega)
    have p := fac_pos (n - k)
    rw [show n + 1 - (k + 1) = n - k by omega, fac_succ] at b
    refine Int.eq_of_mul_eq_mul_right (a := (fac (n - k) : Int)) (by omega) ?_
    rw [b, Int.mul_assoc, a]
    push_cast
    rw [Int.mul_comm]
  · rw [prm_gt (by omega), prm_gt (by omega), Int.mul_zero]
theorem prm_nn (n k : Nat) : 0 ≤ prm n k := by
  by_cases h : k ≤ n
  · have := prm_pos h
    omega
  · rw [prm_gt (by omega)]
    exact Int.le_refl _
/-- what goes on from a table of L guests, with m others about: those that end with it or later -/
def goS (ps : List (Int × Int)) (L m : Nat) : Int := (ps.map fun p => if (L : Int) ≤ p.1 then prm m (p.1 - (L : Int)).toNat * p.2 else 0).sum
theorem add_mapI {α : Type} (f g : α → Int) (l : List α) : (l.map fun x => f x + g x).sum = (l.map f).sum + (l.map g).sum := by
  induction l with
  | nil => rfl
  | cons x r ih => simp only [List.map_cons, List.sum_cons, ih]; omega
theorem goS_step {ps : List (Int × Int)} (nd : (ps.map (·.1)).Nodup) (L m : Nat) : goS ps L (m + 1) = gI ps (L : Int) + ((m : Int) + 1) * goS ps (L + 1) m := by
  unfold goS
  rw [mul_mapI, ← gI_sum (L : Int) nd, ← add_mapI]
  congr 1
  refine List.map_congr_left fun p _ => ?_
  by_cases a : p.1 = (L : Int)
  · rw [if_pos (by omega), if_pos a, if_neg (by omega), show (p.1 - (L : Int)).toNat = 0 by omega, prm_none]
    omega
  · rw [if_neg a]
    by_cases b : (L : Int) ≤ p.1
    · obtain ⟨k, hk⟩ : ∃ k : Nat, p.1 = (L : Int) + (k : Int) + 1 := ⟨(p.1 - L - 1).toNat, by omega⟩
      rw [if_pos b, if_pos (by omega), show (p.1 - (L : Int)).toNat = k + 1 by omega, show (p.1 - ((L + 1 : Nat) : Int)).toNat = k by omega, prm_up, Int.mul_assoc]
      omega
    · rw [if_neg b, if_neg (by omega), Int.mul_zero]
      omega
theorem goS_end {ps : List (Int × Int)} (nd : (ps.map (·.1)).Nodup) (L : Nat) : goS ps L 0 = gI ps (L : Int) := by
  unfold goS
  rw [← gI_sum (L : Int) nd]
  congr 1
  refine List.map_congr_left fun p _ => ?_
  by_cases a : p.1 = (L : Int)
  · rw [if_pos (by omega), if_pos a, show (p.1 - (L : Int)).toNat = 0 by omega, prm_none, Int.one_mul]
  · rw [if_neg a]
    split
    · rw [prm_gt (by omega), Int.zero_mul]
    · rfl
/-- sizes and the ways behind each of them -/
structure Beh (ps : List (Int × Int)) : Prop where
  nd : (ps.map (·.1)).Nodup
  rg : ∀ p ∈ ps, 1 ≤ p.1 ∧ p.1 ≤ 20
  bd : ∀ p ∈ ps, 0 ≤ p.2 ∧ p.2 < 2 ^ 64
  len : ps.length ≤ 20
theorem gI_mem {ps : List (Int × Int)} {x : Int} (h : gI ps x ≠ 0) : ∃ v, (x, v) ∈ ps ∧ gI ps x = v := by
  unfold gI at h ⊢
  cases e : ps.find? fun p => decide (p.1 = x) with
  | none => rw [e] at h; exact absurd rfl h
  | some p =>
    have h0 := List.find?_some e
    have : p.1 = x := by simpa using h0
    exact ⟨p.2, by rw [← this]; exact List.mem_of_find?_eq_some e, rfl⟩
theorem Beh.get {ps : List (Int × Int)} (B : Beh ps) (x : Int) : 0 ≤ gI ps x ∧ gI ps x < 2 ^ 64 := by
  by_cases h : gI ps x = 0
  · rw [h]
    decide
  · obtain ⟨v, hv, e⟩ := gI_mem h
    rw [e]
    exact B.bd _ hv
theorem goS_bd {ps : List (Int × Int)} (B : Beh ps) {L m : Nat} (hm : m < 20) (hL : 1 ≤ L) : 0 ≤ goS ps L m ∧ goS ps L m ≤ 20 * (2 ^ 64 * 2 ^ 64) := by
  have one : ∀ p ∈ ps, 0 ≤ (if (L : Int) ≤ p.1 then prm m (p.1 - (L : Int)).toNat * p.2 else 0) ∧ (if (L : Int) ≤ p.1 then prm m (p.1 - (L : Int)).toNat * p.2 else 0) ≤ 2 ^ 64 * 2 ^ 64 := fun p hp => by
    have a := B.bd p hp
    have r := B.rg p hp
    split
    · have n0 := prm_nn m (p.1 - (L : Int)).toNat
      have b := prm_bd m hm (p.1 - (L : Int)).toNat (by omega)
      refine ⟨Int.mul_nonneg n0 a.1, Int.mul_le_mul (by omega) (by omega) a.1 (by decide)⟩
    · exact ⟨Int.le_refl _, by decide⟩
  have len := B.len
  have gen : ∀ l : List (Int × Int), (∀ p ∈ l, p ∈ ps) → 0 ≤ goS l L m ∧ goS l L m ≤ l.length * (2 ^ 64 * 2 ^ 64) := fun l => by
    induction l with
    | nil => intro _; exact ⟨Int.le_refl _, by simp [goS]⟩
    | cons p r ih =>
      intro h
      obtain ⟨i1, i2⟩ := ih fun q hq => h q (List.mem_cons_of_mem _ hq)
      obtain ⟨o1, o2⟩ := one p (h p List.mem_cons_self)
      unfold goS at i1 i2 ⊢
      rw [List.map_cons, List.sum_cons, List.length_cons]
      omega
  obtain ⟨g1, g2⟩ := gen ps fun p hp => hp
  refine ⟨g1, Int.le_trans g2 ?_⟩
  exact Int.mul_le_mul_of_nonneg_right (by omega) (by decide)


/-! ### ways_behind_sizes, ways_to_go_on -/
section
variable {K : PySem.W.Frag} {σ : L2.St} {H : Hp} {td te : TE} {t : TT}
/-- [e for x, y in d.items() if t], what is told and asked is of x and y alone -/
theorem el_itemsI {d : Addr} {ps : List (Int × Int)} {i j : Nat} {vs : List Nat} (f : Nat → Bool) (v : Nat → V) (h : ∀ H1, Ev td σ H1 (.ref d)) (hd : H d = some (.dK (enc ps))) (hz : ps.length ≤ 40000) (hw : ∀ x y, wipe (((wipe σ vs).set i (some x)).set j (some y)) vs = wipe σ vs)
    (ht : ∀ (n : Nat) a b H1, ps[n]? = some (a, b) → EvT t (((wipe σ vs).set i (some (.int a))).set j (some (.int b))) H1 (f n))
    (he : ∀ (n : Nat) a b H1, ps[n]? = some (a, b) → f n = true → Ev te (((wipe σ vs).set i (some (.int a))).set j (some (.int b))) H1 (v n)) :
    EvL (tLockE (tLc (iItems td) (gTup K 2 (gCons (gName i) (gCons (gName j) gNil))) t te vs)) σ H (given ps.length f v) := fun H0 e Q q => ⟨d, .dK (enc ps), e d _ hd, True.intro, fun o => h _ _ (Ex.refl _) _ fun H1 e1 => ⟨d, o, enc ps, rfl, e1 d _ upd_same, fun Dl hD => by
  have le : (enc ps).length = ps.length := List.length_map ..
  have hd1 := e1 d _ upd_same
  have nd : Dl ≠ d := fun z => by rw [z, hd1] at hD; cases hD
  refine lc_it walk_items (Cw H1 f v Dl) ⟨hD, Ex.new hD, upd_same⟩ (fun n H' _ p => p.2.1 d _ hd1) ?_ fun H' p => ?_
  · rintro n w Hh H' hn p ⟨T, x, y, rfl, nT, rfl, g1, g2⟩
    have eT : Ex Hh (upd Hh T (.tup [x, y])) := Ex.new nT
    obtain ⟨q1, hq1, eq1⟩ := Option.map_eq_some_iff.mp g1
    obtain ⟨q2, hq2, eq2⟩ := Option.map_eq_some_iff.mp g2
    rw [hq1] at hq2
    cases hq2
    unfold enc at hq1
    rw [List.getElem?_map] at hq1
    obtain ⟨p0, hp0, ep0⟩ := Option.map_eq_some_iff.mp hq1
    subst ep0
    obtain ⟨a, b⟩ := p0
    subst eq1 eq2
    rw [le] at hn
    refine ⟨T, [.int a, .int b], rfl, st_of upd_same, rfl, _, [.int b], rfl, .int b, [], rfl, rfl, hw _ _, ?_⟩
    exact cw_turn (H := H1) ⟨p.1, p.2.1.trans eT, eT Dl _ p.2.2⟩ (by omega) (ht n a b H1 hp0) fun hf => he n a b H1 hp0 hf
  · rw [le] at p
    refine ⟨p.2.1 d _ hd1, q Dl _ ?_ (fun b u hb => ?_) (by rw [upd_ne nd]; exact p.2.2)⟩
    · have := fresh_back e1 hD
      rw [upd_ne nd] at this
      exact this
    · by_cases z : b = d
      · rw [z, e d _ hd] at hb
        cases hb
        rw [z, upd_same]
      · rw [upd_ne z]
        exact p.2.1 b _ (e1 b _ (by rw [upd_ne z]; exact hb))⟩⟩
end
theorem sum_filt {α : Type} (f : α → Bool) (g : α → Int) (l : List α) : ((l.filter f).map g).sum = (l.map fun x => if f x = true then g x else 0).sum := by
  induction l with
  | nil => rfl
  | cons x r ih =>
    rw [List.map_cons, List.sum_cons, List.filter_cons]
    by_cases h : f x = true
    · rw [if_pos h, if_pos h, List.map_cons, List.sum_cons, ih]
    · rw [if_neg h, if_neg h, ih, Int.zero_add]
/-- how ways_to_go_on adds up -/
def goL (ps : List (Int × Int)) (L m : Nat) : List Int := ((List.range ps.length).filter fun i => decide ((L : Int) < (ps.getD i (0, 0)).1)).map fun i => prm m ((ps.getD i (0, 0)).1 - (L : Int) - 1).toNat * (ps.getD i (0, 0)).2
theorem goL_sum (ps : List (Int × Int)) (L m : Nat) : (goL ps L m).sum = goS ps (L + 1) m := by
  unfold goL goS
  rw [sum_filt]
  conv => rhs; rw [range_get ps (0, 0)]
  rw [List.map_map]
  congr 1
  refine List.map_congr_left fun i _ => ?_
  simp only [Function.comp]
  generalize ps.getD i (0, 0) = p
  by_cases h : (L : Int) < p.1
  · rw [if_pos (by simpa using h), if_pos (by omega), show (p.1 - ((L + 1 : Nat) : Int)).toNat = (p.1 - (L : Int) - 1).toNat by omega]
  · rw [if_neg (by simpa using h), if_neg (by omega)]
def sp_go_on : Sp := fun vs H Q _ => ∃ (L m : Nat) (d : Addr) (ps : List (Int × Int)), vs = [.int (L : Int), .int ((m + 1 : Nat) : Int), .ref d] ∧ m < 20 ∧ H d = some (.dK (enc ps)) ∧ Beh ps ∧ RetV (.int (goS ps (L + 1) m)) H Q
theorem sv_go_on {H : Hp} {L m : Nat} {d : Addr} {ps : List (Int × Int)} (hm : m < 20) (hd : H d = some (.dK (enc ps))) (B : Beh ps) : SpV sp_go_on ([.int (L : Int), .int ((m + 1 : Nat) : Int), .ref d] ++ []) H (.int (goS ps (L + 1) m)) := fun H1 e Q q E => ⟨L, m, d, ps, rfl, hm, e d _ hd, B, q⟩
section
variable {P : Program} {w : World} {K : PySem.W.Frag} {mg : Str → Option Value} {base : Heap}
theorem ok_ways_to_go_on (T : Tx K mg) : FnOk P w K mg base CX0 1 T.f_ways_to_go_on T.d_ways_to_go_on ["length", "many", "behind"] sp_go_on := by
  refine T.F_ways_to_go_on.ok sc_ways_to_go_on (fun vs H Q E h => ?_) (fun cdv A outer s H vs Q E hr h => ?_)
  · obtain ⟨L, m, d, ps, rfl, _⟩ := h
    rfl
  · obtain ⟨L, m, d, ps, rfl, hm, hd, B, k⟩ := h
    refine ⟨_, (pss_one (ps_ret (pe_callB (cr_sum rfl) (by rfl) T.m_sum (by decide +kernel) (pa_cons (pe_lock (pe_lc (own := [("size", 3), ("ways", 4)]) (g := (gTup _ 2 (gCons (gName 3) (gCons (gName 4) gNil)))) rfl sc_ways_to_go_on.nd (pi_items (pv 2)) (blkOk_by (own := [("size", 3), ("ways", 4)]) (N := n_ways_to_go_on) (sc := defScope s_ways_to_go_on) (by decide +kernel)) (fun _ _ _ _ _ => (pg_tup rfl (pgs_cons (pg_name (i := 3) sc_ways_to_go_on.nd rfl (Or.inl rfl)) (pgs_cons (pg_name (i := 4) sc_ways_to_go_on.nd rfl (Or.inl rfl)) pgs_nil)))) (fun _ _ _ _ _ => (pts_one (pt_cmpR op_gt (pv 3) (pv 0) (nomark _)))) (fun _ _ _ _ _ => (pe_op op_mulX (pe_callBfun cr_perm (by rfl) T.i_perm (pa_cons (pe_op op_sub (pv 1) pe_int) (pa_cons (pe_op op_sub (pe_op op_sub (pv 3) (pv 0)) pe_int) pa_nil))) (pv 4))))) pa_nil)))), ?_⟩
    have bl := B.len
    rw [← goL_sum] at k
    refine s_ret (ev_sumN (ns := goL ps L m) ?_) fun H1 e1 => k H1 e1
    have eg : (goL ps L m).map V.int = given ps.length (fun i => decide ((L : Int) < (ps.getD i (0, 0)).1)) (fun i => V.int (prm m ((ps.getD i (0, 0)).1 - (L : Int) - 1).toNat * (ps.getD i (0, 0)).2)) := by
      unfold goL given
      rw [List.map_map]
      rfl
    rw [eg]
    refine el_itemsI _ _ (fun H1 => ev_var rfl) hd (by omega) (fun _ _ => rfl) (fun n a b H1 hn => ?_) fun n a b H1 hn hf => ?_
    · have : ps.getD n (0, 0) = (a, b) := by rw [List.getD_eq_getElem?_getD, hn]; rfl
      rw [this]
      exact et_is (et_test (ev_op (ev_var rfl) (ev_var rfl) rv_I0)) (by simp)
    · have e0 : ps.getD n (0, 0) = (a, b) := by rw [List.getD_eq_getElem?_getD, hn]; rfl
      rw [e0] at hf ⊢
      have hf := of_decide_eq_true hf
      have r := B.rg _ (List.mem_of_getElem? hn)
      have bd := B.bd _ (List.mem_of_getElem? hn)
      have ra : 1 ≤ a ∧ a ≤ 20 := r
      have hf : (L : Int) < a := hf
      have ba : 0 ≤ b ∧ b < 2 ^ 64 := bd
      exact ev_op (ev_perm (n := m) (k := (a - (L : Int) - 1).toNat) (ev_is (ev_op (ev_var rfl) ev_c rv_I0) (congrArg V.int (by omega))) (ev_is (ev_op (ev_op (ev_var rfl) (ev_var rfl) rv_I0) ev_c rv_I0) (congrArg V.int (by omega))) (by omega) (by omega)) (ev_var rfl) (rv_I (mulx_ok (a := 64) (b := 64) (prm_bd _ hm _ (by omega)) (by omega) (by decide)))
end


theorem nv_at {l : List Nat} {i : Nat} (h : i < l.length) : (nv l)[i]? = some (.int ((l.getD i 0 : Nat) : Int)) := nv_get (by
  rw [List.getD_eq_getElem?_getD, List.getElem?_eq_getElem h]
  rfl)

theorem idx_before : ∀ {F : List Nat} {g m : Nat}, m < F.idxOf g → F[m]? ≠ some g
  | [], _, _, _, e => by simp at e
  | x :: l, g, m, h, e => by
    rw [List.idxOf_cons] at h
    by_cases z : x = g
    · rw [z] at h
      simp at h
    · have zb : (x == g) = false := by simpa using z
      rw [zb] at h
      cases m with
      | zero => exact z (Option.some.inj e)
      | succ m => exact idx_before (F := l) (g := g) (m := m) (Nat.lt_of_succ_lt_succ h) e
theorem erase_idx : ∀ (F : List Nat) (g : Nat), F.eraseIdx (F.idxOf g) = F.erase g
  | [], _ => rfl
  | x :: l, g => by
    rw [List.idxOf_cons, List.erase_cons]
    by_cases z : x = g
    · have zb : (x == g) = true := by simpa using z
      rw [zb]
      rfl
    · have zb : (x == g) = false := by simpa using z
      rw [zb]
      show x :: l.eraseIdx (l.idxOf g) = x :: l.erase g
      rw [erase_idx l g]
theorem q_remI {K : PySem.W.Frag} {σ : L2.St} {H : Hp} {ta te : TE} {D : Ends} {tz : TS} {l : Addr} {F : List Nat} {g : Nat} (hl : H l = some (.lst (nv F))) (hg : g ∈ F) (ha : Ev ta σ H (.ref l)) (he : Ev te σ H (.int (g : Int))) (k : ∀ H1, Ex H H1 → tz D σ (upd H1 l (.lst (nv (F.erase g))))) : tSeq (tDrop (tBM K "list" rRemI ta (tCons te tNil))) tz D σ H :=
  ha H (Ex.refl H) _ fun H1 e1 => ⟨Or.inl ⟨rfl, nv F, sq_of (e1 l _ hl)⟩, he H1 e1 _ fun H2 e2 => by
    have ig := List.idxOf_lt_length_of_mem hg
    refine ⟨l, iz F, (g : Int), F.idxOf g, rfl, rfl, e2 l _ (e1 l _ hl), ?_, fun m hm e => ?_, ?_⟩
    · unfold iz
      rw [List.getElem?_map, List.getElem?_eq_getElem ig, List.getElem_idxOf ig]
      rfl
    · unfold iz at e
      rw [List.getElem?_map] at e
      obtain ⟨y, hy, e⟩ := Option.map_eq_some_iff.mp e
      have : y = g := by omega
      subst this
      exact idx_before hm hy
    · have e : ((iz F).eraseIdx (F.idxOf g)).map V.int = nv (F.erase g) := by
        rw [← erase_idx, ← nv_erase]
        unfold nv
        rw [List.eraseIdx_eq_take_drop_succ, List.eraseIdx_eq_take_drop_succ, List.map_append, List.map_take, List.map_drop]
      rw [e]
      exact k H2 (e1.trans e2)⟩

/-! ### ways_behind_sizes, table_at -/
def wbTo (s : List Nat) : Nat → List (Int × Int)
  | 0 => []
  | i + 1 => putI (wbTo s i) (s.getD i 0 : Nat) (wws (s.erase (s.getD i 0)) : Nat)
def wbS (s : List Nat) : List (Int × Int) := wbTo s s.length
theorem wbTo_nd (s : List Nat) : ∀ i, ((wbTo s i).map (·.1)).Nodup
  | 0 => List.nodup_nil
  | i + 1 => put_nodup (wbTo_nd s i) _ _
theorem wbTo_len (s : List Nat) : ∀ i, (wbTo s i).length ≤ i
  | 0 => Nat.le_refl _
  | i + 1 => by
    have := put_len (wbTo s i) (s.getD i 0 : Nat) (wws (s.erase (s.getD i 0)) : Nat)
    have := wbTo_len s i
    show (putI _ _ _).length ≤ _
    omega
theorem wbTo_mem {s : List Nat} : ∀ i, i ≤ s.length → ∀ p ∈ wbTo s i, ∃ x ∈ s, p = (((x : Nat) : Int), ((wws (s.erase x) : Nat) : Int))
  | 0, _, p, h => by cases h
  | i + 1, hi, p, h => by
    have hx : s[i]? = some (s.getD i 0) := by
      rw [List.getD_eq_getElem?_getD, List.getElem?_eq_getElem (by omega)]
      rfl
    have hm := List.mem_of_getElem? hx
    have h : p ∈ putI (wbTo s i) (s.getD i 0 : Nat) (wws (s.erase (s.getD i 0)) : Nat) := h
    unfold putI at h
    split at h
    · obtain ⟨q, hq, e⟩ := List.mem_map.mp h
      split at e
      · rename_i z
        exact ⟨_, hm, by rw [← e, z]⟩
      · rw [← e]
        exact wbTo_mem i (by omega) q hq
    · rcases List.mem_append.mp h with z | z
      · exact wbTo_mem i (by omega) p z
      · exact ⟨_, hm, List.mem_singleton.mp z⟩
theorem wbTo_key (s : List Nat) : ∀ i, ∀ j, j < i → ((s.getD j 0 : Nat) : Int) ∈ (wbTo s i).map (·.1)
  | 0, j, h => by omega
  | i + 1, j, h => by
    show _ ∈ (putI _ _ _).map (·.1)
    rw [put_keys]
    by_cases e : j = i
    · subst e
      split
      · assumption
      · exact List.mem_append_right _ (List.mem_singleton.mpr rfl)
    · have ih := wbTo_key s i j (by omega)
      split
      · exact ih
      · exact List.mem_append_left _ ih
theorem wws_lt {s : List Nat} (o : s.sum ≤ 20) : wws s < 2 ^ 64 := Nat.lt_of_le_of_lt (Nat.div_le_self _ _) (Nat.lt_of_le_of_lt (fac_mono o) fac20)
theorem sz0_len {s : List Nat} (o : Sz0 s) : s.length ≤ 20 := Nat.le_trans (sum_ge o.1) o.2
theorem wbTo_beh {s : List Nat} (o : Sz0 s) {i : Nat} (hi : i ≤ s.length) : Beh (wbTo s i) := by
  have sl := sz0_len o
  refine ⟨wbTo_nd s i, fun p hp => ?_, fun p hp => ?_, Nat.le_trans (wbTo_len s i) (by omega)⟩
  · obtain ⟨x, hx, rfl⟩ := wbTo_mem i hi p hp
    have a := o.1 x hx
    have b := Nat.le_trans (le_sum hx) o.2
    show 1 ≤ (x : Int) ∧ (x : Int) ≤ 20
    omega
  · obtain ⟨x, hx, rfl⟩ := wbTo_mem i hi p hp
    have e := erase_sum hx
    have l := wws_lt (s := s.erase x) (by have := o.2; omega)
    show 0 ≤ ((wws (s.erase x) : Nat) : Int) ∧ ((wws (s.erase x) : Nat) : Int) < 2 ^ 64
    omega
theorem wbS_get {s : List Nat} {L : Nat} (h : gI (wbS s) (L : Int) ≠ 0) : L ∈ s ∧ gI (wbS s) (L : Int) = (wws (s.erase L) : Nat) := by
  obtain ⟨v, hv, e⟩ := gI_mem h
  obtain ⟨x, hx, ep⟩ := wbTo_mem s.length (Nat.le_refl _) _ hv
  have h1 : (L : Int) = (x : Int) := congrArg Prod.fst ep
  have h2 : v = (wws (s.erase x) : Nat) := congrArg Prod.snd ep
  have : L = x := by omega
  subst this
  exact ⟨hx, by rw [e, h2]⟩
theorem wbS_go {s : List Nat} (o : Sz0 s) (ne : s ≠ []) : (wws s : Int) = goS (wbS s) 1 (s.sum - 1) := by
  have B := wbTo_beh o (Nat.le_refl s.length)
  have nd : ((wbS s).map fun p => p.1.toNat).Nodup := by
    have h := B.nd
    have e : ((wbS s).map fun p => p.1.toNat) = ((wbS s).map (·.1)).map Int.toNat := by rw [List.map_map]; rfl
    rw [e]
    have pos : ∀ k ∈ (wbS s).map (·.1), 1 ≤ k := fun k hk => by
      obtain ⟨p, hp, rfl⟩ := List.mem_map.mp hk
      exact (B.rg p hp).1
    have gen : ∀ l : List Int, l.Nodup → (∀ k ∈ l, 1 ≤ k) → (l.map Int.toNat).Nodup := fun l => by
      induction l with
      | nil => intro _ _; exact List.nodup_nil
      | cons k r ih =>
        intro nd pos
        have nd := List.nodup_cons.mp nd
        refine List.nodup_cons.mpr ⟨fun z => ?_, ih nd.2 fun q hq => pos q (List.mem_cons_of_mem _ hq)⟩
        obtain ⟨q, hq, e⟩ := List.mem_map.mp z
        have a := pos q (List.mem_cons_of_mem _ hq)
        have b := pos k List.mem_cons_self
        have : q = k := by omega
        exact nd.1 (this ▸ hq)
    exact gen _ h pos
  have hm : ∀ x, x ∈ (wbS s).map (fun p => p.1.toNat) ↔ x ∈ s := fun x => by
    constructor
    · intro h
      obtain ⟨p, hp, rfl⟩ := List.mem_map.mp h
      obtain ⟨y, hy, rfl⟩ := wbTo_mem s.length (Nat.le_refl _) p hp
      exact hy
    · intro h
      obtain ⟨j, hj⟩ := List.getElem?_of_mem h
      have jl := (List.getElem?_eq_some_iff.mp hj).1
      have := wbTo_key s s.length j jl
      have ex : s.getD j 0 = x := by rw [List.getD_eq_getElem?_getD, hj]; rfl
      rw [ex] at this
      obtain ⟨p, hp, e⟩ := List.mem_map.mp this
      exact List.mem_map.mpr ⟨p, hp, by rw [e]; rfl⟩
  rw [wws_by o.1 ne nd hm]
  unfold goS
  rw [List.map_map]
  congr 1
  refine List.map_congr_left fun p hp => ?_
  obtain ⟨x, hx, rfl⟩ := wbTo_mem s.length (Nat.le_refl _) p hp
  have x1 := o.1 x hx
  show prm (s.sum - 1) ((x : Int).toNat - 1) * ((wws (s.erase (x : Int).toNat) : Nat) : Int) = if ((1 : Nat) : Int) ≤ (x : Int) then prm (s.sum - 1) ((x : Int) - ((1 : Nat) : Int)).toNat * ((wws (s.erase x) : Nat) : Int) else 0
  rw [if_pos (by omega), Int.toNat_natCast, show ((x : Int) - ((1 : Nat) : Int)).toNat = x - 1 by omega]
def sp_wbs : Sp := fun vs H Q _ => ∃ (a : Addr) (s : List Nat), vs = [.ref a] ∧ H a = some (.lst (nv s)) ∧ Sz0 s ∧ ∀ p H2, H p = none → Ex H H2 → H2 p = some (.dK (enc (wbS s))) → Q (.ref p) H2
/-- the first table of a seating, and the index behind it -/
structure TabA (F : List Nat) (ps : List (Int × Int)) (t : List Nat) (i : Nat) : Prop where
  hd : t[0]? = F[0]?
  pm : ∃ o, (t ++ o).Perm F
  lt : (i : Int) < gI ps (t.length : Int)
  ne : 1 ≤ t.length
def sp_table_at : Sp := fun vs H Q _ => ∃ (f d : Addr) (F : List Nat) (ps : List (Int × Int)) (x : Nat), vs = [.ref f, .ref d, .int (x : Int)] ∧ H f = some (.lst (nv F)) ∧ H d = some (.dK (enc ps)) ∧ Beh ps ∧ (1 ≤ F.length ∧ F.length ≤ 20) ∧ (x : Int) < goS ps 1 (F.length - 1) ∧ ∀ t i q p H2, TabA F ps t i → H q = none → H p = none → Ex H H2 → H2 q = some (.tup (nv t)) → H2 p = some (.tup [.ref q, .int (i : Int)]) → Q (.ref p) H2
theorem cut_from {f : List Nat} {lo : Nat} (h : lo ≤ f.length) : cutV (nv f) (some (lo : Int)) none = nv (f.drop lo) := by
  unfold cutV
  rw [HT.sIx_none, HT.sIx_nat, nv_len, Nat.min_eq_left h, nv_eq, nv_eq, List.map_drop]
  exact List.take_of_length_le (by simp)
section
variable {P : Program} {w : World} {K : PySem.W.Frag} {mg : Str → Option Value} {base : Heap}
theorem ok_ways_behind_sizes (T : Tx K mg) : FnOk P w K mg base CX0 2 T.f_ways_behind_sizes T.d_ways_behind_sizes ["sizes"] sp_wbs := by
  refine T.F_ways_behind_sizes.ok sc_ways_behind_sizes (fun vs H Q E h => ?_) (fun cdv A outer s H vs Q E hr h => ?_)
  · obtain ⟨a, s, rfl, _⟩ := h
    rfl
  · obtain ⟨a, z, rfl, ha, o, k⟩ := h
    refine ⟨_, (pss_cons (ps_set (i := 1) sc_ways_behind_sizes.nd rfl (Or.inl rfl) pe_dnewK)
      (pss_cons (ps_for PassesOwn.never rfl (pi_list (pv 0)) (pg_name (i := 2) sc_ways_behind_sizes.nd rfl (Or.inl rfl)) (pss_cons (ps_set (i := 3) sc_ways_behind_sizes.nd rfl (Or.inl rfl) (pe_callTy call_listR (by rfl) T.m_list (by decide +kernel) (pa_cons (pv 0) pa_nil)))
      (pss_cons (ps_expr (pe_bm PySem.F.plainAttrs_list PySem.F.slot_list_remove PySem.F.type_list_remove mt_remove (pv 3) (pa_cons (pv 2) pa_nil)))
      (pss_one (ps_dput (hu_of hr) (pv 1) (pv 2) (pe_call (ok_ways_with_sizes T) (hr.mono (by decide)) (by rfl) T.g_ways_with_sizes T.F_ways_with_sizes.kp T.b_ways_with_sizes .nil pass0 (pa_cons (pv 3) pa_nil)) rfl)))))
      (pss_one (ps_ret (pv 1))))), ?_⟩
    have zl := sz0_len o
    refine q_dnewI fun d H1 nd e1 hd => ?_
    have had : a ≠ d := ne_of_none ha nd
    refine q_forLn (xs := nv z) (K := K) (ev_var rfl) (sq_of (e1 a _ ha)) (fun m σ' H' => ∃ (y2 y3 : Option V), σ' = [some (.ref a), some (.ref d), y2, y3] ∧ Ex H H' ∧ H' d = some (.dK (enc (wbTo z m))))
      (fun H5 e5 => ⟨none, none, rfl, e1.trans e5, e5 d _ hd⟩) (fun m σ' H' _ ⟨_, _, _, e, _⟩ => sq_of (e a _ ha)) ?_ ?_
    · rintro m v σ' H5 hv ⟨y2, y3, rfl, e5, hd5⟩
      have hml : m < z.length := by
        have := (List.getElem?_eq_some_iff.mp hv).1
        rw [nv_len] at this
        exact this
      have hx : z[m]? = some (z.getD m 0) := by
        rw [List.getD_eq_getElem?_getD, List.getElem?_eq_getElem hml]
        rfl
      have ev : v = .int (z.getD m 0 : Nat) := by
        have := nv_get hx
        rw [hv] at this
        exact Option.some.inj this
      subst ev
      have hm := List.mem_of_getElem? hx
      have ha5 := e5 a _ ha
      refine q_asgL (el_list (ev_var rfl) (sq_of ha5)) fun r H6 nr e6 hr6 => ?_
      have drn : d ≠ r := ne_of_none hd5 nr
      refine q_remI (K := K) hr6 hm (ev_var rfl) (ev_var rfl) fun H7 e7 => ?_
      have hd7 : upd H7 r (.lst (nv (z.erase (z.getD m 0)))) d = some (.dK (enc (wbTo z m))) := by
        rw [upd_ne drn]
        exact e7 d _ (e6 d _ hd5)
      have oe : Sz0 (z.erase (z.getD m 0)) := ⟨fun x hx => o.1 x (List.mem_of_mem_erase hx), by have := erase_sum hm; have := o.2; omega⟩
      have e57 : Ex H5 (upd H7 r (.lst (nv (z.erase (z.getD m 0))))) := Ex.mut (e6.trans e7) nr
      have wl := wbTo_len z m
      refine s_putI (ps := wbTo z m) (ev_var rfl) (ev_var rfl) (ev_call (ea_cons (ev_var rfl) ea_nil) (sv_wws0 upd_same oe)) hd7 (by omega) fun H8 e8 => ⟨_, _, rfl, Ex.mut (e5.trans (e57.trans e8)) nd, upd_same⟩
    · rintro σ' H' ⟨y2, y3, rfl, e, hd'⟩
      rw [nv_len] at hd'
      exact s_ret (ev_var rfl) fun H2 e2 => k d H2 nd (e.trans e2) (e2 d _ hd')
theorem ok_table_at (T : Tx K mg) : FnOk P w K mg base CX0 2 T.f_table_at T.d_table_at ["free", "behind", "index"] sp_table_at := by
  refine T.F_table_at.ok sc_table_at (fun vs H Q E h => ?_) (fun cdv A outer s H vs Q E hr h => ?_)
  · obtain ⟨f, d, F, ps, x, rfl, _⟩ := h
    rfl
  · obtain ⟨f, d, F, ps, x, rfl, hf, hd, B, hl, hx, k⟩ := h
    refine ⟨_, (pss_cons (ps_set (i := 3) sc_table_at.nd rfl (Or.inl rfl) (pe_lst (pa_cons (pe_ix ix_list (pv 0) pe_int (fun _ _ => rfl)) pa_nil)))
      (pss_cons (ps_set (i := 4) sc_table_at.nd rfl (Or.inl rfl) (pe_slice sl_list (pv 0) (po_some pe_int) po_none))
      (pss_cons (ps_while PassesOwn.never (pt_cmpR op_ge (pv 2) (pe_dget2 (hu_of hr) (pv 1) (pe_callB call_lenR (by rfl) T.m_len (by decide +kernel) (pa_cons (pv 3) pa_nil)) pe_int ⟨by rfl, by rfl, by rfl, by rfl⟩) (nomark _)) (pss_cons (ps_aug (i := 2) sc_table_at.nd rfl (Or.inl rfl) (pe_dget2 (hu_of hr) (pv 1) (pe_callB call_lenR (by rfl) T.m_len (by decide +kernel) (pa_cons (pv 3) pa_nil)) pe_int ⟨by rfl, by rfl, by rfl, by rfl⟩) ip_sub)
      (pss_cons (ps_asg (pe_callB (id := "divmod") (r := rDivmod) call_divmodR (by rfl) T.m_divmod (by decide +kernel) (pa_cons (pv 2) (pa_cons (pe_call (ok_ways_to_go_on T) (hr.mono (by decide)) (by rfl) T.g_ways_to_go_on T.F_ways_to_go_on.kp T.b_ways_to_go_on .nil pass0 (pa_cons (pe_callB call_lenR (by rfl) T.m_len (by decide +kernel) (pa_cons (pv 3) pa_nil)) (pa_cons (pe_callB call_lenR (by rfl) T.m_len (by decide +kernel) (pa_cons (pv 4) pa_nil)) (pa_cons (pv 1) pa_nil)))) pa_nil))) (pg_tup rfl (pgs_cons (pg_name (i := 5) sc_table_at.nd rfl (Or.inl rfl)) (pgs_cons (pg_name (i := 2) sc_table_at.nd rfl (Or.inl rfl)) pgs_nil))))
      (pss_one (ps_expr (pe_bm PySem.F.plainAttrs_list PySem.F.slot_list_append PySem.F.type_list_append mt_append (pv 3) (pa_cons (pe_bm PySem.F.plainAttrs_list PySem.F.slot_list_pop PySem.F.type_list_pop mt_popAt (pv 4) (pa_cons (pv 5) pa_nil)) pa_nil)))))))
      (pss_one (ps_ret (pe_tup (pa_cons (pe_callTy call_tupR (by rfl) T.m_tuple (by decide +kernel) (pa_cons (pv 3) pa_nil)) (pa_cons (pv 2) pa_nil)))))))), ?_⟩
    have h0 : F[0]? = some (F.getD 0 0) := by
      rw [List.getD_eq_getElem?_getD, List.getElem?_eq_getElem (by omega)]
      rfl
    refine q_asgL (xs := nv [F.getD 0 0]) (el_lst (ea_cons (ev_op (ev_var rfl) ev_c (rv_ixL (K := K) (sq_of hf) (atI_nat (j := 0) (nv_get h0)))) ea_nil) (Nat.le_of_ble_eq_true rfl)) fun pt H1 nt e1 ht => ?_
    have sl := el_sl (K := K) (te := tVar 0) (σ := [some (.ref f), some (.ref d), some (.int (x : Int)), some (.ref pt), none, none]) (H := H1) (lo := some 1) (hi := none) (tl := tPart (tC (.int 1))) (th := tNoPart) (ev_var rfl) (eo_some ev_c) eo_none (sq_of (e1 f _ hf))
    rw [show (1 : Int) = ((1 : Nat) : Int) from rfl, cut_from hl.1] at sl
    refine q_asgL (xs := nv (F.drop 1)) sl fun po H2 no e2 ho => ?_
    have tpo : pt ≠ po := ne_of_none ht no
    have no0 := fresh_back e1 no
    have dl : (F.drop 1).length = F.length - 1 := List.length_drop ..
    have bd0 := B.len
    refine q_while (fun m σ' H' => ∃ (t o : List Nat) (x : Nat) (y : Option V), σ' = [some (.ref f), some (.ref d), some (.int (x : Int)), some (.ref pt), some (.ref po), y] ∧ Ex H H' ∧ H' pt = some (.lst (nv t)) ∧ H' po = some (.lst (nv o)) ∧ (t ++ o).Perm F ∧ t[0]? = F[0]? ∧ 1 ≤ t.length ∧ o.length = m ∧ (x : Int) < goS ps t.length o.length) (F.length - 1)
      ⟨[F.getD 0 0], F.drop 1, x, none, rfl, e1.trans e2, e2 pt _ ht, ho, ?_, h0.symm, Nat.le_refl _, dl, by rw [dl]; exact hx⟩ ?_
    · refine List.Perm.of_eq ?_
      conv => rhs; rw [← List.take_append_drop 1 F]
      have := take_next h0
      rw [this]
      rfl
    · rintro m σ' H' ⟨t, o, x, y, rfl, e, ht', ho', pm, h0', tn, om, hx⟩
      have hd' := e d _ hd
      have pl := pm.length_eq
      rw [List.length_append] at pl
      have gb := B.get (t.length : Int)
      have gv : ∀ (x : Int) H5, Ex H' H5 → Ev (tDGet2 (tVar 1) (tCB (rLenS K) (tCons (tVar 3) tNil)) (tC (.int 0))) [some (.ref f), some (.ref d), some (.int x), some (.ref pt), some (.ref po), y] H5 (.int (gI ps (t.length : Int))) := fun x H5 e5 => ev_getI (ev_var rfl) (ev_lenH rfl (e5 pt _ ht')) ev_c (e5 d _ hd')
      refine ⟨decide (gI ps (t.length : Int) ≤ (x : Int)), et_test (ev_op (ev_var rfl) (gv _ H' (Ex.refl _)) rv_I0), fun hb H5 e5 => ?_, fun hb H5 e5 => ?_⟩
      · have hb := of_decide_eq_true hb
        obtain ⟨m', rfl⟩ : ∃ m', m = m' + 1 := by
          cases m with
          | zero =>
            rw [om, goS_end B.nd] at hx
            omega
          | succ m' => exact ⟨m', rfl⟩
        rw [om, goS_step B.nd] at hx
        have wb := goS_bd B (L := t.length + 1) (m := m') (by omega) (by omega)
        obtain ⟨W, hW⟩ : ∃ W : Nat, goS ps (t.length + 1) m' = (W : Int) := ⟨(goS ps (t.length + 1) m').toNat, by omega⟩
        obtain ⟨z, hz⟩ : ∃ z : Nat, (x : Int) - gI ps (t.length : Int) = (z : Int) := ⟨((x : Int) - gI ps (t.length : Int)).toNat, by omega⟩
        have zl : z < (m' + 1) * W := by
          rw [hW] at hx
          have : (z : Int) < (((m' + 1) * W : Nat) : Int) := by
            rw [Int.natCast_mul]
            push_cast
            omega
          omega
        have W0 : 0 < W := by
          cases W with
          | zero => rw [Nat.mul_zero] at zl; omega
          | succ n => exact Nat.succ_pos n
        have qm : z / W < m' + 1 := (Nat.div_lt_iff_lt_mul W0).mpr zl
        have rm := Nat.mod_lt z W0
        have Wb : W < 2 ^ 8000 := Nat.lt_of_le_of_lt (show W ≤ 20 * (2 ^ 64 * 2 ^ 64) by omega) (by decide +kernel)
        refine ⟨fun σ2 H2 => ∃ (t o : List Nat) (x : Nat) (y : Option V), σ2 = [some (.ref f), some (.ref d), some (.int (x : Int)), some (.ref pt), some (.ref po), y] ∧ Ex H H2 ∧ H2 pt = some (.lst (nv t)) ∧ H2 po = some (.lst (nv o)) ∧ (t ++ o).Perm F ∧ t[0]? = F[0]? ∧ 1 ≤ t.length ∧ o.length = m' ∧ (x : Int) < goS ps t.length o.length, fun σ2 H2 h => ⟨m', by omega, h⟩, ?_⟩
        refine q_aug (a := (x : Int)) (b := gI ps (t.length : Int)) rfl (gv _ H5 e5) fun H6 e6 => ?_
        rw [hz]
        have ht6 := e6 pt _ (e5 pt _ ht')
        have ho6 := e6 po _ (e5 po _ ho')
        have gw := ev_call (E := E0) (dvs := []) (ta := tCons (tCB (rLenS K) (tCons (tVar 3) tNil)) (tCons (tCB (rLenS K) (tCons (tVar 4) tNil)) (tCons (tVar 1) tNil))) (ea_cons (ev_lenH (K := K) (i := 3) (σ := [some (.ref f), some (.ref d), some (.int (z : Int)), some (.ref pt), some (.ref po), y]) rfl ht6) (ea_cons (ev_is (ev_lenH (K := K) (i := 4) rfl ho6) (congrArg (fun n : Nat => V.int (n : Int)) om)) (ea_cons (ev_var (i := 1) rfl) ea_nil))) (sv_go_on (show m' < 20 by omega) (e6 d _ (e5 d _ hd')) B)
        rw [hW] at gw
        refine q_tup2U (K := K) (eu_divmod (a := z) (b := W) (ev_var rfl) gw W0 Wb) fun H7 e7 => ?_
        have hj : z / W < o.length := by omega
        generalize hq : z / W = qv at hj qm
        refine s_appE (e7 pt _ ht6) (ev_var rfl) fun H8 e8 => ?_
        refine t_popAt (e8 po _ (e7 po _ ho6)) (ev_var rfl) fun H9 e9 => ?_
        refine (ev_var (i := 5) (v := .int ((qv : Nat) : Int)) rfl) H9 (Ex.refl _) _ fun H10 e10 => ?_
        have ht10 := e10 pt _ (e9 pt _ (e8 pt _ (e7 pt _ ht6)))
        have ho10 := e10 po _ (e9 po _ (e8 po _ (e7 po _ ho6)))
        refine ⟨po, nv o, _, qv, _, rfl, rfl, ho10, by omega, by omega, by rw [nv_len]; exact seq_at hj, nv_at hj, pt, nv t, _, rfl, rfl, ?_, sz_lt (by rw [nv_len]; omega), ?_⟩
        · rw [upd_ne tpo]
          exact ht10
        · have pe := erase_perm hj
          have eg : o.getD qv 0 = o[qv] := by
            rw [List.getD_eq_getElem?_getD, List.getElem?_eq_getElem hj]
            rfl
          have el : (o.eraseIdx qv).length = m' := by
            rw [List.length_eraseIdx_of_lt hj]
            omega
          refine ⟨t ++ [o.getD qv 0], o.eraseIdx qv, z % W, _, rfl, ?_, ?_, ?_, ?_, ?_, ?_, el, ?_⟩
          · exact Ex.mut (Ex.mut (e.trans (e5.trans (e6.trans (e7.trans (e8.trans (e9.trans e10)))))) no0) nt
          · rw [upd_same, nv_app]
            rfl
          · rw [upd_ne tpo.symm, upd_same, nv_erase]
          · rw [List.append_assoc, eg]
            exact (List.Perm.append_left t pe).trans pm
          · rw [List.getElem?_append_left (by omega)]
            exact h0'
          · rw [List.length_append]
            omega
          · rw [el, List.length_append, show t.length + [o.getD qv 0].length = t.length + 1 from rfl, hW]
            omega
      · have hb := of_decide_eq_false hb
        have ht5 := e5 pt _ ht'
        refine (eu_tupOf (K := K) (σ := [some (.ref f), some (.ref d), some (.int (x : Int)), some (.ref pt), some (.ref po), y]) (ev_var (i := 3) rfl) (sq_of ht5)) H5 (Ex.refl _) _ fun q H6 nq e6 hq6 => ?_
        refine (ev_var (i := 2) (v := .int (x : Int)) rfl) H6 (Ex.refl _) _ fun H7 e7 => ?_
        have ebk := e.trans (e5.trans (e6.trans e7))
        refine ⟨Nat.le_of_ble_eq_true rfl, fun p np => k t x q p _ ⟨h0', ⟨o, pm⟩, ?_, tn⟩ (fresh_back (e.trans e5) nq) (fresh_back ebk np) (ebk.trans (Ex.new np)) (Ex.new np _ _ (e7 q _ hq6)) upd_same⟩
        omega
end


section
variable {P : Program} {w : World} {K : PySem.W.Frag} {mg : Str → Option Value} {base : Heap}
theorem ok_seating_with (T : Tx K mg) : FnOk P w K mg base CX0 1 T.f_seating_with T.d_seating_with ["tables"] sp_seating_with := by
  refine T.F_seating_with.ok sc_seating_with (fun vs H Q E h => ?_) (fun cdv A outer s H vs Q E hr h => ?_)
  · obtain ⟨a, ws, rs, h, rfl, _⟩ := h
    rfl
  · obtain ⟨a, ws, rs, h, rfl, ha, ht, hp, hR, hn, k⟩ := h
    refine ⟨_, (pss_cons (ps_set (i := 2) sc_seating_with.nd rfl (Or.inl rfl) (pe_op op_rep (pe_lst (pa_cons pe_int pa_nil)) (pe_callB (cr_sum rfl) (by rfl) T.m_sum (by decide +kernel) (pa_cons (pe_lc (own := [("table", 1)]) (g := (gName 1)) (tt := tYes) rfl sc_seating_with.nd (pi_list (pv 0)) (blkOk_by (own := [("table", 1)]) (N := n_seating_with) (sc := defScope s_seating_with) (by decide +kernel)) (fun _ _ _ _ _ => (pg_name (i := 1) sc_seating_with.nd rfl (Or.inl rfl))) (fun _ _ _ _ _ => pts_nil) (fun _ _ _ _ _ => (pe_callB (id := "len") (r := rLenS K) call_lenR (by rfl) T.m_len (by decide +kernel) (pa_cons (pv 1) pa_nil)))) pa_nil))))
      (pss_cons (ps_for PassesOwn.never rfl (pi_list (pv 0)) (pg_name (i := 1) sc_seating_with.nd rfl (Or.inl rfl)) (pss_one (ps_for PassesOwn.never rfl (pi_enumS (by rfl) T.m_enumerate (pa_cons (pv 1) pa_nil)) (pg_tup rfl (pgs_cons (pg_name (i := 3) sc_seating_with.nd rfl (Or.inl rfl)) (pgs_cons (pg_name (i := 4) sc_seating_with.nd rfl (Or.inl rfl)) pgs_nil))) (pss_one (ps_asg (pe_ix ix_seq (pv 1) (pe_op op_mod (pe_op op_add (pv 3) pe_int) (pe_callB call_lenR (by rfl) T.m_len (by decide +kernel) (pa_cons (pv 1) pa_nil))) (fun _ _ => rfl)) (pg_sub (pv 2) (pv 4) set_list))))))
      (pss_one (ps_ret (pv 2))))), ?_⟩
    have hlen : ws.length = rs.length := Paired.length ht
    have hfl : rs.flatten.length = h.length := by rw [hp.length_eq, List.length_range]
    have short : ∀ r ∈ rs, r.length ≤ h.length := fun r hr => by
      have := List.Sublist.length_le (List.sublist_flatten_of_mem hr)
      omega
    have many : rs.length ≤ h.length := by
      have : ∀ l : List (List Nat), (∀ r ∈ l, 0 < r.length) → l.length ≤ l.flatten.length := fun l => by
        induction l with
        | nil => intro _; simp
        | cons r l ih =>
          intro hl
          have := ih fun x hx => hl x (by simp [hx])
          have := hl r (by simp)
          rw [List.flatten_cons, List.length_append, List.length_cons]
          omega
      have := this rs fun r hr => (hR r hr).ne
      omega
    have e0 : ((List.range ws.length).map fun i => V.int ((rs.getD i []).length : Int)) = (rs.map fun r => (r.length : Int)).map V.int := by
      rw [hlen, List.map_map]
      conv => rhs; rw [range_get rs []]
      rw [List.map_map]
      rfl
    refine q_asgL (xs := nv (List.replicate h.length 0)) ?_ fun p H1 hp1 e1 h1 => ?_
    · rw [← nv_rep, ← Int.toNat_natCast h.length]
      refine el_rep (by walk_at "el") ?_ (by omega) (by omega) (by simp)
      rw [← hfl, ← sum_len rs]
      refine ev_sumN (ns := rs.map fun r => (r.length : Int)) ?_
      rw [← e0]
      refine el_mapI _ (ev_var rfl) (sq_of ha) (by omega) (fun _ => rfl) fun i x H1 e1 hx => ?_
      obtain ⟨r, hr, b, rfl, hb⟩ := paired_get ht hx
      have g : rs.getD i [] = r := by rw [List.getD_eq_getElem?_getD, hr] <;> rfl
      rw [g, ← nv_len r]
      rcases hb with hb | hb
      · exact ev_len (K := K) (ev_var rfl) (sq_of (e1 b _ hb))
      · exact ev_lenT (K := K) (ev_var rfl) (st_of (e1 b _ hb))
    have pa : p ≠ a := fun z => by
      subst z
      rw [ha] at hp1
      cases hp1
    refine q_forLn (xs := ws) (K := K) (ev_var rfl) (sq_of (e1 a _ ha)) (fun i σ' H' => ∃ (c : List Nat) (y1 y3 y4 : Option V), σ' = [some (.ref a), y1, some (.ref p), y3, y4] ∧ Ex H H' ∧ H' p = some (.lst (nv c)) ∧ c.length = h.length ∧ ∀ x ∈ (rs.take i).flatten, c[x]? = h[x]?)
      (fun H2 e2 => ⟨List.replicate h.length 0, none, none, none, rfl, e1.trans e2, e2 p _ h1, by simp, by simp⟩) (fun i σ' H' _ ⟨_, _, _, _, _, e, _⟩ => sq_of (e a _ ha)) ?_ ?_
    · rintro i v σ' H' hv ⟨c, y1, y3, y4, rfl, e, hc, hcl, hdone⟩
      obtain ⟨r, hr, b, rfl, hb⟩ := paired_get ht hv
      have hrm : r ∈ rs := List.mem_of_getElem? hr
      have R := hR r hrm
      have bp : ∀ o, H b = some o → b ≠ p := fun o ho z => by
        subst z
        rw [hp1] at ho
        cases ho
      have hrl := short r hrm
      have body : ∀ (D : Ends), (∀ σ' H', (∃ (c : List Nat) (y1 y3 y4 : Option V), σ' = [some (.ref a), y1, some (.ref p), y3, y4] ∧ Ex H H' ∧ H' p = some (.lst (nv c)) ∧ c.length = h.length ∧ ∀ x ∈ (rs.take (i + 1)).flatten, c[x]? = h[x]?) → D.nx σ' H') → ∀ (G : Hp → Prop) (hG : (∀ H, G H → SqL K H b (nv r)) ∨ (∀ H, G H → SqT K H b (nv r))), (∀ H2, Ex H H2 → G H2) → tFor (iEnumS K (tCons (tVar 1) tNil)) (gTup K 2 (gCons (gName 3) (gCons (gName 4) gNil)))
          (tAsg (tOp (rIx K) (tVar 1) (tOp (rI (fun _ j => 0 < j) fun i j => .int (i % j)) (tOp (rI0 fun i j => .int (i + j)) (tVar 3) (tC (.int 1))) (tCB (rLenS K) (tCons (tVar 1) tNil)))) (gSub (tVar 2) (tVar 4) rSetL))
          D
          [some (.ref a), some (.ref b), some (.ref p), y3, y4] H' := fun D hD G hG hg => by
        refine s_forEnS (xs := nv r) (ea_cons (ev_var rfl) ea_nil) G hG (fun H2 e2 => hg H2 (e.trans e2)) (fun m σ' H2 => ∃ (c : List Nat) (y3 y4 : Option V), σ' = [some (.ref a), some (.ref b), some (.ref p), y3, y4] ∧ Ex H H2 ∧ H2 p = some (.lst (nv c)) ∧ c.length = h.length ∧ ∀ x ∈ (rs.take i).flatten ++ r.take m, c[x]? = h[x]?)
          (fun H2 e2 => ⟨c, y3, y4, rfl, e.trans e2, e2 p _ hc, hcl, by simpa using hdone⟩) (fun m σ' H2 _ ⟨_, _, _, _, e2, _⟩ => hg H2 e2) ?_ ?_
        · rintro m x σ' H2 H3 hx ⟨c, y3, y4, rfl, e2, hc2, hcl2, hd2⟩ e3
          have hml : m < r.length := by
            have := (List.getElem?_eq_some_iff.mp hx).1
            rw [nv_len] at this
            exact this
          obtain ⟨x0, y0, hx0, hy0, hxy⟩ := R.st m hml
          have ex0 : x = .int (x0 : Int) := by
            have := nv_get hx0
            rw [hx] at this
            exact Option.some.inj this
          subst ex0
          have hgH := hg H3 (e2.trans e3)
          have el : ((m : Int) + 1) % ((nv r).length : Int) = (((m + 1) % r.length : Nat) : Int) := by
            rw [nv_len]
            have := Int.natCast_emod (m + 1) r.length
            simpa using this.symm
          have evl : Ev (tCB (rLenS K) (tCons (tVar 1) tNil)) [some (.ref a), some (.ref b), some (.ref p), some (.int (m : Int)), some (.int (x0 : Int))] H3 (.int ((nv r).length : Int)) := by
            rcases hG with hG | hG
            · exact ev_len (K := K) (ev_var rfl) (hG _ hgH)
            · exact ev_lenT (K := K) (ev_var rfl) (hG _ hgH)
          have hix : RV (rIx K) (.ref b) (.int (((m + 1) % r.length : Nat) : Int)) H3 (.int (y0 : Int)) := fun H4 e4 Q q => by
            rcases hG with hG | hG
            · exact .inl ⟨b, nv r, _, _, rfl, rfl, ex_l e4 (hG _ hgH), atI_nat (nv_get hy0), q H4 (Ex.refl H4)⟩
            · exact .inr (.inl ⟨b, nv r, _, _, rfl, rfl, ex_t e4 (hG _ hgH), atI_nat (nv_get hy0), q H4 (Ex.refl H4)⟩)
          have hx0l : x0 < h.length := (List.getElem?_eq_some_iff.mp hxy).1
          refine s_setL (j := x0) (e3 p _ hc2) (ev_op (ev_var rfl) (ev_op (ev_op (ev_var rfl) ev_c rv_I0) evl (rv_I (by rw [nv_len]; omega))) (by rw [el]; exact hix)) (ev_var rfl) (ev_var rfl) (by rw [nv_len]; omega) fun H4 e4 => ?_
          refine ⟨c.set x0 y0, _, _, rfl, Ex.mut (e2.trans (e3.trans e4)) hp1, ?_, by simp [hcl2], ?_⟩
          · rw [upd_same, nv_set]
          · intro z hz
            by_cases ez : z = x0
            · rw [ez, List.getElem?_set_self (by omega)]
              exact hxy.symm
            · rw [List.getElem?_set_ne (Ne.symm ez)]
              refine hd2 z ?_
              rw [take_next hx0] at hz
              simp at hz ⊢
              rcases hz with hz | hz | hz
              · exact .inl hz
              · exact .inr hz
              · exact absurd hz ez
        · rintro σ' H2 ⟨c, y3, y4, rfl, e2, hc2, hcl2, hd2⟩
          refine hD _ _ ⟨c, _, _, _, rfl, e2, hc2, hcl2, ?_⟩
          rw [flat_next hr]
          rw [nv_len, List.take_of_length_le (Nat.le_refl _)] at hd2
          exact hd2
      rcases hb with hb | hb
      · exact body _ (fun _ _ q => q) (fun H2 => H2 b = some (.lst (nv r))) (.inl fun _ q => sq_of q) (fun H2 e2 => e2 b _ hb)
      · exact body _ (fun _ _ q => q) (fun H2 => H2 b = some (.tup (nv r))) (.inr fun _ q => st_of q) (fun H2 e2 => e2 b _ hb)
    · rintro σ' H' ⟨c, y1, y3, y4, rfl, e, hc, hcl, hdone⟩
      rw [hlen, List.take_of_length_le (Nat.le_refl _)] at hdone
      have eq : c = h := by
        refine List.ext_getElem? fun x => ?_
        by_cases hx : x < h.length
        · exact hdone x (hp.mem_iff.mpr (List.mem_range.mpr hx))
        · rw [List.getElem?_eq_none (by omega), List.getElem?_eq_none (by omega)]
      subst eq
      exact s_ret (ev_var rfl) fun H2 e2 => k p H2 hp1 (e.trans e2) (e2 p _ hc)
end
theorem sl_with {H : Hp} {a : Addr} {ws : List V} {rs : List (List Nat)} {h : List Nat} (ha : H a = some (.lst ws)) (ht : Paired (Tb H) ws rs) (hp : rs.flatten.Perm (List.range h.length)) (hR : ∀ r ∈ rs, Rg h r) (hn : h.length ≤ 20) : SpL sp_seating_with ([.ref a] ++ []) H (nv h) := fun H1 e Q q E =>
  ⟨a, ws, rs, h, rfl, e a _ ha, paired_imp (fun _ _ x => Tb.ex e x) ht, hp, hR, hn, q⟩


/-! ### nth_with_sizes -/
theorem et_lst {K : PySem.W.Frag} {σ : L2.St} {H : Hp} {ta : TE} {a : Addr} {xs : List V} (h : Ev ta σ H (.ref a)) (ha : H a = some (.lst xs)) : EvT (fun σ H Q => ta σ H fun x H' => ∃ k, TruV K x H' k ∧ Q k H') σ H (!xs.isEmpty) := et_tru h (sq_of ha)
theorem q_tabAt {K : PySem.W.Frag} {σ : L2.St} {H : Hp} {D : Ends} {tz : TS} {f r : Addr} {F R : List Nat} {x i j k a b : Nat} {E E' : XK} (hi : σ[i]? = some (some (.ref f))) (hj : σ[j]? = some (some (.ref r))) (hk : σ[k]? = some (some (.int (x : Int)))) (hf : H f = some (.lst (nv F))) (hr : H r = some (.lst (nv R)))
    (o : Sz0 R) (ne : R ≠ []) (hs : R.sum = F.length) (hF : 1 ≤ F.length ∧ F.length ≤ 20) (hx : x < wws R)
    (go : ∀ t y q H1, TabA F (wbS R) t y → H q = none → Ex H H1 → H1 q = some (.tup (nv t)) → tz D ((σ.set a (some (.ref q))).set b (some (.int (y : Nat)))) H1) :
    tSeq (tAsg (tCall sp_table_at [] E (tCons (tVar i) (tCons (tCall sp_wbs [] E' (tCons (tVar j) tNil)) (tCons (tVar k) tNil)))) (gTup K 2 (gCons (gName a) (gCons (gName b) gNil)))) tz D σ H := by
  unfold tSeq tAsg tCall
  show tVar i σ H _
  refine (ev_var hi) H (Ex.refl _) _ fun H1 e1 => ?_
  show tVar j σ H1 _
  refine (ev_var hj) H1 (Ex.refl _) _ fun H2 e2 => ?_
  refine ⟨r, R, rfl, e2 r _ (e1 r _ hr), o, fun d H3 nd e3 hd => ?_⟩
  show tVar k σ H3 _
  refine (ev_var hk) H3 (Ex.refl _) _ fun H4 e4 => ?_
  have e04 := e1.trans (e2.trans (e3.trans e4))
  have g := wbS_go o ne
  rw [hs] at g
  refine ⟨f, d, F, wbS R, x, rfl, e04 f _ hf, e4 d _ hd, wbTo_beh o (Nat.le_refl _), hF, by omega, fun t y q p H5 ta nq np e5 hq hp => ?_⟩
  exact ⟨p, [.ref q, .int (y : Nat)], rfl, st_of hp, rfl, .ref q, [.int (y : Nat)], rfl, .int (y : Nat), [], rfl, rfl, go t y q H5 ta (fresh_back e04 nq) (e04.trans e5) hq⟩
theorem left_perm {F t o : List Nat} (nd : F.Nodup) (pm : (t ++ o).Perm F) : (F.filter fun y => !decide (y ∈ t)).Perm o := by
  have nd2 := pm.nodup_iff.mpr nd
  have a := pm.symm.filter fun y => !decide (y ∈ t)
  rw [List.filter_append] at a
  have e1 : (t.filter fun y => !decide (y ∈ t)) = [] := List.filter_eq_nil_iff.mpr fun y hy => by simp [hy]
  have e2 : (o.filter fun y => !decide (y ∈ t)) = o := List.filter_eq_self.mpr fun y hy => by
    have := (List.nodup_append.mp nd2).2.2
    simp only [Bool.not_eq_true', decide_eq_false_iff_not]
    exact fun z => this y z y hy rfl
  rw [e1, e2] at a
  exact a
theorem given_left (F t : List Nat) : nv (F.filter fun y => !decide (y ∈ t)) = given (nv F).length (fun i => !decide (F.getD i 0 ∈ t)) (fun i => V.int (F.getD i 0 : Nat)) := by
  unfold given
  rw [nv_len, nv_eq]
  conv => lhs; rw [range_get F 0]
  rw [List.filter_map, List.map_map]
  rfl
theorem el_left {K : PySem.W.Frag} {σ : L2.St} {H : Hp} {tl tt : TE} {f q : Addr} {F t : List Nat} {j : Nat} {vs : List Nat} (h : Ev tl σ H (.ref f)) (hf : H f = some (.lst (nv F))) (hl : F.length ≤ 20) (hw : ∀ x, wipe ((wipe σ vs).set j (some x)) vs = wipe σ vs) (hj : ∀ x, ((wipe σ vs).set j (some x))[j]? = some (some x)) (ht : ∀ x H1, Ev tt ((wipe σ vs).set j (some x)) H1 (.ref q)) (hq : H q = some (.tup (nv t))) :
    EvL (tLc (iList K tl) (gName j) (tTest (tOp (rIn K true) (tVar j) tt)) (tVar j) vs) σ H (nv (F.filter fun y => !decide (y ∈ t))) := by
  rw [given_left]
  have at0 : ∀ {i : Nat} {x : V}, (nv F)[i]? = some x → x = .int (F.getD i 0 : Nat) := fun {i x} hx => by
    have il := (List.getElem?_eq_some_iff.mp hx).1
    rw [nv_len] at il
    have := nv_at il
    rw [hx] at this
    exact Option.some.inj this
  refine el_lcL _ _ h (sq_of hf) (by rw [nv_len]; omega) hw (fun i x H1 e1 hx => ?_) fun i x H1 e1 hx hb => ?_
  · rw [at0 hx]
    refine et_is (et_test (ev_op (ev_var (hj _)) (ht _ _) (rv_niT (st_of (e1 q _ hq)) rfl (nv_flat t)))) ?_
    rw [nv_in]
  · rw [at0 hx]
    exact ev_var (hj _)
/-- sizes as they are handed in -/
def szO (o : Option (List PyData)) : List Nat := (intsOf (o.getD [])).map Int.toNat
theorem szO_ints (s : List Nat) : szO (some ((iz s).map PyData.int)) = s := by
  unfold szO
  have : intsOf ((iz s).map PyData.int) = iz s := by
    unfold intsOf
    rw [List.map_map]
    exact List.map_id _
  show (intsOf ((iz s).map PyData.int)).map Int.toNat = _
  rw [this]
  unfold iz
  rw [List.map_map]
  conv => rhs; rw [← List.map_id s]
  exact List.map_congr_left fun x _ => Int.toNat_natCast x
def dNW (o : Option (List PyData)) (x : Int) : Option Nat := if judgeZ o then (if 0 ≤ x ∧ x < (wws (szO o) : Nat) then none else some 6) else some 1
section
variable {P : Program} {w : World} {K : PySem.W.Frag} {mg : Str → Option Value} {base : Heap}
def sp_nw (T : Tx K mg) : Sp := fun vs H Q E => ∃ (v : V) (o : Option (List PyData)) (x : Int), vs = [v, .int x] ∧ ThS K H v o ∧ Out ((dNW o x).map (erA T)) H Q E
theorem ok_nth_with_sizes (T : Tx K mg) : FnOk P w K mg base (L2N.CX P w) 5 T.f_nth_with_sizes T.d_nth_with_sizes ["sizes", "index"] (sp_nw T) := by
  refine Kit.okN T.F_nth_with_sizes sc_nth_with_sizes (fun vs H Q E h => ?_) (fun cdv A outer s H vs Q E hr h => ?_)
  · obtain ⟨v, o, x, rfl, _⟩ := h
    rfl
  · obtain ⟨v, o, x, rfl, hv, k⟩ := h
    refine ⟨_, (pss_cons (ps_expr (pe_call (ok_check_sizes T) (hr.mono (by decide)) (by rfl) T.g_check_sizes T.F_check_sizes.kp T.b_check_sizes .nil Kit.passN (pa_cons (pv 0) pa_nil)))
      (pss_cons (ps_expr (pe_call (ok_check_index T) (hr.mono (by decide)) (by rfl) T.g_check_index T.F_check_index.kp T.b_check_index .nil Kit.passN (pa_cons (pv 1) (pa_cons (pe_call (ok_ways_with_sizes T) (hr.mono (by decide)) (by rfl) T.g_ways_with_sizes T.F_ways_with_sizes.kp T.b_ways_with_sizes .nil pass0 (pa_cons (pv 0) pa_nil)) pa_nil))))
      (PSs.nox (pss_cons (ps_set (i := 2) sc_nth_with_sizes.nd rfl (Or.inl rfl) (pe_callTy call_listR (by rfl) T.m_list (by decide +kernel) (pa_cons (pv 0) pa_nil)))
      (pss_cons (ps_set (i := 3) sc_nth_with_sizes.nd rfl (Or.inl rfl) (pe_listRg rfl (by rfl) T.m_list (prg_1 (by rfl) T.m_range (pe_callB (cr_sum rfl) (by rfl) T.m_sum (by decide +kernel) (pa_cons (pv 0) pa_nil)))))
      (pss_cons (ps_set (i := 4) sc_nth_with_sizes.nd rfl (Or.inl rfl) (pe_lst pa_nil))
      (pss_cons (ps_while PassesOwn.never (pt_truth (pv 3) (by intro _; rfl)) (pss_cons (ps_asg (pe_call (ok_table_at T) (hr.mono (by decide)) (by rfl) T.g_table_at T.F_table_at.kp T.b_table_at .nil pass0 (pa_cons (pv 3) (pa_cons (pe_call (ok_ways_behind_sizes T) (hr.mono (by decide)) (by rfl) T.g_ways_behind_sizes T.F_ways_behind_sizes.kp T.b_ways_behind_sizes .nil pass0 (pa_cons (pv 2) pa_nil)) (pa_cons (pv 1) pa_nil)))) (pg_tup rfl (pgs_cons (pg_name (i := 5) sc_nth_with_sizes.nd rfl (Or.inr rfl)) (pgs_cons (pg_name (i := 1) sc_nth_with_sizes.nd rfl (Or.inl rfl)) pgs_nil))))
      (pss_cons (ps_expr (pe_bm PySem.F.plainAttrs_list PySem.F.slot_list_remove PySem.F.type_list_remove mt_remove (pv 2) (pa_cons (pe_callB call_lenR (by rfl) T.m_len (by decide +kernel) (pa_cons (pv 5) pa_nil)) pa_nil)))
      (pss_cons (ps_setLc (i := 3) (own := [("guest", 6)]) (g := (gName 6)) rfl sc_nth_with_sizes.nd rfl rfl (sw_true rfl rfl rfl (by decide +kernel)) (pi_list (pv 3)) (blkOk_by (own := [("guest", 6)]) (N := n_nth_with_sizes) (sc := defScope s_nth_with_sizes) (by decide +kernel)) (fun _ _ _ _ _ => (pg_name (i := 6) sc_nth_with_sizes.nd rfl (Or.inl rfl))) (fun _ _ _ _ _ => (pts_one (pt_cmpR (r := rIn K true) op_notIn_seq (pv 6) (pv 5) (by rfl)))) (fun _ _ _ _ _ => (pv 6)))
      (pss_one (ps_expr (pe_bm PySem.F.plainAttrs_list PySem.F.slot_list_append PySem.F.type_list_append mt_append (pv 4) (pa_cons (pv 5) pa_nil))))))))
      (pss_one (ps_ret (pe_call (ok_seating_with T) (hr.mono (by decide)) (by rfl) T.g_seating_with T.F_seating_with.kp T.b_seating_with .nil pass0 (pa_cons (pv 4) pa_nil))))))))))), ?_⟩
    refine q_chk (ea_cons (ev_var rfl) ea_nil) (so_chkZ hv) (fun hn H1 e1 => ?_) fun C hC H1 e1 => ?_
    · have hj := due_no hn
      obtain ⟨a, z, rfl, ha, oz, eo⟩ := judgeZ_get (hv.ex e1) hj
      have so : szO o = z := by rw [eo, szO_ints]
      have z1 := oz.2.1
      have z20 := oz.2.2
      refine q_chk (ea_cons (ev_var rfl) (ea_cons (ev_call (ea_cons (ev_var rfl) ea_nil) (sv_wws ha oz)) ea_nil)) (so_chkI (by
        have := wws_lt z20
        exact Nat.lt_of_lt_of_le (show ((wws z : Nat) : Int).natAbs < 2 ^ 64 by omega) (Nat.pow_le_pow_right (by decide) (by decide)))) (fun hn2 H2 e2 => ?_) fun C hC H2 e2 => ?_
      · have hx := due_no hn2
        have kn := k.no (by unfold dNW; rw [if_pos hj, so, if_pos hx]; rfl)
        obtain ⟨y, rfl⟩ : ∃ y : Nat, x = (y : Int) := ⟨x.toNat, by omega⟩
        have ha2 := e2 a _ ha
        refine q_asgL (el_list (ev_var rfl) (sq_of ha2)) fun pr H3 nr e3 hr3 => ?_
        have rg := el_rg1 (tb := tCB (rSum K) (tCons (tVar 0) tNil)) (σ := [some (.ref a), some (.int (y : Int)), some (.ref pr), none, none, none, none]) (ev_sumV (i := 0) rfl (e3 a _ ha2)) ⟨by omega, by omega, by omega, by omega⟩
        rw [range_iz] at rg
        refine q_asgL rg fun pf H4 nf e4 hf4 => ?_
        refine q_asgL (xs := []) (el_lst ea_nil (Nat.le_of_ble_eq_true rfl)) fun pt H5 nt e5 ht5 => ?_
        have e25 := e3.trans (e4.trans e5)
        have nr2 := nr
        have nt2 := fresh_back (e3.trans e4) nt
        have rt : pr ≠ pt := ne_of_none (e4 pr _ hr3) nt
        have rf : pf ≠ pr := (ne_of_none hr3 nf).symm
        have ft : pf ≠ pt := ne_of_none hf4 nt
        refine q_while (fun m σ' H' => ∃ (R F : List Nat) (rs : List (List Nat)) (ws : List V) (x : Nat) (pf : Addr) (y5 : Option V), σ' = [some (.ref a), some (.int (x : Int)), some (.ref pr), some (.ref pf), some (.ref pt), y5, none] ∧ Ex H2 H' ∧ H' pr = some (.lst (nv R)) ∧ H' pf = some (.lst (nv F)) ∧ H' pt = some (.lst ws) ∧ TL H' ws (rs.map nv) ∧ pf ≠ pr ∧ pf ≠ pt ∧ (rs.flatten ++ F).Perm (List.range z.sum) ∧ (∀ r ∈ rs, 0 < r.length) ∧ Sz0 R ∧ R.sum = F.length ∧ x < wws R ∧ F.length = m ∧ ws.length ≤ z.sum) z.sum
          ⟨z, List.range z.sum, [], [], y, pf, none, rfl, e25, e5 pr _ (e4 pr _ hr3), e5 pf _ hf4, ht5, .nil, rf, ft, List.Perm.refl _, (fun r hr => by cases hr), oz.z, by rw [List.length_range], by omega, List.length_range, Nat.zero_le _⟩ ?_
        rintro m σ' H' ⟨R, F, rs, ws, x, pf, y5, rfl, e, hR, hF, hT, tl, rf, ft, pm, ne, oR, sR, hx, rfl, wl⟩
        have fl := pm.length_eq
        rw [List.length_append, List.length_range] at fl
        refine ⟨!(nv F).isEmpty, et_lst (ev_var rfl) hF, fun hb H6 e6 => ?_, fun hb H6 e6 => ?_⟩
        · have f1 : 1 ≤ F.length := by
            cases F with
            | nil => cases hb
            | cons q l => rw [List.length_cons]; omega
          refine ⟨fun σ2 Hn => ∃ m', m' < F.length ∧ ∃ (R F : List Nat) (rs : List (List Nat)) (ws : List V) (x : Nat) (pf : Addr) (y5 : Option V), σ2 = [some (.ref a), some (.int (x : Int)), some (.ref pr), some (.ref pf), some (.ref pt), y5, none] ∧ Ex H2 Hn ∧ Hn pr = some (.lst (nv R)) ∧ Hn pf = some (.lst (nv F)) ∧ Hn pt = some (.lst ws) ∧ TL Hn ws (rs.map nv) ∧ pf ≠ pr ∧ pf ≠ pt ∧ (rs.flatten ++ F).Perm (List.range z.sum) ∧ (∀ r ∈ rs, 0 < r.length) ∧ Sz0 R ∧ R.sum = F.length ∧ x < wws R ∧ F.length = m' ∧ ws.length ≤ z.sum, fun σ2 Hn h => h, ?_⟩
          refine q_tabAt (K := K) (i := 3) (j := 2) (k := 1) (a := 5) (b := 1) rfl rfl rfl (e6 pf _ hF) (e6 pr _ hR) oR (fun z => by rw [z] at sR; simp at sR; omega) sR ⟨f1, by omega⟩ hx fun t y q H7 ta nq e7 hq => ?_
          obtain ⟨o, po⟩ := ta.pm
          obtain ⟨tR, tw⟩ := wbS_get (s := R) (L := t.length) (by have := ta.lt; omega)
          have ylt := ta.lt
          rw [tw] at ylt
          have nd : F.Nodup := by
            have := pm.nodup_iff.mpr List.nodup_range
            exact (List.nodup_append.mp this).2.1
          have lp := left_perm nd po
          have ol := po.length_eq
          rw [List.length_append] at ol
          have es := erase_sum tR
          have hR7 := e7 pr _ (e6 pr _ hR)
          have qr : q ≠ pr := fun z => by rw [z, e6 pr _ hR] at nq; cases nq
          have qt : q ≠ pt := fun z => by rw [z, e6 pt _ hT] at nq; cases nq
          have qf : q ≠ pf := fun z => by rw [z, e6 pf _ hF] at nq; cases nq
          have lt := ev_lenT (K := K) (ta := tVar 5) (σ := [some (.ref a), some (.int (y : Nat)), some (.ref pr), some (.ref pf), some (.ref pt), some (.ref q), none]) (H := H7) (ev_var (i := 5) rfl) (st_of hq)
          rw [nv_len] at lt
          refine q_remI (K := K) hR7 tR (ev_var rfl) lt fun H8 e8 => ?_
          have tl8 : TL (upd H8 pr (.lst (nv (R.erase t.length)))) ws (rs.map nv) := TL.upd (e8 pr _ hR7) (tl.ex (e6.trans (e7.trans e8)))
          have hF8 : upd H8 pr (.lst (nv (R.erase t.length))) pf = some (.lst (nv F)) := by rw [upd_ne rf]; exact e8 pf _ (e7 pf _ (e6 pf _ hF))
          have hT8 : upd H8 pr (.lst (nv (R.erase t.length))) pt = some (.lst ws) := by rw [upd_ne rt.symm]; exact e8 pt _ (e7 pt _ (e6 pt _ hT))
          have hq8 : upd H8 pr (.lst (nv (R.erase t.length))) q = some (.tup (nv t)) := by rw [upd_ne qr]; exact e8 q _ hq
          refine q_asgL (el_left (K := K) (F := F) (t := t) (q := q) (ev_var rfl) hF8 (by omega) (fun _ => rfl) (fun _ => rfl) (fun _ _ => ev_var rfl) hq8) fun pf2 H9 nf9 e9 hf9 => ?_
          have f2r : pf2 ≠ pr := fun z => by rw [z, upd_same] at nf9; cases nf9
          have f2t : pf2 ≠ pt := (ne_of_none hT8 nf9).symm
          have ws20 : ws.length < 1000 := by omega
          refine s_app (e9 pt _ hT8) (ev_var rfl) (ev_var rfl) (by omega) fun H10 e10 => ⟨(F.filter fun y => !decide (y ∈ t)).length, ?_, R.erase t.length, F.filter fun y => !decide (y ∈ t), rs ++ [t], ws ++ [.ref q], y, pf2, _, rfl, ?_, ?_, ?_, upd_same, ?_, f2r, f2t, ?_, ?_, ?_, ?_, by omega, rfl, ?_⟩
          · have := lp.length_eq
            have := ta.ne
            omega
          · refine Ex.mut (Ex.trans (Ex.mut (e.trans (e6.trans (e7.trans e8))) nr2) (e9.trans e10)) nt2
          · rw [upd_ne rt]
            exact e10 pr _ (e9 pr _ upd_same)
          · rw [upd_ne f2t]
            exact e10 pf2 _ hf9
          · rw [List.map_append]
            refine TL.app ⟨q, rfl, ?_⟩ (TL.upd (e10 pt _ (e9 pt _ hT8)) (tl8.ex (e9.trans e10)))
            rw [upd_ne qt]
            exact e10 q _ (e9 q _ hq8)
          · rw [List.flatten_append, List.flatten_cons, List.flatten_nil, List.append_nil, List.append_assoc]
            exact (List.Perm.append_left _ ((List.Perm.append_left t lp).trans po)).trans pm
          · intro r hr
            rcases List.mem_append.mp hr with z | z
            · exact ne r z
            · rw [List.mem_singleton.mp z]
              exact ta.ne
          · exact ⟨fun x hx => oR.1 x (List.mem_of_mem_erase hx), by have := oR.2; omega⟩
          · have := lp.length_eq
            omega
          · have l1 := TL.len tl
            rw [List.length_map] at l1
            have l2 : rs.length ≤ rs.flatten.length := by
              have gen : ∀ l : List (List Nat), (∀ r ∈ l, 0 < r.length) → l.length ≤ l.flatten.length := fun l => by
                induction l with
                | nil => intro _; exact Nat.le_refl _
                | cons r l ih =>
                  intro hl
                  have := ih fun x hx => hl x (by simp [hx])
                  have := hl r (by simp)
                  rw [List.flatten_cons, List.length_append, List.length_cons]
                  omega
              exact gen rs ne
            rw [List.length_append, List.length_cons, List.length_nil]
            omega
        · have f0 : F = [] := by
            cases F with
            | nil => rfl
            | cons q l => simp [nv, iz] at hb
          subst f0
          rw [List.append_nil] at pm
          have tb : Paired (Tb H6) ws rs := by
            have := tl.ex e6
            have gen : ∀ (ws : List V) (rs : List (List Nat)), TL H6 ws (rs.map nv) → Paired (Tb H6) ws rs := fun ws => by
              induction ws with
              | nil =>
                intro rs h
                cases rs with
                | nil => exact .nil
                | cons r l => cases h
              | cons v l ih =>
                intro rs h
                cases rs with
                | nil => cases h
                | cons r m =>
                  cases h with
                  | cons h t =>
                    obtain ⟨b, eb, hb⟩ := h
                    exact .cons ⟨b, eb, .inr hb⟩ (ih m t)
            exact gen ws rs this
          refine s_retL (el_call (ea_cons (ev_var rfl) ea_nil) (sl_with (h := seat rs z.sum) (e6 pt _ hT) tb (by rw [seat_len]; exact pm) (fun r hr => seat_rg pm hr (ne r hr)) (by rw [seat_len]; exact z20))) fun p H7 np e7 hp => kn _ _ (e1.trans (e2.trans (e.trans (e6.trans e7))))
      · obtain ⟨hx, rfl⟩ := due_yes hC
        exact k.yes _ (by unfold dNW; rw [if_pos hj, so, if_neg hx]; rfl) _ (e1.trans e2)
    · obtain ⟨hj, rfl⟩ := due_yes hC
      exact k.yes _ (by unfold dNW; rw [if_neg (by simpa using hj)]; rfl) _ e1
end


/-! ### index_of_table, index_with_sizes -/
def sp_ixt : Sp := fun vs H Q _ => ∃ (f d q : Addr) (F : List Nat) (ps : List (Int × Int)) (t : List Nat), vs = [.ref f, .ref d, .ref q] ∧ H f = some (.lst (nv F)) ∧ H d = some (.dK (enc ps)) ∧ H q = some (.tup (nv t)) ∧ Beh ps ∧ (∃ o, (t ++ o).Perm F) ∧ t[0]? = F[0]? ∧ (1 ≤ F.length ∧ F.length ≤ 20) ∧ ∀ (n : Int) H2, Ex H H2 → Q (.int n) H2
theorem drop_one {F : List Nat} {x : Nat} (h : F[0]? = some x) : F = x :: F.drop 1 := by
  cases F with
  | nil => cases h
  | cons y r => rw [show y = x from Option.some.inj h]; rfl
theorem s_popAt {K : PySem.W.Frag} {σ : L2.St} {H : Hp} {ta te : TE} {D : Ends} {l : Addr} {xs : List V} {j : Nat} (hl : H l = some (.lst xs)) (ha : Ev ta σ H (.ref l)) (he : Ev te σ H (.int (j : Int))) (hj : j < xs.length) (h63 : j < 1000) (k : ∀ H1, Ex H H1 → D.nx σ (upd H1 l (.lst (xs.eraseIdx j)))) : tDrop (tBM K "list" rPopAt ta (tCons te tNil)) D σ H :=
  ha H (Ex.refl H) _ fun H1 e1 => ⟨Or.inl ⟨rfl, xs, sq_of (e1 l _ hl)⟩, he H1 e1 _ fun H2 e2 => ⟨l, xs, (j : Int), j, xs[j], rfl, rfl, e2 l _ (e1 l _ hl), by omega, by omega, seq_at hj, List.getElem?_eq_getElem hj, k H2 (e1.trans e2)⟩⟩
section
variable {P : Program} {w : World} {K : PySem.W.Frag} {mg : Str → Option Value} {base : Heap}
theorem ok_index_of_table (T : Tx K mg) : FnOk P w K mg base CX0 2 T.f_index_of_table T.d_index_of_table ["free", "behind", "table"] sp_ixt := by
  refine T.F_index_of_table.ok sc_index_of_table (fun vs H Q E h => ?_) (fun cdv A outer s H vs Q E hr h => ?_)
  · obtain ⟨f, d, q, F, ps, t, rfl, _⟩ := h
    rfl
  · obtain ⟨f, d, q, F, ps, t, rfl, hf, hd, hq, B, ⟨o, pm⟩, h0, hl, k⟩ := h
    refine ⟨_, (pss_cons (ps_set (i := 3) sc_index_of_table.nd rfl (Or.inl rfl) (pe_slice sl_list (pv 0) (po_some pe_int) po_none))
      (pss_cons (ps_set (i := 4) sc_index_of_table.nd rfl (Or.inl rfl) pe_int)
      (pss_cons (ps_for PassesOwn.never rfl (pi_range2 (by rfl) T.m_range (pa_cons pe_int (pa_cons (pe_callB call_lenR (by rfl) T.m_len (by decide +kernel) (pa_cons (pv 2) pa_nil)) pa_nil))) (pg_name (i := 5) sc_index_of_table.nd rfl (Or.inl rfl)) (pss_cons (ps_set (i := 6) sc_index_of_table.nd rfl (Or.inl rfl) (pe_bm PySem.F.plainAttrs_list PySem.F.slot_list_index PySem.F.type_list_index mt_index (pv 3) (pa_cons (pe_ix ix_tup (pv 2) (pv 5) (fun _ _ => rfl)) pa_nil)))
      (pss_cons (ps_aug (i := 4) sc_index_of_table.nd rfl (Or.inl rfl) (pe_op op_add (pe_dget2 (hu_of hr) (pv 1) (pv 5) pe_int ⟨by rfl, by rfl, by rfl, by rfl⟩) (pe_op op_mulX (pv 6) (pe_call (ok_ways_to_go_on T) (hr.mono (by decide)) (by rfl) T.g_ways_to_go_on T.F_ways_to_go_on.kp T.b_ways_to_go_on .nil pass0 (pa_cons (pv 5) (pa_cons (pe_callB call_lenR (by rfl) T.m_len (by decide +kernel) (pa_cons (pv 3) pa_nil)) (pa_cons (pv 1) pa_nil)))))) ip_add)
      (pss_one (ps_expr (pe_bm PySem.F.plainAttrs_list PySem.F.slot_list_pop PySem.F.type_list_pop mt_popAt (pv 3) (pa_cons (pv 6) pa_nil)))))))
      (pss_one (ps_ret (pv 4)))))), ?_⟩
    have hF0 : F[0]? = some (F.getD 0 0) := by
      rw [List.getD_eq_getElem?_getD, List.getElem?_eq_getElem (by omega)]
      rfl
    have fe := drop_one hF0
    have te := drop_one (h0.trans hF0)
    have tl : 1 ≤ t.length := by rw [te, List.length_cons]; omega
    have pl := pm.length_eq
    rw [List.length_append] at pl
    have pm1 : (t.drop 1 ++ o).Perm (F.drop 1) := by
      rw [te, fe] at pm
      exact (List.perm_cons _).mp pm
    have sl := el_sl (K := K) (te := tVar 0) (σ := [some (.ref f), some (.ref d), some (.ref q), none, none, none, none]) (H := H) (lo := some 1) (hi := none) (tl := tPart (tC (.int 1))) (th := tNoPart) (ev_var rfl) (eo_some ev_c) eo_none (sq_of hf)
    rw [show (1 : Int) = ((1 : Nat) : Int) from rfl, cut_from hl.1] at sl
    refine q_asgL (xs := nv (F.drop 1)) sl fun po H1 no e1 ho => ?_
    refine q_asg (v := .int 0) ev_c fun H2 e2 => ?_
    have e02 := e1.trans e2
    have lt := ev_lenT (K := K) (ta := tVar 2) (σ := [some (.ref f), some (.ref d), some (.ref q), some (.ref po), some (.int 0), none, none]) (H := H2) (ev_var (i := 2) rfl) (st_of (e02 q _ hq))
    rw [nv_len] at lt
    refine q_forR2 (lo := 1) (n := (t.length : Int)) (ea_cons ev_c (ea_cons lt ea_nil)) (by omega) (fun i σ' H' => ∃ (g : List Nat) (n : Int) (y5 y6 : Option V), σ' = [some (.ref f), some (.ref d), some (.ref q), some (.ref po), some (.int n), y5, y6] ∧ Ex H H' ∧ H' po = some (.lst (nv g)) ∧ (t.drop (1 + i) ++ o).Perm g)
      (fun H3 e3 => ⟨F.drop 1, 0, none, none, rfl, e02.trans e3, e3 po _ (e2 po _ ho), pm1⟩) ?_ ?_
    · rintro i σ' H' hi ⟨g, n, y5, y6, rfl, e, hg, pg⟩
      have il : 1 + i < t.length := by omega
      have hz : t[1 + i]? = some (t.getD (1 + i) 0) := by
        rw [List.getD_eq_getElem?_getD, List.getElem?_eq_getElem il]
        rfl
      have td : t.drop (1 + i) = t.getD (1 + i) 0 :: t.drop (1 + (i + 1)) := by
        rw [List.drop_eq_getElem_cons il, List.getD_eq_getElem?_getD, List.getElem?_eq_getElem il]
        rfl
      generalize hzz : t.getD (1 + i) 0 = z at hz td
      rw [td] at pg
      have zm : z ∈ g := pg.mem_iff.mp List.mem_cons_self
      have gl := pg.length_eq
      rw [List.length_append, List.length_cons, List.length_drop] at gl
      have ix := List.idxOf_lt_length_of_mem zm
      have ev1 : (1 : Int) + (i : Int) = ((1 + i : Nat) : Int) := by omega
      rw [ev1]
      have hd' := e d _ hd
      have hq' := e q _ hq
      refine q_asg (v := .int (g.idxOf z : Nat)) (ev_index (K := K) hg (ev_var rfl) (ev_op (ev_var rfl) (ev_var rfl) (rv_ixT (K := K) (st_of hq') (atI_nat (nv_get hz)))) zm) fun H3 e3 => ?_
      obtain ⟨m', hm'⟩ : ∃ m', g.length = m' + 1 := ⟨g.length - 1, by omega⟩
      have wb := goS_bd B (L := (1 + i) + 1) (m := m') (by omega) (by omega)
      have gw := ev_call (E := E0) (dvs := []) (ta := tCons (tVar 5) (tCons (tCB (rLenS K) (tCons (tVar 3) tNil)) (tCons (tVar 1) tNil))) (ea_cons (ev_var (i := 5) (v := .int ((1 + i : Nat) : Int)) (σ := [some (.ref f), some (.ref d), some (.ref q), some (.ref po), some (.int n), some (.int ((1 + i : Nat) : Int)), some (.int (g.idxOf z : Nat))]) rfl) (ea_cons (ev_is (ev_lenH (K := K) (i := 3) rfl (e3 po _ hg)) (congrArg (fun n : Nat => V.int (n : Int)) hm')) (ea_cons (ev_var (i := 1) rfl) ea_nil))) (sv_go_on (L := 1 + i) (show m' < 20 by omega) (e3 d _ hd') B)
      refine q_aug (a := n) rfl (ev_op (ev_getI (ev_var rfl) (ev_var rfl) ev_c (e3 d _ hd')) (ev_op (ev_var rfl) gw (rv_I (mulx_ok (a := 64) (b := 140) (by omega) (by omega) (by decide)))) rv_I0) fun H4 e4 => ?_
      refine s_popAt (e4 po _ (e3 po _ hg)) (ev_var rfl) (ev_var rfl) (by rw [nv_len]; exact ix) (by omega) fun H5 e5 => ?_
      refine ⟨g.eraseIdx (g.idxOf z), _, _, _, rfl, Ex.mut (e.trans (e3.trans (e4.trans e5))) no, ?_, ?_⟩
      · rw [upd_same, nv_erase]
      · have pe := erase_perm ix
        rw [List.getElem_idxOf ix] at pe
        exact (List.perm_cons z).mp (pg.trans pe.symm)
    · rintro σ' H' ⟨g, n, y5, y6, rfl, e, hg, pg⟩
      exact s_ret (ev_var rfl) fun H3 e3 => k n H3 (e.trans e3)
theorem q_augIx {σ : L2.St} {H : Hp} {D : Ends} {tz : TS} {f r q : Addr} {F R t : List Nat} {i j l a : Nat} {n : Int} {E E' : XK} (hi : σ[i]? = some (some (.ref f))) (hj : σ[j]? = some (some (.ref r))) (hk : σ[l]? = some (some (.ref q))) (hn : σ[a]? = some (some (.int n))) (hf : H f = some (.lst (nv F))) (hr : H r = some (.lst (nv R))) (hq : H q = some (.tup (nv t)))
    (o : Sz0 R) (pm : ∃ o, (t ++ o).Perm F) (h0 : t[0]? = F[0]?) (hF : 1 ≤ F.length ∧ F.length ≤ 20)
    (go : ∀ (m : Int) H1, Ex H H1 → tz D (σ.set a (some (.int m))) H1) :
    tSeq (tAug a (tCall sp_ixt [] E (tCons (tVar i) (tCons (tCall sp_wbs [] E' (tCons (tVar j) tNil)) (tCons (tVar l) tNil)))) (ipI fun i j => i + j)) tz D σ H := by
  refine ⟨.int n, hn, ?_⟩
  unfold tCall
  show tVar i σ H _
  refine (ev_var hi) H (Ex.refl _) _ fun H1 e1 => ?_
  show tVar j σ H1 _
  refine (ev_var hj) H1 (Ex.refl _) _ fun H2 e2 => ?_
  refine ⟨r, R, rfl, e2 r _ (e1 r _ hr), o, fun d H3 nd e3 hd => ?_⟩
  show tVar l σ H3 _
  refine (ev_var hk) H3 (Ex.refl _) _ fun H4 e4 => ?_
  have e04 := e1.trans (e2.trans (e3.trans e4))
  exact ⟨f, d, q, F, wbS R, t, rfl, e04 f _ hf, e4 d _ hd, e04 q _ hq, wbTo_beh o (Nat.le_refl _), pm, h0, hF, fun m H5 e5 => ⟨n, m, rfl, rfl, go _ H5 (e04.trans e5)⟩⟩
theorem asc_head {F r : List Nat} {l : List (List Nat)} (so : F.Pairwise (· < ·)) (pm : F.Perm (r :: l).flatten) (ne : 0 < r.length) (low : ∀ r' ∈ r :: l, ∀ x ∈ r', r'.headD 0 ≤ x) (asc : ((r :: l).map (·.headD 0)).Pairwise (· < ·)) : r[0]? = F[0]? := by
  cases F with
  | nil =>
    have := pm.length_eq
    rw [List.flatten_cons, List.length_append, List.length_nil] at this
    omega
  | cons f F' =>
    have hm := head_mem ne
    have hf : r.headD 0 ∈ f :: F' := pm.mem_iff.mpr (by rw [List.flatten_cons]; exact List.mem_append_left _ hm)
    have a : f ≤ r.headD 0 := by
      rcases List.mem_cons.mp hf with z | z
      · omega
      · exact Nat.le_of_lt ((List.pairwise_cons.mp so).1 _ z)
    have b : r.headD 0 ≤ f := by
      have := pm.mem_iff.mp (List.mem_cons_self (a := f) (l := F'))
      obtain ⟨r', hr', hx⟩ := List.mem_flatten.mp this
      have h1 := low r' hr' f hx
      rcases List.mem_cons.mp hr' with z | z
      · rw [z] at h1
        exact h1
      · have := (List.pairwise_cons.mp (by rw [List.map_cons] at asc; exact asc)).1 _ (List.mem_map.mpr ⟨r', z, rfl⟩)
        omega
    cases r with
    | nil => cases ne
    | cons x r0 =>
      have : x = f := by
        have a : f ≤ x := a
        have b : x ≤ f := b
        omega
      rw [this]
      rfl
def dIW (o : Option (List PyData)) : Option Nat := if judge o then none else some 0
def sp_iw (T : Tx K mg) : Sp := fun vs H Q E => ∃ (v : V) (o : Option (List PyData)), vs = [v] ∧ Th K H v o ∧ Out ((dIW o).map (erA T)) H Q E
theorem ok_index_with_sizes (T : Tx K mg) : FnOk P w K mg base (L2N.CX P w) 6 T.f_index_with_sizes T.d_index_with_sizes ["seating"] (sp_iw T) := by
  refine Kit.okN T.F_index_with_sizes sc_index_with_sizes (fun vs H Q E h => ?_) (fun cdv A outer s H vs Q E hr h => ?_)
  · obtain ⟨v, o, rfl, _⟩ := h
    rfl
  · obtain ⟨v, o, rfl, hv, k⟩ := h
    refine ⟨_, (pss_cons (ps_set (i := 1) sc_index_with_sizes.nd rfl (Or.inl rfl) (pe_call (ok_tables_of T) (hr.mono (by decide)) (by rfl) T.g_tables_of T.F_tables_of.kp T.b_tables_of .nil Kit.passN (pa_cons (pv 0) pa_nil)))
      (PSs.nox (pss_cons (ps_setLc (i := 3) (own := [("table", 2)]) (g := (gName 2)) (tt := tYes) rfl sc_index_with_sizes.nd rfl rfl (sw_true rfl rfl rfl (by decide +kernel)) (pi_list (pv 1)) (blkOk_by (own := [("table", 2)]) (N := n_index_with_sizes) (sc := defScope s_index_with_sizes) (by decide +kernel)) (fun _ _ _ _ _ => (pg_name (i := 2) sc_index_with_sizes.nd rfl (Or.inl rfl))) (fun _ _ _ _ _ => pts_nil) (fun _ _ _ _ _ => (pe_callB (id := "len") (r := rLenS K) call_lenR (by rfl) T.m_len (by decide +kernel) (pa_cons (pv 2) pa_nil))))
      (pss_cons (ps_set (i := 4) sc_index_with_sizes.nd rfl (Or.inl rfl) (pe_listRg rfl (by rfl) T.m_list (prg_1 (by rfl) T.m_range (pe_callB call_lenR (by rfl) T.m_len (by decide +kernel) (pa_cons (pv 0) pa_nil)))))
      (pss_cons (ps_set (i := 5) sc_index_with_sizes.nd rfl (Or.inl rfl) pe_int)
      (pss_cons (ps_for PassesOwn.never rfl (pi_list (pv 1)) (pg_name (i := 2) sc_index_with_sizes.nd rfl (Or.inr rfl)) (pss_cons (ps_aug (i := 5) sc_index_with_sizes.nd rfl (Or.inl rfl) (pe_call (ok_index_of_table T) (hr.mono (by decide)) (by rfl) T.g_index_of_table T.F_index_of_table.kp T.b_index_of_table .nil pass0 (pa_cons (pv 4) (pa_cons (pe_call (ok_ways_behind_sizes T) (hr.mono (by decide)) (by rfl) T.g_ways_behind_sizes T.F_ways_behind_sizes.kp T.b_ways_behind_sizes .nil pass0 (pa_cons (pv 3) pa_nil)) (pa_cons (pv 2) pa_nil)))) ip_add)
      (pss_cons (ps_expr (pe_bm PySem.F.plainAttrs_list PySem.F.slot_list_remove PySem.F.type_list_remove mt_remove (pv 3) (pa_cons (pe_callB call_lenR (by rfl) T.m_len (by decide +kernel) (pa_cons (pv 2) pa_nil)) pa_nil)))
      (pss_one (ps_setLc (i := 4) (own := [("guest", 6)]) (g := (gName 6)) rfl sc_index_with_sizes.nd rfl rfl (sw_true rfl rfl rfl (by decide +kernel)) (pi_list (pv 4)) (blkOk_by (own := [("guest", 6)]) (N := n_index_with_sizes) (sc := defScope s_index_with_sizes) (by decide +kernel)) (fun _ _ _ _ _ => (pg_name (i := 6) sc_index_with_sizes.nd rfl (Or.inl rfl))) (fun _ _ _ _ _ => (pts_one (pt_cmpR (r := rIn K true) op_notIn_seq (pv 6) (pv 2) (by rfl)))) (fun _ _ _ _ _ => (pv 6)))))))
      (pss_one (ps_ret (pv 5))))))))), ?_⟩
    refine q_asgCall (ea_cons (ev_var rfl) ea_nil) fun H1 e1 => ⟨v, o, rfl, hv.ex e1, fun hj H2 e2 => k.yes _ (by unfold dIW; rw [if_neg (by rw [hj]; exact Bool.false_ne_true)]; rfl) _ (e1.trans e2), fun a h rs pt ws H2 hj ev ha oh R rl npt e2 hpt tl => ?_⟩
    subst ev
    have kn := k.no (by unfold dIW; rw [if_pos hj]; rfl)
    have e02 := e1.trans e2
    have ha2 := e2 a _ ha
    have hn := oh.2
    have l1 := TL.len tl
    rw [List.length_map] at l1
    have e0 : nv (rs.map List.length) = (List.range ws.length).map fun i => V.int ((rs.getD i []).length : Int) := by
      rw [nv_eq, List.map_map, l1]
      conv => lhs; rw [range_get rs []]
      rw [List.map_map]
      rfl
    refine q_asgL (xs := nv (rs.map List.length)) ?_ fun pr H3 nr e3 hr3 => ?_
    · rw [e0]
      refine el_mapI _ (ev_var rfl) (sq_of hpt) (by omega) (fun _ => rfl) fun i x H3 e3 hx => ?_
      obtain ⟨b, r, rfl, hb, hr⟩ := TL.get tl hx
      rw [List.getElem?_map] at hr
      obtain ⟨r0, hr0, rfl⟩ := Option.map_eq_some_iff.mp hr
      have g : rs.getD i [] = r0 := by rw [List.getD_eq_getElem?_getD, hr0] <;> rfl
      rw [g, ← nv_len r0]
      exact ev_lenT (K := K) (ev_var rfl) (st_of (e3 b _ hb))
    have rg := el_rg1 (σ := [some (.ref a), some (.ref pt), none, some (.ref pr), none, none, none]) (ev_lenH (K := K) (i := 0) rfl (e3 a _ ha2)) (RgOk.of_le (by decide) (by omega) (by decide) (by omega))
    rw [range_iz] at rg
    refine q_asgL rg fun pf H4 nf e4 hf4 => ?_
    refine q_asg (v := .int 0) ev_c fun H5 e5 => ?_
    have e25 := e3.trans (e4.trans e5)
    have hpt5 := e25 pt _ hpt
    have rt : pr ≠ pt := (ne_of_none hpt nr).symm
    have rf : pf ≠ pr := (ne_of_none hr3 nf).symm
    refine q_forLn (xs := ws) (K := K) (ev_var rfl) (sq_of hpt5) (fun m σ' H' => ∃ (F : List Nat) (pf : Addr) (n : Int) (y2 : Option V), σ' = [some (.ref a), some (.ref pt), y2, some (.ref pr), some (.ref pf), some (.int n), none] ∧ Ex H2 H' ∧ H' pr = some (.lst (nv ((rs.drop m).map List.length))) ∧ H' pf = some (.lst (nv F)) ∧ pf ≠ pr ∧ F.Perm (rs.drop m).flatten ∧ F.Pairwise (· < ·))
      (fun H6 e6 => ⟨List.range h.length, pf, 0, none, rfl, e25.trans e6, e6 pr _ (e5 pr _ (e4 pr _ hr3)), e6 pf _ (e5 pf _ hf4), rf, R.all.symm, List.pairwise_lt_range⟩) (fun m σ' H' _ ⟨_, _, _, _, _, e, _⟩ => sq_of (e pt _ hpt)) ?_ ?_
    · rintro m v σ' H6 hv ⟨F, pf, n, y2, rfl, e, hr, hf, rf, pm, so⟩
      obtain ⟨b, r', rfl, hb, hr0⟩ := TL.get tl hv
      rw [List.getElem?_map] at hr0
      obtain ⟨r, hr1, rfl⟩ := Option.map_eq_some_iff.mp hr0
      have hml := (List.getElem?_eq_some_iff.mp hr1).1
      have hrm : r ∈ rs := List.mem_of_getElem? hr1
      have dr : rs.drop m = r :: rs.drop (m + 1) := by
        rw [List.drop_eq_getElem_cons hml, (List.getElem?_eq_some_iff.mp hr1).2]
      rw [dr] at pm hr
      have rne := (R.rg r hrm).ne
      have sub : ∀ r' ∈ r :: rs.drop (m + 1), r' ∈ rs := fun r' h => by
        rw [← dr] at h
        exact List.mem_of_mem_drop h
      have h0 := asc_head so pm rne (fun r' h => R.low r' (sub r' h)) (by
        have := R.asc.sublist ((List.drop_sublist m rs).map _)
        rw [dr] at this
        exact this)
      have hb6 := e b _ hb
      have fl := pm.length_eq
      rw [List.flatten_cons, List.length_append] at fl
      have dl : (rs.drop m).flatten.length ≤ h.length := by
        have := R.all.length_eq
        rw [List.length_range] at this
        rw [← this]
        conv => rhs; rw [← List.take_append_drop m rs, List.flatten_append, List.length_append]
        omega
      rw [dr, List.flatten_cons, List.length_append] at dl
      have oR : Sz0 ((r :: rs.drop (m + 1)).map List.length) := ⟨fun x hx => by
        obtain ⟨r', h, rfl⟩ := List.mem_map.mp hx
        exact (R.rg r' (sub r' h)).ne, by
        rw [← List.length_flatten, List.flatten_cons, List.length_append]
        omega⟩
      have po : (r ++ (rs.drop (m + 1)).flatten).Perm F := by
        rw [List.flatten_cons] at pm
        exact pm.symm
      refine q_augIx (σ := [some (.ref a), some (.ref pt), some (.ref b), some (.ref pr), some (.ref pf), some (.int n), none]) (i := 4) (j := 3) (l := 2) (a := 5) (n := n) rfl rfl rfl rfl hf hr hb6 oR ⟨_, po⟩ h0 ⟨by omega, by omega⟩ fun n2 H7 e7 => ?_
      have hb7 := e7 b _ hb6
      have lt := ev_lenT (K := K) (ta := tVar 2) (σ := [some (.ref a), some (.ref pt), some (.ref b), some (.ref pr), some (.ref pf), some (.int n2), none]) (H := H7) (ev_var (i := 2) rfl) (st_of hb7)
      rw [nv_len] at lt
      have br : b ≠ pr := fun z => by rw [z, e7 pr _ hr] at hb7; cases hb7
      refine q_remI (K := K) (e7 pr _ hr) List.mem_cons_self (ev_var rfl) lt fun H8 e8 => ?_
      have er : ((r :: rs.drop (m + 1)).map List.length).erase r.length = (rs.drop (m + 1)).map List.length := by rw [List.map_cons, List.erase_cons_head]
      rw [er]
      have hf8 : upd H8 pr (.lst (nv ((rs.drop (m + 1)).map List.length))) pf = some (.lst (nv F)) := by rw [upd_ne rf]; exact e8 pf _ (e7 pf _ hf)
      have hb8 : upd H8 pr (.lst (nv ((rs.drop (m + 1)).map List.length))) b = some (.tup (nv r)) := by rw [upd_ne br]; exact e8 b _ hb7
      refine s_asgL (el_left (K := K) (F := F) (t := r) (q := b) (ev_var rfl) hf8 (by omega) (fun _ => rfl) (fun _ => rfl) (fun _ _ => ev_var rfl) hb8) fun pf2 H9 nf9 e9 hf9 => ?_
      have f2r : pf2 ≠ pr := fun z => by rw [z, upd_same] at nf9; cases nf9
      refine ⟨F.filter fun y => !decide (y ∈ r), pf2, n2, _, rfl, Ex.trans (Ex.mut (e.trans (e7.trans e8)) nr) e9, e9 pr _ upd_same, hf9, f2r, left_perm (so.imp fun h => Nat.ne_of_lt h) po, so.filter _⟩
    · rintro σ' H' ⟨F, pf, n, y2, rfl, e, _⟩
      exact s_ret (ev_var rfl) fun H3 e3 => kn _ _ (e02.trans (e.trans e3))
end


/-! ### number_shares -/
def oth (g z : Nat) : List Nat := ((List.range g).filter fun i => decide (i + 1 ≠ z)).map fun i => i + 1
theorem oth_alw (g z : Nat) (hg : g ≤ 20) : Alw (oth g z) := by
  refine ⟨fun s hs => ?_, ?_⟩
  · obtain ⟨i, hi, rfl⟩ := List.mem_map.mp hs
    have := List.mem_range.mp (List.mem_filter.mp hi).1
    omega
  · unfold oth
    rw [List.length_map]
    have := List.length_filter_le (fun i => decide (i + 1 ≠ z)) (List.range g)
    rw [List.length_range] at this
    omega
theorem oth_given (g z : Nat) : nv (oth g z) = given g (fun i => decide (i + 1 ≠ z)) (fun i => V.int (1 + (i : Int))) := by
  unfold given oth
  rw [nv_eq, List.map_map]
  refine List.map_congr_left fun i _ => ?_
  show V.int ((i + 1 : Nat) : Int) = _
  congr 1
  omega
theorem nv_repz (z n : Nat) : (List.replicate n [V.int (z : Int)]).flatten = nv (List.replicate n z) := by
  rw [nv_eq, List.map_replicate]
  induction n with
  | zero => rfl
  | succ k ih =>
    rw [List.replicate_succ, List.flatten_cons, ih, List.replicate_succ]
    rfl
theorem rep_szs {z n : Nat} (h1 : 1 ≤ z) (h2 : n * z ≤ 20) : Sz0 (List.replicate n z) := by
  refine ⟨fun x hx => ?_, ?_⟩
  · rw [(List.mem_replicate.mp hx).2]
    exact h1
  · have : (List.replicate n z).sum = n * z := by
      induction n with
      | zero => simp
      | succ k ih =>
        rw [List.replicate_succ, List.sum_cons, ih (by rw [Nat.succ_mul] at h2; omega), Nat.succ_mul]
        omega
    omega
section
variable {P : Program} {w : World} {K : PySem.W.Frag} {mg : Str → Option Value} {base : Heap}
def sp_ns (T : Tx K mg) : Sp := fun vs H Q E => ∃ x y n : Int, vs = [.int x, .int y, .int n] ∧ Out ((dSN x y n).map (erA T)) H Q E
theorem ok_number_shares (T : Tx K mg) : FnOk P w K mg base (L2N.CX P w) 4 T.f_number_shares T.d_number_shares ["guests", "weight", "size"] (sp_ns T) := by
  refine Kit.okN T.F_number_shares sc_number_shares (fun vs H Q E h => ?_) (fun cdv A outer s H vs Q E hr h => ?_)
  · obtain ⟨x, y, n, rfl, _⟩ := h
    rfl
  · obtain ⟨x, y, n, rfl, k⟩ := h
    refine ⟨_, (pss_cons (ps_expr (pe_call (ok_check_guests T) (hr.mono (by decide)) (by rfl) T.g_check_guests T.F_check_guests.kp T.b_check_guests .nil Kit.passN (pa_cons (pv 0) pa_nil)))
      (pss_cons (ps_expr (pe_call (ok_check_weight T) (hr.mono (by decide)) (by rfl) T.g_check_weight T.F_check_weight.kp T.b_check_weight .nil Kit.passN (pa_cons (pv 1) pa_nil)))
      (pss_cons (ps_expr (pe_call (ok_check_number T) (hr.mono (by decide)) (by rfl) T.g_check_number T.F_check_number.kp T.b_check_number .nil Kit.passN (pa_cons (pv 2) (pa_cons pe_int (pa_cons (pv 0) pa_nil)))))
      (PSs.nox (pss_cons (ps_setLc (i := 4) (own := [("other", 3)]) (g := (gName 3)) rfl sc_number_shares.nd rfl rfl (sw_true rfl rfl rfl (by decide +kernel)) (pi_range2 (by rfl) T.m_range (pa_cons pe_int (pa_cons (pe_op op_add (pv 0) pe_int) pa_nil))) (blkOk_by (own := [("other", 3)]) (N := n_number_shares) (sc := defScope s_number_shares) (by decide +kernel)) (fun _ _ _ _ _ => (pg_name (i := 3) sc_number_shares.nd rfl (Or.inl rfl))) (fun _ _ _ _ _ => (pts_one (pt_cmpR op_ne (pv 3) (pv 2) (nomark _)))) (fun _ _ _ _ _ => (pv 3)))
      (pss_cons (ps_set (i := 5) sc_number_shares.nd rfl (Or.inl rfl) (pe_call (ok_weights_with_allowed T) (hr.mono (by decide)) (by rfl) T.g_weights_with_allowed T.F_weights_with_allowed.kp T.b_weights_with_allowed .nil pass0 (pa_cons (pv 0) (pa_cons (pv 1) (pa_cons (pv 4) pa_nil)))))
      (pss_cons (ps_set (i := 6) sc_number_shares.nd rfl (Or.inl rfl) (pe_lst pa_nil))
      (pss_cons (ps_for PassesOwn.never rfl (pi_range1 (by rfl) T.m_range (pa_cons (pe_op op_add (pe_op op_fdivW (pv 0) (pv 2)) pe_int) pa_nil)) (pg_name (i := 7) sc_number_shares.nd rfl (Or.inl rfl)) (pss_cons (ps_set (i := 8) sc_number_shares.nd rfl (Or.inl rfl) (pe_op op_mulX (pv 7) (pv 2)))
      (pss_cons (ps_set (i := 9) sc_number_shares.nd rfl (Or.inl rfl) (pe_op op_mulX (pe_callBfun cr_comb (by rfl) T.i_comb (pa_cons (pv 0) (pa_cons (pv 8) pa_nil))) (pe_call (ok_ways_with_sizes T) (hr.mono (by decide)) (by rfl) T.g_ways_with_sizes T.F_ways_with_sizes.kp T.b_ways_with_sizes .nil pass0 (pa_cons (pe_op op_rep (pe_lst (pa_cons (pv 2) pa_nil)) (pv 7)) pa_nil))))
      (pss_cons (ps_set (i := 10) sc_number_shares.nd rfl (Or.inl rfl) (pe_op op_mulX (pe_op op_mulX (pv 9) (pe_call (ok_raised T) (hr.mono (by decide)) (by rfl) T.g_raised T.F_raised.kp T.b_raised .nil pass0 (pa_cons (pv 1) (pa_cons (pv 7) pa_nil)))) (pe_ix ix_list (pv 5) (pe_op op_sub (pv 0) (pv 8)) (fun _ _ => rfl))))
      (pss_one (ps_expr (pe_bm PySem.F.plainAttrs_list PySem.F.slot_list_append PySem.F.type_list_append mt_append (pv 6) (pa_cons (pe_call (ok_fraction T) (hr.mono (by decide)) (by rfl) T.g_fraction T.F_fraction.kp T.b_fraction .nil pass0 (pa_cons (pv 10) (pa_cons (pe_call (ok_rising T) (hr.mono (by decide)) (by rfl) T.g_rising T.F_rising.kp T.b_rising .nil pass0 (pa_cons (pv 1) (pa_cons (pv 0) pa_nil))) pa_nil))) pa_nil))))))))
      (pss_one (ps_ret (pv 6))))))))))), ?_⟩
    refine q_chk (ea_cons (ev_var rfl) ea_nil) so_chk1 (fun hn H1 e1 => ?_) fun C hC H1 e1 => ?_
    · have h1 := due_no hn
      refine q_chk (ea_cons (ev_var rfl) ea_nil) so_chk1 (fun hn2 H2 e2 => ?_) fun C hC H2 e2 => ?_
      · have h2 := due_no hn2
        refine q_chk (ea_cons (ev_var rfl) (ea_cons ev_c (ea_cons (ev_var rfl) ea_nil))) (so_chkN (by decide) (Nat.lt_of_le_of_lt (m := 20) (by omega) (by decide +kernel))) (fun hn3 H3 e3 => ?_) fun C hC H3 e3 => ?_
        · have h3 := due_no hn3
          have kn := k.no (by unfold dSN; rw [if_pos h1, if_pos h2, if_pos h3]; rfl)
          obtain ⟨g, rfl⟩ : ∃ g : Nat, x = (g : Int) := ⟨x.toNat, by omega⟩
          obtain ⟨z, rfl⟩ : ∃ z : Nat, n = (z : Int) := ⟨n.toNat, by omega⟩
          have g20 : g ≤ 20 := by omega
          have hb : y.natAbs < 2 ^ 130 := by omega
          refine q_asgL (xs := nv (oth g z)) ?_ fun a H4 na e4 ha => ?_
          · have gl := el_lcR2 (σ := [some (.int (g : Int)), some (.int y), some (.int (z : Int)), none, none, none, none, none, none, none, none]) (H := H3) (j := 3) (vs := [3]) (te := tVar 3) (t := tTest (tOp rNe (tVar 3) (tVar 2))) (ta := tCons (tC (.int 1)) (tCons (tOp (rI0 fun i j => .int (i + j)) (tVar 0) (tC (.int 1))) tNil)) (lo := 1) (n := (g : Int) + 1) (fun i => decide (i + 1 ≠ z)) (fun i => V.int (1 + (i : Int))) (ea_cons ev_c (ea_cons (ev_op (ev_var rfl) ev_c rv_I0) ea_nil)) (by omega) (fun _ => rfl) (fun i H5 e5 hi => by
              refine et_is (et_test (ev_op (ev_var rfl) (ev_var rfl) (rv_ne rfl))) ?_
              rw [Bool.eq_iff_iff, Bool.not_eq_true', decide_eq_false_iff_not, decide_eq_true_iff]
              constructor
              · intro h e
                exact h (congrArg V.int (by omega))
              · intro h e
                exact h (by have : (1 : Int) + (i : Int) = (z : Int) := V.int.inj e; omega)) (fun i H5 e5 hi hf => ev_var rfl)
            rw [show ((g : Int) + 1 - 1).toNat = g by omega, ← oth_given] at gl
            exact gl
          refine q_asgL (xs := (wA y (oth g z) g).map V.int) (el_call (ea_cons (ev_var rfl) (ea_cons (ev_var rfl) (ea_cons (ev_var rfl) ea_nil))) (sl_wA g20 h2 ha (oth_alw g z g20))) fun b H5 nb e5 hb5 => ?_
          refine q_asgL (xs := []) (el_lst ea_nil (Nat.le_of_ble_eq_true rfl)) fun c H6 nc e6 hc => ?_
          have bc : b ≠ c := ne_of_none hb5 nc
          have e13 := e1.trans (e2.trans e3)
          have e46 := e4.trans (e5.trans e6)
          have nc0 := fresh_back (e4.trans e5) nc
          have gz : g / z ≤ 20 := Nat.le_trans (Nat.div_le_self _ _) g20
          refine q_forR1 (n := ((g / z + 1 : Nat) : Int)) (ea_cons (ev_is (ev_op (ev_op (ev_var rfl) (ev_var rfl) (rv_I (divw_ok (by omega) (by omega)))) ev_c rv_I0) (congrArg V.int (by rw [Int.natCast_add, Int.natCast_ediv]; rfl))) ea_nil) ⟨Int.natCast_nonneg _, Int.le_trans (Int.ofNat_le.mpr (show g / z + 1 ≤ 21 by omega)) (by decide)⟩ (fun i σ' H' => ∃ (ws : List V) (y7 y8 y9 y10 : Option V), σ' = [some (.int (g : Int)), some (.int y), some (.int (z : Int)), none, some (.ref a), some (.ref b), some (.ref c), y7, y8, y9, y10] ∧ Ex H3 H' ∧ H' b = some (.lst ((wA y (oth g z) g).map V.int)) ∧ H' c = some (.lst ws) ∧ ws.length = i)
            (fun H7 e7 => ⟨[], none, none, none, none, rfl, e46.trans e7, e7 b _ (e6 b _ hb5), e7 c _ hc, rfl⟩) ?_ ?_
          · rintro i σ' H' hi ⟨ws, y7, y8, y9, y10, rfl, e, hb', hc', wl⟩
            have il : i ≤ g / z := Nat.le_of_lt_succ (Int.ofNat_lt.mp hi)
            have iz : i * z ≤ g := Nat.le_trans (Nat.mul_le_mul_right z il) (Nat.div_mul_le_self g z)
            refine q_asg (v := .int ((i * z : Nat) : Int)) (ev_is (ev_op (ev_var rfl) (ev_var rfl) (rv_I (mulx_ok (a := 64) (b := 64) (by omega) (by omega) (by decide)))) (congrArg V.int (Int.natCast_mul i z).symm)) fun H7 e7 => ?_
            have chb : ((cho g (i * z) : Nat) : Int).natAbs < 2 ^ 64 := by
              rw [Int.natAbs_natCast]
              exact Nat.lt_of_le_of_lt (cho_le g (i * z)) (Nat.lt_of_le_of_lt (Nat.pow_le_pow_right (by decide) g20) (by decide))
            have oz : Sz0 (List.replicate i z) := rep_szs (by omega) (by omega)
            have wb := wws_lt oz.2
            have rp := el_rep (ta := tLst (tCons (tVar 2) tNil)) (tb := tVar 7) (σ := [some (.int (g : Int)), some (.int y), some (.int (z : Int)), none, some (.ref a), some (.ref b), some (.ref c), some (.int (i : Int)), some (.int ((i * z : Nat) : Int)), y9, y10]) (H := H7) (xs := [V.int (z : Int)]) (k := (i : Int)) (el_lst (ea_cons (ev_var rfl) ea_nil) (Nat.le_of_ble_eq_true rfl)) (ev_var rfl) (by omega) (by omega) (Nat.le_of_ble_eq_true rfl)
            rw [Int.toNat_natCast, nv_repz] at rp
            refine q_asg (v := .int ((cho g (i * z) * wws (List.replicate i z) : Nat) : Int)) (ev_is (ev_op (ev_comb (ev_var rfl) (ev_var rfl) (by omega)) (ev_call1L rp fun p H8 e8 hp => sv_wws0 hp oz) (rv_I (mulx_ok (a := 64) (b := 64) chb (by rw [Int.natAbs_natCast]; exact wb) (by decide)))) (congrArg V.int (Int.natCast_mul _ _).symm)) fun H8 e8 => ?_
            have wy : (((cho g (i * z) * wws (List.replicate i z) : Nat) : Int)).natAbs < 2 ^ 128 := by
              rw [Int.natCast_mul]
              exact natAbs_mul_lt (k := 64) (m := 64) chb (by rw [Int.natAbs_natCast]; exact wb)
            have pb := natAbs_pow_le hb i
            have pb2 : (y ^ i).natAbs < 2 ^ 2601 := lt2_mono (lt_of_le2 pb) (by omega)
            have ab := lt2_mono (lt_of_le2 (getD_abs (wA_bd (oth_alw g z g20) h2 g g20) (g - i * z))) (show 120 * g + 1 ≤ 2401 by omega)
            have pw := ev_call (E := E0) (dvs := []) (ta := tCons (tVar 1) (tCons (tVar 7) tNil)) (ea_cons (ev_var (i := 1) (v := .int y) (σ := [some (.int (g : Int)), some (.int y), some (.int (z : Int)), none, some (.ref a), some (.ref b), some (.ref c), some (.int (i : Int)), some (.int ((i * z : Nat) : Int)), some (.int ((cho g (i * z) * wws (List.replicate i z) : Nat) : Int)), y10]) (H := H8) rfl) (ea_cons (ev_var (i := 7) rfl) ea_nil)) (sv_pow hb (show (0 : Int) ≤ (i : Int) by omega) (by omega))
            rw [Int.toNat_natCast] at pw
            have hb8 := e8 b _ (e7 b _ hb')
            have at0 : atI ((wA y (oth g z) g).map V.int) ((g - i * z : Nat) : Int) = some (.int ((wA y (oth g z) g).getD (g - i * z) 0)) := by
              have wl := wA_len y (oth g z) g
              have ql : g - i * z < g + 1 := by omega
              generalize g - i * z = q at ql ⊢
              refine atI_nat ?_
              rw [List.getElem?_map, List.getD_eq_getElem?_getD, List.getElem?_eq_getElem (by omega)]
              rfl
            refine q_asg (v := .int (((cho g (i * z) * wws (List.replicate i z) : Nat) : Int) * y ^ i * (wA y (oth g z) g).getD (g - i * z) 0)) (ev_op (ev_op (ev_var rfl) pw (rv_I (mulx_ok (a := 128) (b := 2601) wy pb2 (by decide)))) (ev_op (ev_var rfl) (ev_is (ev_op (ev_var rfl) (ev_var rfl) rv_I0) (congrArg V.int (show (g : Int) - ((i * z : Nat) : Int) = ((g - i * z : Nat) : Int) by omega))) (rv_ixL (K := K) (sq_of hb8) at0)) (rv_I (mulx_ok (a := 2729) (b := 2401) (natAbs_mul_lt (k := 128) (m := 2601) wy pb2) ab (by decide)))) fun H9 e9 => ?_
            have e79 := e7.trans (e8.trans e9)
            refine s_appU (e79 c _ hc') (ev_var rfl) (eu_call (ea_cons (ev_var rfl) (ea_cons (ev_call (ea_cons (ev_var rfl) (ea_cons (ev_var rfl) ea_nil)) (sv_rise hb (by omega))) ea_nil)) (su_fraction (rise_pos h2.1 _) (lt2_mono (lt_of_le2 (rise_le hb _ (by omega))) (by omega)))) (by omega) fun p H10 np e10 hp => ⟨ws ++ [.ref p], _, _, _, _, rfl, Ex.mut (e.trans (e79.trans e10)) nc0, ?_, upd_same, by rw [List.length_append, wl]; rfl⟩
            rw [upd_ne bc]
            exact e10 b _ (e79 b _ hb')
          · rintro σ' H' ⟨ws, y7, y8, y9, y10, rfl, e, hb', hc', wl⟩
            exact s_ret (ev_var rfl) fun H7 e7 => kn _ _ (e13.trans (e.trans e7))
        · obtain ⟨h3, rfl⟩ := due_yes hC
          exact k.yes _ (by unfold dSN; rw [if_pos h1, if_pos h2, if_neg h3]; rfl) _ (e1.trans (e2.trans e3))
      · obtain ⟨h2, rfl⟩ := due_yes hC
        exact k.yes _ (by unfold dSN; rw [if_pos h1, if_neg h2]; rfl) _ (e1.trans e2)
    · obtain ⟨h1, rfl⟩ := due_yes hC
      exact k.yes _ (by unfold dSN; rw [if_neg h1]; rfl) _ e1
end


/-! ### nth_allowed: only where an error is due -/
theorem wA_bd1 {al : List Nat} (o : Alw al) : ∀ m, m ≤ 20 → ∀ v ∈ wA 1 al m, v.natAbs ≤ 2 ^ (72 * m)
  | 0, _ => fun v hv => by
    rw [List.mem_singleton.mp hv]
    decide
  | m + 1, hm => fun v hv => by
    have ih := wA_bd1 o m (by omega)
    rcases List.mem_append.mp hv with z | z
    · exact Nat.le_trans (ih v z) (Nat.pow_le_pow_right (by decide) (by omega))
    · rw [List.mem_singleton.mp z]
      have h1 := abs_sum (B := 2 ^ 64 * 2 ^ (72 * m)) (partsA 1 al (wA 1 al m) (m + 1)) fun y hy => by
        unfold partsA at hy
        obtain ⟨i, hi, rfl⟩ := List.mem_map.mp hy
        have il := List.mem_range.mp (List.mem_filter.mp hi).1
        have hz : al[i]? = some (al.getD i 0) := by
          rw [List.getD_eq_getElem?_getD, List.getElem?_eq_getElem il]
          rfl
        have os := o.1 _ (List.mem_of_getElem? hz)
        have pb := prm_bd m (by omega) (al.getD i 0 - 1) (by omega)
        rw [Int.one_mul, Int.natAbs_mul]
        exact Nat.mul_le_mul (Nat.le_of_lt pb) (getD_abs ih _)
      have hl : (partsA 1 al (wA 1 al m) (m + 1)).length ≤ 64 := by
        unfold partsA
        rw [List.length_map]
        have := List.length_filter_le (fun i => decide (al.getD i 0 ≤ m + 1)) (List.range al.length)
        rw [List.length_range] at this
        have := o.2
        omega
      refine Nat.le_trans h1 (Nat.le_trans (Nat.mul_le_mul_right _ hl) ?_)
      rw [show 72 * (m + 1) = 72 * m + 72 by omega, Nat.pow_add, ← Nat.mul_assoc, Nat.mul_comm (2 ^ (72 * m))]
      exact Nat.mul_le_mul_right _ (by decide +kernel)
def dNA (x : Int) (o : Option (List PyData)) (i : Int) : Option Nat := if 1 ≤ x ∧ x ≤ 20 then (if judgeA o then (if 0 ≤ i ∧ i < (wA 1 (alO o) x.toNat).getD x.toNat 0 then none else some 6) else some 1) else some 3
section
variable {P : Program} {w : World} {K : PySem.W.Frag} {mg : Str → Option Value} {base : Heap}
def sp_na (T : Tx K mg) : Sp := fun vs H Q E => ∃ (x i : Int) (v : V) (o : Option (List PyData)), vs = [.int x, v, .int i] ∧ ThS K H v o ∧ dNA x o i ≠ none ∧ Out ((dNA x o i).map (erA T)) H Q E
theorem ok_nth_allowed (T : Tx K mg) : FnOk P w K mg base (L2N.CX P w) 5 T.f_nth_allowed T.d_nth_allowed ["guests", "allowed", "index"] (sp_na T) := by
  refine Kit.okN T.F_nth_allowed sc_nth_allowed (fun vs H Q E h => ?_) (fun cdv A outer s H vs Q E hr h => ?_)
  · obtain ⟨x, i, v, o, rfl, _⟩ := h
    rfl
  · obtain ⟨x, i, v, o, rfl, hv, hd, k⟩ := h
    refine ⟨_, (pss_cons (ps_expr (pe_call (ok_check_guests T) (hr.mono (by decide)) (by rfl) T.g_check_guests T.F_check_guests.kp T.b_check_guests .nil Kit.passN (pa_cons (pv 0) pa_nil)))
      (pss_cons (ps_expr (pe_call (ok_check_allowed T) (hr.mono (by decide)) (by rfl) T.g_check_allowed T.F_check_allowed.kp T.b_check_allowed .nil Kit.passN (pa_cons (pv 1) pa_nil)))
      (pss_cons (ps_set (i := 3) sc_nth_allowed.nd rfl (Or.inr rfl) (pe_call (ok_weights_with_allowed T) (hr.mono (by decide)) (by rfl) T.g_weights_with_allowed T.F_weights_with_allowed.kp T.b_weights_with_allowed .nil pass0 (pa_cons (pv 0) (pa_cons pe_int (pa_cons (pv 1) pa_nil)))))
      (pss_cons (ps_expr (pe_call (ok_check_index T) (hr.mono (by decide)) (by rfl) T.g_check_index T.F_check_index.kp T.b_check_index .nil Kit.passN (pa_cons (pv 2) (pa_cons (pe_ix ix_list (pv 3) (pv 0) (fun _ _ => rfl)) pa_nil))))
      (PSs.nox (pss_cons (ps_set (i := 4) sc_nth_allowed.nd rfl (Or.inr rfl) (pe_listRg rfl (by rfl) T.m_list (prg_1 (by rfl) T.m_range (pv 0))))
      (pss_cons (ps_set (i := 5) sc_nth_allowed.nd rfl (Or.inl rfl) (pe_lst pa_nil))
      (pss_cons ps_never
      (pss_one (ps_ret (pe_call (ok_seating_with T) (hr.mono (by decide)) (by rfl) T.g_seating_with T.F_seating_with.kp T.b_seating_with .nil pass0 (pa_cons (pv 5) pa_nil)))))))))))), ?_⟩
    refine q_chk (ea_cons (ev_var rfl) ea_nil) so_chk1 (fun hn H1 e1 => ?_) fun C hC H1 e1 => ?_
    · have hx := due_no hn
      refine q_chk (ea_cons (ev_var rfl) ea_nil) (so_chkA (hv.ex e1)) (fun hn2 H3 e3 => ?_) fun C hC H3 e3 => ?_
      · have hj := due_no hn2
        have e13 := e1.trans e3
        obtain ⟨a, al, rfl, ha, oa, eo⟩ := judgeA_get (hv.ex e13) hj
        obtain ⟨g, rfl⟩ : ∃ g : Nat, x = (g : Int) := ⟨x.toNat, by omega⟩
        have due : dNA g o i = if 0 ≤ i ∧ i < (wA 1 al g).getD g 0 then none else some 6 := by
          unfold dNA
          rw [if_pos hx, if_pos hj, eo, alO_ints, Int.toNat_natCast]
        refine q_asgL (xs := (wA 1 al g).map V.int) (el_call (ea_cons (ev_var rfl) (ea_cons ev_c (ea_cons (ev_var rfl) ea_nil))) (sl_wA (by omega) (by decide) ha oa)) fun b H4 nb e4 hb => ?_
        have bd := lt2_mono (lt_of_le2 (getD_abs (wA_bd1 oa g (by omega)) g)) (show 72 * g + 1 ≤ 1900 by omega)
        refine q_chk (ea_cons (ev_var rfl) (ea_cons (ev_op (ev_var rfl) (ev_var rfl) (rv_ixL (K := K) (sq_of hb) (wA_at 1 al g))) ea_nil)) (so_chkI bd) (fun hn3 H5 e5 => ?_) fun C hC H5 e5 => ?_
        · exact absurd (by rw [due, if_pos (due_no hn3)]) hd
        · obtain ⟨hi, rfl⟩ := due_yes hC
          exact k.yes _ (by rw [due, if_neg hi]; rfl) _ (e13.trans (e4.trans e5))
      · obtain ⟨hj, rfl⟩ := due_yes hC
        exact k.yes _ (by unfold dNA; rw [if_pos hx, if_neg (by simpa using hj)]; rfl) _ (e1.trans e3)
    · obtain ⟨hx, rfl⟩ := due_yes hC
      exact k.yes _ (by unfold dNA; rw [if_neg hx]; rfl) _ e1
end


/-! ### _law_asked, _law_told -/
def wordO : Option Nat → Str
  | none => "none"
  | some i => erW i
inductive Asked (K : PySem.W.Frag) (H : Hp) : Int → V → V → V → Option Nat → Prop
  | w0 (v y z : V) (o : Option (List PyData)) (h : ThS K H v o) : Asked K H 0 v y z (dZ o)
  | w1 (v y z : V) (o : Option (List PyData)) (h : ThS K H v o) : Asked K H 1 v y z (dZ o)
  | w2 (v y z : V) (o : Option (List PyData)) (h : ThS K H v o) : Asked K H 2 v y z (dT o)
  | w3 (v z : V) (o : Option (List PyData)) (x : Int) (h : ThS K H v o) : Asked K H 3 v (.int x) z (dZW o x)
  | w4 (v z : V) (o : Option (List PyData)) (x : Int) (h : ThS K H v o) : Asked K H 4 v (.int x) z (dZW o x)
  | w5 (v z : V) (o : Option (List PyData)) (x : Int) (h : ThS K H v o) : Asked K H 5 v (.int x) z (dGO o x)
  | w6 (v z : V) (o : Option (List PyData)) (x : Int) (h : ThS K H v o) : Asked K H 6 v (.int x) z (dNW o x)
  | w7 (x y n : Int) (hd : dSN x y n ≠ none) : Asked K H 7 (.int x) (.int y) (.int n) (dSN x y n)
  | w8 (x y n : Int) (hd : dSN x y n ≠ none) : Asked K H 8 (.int x) (.int y) (.int n) (dSN x y n)
  | w9 (x y n : Int) : Asked K H 9 (.int x) (.int y) (.int n) (dSN x y n)
  | w10 (x : Int) (v z : V) (o : Option (List PyData)) (h : ThS K H v o) : Asked K H 10 (.int x) v z (dCA x o)
  | w11 (x y : Int) (v : V) (o : Option (List PyData)) (h : ThS K H v o) : Asked K H 11 (.int x) (.int y) v (dAS x y o)
  | w12 (x y : Int) (v : V) (o : Option (List PyData)) (h : ThS K H v o) (hd : dFA x y o ≠ none) : Asked K H 12 (.int x) (.int y) v (dFA x y o)
  | w13 (x i : Int) (v : V) (o : Option (List PyData)) (h : ThS K H v o) (hd : dNA x o i ≠ none) : Asked K H 13 (.int x) v (.int i) (dNA x o i)
  | w14 (v y z : V) (o : Option (List PyData)) (h : Th K H v o) : Asked K H 14 v y z (dIW o)
theorem Asked.ex {K : PySem.W.Frag} {H H1 : Hp} {w : Int} {a b c : V} {d : Option Nat} (h : Asked K H w a b c d) (e : Ex H H1) : Asked K H1 w a b c d := by
  cases h with
  | w0 v y z o h => exact .w0 _ _ _ o (h.ex e)
  | w1 v y z o h => exact .w1 _ _ _ o (h.ex e)
  | w2 v y z o h => exact .w2 _ _ _ o (h.ex e)
  | w3 v z o x h => exact .w3 _ _ o _ (h.ex e)
  | w4 v z o x h => exact .w4 _ _ o _ (h.ex e)
  | w5 v z o x h => exact .w5 _ _ o _ (h.ex e)
  | w6 v z o x h => exact .w6 _ _ o _ (h.ex e)
  | w7 x y n hd => exact .w7 _ _ _ hd
  | w8 x y n hd => exact .w8 _ _ _ hd
  | w9 x y n => exact .w9 _ _ _
  | w10 x v z o h => exact .w10 _ _ _ o (h.ex e)
  | w11 x y v o h => exact .w11 _ _ _ o (h.ex e)
  | w12 x y v o h hd => exact .w12 _ _ _ o (h.ex e) hd
  | w13 x i v o h hd => exact .w13 _ _ _ o (h.ex e) hd
  | w14 v y z o h => exact .w14 _ _ _ o (h.ex e)
theorem Asked.lt {K : PySem.W.Frag} {H : Hp} {w : Int} {a b c : V} {d : Option Nat} (h : Asked K H w a b c d) : ∀ i, d = some i → i < 8 := by
  intro i hi
  cases h <;> first | unfold dZ at hi | unfold dZW at hi | unfold dT at hi | unfold dGO at hi | unfold dNW at hi | unfold dSN at hi | unfold dCA at hi | unfold dAS at hi | unfold dFA at hi | unfold dNA at hi | unfold dIW at hi
  all_goals repeat (split at hi)
  all_goals first | (cases hi; done) | (have := Option.some.inj hi; omega)
section
variable {P : Program} {w : World} {K : PySem.W.Frag} {mg : Str → Option Value} {base : Heap}
def sp_law_asked (T : Tx K mg) : Sp := fun vs H Q E => ∃ (w : Int) (a b c : V) (d : Option Nat), vs = [.int w, a, b, c] ∧ Asked K H w a b c d ∧ Out (d.map (erA T)) H Q E
def sp_law_told (K : PySem.W.Frag) : Sp := fun vs H Q _ => ∃ (w : Int) (a b c : V) (d : Option Nat), vs = [.int w, a, b, c] ∧ Asked K H w a b c d ∧ RetV (.str (wordO d)) H Q
theorem sv_told {H : Hp} {w : Int} {a b c : V} {d : Option Nat} (h : ∀ H1, Ex H H1 → Asked K H1 w a b c d) : SpV (sp_law_told K) ([.int w, a, b, c] ++ []) H (.str (wordO d)) := fun H1 e Q q E => ⟨w, a, b, c, d, rfl, h H1 e, q⟩
theorem sv_toldI {H : Hp} {w : Int} {a b c : V} {d : Option Nat} {z : Str} (h : ∀ H1, Ex H H1 → Asked K H1 w a b c d) (e : wordO d = z) : SpV (sp_law_told K) ([.int w, a, b, c] ++ []) H (.str z) := by
  subst e
  exact sv_told h
theorem ev_pick {σ : L2.St} {H : Hp} {fs : TA} {ti : TE} {vs : List V} {i : Int} {v : V} (h : EvA fs σ H vs) (hi : ∀ H1, Ev ti σ H1 (.int i)) (hl : vs.length ≤ 100000) (ha : atI vs i = some v) : Ev (tOp (rIxL K) (tLst fs) ti) σ H v :=
  ev_opL1 (el_lst h hl) (fun H1 _ => hi H1) fun p H1 hp _ => rv_ixL (sq_of hp) ha
theorem ok_law_asked (T : Tx K mg) : FnOk P w K mg base (L2N.CX P w) 7 T.f_law_asked T.d_law_asked ["way", "one", "two", "three"] (sp_law_asked T) := by
  refine Kit.okN T.F_law_asked sc_law_asked (fun vs H Q E h => ?_) (fun cdv A outer s H vs Q E hr h => ?_)
  · obtain ⟨w, a, b, c, d, rfl, _⟩ := h
    rfl
  · obtain ⟨w, a, b, c, d, rfl, hA, k⟩ := h
    refine ⟨_, (pss_cons (ps_if (pt_cmpR op_lt (pv 0) pe_int (nomark _)) (pss_one (ps_ret (Kit.pe_callI (Kit.cN_or (ok_count_sizes T) (hr.mono (by decide)) T.F_count_sizes.kp T.b_count_sizes (Kit.cN_or (ok_count_by_opening T) (hr.mono (by decide)) T.F_count_by_opening.kp T.b_count_by_opening (Kit.cN_one (ok_given_together T) (hr.mono (by decide)) T.F_given_together.kp T.b_given_together))) Kit.passN (pe_ix ix_list (pe_lst (pa_cons (pe_gc (v := .ref T.f_count_sizes) (by rfl) ⟨_, T.g_count_sizes, rfl⟩) (pa_cons (pe_gc (v := .ref T.f_count_by_opening) (by rfl) ⟨_, T.g_count_by_opening, rfl⟩) (pa_cons (pe_gc (v := .ref T.f_given_together) (by rfl) ⟨_, T.g_given_together, rfl⟩) pa_nil)))) (pv 0) (fun _ _ => rfl)) (pa_cons (pv 1) pa_nil)))) pss_nil)
      (pss_cons (ps_if (pt_cmpR op_lt (pv 0) pe_int (nomark _)) (pss_one (ps_ret (Kit.pe_callI (Kit.cN_or (ok_sizes_share T) (hr.mono (by decide)) T.F_sizes_share.kp T.b_sizes_share (Kit.cN_or (ok_opening_share T) (hr.mono (by decide)) T.F_opening_share.kp T.b_opening_share (Kit.cN_or (ok_given_open T) (hr.mono (by decide)) T.F_given_open.kp T.b_given_open (Kit.cN_one (ok_nth_with_sizes T) (hr.mono (by decide)) T.F_nth_with_sizes.kp T.b_nth_with_sizes)))) Kit.passN (pe_ix ix_list (pe_lst (pa_cons (pe_gc (v := .ref T.f_sizes_share) (by rfl) ⟨_, T.g_sizes_share, rfl⟩) (pa_cons (pe_gc (v := .ref T.f_opening_share) (by rfl) ⟨_, T.g_opening_share, rfl⟩) (pa_cons (pe_gc (v := .ref T.f_given_open) (by rfl) ⟨_, T.g_given_open, rfl⟩) (pa_cons (pe_gc (v := .ref T.f_nth_with_sizes) (by rfl) ⟨_, T.g_nth_with_sizes, rfl⟩) pa_nil))))) (pe_op op_sub (pv 0) pe_int) (fun _ _ => rfl)) (pa_cons (pv 1) (pa_cons (pv 2) pa_nil))))) pss_nil)
      (pss_cons (ps_if (pt_cmpR op_lt (pv 0) pe_int (nomark _)) (pss_one (ps_ret (Kit.pe_callI (Kit.cN_or (ok_size_share T) (hr.mono (by decide)) T.F_size_share.kp T.b_size_share (Kit.cN_or (ok_mean_number T) (hr.mono (by decide)) T.F_mean_number.kp T.b_mean_number (Kit.cN_one (ok_number_shares T) (hr.mono (by decide)) T.F_number_shares.kp T.b_number_shares))) Kit.passN (pe_ix ix_list (pe_lst (pa_cons (pe_gc (v := .ref T.f_size_share) (by rfl) ⟨_, T.g_size_share, rfl⟩) (pa_cons (pe_gc (v := .ref T.f_mean_number) (by rfl) ⟨_, T.g_mean_number, rfl⟩) (pa_cons (pe_gc (v := .ref T.f_number_shares) (by rfl) ⟨_, T.g_number_shares, rfl⟩) pa_nil)))) (pe_op op_sub (pv 0) pe_int) (fun _ _ => rfl)) (pa_cons (pv 1) (pa_cons (pv 2) (pa_cons (pv 3) pa_nil)))))) pss_nil)
      (pss_cons (ps_if (pt_cmpR op_eq (pv 0) pe_int (nomark _)) (pss_one (ps_ret (pe_call (ok_count_allowed T) (hr.mono (by decide)) (by rfl) T.g_count_allowed T.F_count_allowed.kp T.b_count_allowed .nil Kit.passN (pa_cons (pv 1) (pa_cons (pv 2) pa_nil))))) pss_nil)
      (pss_cons (ps_if (pt_cmpR op_lt (pv 0) pe_int (nomark _)) (pss_one (ps_ret (Kit.pe_callI (Kit.cN_or (ok_allowed_share T) (hr.mono (by decide)) T.F_allowed_share.kp T.b_allowed_share (Kit.cN_or (ok_first_allowed T) (hr.mono (by decide)) T.F_first_allowed.kp T.b_first_allowed (Kit.cN_one (ok_nth_allowed T) (hr.mono (by decide)) T.F_nth_allowed.kp T.b_nth_allowed))) Kit.passN (pe_ix ix_list (pe_lst (pa_cons (pe_gc (v := .ref T.f_allowed_share) (by rfl) ⟨_, T.g_allowed_share, rfl⟩) (pa_cons (pe_gc (v := .ref T.f_first_allowed) (by rfl) ⟨_, T.g_first_allowed, rfl⟩) (pa_cons (pe_gc (v := .ref T.f_nth_allowed) (by rfl) ⟨_, T.g_nth_allowed, rfl⟩) pa_nil)))) (pe_op op_sub (pv 0) pe_int) (fun _ _ => rfl)) (pa_cons (pv 1) (pa_cons (pv 2) (pa_cons (pv 3) pa_nil)))))) pss_nil)
      (pss_one (ps_ret (pe_call (ok_index_with_sizes T) (hr.mono (by decide)) (by rfl) T.g_index_with_sizes T.F_index_with_sizes.kp T.b_index_with_sizes .nil Kit.passN (pa_cons (pv 1) pa_nil))))))))), ?_⟩
    cases hA with
    | w0 v y z o h =>
      refine q_when (b := true) (et_is (et_test (ev_op (ev_var rfl) ev_c rv_I0)) (by decide +kernel)) (fun _ H1 e1 => ?_) (fun z => Bool.noConfusion z)
      have e0 := e1
      exact s_retI (f := T.f_count_sizes) (sp := sp_z1 T) (vs := [_]) (ev_pick (i := 0) (ea_cons (ev_c (v := V.ref T.f_count_sizes)) (ea_cons (ev_c (v := V.ref T.f_count_by_opening)) (ea_cons (ev_c (v := V.ref T.f_given_together)) ea_nil))) (fun H1 => ev_var rfl) (Nat.le_of_ble_eq_true rfl) rfl) (.inl ⟨rfl, rfl⟩) (fun H1 _ => (ea_cons (ev_var rfl) ea_nil)) fun H20 e20 => ⟨_, o, rfl, h.ex (e0.trans e20), k.mono (e0.trans e20)⟩
    | w1 v y z o h =>
      refine q_when (b := true) (et_is (et_test (ev_op (ev_var rfl) ev_c rv_I0)) (by decide +kernel)) (fun _ H1 e1 => ?_) (fun z => Bool.noConfusion z)
      have e0 := e1
      exact s_retI (f := T.f_count_by_opening) (sp := sp_z1 T) (vs := [_]) (ev_pick (i := 1) (ea_cons (ev_c (v := V.ref T.f_count_sizes)) (ea_cons (ev_c (v := V.ref T.f_count_by_opening)) (ea_cons (ev_c (v := V.ref T.f_given_together)) ea_nil))) (fun H1 => ev_var rfl) (Nat.le_of_ble_eq_true rfl) rfl) (.inr (.inl ⟨rfl, rfl⟩)) (fun H1 _ => (ea_cons (ev_var rfl) ea_nil)) fun H20 e20 => ⟨_, o, rfl, h.ex (e0.trans e20), k.mono (e0.trans e20)⟩
    | w2 v y z o h =>
      refine q_when (b := true) (et_is (et_test (ev_op (ev_var rfl) ev_c rv_I0)) (by decide +kernel)) (fun _ H1 e1 => ?_) (fun z => Bool.noConfusion z)
      have e0 := e1
      exact s_retI (f := T.f_given_together) (sp := sp_t1 T) (vs := [_]) (ev_pick (i := 2) (ea_cons (ev_c (v := V.ref T.f_count_sizes)) (ea_cons (ev_c (v := V.ref T.f_count_by_opening)) (ea_cons (ev_c (v := V.ref T.f_given_together)) ea_nil))) (fun H1 => ev_var rfl) (Nat.le_of_ble_eq_true rfl) rfl) (.inr (.inr (⟨rfl, rfl⟩))) (fun H1 _ => (ea_cons (ev_var rfl) ea_nil)) fun H20 e20 => ⟨_, o, rfl, h.ex (e0.trans e20), k.mono (e0.trans e20)⟩
    | w3 v z o x h =>
      refine q_when (b := false) (et_is (et_test (ev_op (ev_var rfl) ev_c rv_I0)) (by decide +kernel)) (fun z => Bool.noConfusion z) fun _ H1 e1 => ?_
      refine q_when (b := true) (et_is (et_test (ev_op (ev_var rfl) ev_c rv_I0)) (by decide +kernel)) (fun _ H2 e2 => ?_) (fun z => Bool.noConfusion z)
      have e0 := e1.trans (e2)
      exact s_retI (f := T.f_sizes_share) (sp := sp_zw T) (vs := [_, _]) (ev_pick (i := 0) (ea_cons (ev_c (v := V.ref T.f_sizes_share)) (ea_cons (ev_c (v := V.ref T.f_opening_share)) (ea_cons (ev_c (v := V.ref T.f_given_open)) (ea_cons (ev_c (v := V.ref T.f_nth_with_sizes)) ea_nil)))) (fun H1 => ev_is (ev_op (ev_var rfl) ev_c rv_I0) rfl) (Nat.le_of_ble_eq_true rfl) rfl) (.inl ⟨rfl, rfl⟩) (fun H1 _ => (ea_cons (ev_var rfl) (ea_cons (ev_var rfl) ea_nil))) fun H20 e20 => ⟨_, o, _, rfl, h.ex (e0.trans e20), k.mono (e0.trans e20)⟩
    | w4 v z o x h =>
      refine q_when (b := false) (et_is (et_test (ev_op (ev_var rfl) ev_c rv_I0)) (by decide +kernel)) (fun z => Bool.noConfusion z) fun _ H1 e1 => ?_
      refine q_when (b := true) (et_is (et_test (ev_op (ev_var rfl) ev_c rv_I0)) (by decide +kernel)) (fun _ H2 e2 => ?_) (fun z => Bool.noConfusion z)
      have e0 := e1.trans (e2)
      exact s_retI (f := T.f_opening_share) (sp := sp_zw T) (vs := [_, _]) (ev_pick (i := 1) (ea_cons (ev_c (v := V.ref T.f_sizes_share)) (ea_cons (ev_c (v := V.ref T.f_opening_share)) (ea_cons (ev_c (v := V.ref T.f_given_open)) (ea_cons (ev_c (v := V.ref T.f_nth_with_sizes)) ea_nil)))) (fun H1 => ev_is (ev_op (ev_var rfl) ev_c rv_I0) rfl) (Nat.le_of_ble_eq_true rfl) rfl) (.inr (.inl ⟨rfl, rfl⟩)) (fun H1 _ => (ea_cons (ev_var rfl) (ea_cons (ev_var rfl) ea_nil))) fun H20 e20 => ⟨_, o, _, rfl, h.ex (e0.trans e20), k.mono (e0.trans e20)⟩
    | w5 v z o x h =>
      refine q_when (b := false) (et_is (et_test (ev_op (ev_var rfl) ev_c rv_I0)) (by decide +kernel)) (fun z => Bool.noConfusion z) fun _ H1 e1 => ?_
      refine q_when (b := true) (et_is (et_test (ev_op (ev_var rfl) ev_c rv_I0)) (by decide +kernel)) (fun _ H2 e2 => ?_) (fun z => Bool.noConfusion z)
      have e0 := e1.trans (e2)
      exact s_retI (f := T.f_given_open) (sp := sp_go T) (vs := [_, _]) (ev_pick (i := 2) (ea_cons (ev_c (v := V.ref T.f_sizes_share)) (ea_cons (ev_c (v := V.ref T.f_opening_share)) (ea_cons (ev_c (v := V.ref T.f_given_open)) (ea_cons (ev_c (v := V.ref T.f_nth_with_sizes)) ea_nil)))) (fun H1 => ev_is (ev_op (ev_var rfl) ev_c rv_I0) rfl) (Nat.le_of_ble_eq_true rfl) rfl) (.inr (.inr (.inl ⟨rfl, rfl⟩))) (fun H1 _ => (ea_cons (ev_var rfl) (ea_cons (ev_var rfl) ea_nil))) fun H20 e20 => ⟨_, o, _, rfl, h.ex (e0.trans e20), k.mono (e0.trans e20)⟩
    | w6 v z o x h =>
      refine q_when (b := false) (et_is (et_test (ev_op (ev_var rfl) ev_c rv_I0)) (by decide +kernel)) (fun z => Bool.noConfusion z) fun _ H1 e1 => ?_
      refine q_when (b := true) (et_is (et_test (ev_op (ev_var rfl) ev_c rv_I0)) (by decide +kernel)) (fun _ H2 e2 => ?_) (fun z => Bool.noConfusion z)
      have e0 := e1.trans (e2)
      exact s_retI (f := T.f_nth_with_sizes) (sp := sp_nw T) (vs := [_, _]) (ev_pick (i := 3) (ea_cons (ev_c (v := V.ref T.f_sizes_share)) (ea_cons (ev_c (v := V.ref T.f_opening_share)) (ea_cons (ev_c (v := V.ref T.f_given_open)) (ea_cons (ev_c (v := V.ref T.f_nth_with_sizes)) ea_nil)))) (fun H1 => ev_is (ev_op (ev_var rfl) ev_c rv_I0) rfl) (Nat.le_of_ble_eq_true rfl) rfl) (.inr (.inr (.inr (⟨rfl, rfl⟩)))) (fun H1 _ => (ea_cons (ev_var rfl) (ea_cons (ev_var rfl) ea_nil))) fun H20 e20 => ⟨_, o, _, rfl, h.ex (e0.trans e20), k.mono (e0.trans e20)⟩
    | w7 x y n hd =>
      refine q_when (b := false) (et_is (et_test (ev_op (ev_var rfl) ev_c rv_I0)) (by decide +kernel)) (fun z => Bool.noConfusion z) fun _ H1 e1 => ?_
      refine q_when (b := false) (et_is (et_test (ev_op (ev_var rfl) ev_c rv_I0)) (by decide +kernel)) (fun z => Bool.noConfusion z) fun _ H2 e2 => ?_
      refine q_when (b := true) (et_is (et_test (ev_op (ev_var rfl) ev_c rv_I0)) (by decide +kernel)) (fun _ H3 e3 => ?_) (fun z => Bool.noConfusion z)
      have e0 := e1.trans (e2.trans (e3))
      exact s_retI (f := T.f_size_share) (sp := sp_sn T) (vs := [_, _, _]) (ev_pick (i := 0) (ea_cons (ev_c (v := V.ref T.f_size_share)) (ea_cons (ev_c (v := V.ref T.f_mean_number)) (ea_cons (ev_c (v := V.ref T.f_number_shares)) ea_nil))) (fun H1 => ev_is (ev_op (ev_var rfl) ev_c rv_I0) rfl) (Nat.le_of_ble_eq_true rfl) rfl) (.inl ⟨rfl, rfl⟩) (fun H1 _ => (ea_cons (ev_var rfl) (ea_cons (ev_var rfl) (ea_cons (ev_var rfl) ea_nil)))) fun H20 e20 => ⟨_, _, _, rfl, hd, k.mono (e0.trans e20)⟩
    | w8 x y n hd =>
      refine q_when (b := false) (et_is (et_test (ev_op (ev_var rfl) ev_c rv_I0)) (by decide +kernel)) (fun z => Bool.noConfusion z) fun _ H1 e1 => ?_
      refine q_when (b := false) (et_is (et_test (ev_op (ev_var rfl) ev_c rv_I0)) (by decide +kernel)) (fun z => Bool.noConfusion z) fun _ H2 e2 => ?_
      refine q_when (b := true) (et_is (et_test (ev_op (ev_var rfl) ev_c rv_I0)) (by decide +kernel)) (fun _ H3 e3 => ?_) (fun z => Bool.noConfusion z)
      have e0 := e1.trans (e2.trans (e3))
      exact s_retI (f := T.f_mean_number) (sp := sp_sn T) (vs := [_, _, _]) (ev_pick (i := 1) (ea_cons (ev_c (v := V.ref T.f_size_share)) (ea_cons (ev_c (v := V.ref T.f_mean_number)) (ea_cons (ev_c (v := V.ref T.f_number_shares)) ea_nil))) (fun H1 => ev_is (ev_op (ev_var rfl) ev_c rv_I0) rfl) (Nat.le_of_ble_eq_true rfl) rfl) (.inr (.inl ⟨rfl, rfl⟩)) (fun H1 _ => (ea_cons (ev_var rfl) (ea_cons (ev_var rfl) (ea_cons (ev_var rfl) ea_nil)))) fun H20 e20 => ⟨_, _, _, rfl, hd, k.mono (e0.trans e20)⟩
    | w9 x y n =>
      refine q_when (b := false) (et_is (et_test (ev_op (ev_var rfl) ev_c rv_I0)) (by decide +kernel)) (fun z => Bool.noConfusion z) fun _ H1 e1 => ?_
      refine q_when (b := false) (et_is (et_test (ev_op (ev_var rfl) ev_c rv_I0)) (by decide +kernel)) (fun z => Bool.noConfusion z) fun _ H2 e2 => ?_
      refine q_when (b := true) (et_is (et_test (ev_op (ev_var rfl) ev_c rv_I0)) (by decide +kernel)) (fun _ H3 e3 => ?_) (fun z => Bool.noConfusion z)
      have e0 := e1.trans (e2.trans (e3))
      exact s_retI (f := T.f_number_shares) (sp := sp_ns T) (vs := [_, _, _]) (ev_pick (i := 2) (ea_cons (ev_c (v := V.ref T.f_size_share)) (ea_cons (ev_c (v := V.ref T.f_mean_number)) (ea_cons (ev_c (v := V.ref T.f_number_shares)) ea_nil))) (fun H1 => ev_is (ev_op (ev_var rfl) ev_c rv_I0) rfl) (Nat.le_of_ble_eq_true rfl) rfl) (.inr (.inr (⟨rfl, rfl⟩))) (fun H1 _ => (ea_cons (ev_var rfl) (ea_cons (ev_var rfl) (ea_cons (ev_var rfl) ea_nil)))) fun H20 e20 => ⟨_, _, _, rfl, k.mono (e0.trans e20)⟩
    | w10 x v z o h =>
      refine q_when (b := false) (et_is (et_test (ev_op (ev_var rfl) ev_c rv_I0)) (by decide +kernel)) (fun z => Bool.noConfusion z) fun _ H1 e1 => ?_
      refine q_when (b := false) (et_is (et_test (ev_op (ev_var rfl) ev_c rv_I0)) (by decide +kernel)) (fun z => Bool.noConfusion z) fun _ H2 e2 => ?_
      refine q_when (b := false) (et_is (et_test (ev_op (ev_var rfl) ev_c rv_I0)) (by decide +kernel)) (fun z => Bool.noConfusion z) fun _ H3 e3 => ?_
      refine q_when (b := true) (et_is (et_test (ev_op (ev_var rfl) ev_c (rv_eq rfl))) (by decide +kernel)) (fun _ H4 e4 => ?_) (fun z => Bool.noConfusion z)
      have e0 := e1.trans (e2.trans (e3.trans (e4)))
      exact s_retCall (vs := [_, _]) (ea_cons (ev_var rfl) (ea_cons (ev_var rfl) ea_nil)) fun H20 e20 => ⟨_, _, o, rfl, h.ex (e0.trans e20), k.mono (e0.trans e20)⟩
    | w11 x y v o h =>
      refine q_when (b := false) (et_is (et_test (ev_op (ev_var rfl) ev_c rv_I0)) (by decide +kernel)) (fun z => Bool.noConfusion z) fun _ H1 e1 => ?_
      refine q_when (b := false) (et_is (et_test (ev_op (ev_var rfl) ev_c rv_I0)) (by decide +kernel)) (fun z => Bool.noConfusion z) fun _ H2 e2 => ?_
      refine q_when (b := false) (et_is (et_test (ev_op (ev_var rfl) ev_c rv_I0)) (by decide +kernel)) (fun z => Bool.noConfusion z) fun _ H3 e3 => ?_
      refine q_when (b := false) (et_is (et_test (ev_op (ev_var rfl) ev_c (rv_eq rfl))) (by decide +kernel)) (fun z => Bool.noConfusion z) fun _ H4 e4 => ?_
      refine q_when (b := true) (et_is (et_test (ev_op (ev_var rfl) ev_c rv_I0)) (by decide +kernel)) (fun _ H5 e5 => ?_) (fun z => Bool.noConfusion z)
      have e0 := e1.trans (e2.trans (e3.trans (e4.trans (e5))))
      exact s_retI (f := T.f_allowed_share) (sp := sp_as T) (vs := [_, _, _]) (ev_pick (i := 0) (ea_cons (ev_c (v := V.ref T.f_allowed_share)) (ea_cons (ev_c (v := V.ref T.f_first_allowed)) (ea_cons (ev_c (v := V.ref T.f_nth_allowed)) ea_nil))) (fun H1 => ev_is (ev_op (ev_var rfl) ev_c rv_I0) rfl) (Nat.le_of_ble_eq_true rfl) rfl) (.inl ⟨rfl, rfl⟩) (fun H1 _ => (ea_cons (ev_var rfl) (ea_cons (ev_var rfl) (ea_cons (ev_var rfl) ea_nil)))) fun H20 e20 => ⟨_, _, _, o, rfl, h.ex (e0.trans e20), k.mono (e0.trans e20)⟩
    | w12 x y v o h hd =>
      refine q_when (b := false) (et_is (et_test (ev_op (ev_var rfl) ev_c rv_I0)) (by decide +kernel)) (fun z => Bool.noConfusion z) fun _ H1 e1 => ?_
      refine q_when (b := false) (et_is (et_test (ev_op (ev_var rfl) ev_c rv_I0)) (by decide +kernel)) (fun z => Bool.noConfusion z) fun _ H2 e2 => ?_
      refine q_when (b := false) (et_is (et_test (ev_op (ev_var rfl) ev_c rv_I0)) (by decide +kernel)) (fun z => Bool.noConfusion z) fun _ H3 e3 => ?_
      refine q_when (b := false) (et_is (et_test (ev_op (ev_var rfl) ev_c (rv_eq rfl))) (by decide +kernel)) (fun z => Bool.noConfusion z) fun _ H4 e4 => ?_
      refine q_when (b := true) (et_is (et_test (ev_op (ev_var rfl) ev_c rv_I0)) (by decide +kernel)) (fun _ H5 e5 => ?_) (fun z => Bool.noConfusion z)
      have e0 := e1.trans (e2.trans (e3.trans (e4.trans (e5))))
      exact s_retI (f := T.f_first_allowed) (sp := sp_fa T) (vs := [_, _, _]) (ev_pick (i := 1) (ea_cons (ev_c (v := V.ref T.f_allowed_share)) (ea_cons (ev_c (v := V.ref T.f_first_allowed)) (ea_cons (ev_c (v := V.ref T.f_nth_allowed)) ea_nil))) (fun H1 => ev_is (ev_op (ev_var rfl) ev_c rv_I0) rfl) (Nat.le_of_ble_eq_true rfl) rfl) (.inr (.inl ⟨rfl, rfl⟩)) (fun H1 _ => (ea_cons (ev_var rfl) (ea_cons (ev_var rfl) (ea_cons (ev_var rfl) ea_nil)))) fun H20 e20 => ⟨_, _, _, o, rfl, h.ex (e0.trans e20), hd, k.mono (e0.trans e20)⟩
    | w13 x i v o h hd =>
      refine q_when (b := false) (et_is (et_test (ev_op (ev_var rfl) ev_c rv_I0)) (by decide +kernel)) (fun z => Bool.noConfusion z) fun _ H1 e1 => ?_
      refine q_when (b := false) (et_is (et_test (ev_op (ev_var rfl) ev_c rv_I0)) (by decide +kernel)) (fun z => Bool.noConfusion z) fun _ H2 e2 => ?_
      refine q_when (b := false) (et_is (et_test (ev_op (ev_var rfl) ev_c rv_I0)) (by decide +kernel)) (fun z => Bool.noConfusion z) fun _ H3 e3 => ?_
      refine q_when (b := false) (et_is (et_test (ev_op (ev_var rfl) ev_c (rv_eq rfl))) (by decide +kernel)) (fun z => Bool.noConfusion z) fun _ H4 e4 => ?_
      refine q_when (b := true) (et_is (et_test (ev_op (ev_var rfl) ev_c rv_I0)) (by decide +kernel)) (fun _ H5 e5 => ?_) (fun z => Bool.noConfusion z)
      have e0 := e1.trans (e2.trans (e3.trans (e4.trans (e5))))
      exact s_retI (f := T.f_nth_allowed) (sp := sp_na T) (vs := [_, _, _]) (ev_pick (i := 2) (ea_cons (ev_c (v := V.ref T.f_allowed_share)) (ea_cons (ev_c (v := V.ref T.f_first_allowed)) (ea_cons (ev_c (v := V.ref T.f_nth_allowed)) ea_nil))) (fun H1 => ev_is (ev_op (ev_var rfl) ev_c rv_I0) rfl) (Nat.le_of_ble_eq_true rfl) rfl) (.inr (.inr (⟨rfl, rfl⟩))) (fun H1 _ => (ea_cons (ev_var rfl) (ea_cons (ev_var rfl) (ea_cons (ev_var rfl) ea_nil)))) fun H20 e20 => ⟨_, _, _, o, rfl, h.ex (e0.trans e20), hd, k.mono (e0.trans e20)⟩
    | w14 v y z o h =>
      refine q_when (b := false) (et_is (et_test (ev_op (ev_var rfl) ev_c rv_I0)) (by decide +kernel)) (fun z => Bool.noConfusion z) fun _ H1 e1 => ?_
      refine q_when (b := false) (et_is (et_test (ev_op (ev_var rfl) ev_c rv_I0)) (by decide +kernel)) (fun z => Bool.noConfusion z) fun _ H2 e2 => ?_
      refine q_when (b := false) (et_is (et_test (ev_op (ev_var rfl) ev_c rv_I0)) (by decide +kernel)) (fun z => Bool.noConfusion z) fun _ H3 e3 => ?_
      refine q_when (b := false) (et_is (et_test (ev_op (ev_var rfl) ev_c (rv_eq rfl))) (by decide +kernel)) (fun z => Bool.noConfusion z) fun _ H4 e4 => ?_
      refine q_when (b := false) (et_is (et_test (ev_op (ev_var rfl) ev_c rv_I0)) (by decide +kernel)) (fun z => Bool.noConfusion z) fun _ H5 e5 => ?_
      have e0 := e1.trans (e2.trans (e3.trans (e4.trans (e5))))
      exact s_retCall (vs := [_]) (ea_cons (ev_var rfl) ea_nil) fun H20 e20 => ⟨_, o, rfl, h.ex (e0.trans e20), k.mono (e0.trans e20)⟩
theorem ok_law_told (T : Tx K mg) : FnOk P w K mg base CX0 8 T.f_law_told T.d_law_told ["way", "one", "two", "three"] (sp_law_told K) := by
  refine T.F_law_told.ok sc_law_told (fun vs H Q E h => ?_) (fun cdv A outer s H vs Q E hr h => ?_)
  · obtain ⟨w, a, b, c, d, rfl, _⟩ := h
    rfl
  · obtain ⟨w, a, b, c, d, rfl, hA, k⟩ := h
    refine ⟨_, (pss_cons (L2N.ps_try_as (i := 4) (ts := fun a cls d => tRet (tCallP (sp_law_word T) a cls d (tCons (tVar 4) tNil))) rfl rfl sc_law_told.nd rfl rfl ⟨rfl, by decide, .inl T.gc_HallError⟩ Kit.takes0N (fun W pn xe tk _ => (pss_one (ps_expr (pe_callS (ok_law_asked T) (hr.mono (by decide)) (by rfl) T.g_law_asked T.F_law_asked.kp T.b_law_asked (fun σ => L2N.passAt tk σ) (pa_cons (pv 0) (pa_cons (pv 1) (pa_cons (pv 2) (pa_cons (pv 3) pa_nil)))))))) (fun a oe cls d pn hz hf => (pss_one (ps_ret (by exact (Kit.pe_callP (p := (a, oe)) (ok_law_word T) (Kit.roomS (hr.mono (by decide))) (Kit.hot_suite hz hf) hz.zc List.mem_cons_self (by rfl) T.g_law_word T.F_law_word.kp T.b_law_word (pa_cons (pv 4) pa_nil)))))))
      (pss_one (ps_ret pe_str))), ?_⟩
    refine unseq ?_
    refine s_chkS (due := d.map (erA T)) (vs := [.int w, a, b, c]) (ea_cons (ev_var rfl) (ea_cons (ev_var rfl) (ea_cons (ev_var rfl) (ea_cons (ev_var rfl) ea_nil)))) (fun H2 e2 Q E q => ⟨w, a, b, c, d, rfl, hA.ex e2, q⟩) (fun hd H2 e2 => ?_) fun C hC H2 e2 => ?_
    · dsimp only
      refine s_ret ev_c fun H3 e3 => ?_
      cases d with
      | none => exact k _ (e2.trans e3)
      | some i => cases hd
    · cases d with
      | none => cases hC
      | some i =>
        cases hC
        obtain ⟨_, hx, _⟩ := er_is T (hA.lt i rfl)
        exact ⟨true, hx, fun _ e he => ⟨_, rfl, i, hA.lt i rfl, rfl, rfl, rfl, fun H3 e3 => k _ (e2.trans e3)⟩, fun z => nomatch z⟩
end


/-! ### _law_counted -/
theorem rise_one : ∀ m : Nat, rise 1 m = ((fac m : Nat) : Int)
  | 0 => rfl
  | m + 1 => by
    show rise 1 m * (1 + (m : Int)) = _
    rw [rise_one m, fac_succ, Int.natCast_mul]
    congr 1
    omega
def EX (x : Nat) : Nat → Nat
  | 0 => 1
  | j + 1 => EX x j * (x * (j + 1))
def prodE (s : List Nat) : List Nat → Nat
  | [] => 1
  | x :: r => EX x (s.count x) * prodE s r
theorem prodE_app (s : List Nat) (x : Nat) : ∀ l, prodE s (l ++ [x]) = prodE s l * EX x (s.count x)
  | [] => by simp [prodE]
  | y :: r => by
    show EX y (s.count y) * prodE s (r ++ [x]) = EX y (s.count y) * prodE s r * EX x (s.count x)
    rw [prodE_app s x r, Nat.mul_assoc]
theorem prodE_off {y : Nat} {s : List Nat} : ∀ {l : List Nat}, y ∉ l → prodE (y :: s) l = prodE s l
  | [], _ => rfl
  | x :: r, h => by
    have ne : y ≠ x := fun z => h (by rw [z]; exact List.mem_cons_self)
    show EX x ((y :: s).count x) * prodE (y :: s) r = EX x (s.count x) * prodE s r
    rw [List.count_cons_of_ne ne, prodE_off fun z => h (List.mem_cons_of_mem _ z)]
theorem prodE_cons {y : Nat} {s : List Nat} : ∀ {l : List Nat}, l.Nodup → y ∈ l → prodE (y :: s) l = y * (s.count y + 1) * prodE s l
  | [], _, h => by cases h
  | x :: r, nd, h => by
    have nd := List.nodup_cons.mp nd
    show EX x ((y :: s).count x) * prodE (y :: s) r = y * (s.count y + 1) * (EX x (s.count x) * prodE s r)
    by_cases e : y = x
    · subst e
      rw [List.count_cons_self, prodE_off nd.1]
      show EX y (s.count y) * (y * (s.count y + 1)) * prodE s r = _
      generalize prodE s r = A
      generalize EX y (s.count y) = B
      generalize s.count y + 1 = C
      simp only [Nat.mul_assoc, Nat.mul_left_comm, Nat.mul_comm]
    · rw [List.count_cons_of_ne e, prodE_cons nd.2 ((List.mem_cons.mp h).resolve_left e)]
      generalize prodE s r = A
      generalize EX x (s.count x) = B
      generalize s.count y + 1 = C
      simp only [Nat.mul_assoc, Nat.mul_left_comm, Nat.mul_comm]
theorem prodE_bot {l : List Nat} (nd : l.Nodup) : ∀ {s : List Nat}, (∀ x ∈ s, x ∈ l) → prodE s l = botP s
  | [], _ => by
    clear nd
    induction l with
    | nil => rfl
    | cons x r ih =>
      show EX x (([] : List Nat).count x) * prodE [] r = 1
      rw [List.count_nil, ih fun _ h => by cases h]
      rfl
  | y :: s, h => by
    rw [prodE_cons nd (h y List.mem_cons_self), prodE_bot nd fun x hx => h x (List.mem_cons_of_mem _ hx)]
    rfl
/-- the sizes that there are, ascending -/
def upN (s : List Nat) : List Nat := (List.range 21).filter fun x => decide (x ∈ s)
theorem upN_nd (s : List Nat) : (upN s).Nodup := List.nodup_range.sublist List.filter_sublist
theorem upN_mem {s : List Nat} (h : ∀ x ∈ s, x ≤ 20) (x : Nat) : x ∈ upN s ↔ x ∈ s := by
  unfold upN
  rw [List.mem_filter, List.mem_range, decide_eq_true_iff]
  exact ⟨fun q => q.2, fun q => ⟨by have := h x q; omega, q⟩⟩
theorem upN_asc (s : List Nat) : (iz (upN s)).Pairwise (· < ·) := by
  have : (upN s).Pairwise (· < ·) := List.pairwise_lt_range.sublist List.filter_sublist
  exact List.pairwise_map.mpr (this.imp fun h => by omega)
def sp_cnt : Sp := fun vs H Q _ => ∃ (a : Addr) (s : List Nat), vs = [.ref a] ∧ H a = some (.lst (nv s)) ∧ Szs s ∧ RetV (.int (wws s : Nat)) H Q
theorem sv_cnt {H : Hp} {a : Addr} {s : List Nat} (ha : H a = some (.lst (nv s))) (o : Szs s) : SpV sp_cnt ([.ref a] ++ []) H (.int (wws s : Nat)) := fun H1 e Q q E => ⟨a, s, rfl, e a _ ha, o, q⟩
section
variable {P : Program} {w : World} {K : PySem.W.Frag} {mg : Str → Option Value} {base : Heap}
theorem ok_law_counted (T : Tx K mg) : FnOk P w K mg base CX0 2 T.f_law_counted T.d_law_counted ["widths"] sp_cnt := by
  refine T.F_law_counted.ok sc_law_counted (fun vs H Q E h => ?_) (fun cdv A outer s H vs Q E hr h => ?_)
  · obtain ⟨a, s, rfl, _⟩ := h
    rfl
  · obtain ⟨a, z, rfl, ha, o, k⟩ := h
    refine ⟨_, (pss_cons (ps_set (i := 1) sc_law_counted.nd rfl (Or.inl rfl) (pe_call (ok_law_rise T) (hr.mono (by decide)) (by rfl) T.g_law_rise T.F_law_rise.kp T.b_law_rise .nil pass0 (pa_cons pe_int (pa_cons (pe_callB (cr_sum rfl) (by rfl) T.m_sum (by decide +kernel) (pa_cons (pv 0) pa_nil)) pa_nil))))
      (pss_cons (ps_for PassesOwn.never rfl (pi_list (pe_callB (id := "sorted") (r := rSortedSet _) (cr_sortedSet rfl) (by rfl) T.m_sorted (by decide +kernel) (pa_cons (pe_callTy (r := rSetI _ _) (cr_setI rfl) (by rfl) T.m_set (by decide +kernel) (pa_cons (pv 0) pa_nil)) pa_nil))) (pg_name (i := 2) sc_law_counted.nd rfl (Or.inl rfl)) (pss_one (ps_for PassesOwn.never rfl (pi_range1 (by rfl) T.m_range (pa_cons (pe_bm PySem.F.plainAttrs_list PySem.F.slot_list_count PySem.F.type_list_count Kit.mt_countF (pv 0) (pa_cons (pv 2) pa_nil)) pa_nil)) (pg_name (i := 3) sc_law_counted.nd rfl (Or.inl rfl)) (pss_one (ps_set (i := 1) sc_law_counted.nd rfl (Or.inl rfl) (pe_op op_fdivW (pv 1) (pe_op op_mulX (pv 2) (pe_op op_add (pv 3) pe_int))))))))
      (pss_one (ps_ret (pv 1))))), ?_⟩
    have zl := sum_ge o.1
    have z20 := o.2.2
    have le20 : ∀ x ∈ z, x ≤ 20 := fun x hx => Nat.le_trans (le_sum hx) z20
    have um := upN_mem le20
    have rs := ev_call (E := E0) (dvs := []) (ta := tCons (tC (.int 1)) (tCons (tCB (rSum K) (tCons (tVar 0) tNil)) tNil)) (σ := start n_law_counted [.ref a]) (H := H) (ea_cons (ev_c (v := .int 1)) (ea_cons (ev_sumV rfl ha) ea_nil)) (sv_rise (by decide) (show z.sum ≤ 40 by omega))
    rw [rise_one] at rs
    refine q_asg (v := .int ((fac z.sum / prodE z ((upN z).take 0) : Nat) : Int)) (ev_is rs (by
      show _ = V.int ((fac z.sum / 1 : Nat) : Int)
      rw [Nat.div_one])) fun H1 e1 => ?_
    have ha1 := e1 a _ ha
    have zc : ∀ x, z.count x ≤ 20 := fun x => Nat.le_trans (List.count_le_length) (by omega)
    refine q_forNLn (K := K) (xs := (iz (upN z)).map V.int) (el_sortSet (K := K) (l := a) (ns := iz z) (ev_var rfl) (sq_of ha1) (by simp [iz]; omega) (upN_asc z) fun k => by
        constructor
        · intro h
          obtain ⟨x, hx, rfl⟩ := List.mem_map.mp h
          exact List.mem_map.mpr ⟨x, (um x).mp hx, rfl⟩
        · intro h
          obtain ⟨x, hx, rfl⟩ := List.mem_map.mp h
          exact List.mem_map.mpr ⟨x, (um x).mpr hx, rfl⟩)
      (fun p i σ' H' => ∃ y2 y3 : Option V, σ' = [some (.ref a), some (.int ((fac z.sum / prodE z ((upN z).take i) : Nat) : Int)), y2, y3] ∧ Ex H1 H' ∧ H' p = some (.lst (nv (upN z)))) (fun p H2 np e2 hp => ⟨none, none, rfl, e2, hp⟩) (fun p i σ' H' _ ⟨_, _, _, _, h⟩ => sq_of h) ?_ ?_
    · rintro p i x σ' H2 hi ⟨y2, y3, rfl, e2, hp⟩
      have il : i < (upN z).length := by
        have := (List.getElem?_eq_some_iff.mp hi).1
        simpa [iz] using this
      have hx : (upN z)[i]? = some ((upN z).getD i 0) := by
        rw [List.getD_eq_getElem?_getD, List.getElem?_eq_getElem il]
        rfl
      have ev : x = .int ((upN z).getD i 0 : Nat) := by
        have := nv_get hx
        rw [show (nv (upN z))[i]? = some x from hi] at this
        exact Option.some.inj this
      subst ev
      have xm := List.mem_of_getElem? hx
      rw [take_next hx, prodE_app]
      generalize hg : (upN z).getD i 0 = y at xm
      generalize prodE z ((upN z).take i) = B
      have y20 := le20 y ((um y).mp xm)
      have y1 := o.1 y ((um y).mp xm)
      have hz2 := e2 a _ ha1
      have cn := ev_countF (K := K) (ta := tVar 0) (te := tVar 2) (σ := [some (.ref a), some (.int ((fac z.sum / B : Nat) : Int)), some (.int (y : Nat)), y3]) (H := H2) (p := a) (ys := nv z) (y := .int (y : Nat)) (ev_var (i := 0) rfl) hz2 (ev_var (i := 2) rfl) rfl (nv_flat z)
      rw [count_nv] at cn
      have zy := zc y
      refine s_forR1 (n := ((z.count y : Nat) : Int)) (ea_cons cn ea_nil) (by omega) (fun j σ2 H3 => ∃ y3 : Option V, σ2 = [some (.ref a), some (.int ((fac z.sum / (B * EX y j) : Nat) : Int)), some (.int (y : Nat)), y3] ∧ Ex H2 H3) (fun H3 e3 => ⟨y3, by show _ = [some (V.ref a), some (V.int ((fac z.sum / (B * 1) : Nat) : Int)), _, _]; rw [Nat.mul_one]; rfl, e3⟩) ?_ ?_
      · rintro j σ2 H3 hj ⟨y3, rfl, e3⟩
        have j20 : j < 20 := by omega
        have dpos : 1 ≤ y * (j + 1) := Nat.mul_pos y1 (Nat.succ_pos j)
        have dle : y * (j + 1) ≤ 20 * 20 := Nat.mul_le_mul y20 (by omega)
        refine s_asg (ev_is (ev_op (ev_var rfl) (ev_is (ev_op (ev_var rfl) (ev_op (ev_var rfl) ev_c rv_I0) (rv_I (mulx_ok (a := 64) (b := 64) (by omega) (by omega) (by decide)))) (show V.int ((y : Int) * ((j : Int) + 1)) = V.int ((y * (j + 1) : Nat) : Int) by rw [Int.natCast_mul]; rfl)) (rv_I (divw_ok (by omega) (by omega)))) (w := .int ((fac z.sum / (B * EX y (j + 1)) : Nat) : Int)) ?_) fun H4 e4 => ⟨_, rfl, e3.trans e4⟩
        show V.int (((fac z.sum / (B * EX y j) : Nat) : Int) / ((y * (j + 1) : Nat) : Int)) = _
        rw [← Int.natCast_ediv, Nat.div_div_eq_div_mul, Nat.mul_assoc]
        rfl
      · rintro σ2 H3 ⟨y3, rfl, e3⟩
        exact ⟨_, _, rfl, e2.trans e3, e3 p _ hp⟩
    · rintro p σ' H2 ⟨y2, y3, rfl, e2, hp⟩
      refine s_ret (ev_is (ev_var rfl) ?_) fun H3 e3 => k _ (e1.trans (e2.trans e3))
      rw [List.take_of_length_le (by simp [iz]), prodE_bot (upN_nd z) fun x hx => (um x).mpr hx, ← wws_P]
end


/-! ### helps for the law's own defs -/
theorem shaped_w {d : Option Nat} (h : ∀ i, d = some i → i < 8) : SeqAt.shaped (.list ((List.replicate 4 (wordO d)).map PyData.str)) = true ∧ SeqAt.shaped (.list ((List.replicate 3 (wordO d)).map PyData.str)) = true ∧ SeqAt.shaped (.list ((List.replicate 2 (wordO d)).map PyData.str)) = true := by
  cases d with
  | none => decide +kernel
  | some i =>
    have := h i rfl
    have : i = 0 ∨ i = 1 ∨ i = 2 ∨ i = 3 ∨ i = 4 ∨ i = 5 ∨ i = 6 ∨ i = 7 := by omega
    rcases this with rfl | rfl | rfl | rfl | rfl | rfl | rfl | rfl <;> decide +kernel
theorem dpa_strs {K : PySem.W.Frag} {H : Hp} : ∀ l : List Str, DpAll K H (l.map V.str) (l.map PyData.str)
  | [] => .nil
  | _ :: r => .cons (.str _) (dpa_strs r)
section
variable {K : PySem.W.Frag} {σ : L2.St} {H : Hp} {ta tb te tl : TE} {D : Ends} {tz : TS} {t : TA}
theorem el_lcNU {xs : List V} {j : Nat} {ns : List Nat} (f : Nat → V) (h : EvU tl σ H xs) (hz : xs.length ≤ 40000) (hw : ∀ x, wipe ((wipe σ ns).set j (some x)) ns = wipe σ ns)
    (he : ∀ (i : Nat) (x : V) H1, Ex H H1 → xs[i]? = some x → Ev te ((wipe σ ns).set j (some x)) H1 (f i)) : EvL (tLc (iTup K tl) (gName j) tYes te ns) σ H ((List.range xs.length).map f) := by
  rw [← given_at]
  exact fun H0 e Q q => h H0 e _ fun a H1 ha e1 hx => ⟨a, rfl, ⟨xs, st_of hx⟩, fun L hL => lc_tup (xs := xs) (Cw H1 (fun _ => true) f L) ⟨hL, Ex.new hL, upd_same⟩ (fun i G _ c => st_of (c.2.1 a _ hx))
    (fun i x G hi c => ⟨hw x, cw_turn c (by have := (List.getElem?_eq_some_iff.mp hi).1; omega) et_yes fun _ => he i x H1 (e.trans e1) hi⟩) fun G c => q L G (fresh_back e1 c.1) (e1.trans c.2.1) c.2.2⟩
theorem ed_repS {z : Str} {n : Int} (h : Ev te σ H (.str z)) (hb : Ev tb σ H (.int n)) (h0 : 0 ≤ n) (h1 : n ≤ 1000) : EvD K (tOp rRep (tLst (tCons te tNil)) tb) σ H (.list ((List.replicate n.toNat z).map PyData.str)) := by
  have g := el_rep (el_lst (ea_cons h ea_nil) (Nat.le_of_ble_eq_true rfl)) hb h0 h1 (Nat.le_of_ble_eq_true rfl)
  have e : (List.replicate n.toNat [V.str z]).flatten = (List.replicate n.toNat z).map V.str := by
    generalize n.toNat = k
    induction k with
    | zero => rfl
    | succ k ih => rw [List.replicate_succ, List.replicate_succ, List.flatten_cons, List.map_cons, ih]; rfl
  rw [e] at g
  exact ed_ofL g (dpa_strs _)
theorem op_callE {r : R2} {sp : Sp} {vs dvs : List V} {E : XK} {Q : VK} (ha : EvA t σ H vs) (k : ∀ H1, Ex H H1 → sp (vs ++ dvs) H1 (fun x H2 => tb σ H2 fun y H3 => r x y H3 Q) E) : tOp r (tCall sp dvs E t) tb σ H Q := ha H (Ex.refl H) _ fun H1 e1 => k H1 e1
theorem callE {sp : Sp} {vs dvs : List V} {E : XK} {Q : VK} (ha : EvA t σ H vs) (k : ∀ H1, Ex H H1 → sp (vs ++ dvs) H1 Q E) : tCall sp dvs E t σ H Q := ha H (Ex.refl H) _ fun H1 e1 => k H1 e1
theorem q_forE {g : TG} {tu : TS} (h : te σ H (ForQ K g tu { D with nx := tz D } σ)) : tSeq (tFor (iList K te) g tu) tz D σ H := h
/-- [_law_told(..) for x in (a, b, ..)] -/
theorem ed_told {xs : List V} {j : Nat} {ns : List Nat} {E : XK} (d : Nat → Option Nat) (h : EvU tl σ H xs) (hz : xs.length ≤ 40) (hw : ∀ x, wipe ((wipe σ ns).set j (some x)) ns = wipe σ ns)
    (he : ∀ (i : Nat) (x : V), xs[i]? = some x → ∃ w a b c, (∀ G, Ex H G → EvA t ((wipe σ ns).set j (some x)) G [.int w, a, b, c]) ∧ ∀ G, Ex H G → Asked K G w a b c (d i)) :
    EvD K (tLc (iTup K tl) (gName j) tYes (tCall (sp_law_told K) [] E t) ns) σ H (.list (((List.range xs.length).map fun i => wordO (d i)).map PyData.str)) := by
  refine ed_ofL (xs := ((List.range xs.length).map fun i => wordO (d i)).map V.str) ?_ (dpa_strs _)
  rw [List.map_map]
  refine el_lcNU (fun i => V.str (wordO (d i))) h (by omega) hw fun i x H1 e1 hi => ?_
  obtain ⟨w, a, b, c, ea, as⟩ := he i x hi
  exact ev_call (ea H1 e1) (sv_told fun G eG => as G (e1.trans eG))
end


/-! ### _law_lists_right -/
theorem wws_pos {s : List Nat} (o : Sz0 s) : 1 ≤ wws s := by
  have h := wws_ok _ s rfl o.1
  have p := fac_pos s.sum
  cases hw : wws s with
  | zero => rw [hw, Nat.mul_zero] at h; omega
  | succ n => omega
theorem no_or_one {p : Prop} [Decidable p] {a b : Option Nat} (h : p → a = b) (k : ¬ p → a = b) : a = b := by
  by_cases c : p
  · exact h c
  · exact k c
section
variable {K : PySem.W.Frag} {H : Hp} {v : V} {o : Option (List PyData)}
theorem due_f (hv : ThS K H v o) : dZW o 1 = dZ o ∧ dGO o 0 = dZ o ∧ dNW o 0 = dZ o := by
  cases hj : judgeZ o with
  | false =>
    unfold dZW dGO dNW dZ
    simp [hj]
  | true =>
    obtain ⟨a, s, _, _, oz, eo⟩ := judgeZ_get hv hj
    have so : sumO o = (s.sum : Int) := by rw [eo, sumO_ints]
    have sz : szO o = s := by rw [eo, szO_ints]
    have wp := wws_pos oz.z
    have z1 := oz.2.1
    refine ⟨?_, ?_, ?_⟩
    · unfold dZW dZ
      rw [if_pos hj, if_pos (by omega), if_pos hj]
    · unfold dGO dZ
      rw [if_pos hj, so, if_pos (by omega), if_pos hj]
    · unfold dNW dZ
      rw [if_pos hj, sz, if_pos (by omega), if_pos hj]
theorem due_t (hv : ThS K H v o) : dT o = if judgeZ o && decide (sumO o = 1) then some 1 else dZ o := by
  cases hj : judgeZ o with
  | false =>
    unfold dT dZ
    simp [hj]
  | true =>
    obtain ⟨a, s, _, _, oz, eo⟩ := judgeZ_get hv hj
    have so : sumO o = (s.sum : Int) := by rw [eo, sumO_ints]
    have z1 := oz.2.1
    unfold dT dZ
    rw [if_pos hj, if_pos hj, so]
    by_cases c : (s.sum : Int) = 1
    · rw [if_neg (by omega), if_pos (by simp [c])]
    · rw [if_pos (by omega), if_neg (by simp [c])]
end
def dA (o : Option (List PyData)) : Option Nat := if judgeA o then none else some 1
theorem due_a (o : Option (List PyData)) : dCA 5 o = dA o ∧ dAS 5 2 o = dA o := by
  unfold dCA dAS dA
  exact ⟨by rw [if_pos (by decide)], by rw [if_pos (by decide), if_pos (by decide)]⟩
theorem due_na (o : Option (List PyData)) : dNA 5 o (-1) = if judgeA o then some 6 else some 1 := by
  unfold dNA
  rw [if_pos (by decide)]
  cases judgeA o with
  | false => rfl
  | true =>
    rw [if_pos rfl, if_pos rfl, if_neg fun h => absurd h.1 (by decide)]
theorem due_fa {o : Option (List PyData)} (h : judgeA o = false) : dFA 5 2 o = some 1 := by
  unfold dFA
  rw [if_pos (by decide), if_pos (by decide), if_neg (by simp [h])]
theorem due_z {o : Option (List PyData)} (h : judgeZ o = false) (x : Int) : dZ o = some 1 ∧ dZW o x = some 1 ∧ dGO o x = some 1 ∧ dNW o x = some 1 := by
  unfold dZ dZW dGO dNW
  simp [h]
theorem dZ_lt (o : Option (List PyData)) : ∀ i, dZ o = some i → i < 8 := fun i h => by
  unfold dZ at h
  split at h
  · cases h
  · have := Option.some.inj h
    omega
theorem str_dec (x y : Str) : decide (V.str x = V.str y) = decide (x = y) := by
  rw [Bool.eq_iff_iff, decide_eq_true_iff, decide_eq_true_iff]
  exact ⟨fun h => V.str.inj h, fun h => h ▸ rfl⟩
section
variable {K : PySem.W.Frag} {σ : L2.St} {H0 H : Hp} {ta tm : TE} {p : Addr} {D : Ends} {tz : TS}
theorem pq_wid {k n i : Nat} {E : XK} (ha : Ev ta σ H0 (.ref p)) (hm : EvP p k tm σ H0 (fun v _ => ∃ m : Nat, v = .int m ∧ 1 ≤ m ∧ m ≤ 20)) (e : Ex H0 H) (hp : Po p n H) (hn : n + (k + 41) < 1000000000)
    (q : ∀ l s H', H l = none → H' l = some (.lst (nv s)) → Szs s → Po p (n + (k + 41)) H' → Ex (Hm p H) H' → tz D (σ.set i (some (.ref l))) H') : tSeq (tAsg (tCall sp_law_some_widths [] E (tCons ta (tCons tm tNil))) (gName i)) tz D σ H :=
  ha H e _ fun H2 e2 => hm n H2 (e.trans e2) (hp.ex e2) (by omega) _ fun v H3 hv p3 e3 => by
    obtain ⟨m, rfl, m1, m2⟩ := hv
    refine ⟨p, n + k, m, rfl, p3, by omega, m1, m2, fun l s H4 nl hl hs hsum _ p4 e4 => q l s H4 ?_ hl ⟨hs, by omega, by omega⟩ (p4.mono (by omega)) (hm_trans (hm_trans (hm_of e2) e3) e4)⟩
    have lp := p3.ne nl
    have h3 : H2 l = none := by
      cases h : H2 l with
      | none => rfl
      | some u =>
        have := e3 l u (hm_in lp h)
        rw [nl] at this
        cases this
    exact fresh_back e2 h3
end
def sp_law_lists_right : Sp := fun vs H Q _ => ∃ (p : Addr) (n : Nat), vs = [.ref p] ∧ Po p n H ∧ n + 100 < 1000000000 ∧ ∀ H', Po p (n + 100) H' → Ex (Hm p H) H' → Q (.bl true) H'
section
variable {P : Program} {w : World} {K : PySem.W.Frag} {mg : Str → Option Value} {base : Heap}
theorem ok_law_lists_right (T : Tx K mg) : FnOk P w K mg base CX0 9 T.f_law_lists_right T.d_law_lists_right ["pouch"] sp_law_lists_right := by
  refine T.F_law_lists_right.ok sc_law_lists_right (fun vs H Q E h => ?_) (fun cdv A outer s H vs Q E hr h => ?_)
  · obtain ⟨p, n, rfl, _⟩ := h
    rfl
  · obtain ⟨p, n, rfl, hpo, hn, k⟩ := h
    refine ⟨_, (pss_cons (ps_set (i := 1) sc_law_lists_right.nd rfl (Or.inl rfl) (pe_call (ok_law_some_widths T) (hr.mono (by decide)) (by rfl) T.g_law_some_widths T.F_law_some_widths.kp T.b_law_some_widths .nil pass0 (pa_cons (pv 0) (pa_cons (pe_op op_add pe_int (pe_call (ok_law_dip T) (hr.mono (by decide)) (by rfl) T.g_law_dip T.F_law_dip.kp T.b_law_dip .nil pass0 (pa_cons (pv 0) (pa_cons pe_int pa_nil)))) pa_nil))))
      (pss_cons (ps_for PassesOwn.never rfl (pi_list (pe_call (ok_law_odd T) (hr.mono (by decide)) (by rfl) T.g_law_odd T.F_law_odd.kp T.b_law_odd .nil pass0 (pa_cons (pv 0) (pa_cons (pv 1) pa_nil)))) (pg_name (i := 2) sc_law_lists_right.nd rfl (Or.inr rfl)) (pss_cons (ps_set (i := 3) sc_law_lists_right.nd rfl (Or.inl rfl) (pe_ifExp (pt_val (pe_call (ok_law_is_sizes T) (hr.mono (by decide)) (by rfl) T.g_law_is_sizes T.F_law_is_sizes.kp T.b_law_is_sizes .nil pass0 (pa_cons (pv 2) pa_nil))) pe_str pe_str))
      (pss_cons (ps_if (PW.pt (pw_or (pt_cmpR (op_neD hr.units) (pe_lc (own := [("way", 4)]) (g := (gName 4)) (tt := tYes) rfl sc_law_lists_right.nd (pi_tup (pe_tup (pa_cons pe_int (pa_cons pe_int (pa_cons pe_int (pa_cons pe_int pa_nil)))))) (blkOk_by (own := [("way", 4)]) (N := n_law_lists_right) (sc := defScope s_law_lists_right) (by decide +kernel)) (fun _ _ _ _ _ => (pg_name (i := 4) sc_law_lists_right.nd rfl (Or.inl rfl))) (fun _ _ _ _ _ => pts_nil) (fun _ _ _ _ _ => (pe_call (ok_law_told T) (hr.mono (by decide)) (by rfl) T.g_law_told T.F_law_told.kp T.b_law_told .nil pass0 (pa_cons (pv 4) (pa_cons (pv 2) (pa_cons pe_int (pa_cons pe_int pa_nil))))))) (pe_op op_rep (pe_lst (pa_cons (pv 3) pa_nil)) pe_int) (nomark _)) (pw_or1 (pt_cmpR op_ne (pe_call (ok_law_told T) (hr.mono (by decide)) (by rfl) T.g_law_told T.F_law_told.kp T.b_law_told .nil pass0 (pa_cons pe_int (pa_cons (pv 2) (pa_cons pe_int (pa_cons pe_int pa_nil))))) (pv 3) (nomark _))))) (pss_one (ps_ret pe_bl)) pss_nil)
      (pss_cons (ps_if (pt_cmpR op_ne (pe_call (ok_law_told T) (hr.mono (by decide)) (by rfl) T.g_law_told T.F_law_told.kp T.b_law_told .nil pass0 (pa_cons pe_int (pa_cons (pv 2) (pa_cons pe_int (pa_cons pe_int pa_nil))))) (pv 3) (nomark _)) (pss_one (ps_ret pe_bl)) pss_nil)
      (pss_cons (ps_if (PW.pt (pw_and (pt_cmpR op_eq (pv 3) pe_str (nomark _)) (pw_and1 (pt_cmpR (op_neD hr.units) (pe_lc (own := [("way", 4)]) (g := (gName 4)) (tt := tYes) rfl sc_law_lists_right.nd (pi_tup (pe_tup (pa_cons pe_int (pa_cons pe_int (pa_cons pe_int (pa_cons pe_int pa_nil)))))) (blkOk_by (own := [("way", 4)]) (N := n_law_lists_right) (sc := defScope s_law_lists_right) (by decide +kernel)) (fun _ _ _ _ _ => (pg_name (i := 4) sc_law_lists_right.nd rfl (Or.inl rfl))) (fun _ _ _ _ _ => pts_nil) (fun _ _ _ _ _ => (pe_call (ok_law_told T) (hr.mono (by decide)) (by rfl) T.g_law_told T.F_law_told.kp T.b_law_told .nil pass0 (pa_cons (pv 4) (pa_cons (pv 2) (pa_cons (pe_un un_neg pe_int) (pa_cons pe_int pa_nil))))))) (pe_op op_rep (pe_lst (pa_cons (pv 3) pa_nil)) pe_int) (nomark _))))) (pss_one (ps_ret pe_bl)) pss_nil)
      (pss_cons (ps_set (i := 5) sc_law_lists_right.nd rfl (Or.inl rfl) (pe_and (pe_cmpR op_eq (pv 3) pe_str (nomark _)) (pe_one (pe_cmpR op_eq (pe_callB (cr_sum rfl) (by rfl) T.m_sum (by decide +kernel) (pa_cons (pv 2) pa_nil)) pe_int (nomark _)))))
      (pss_cons (ps_if (pt_cmpR op_ne (pe_call (ok_law_told T) (hr.mono (by decide)) (by rfl) T.g_law_told T.F_law_told.kp T.b_law_told .nil pass0 (pa_cons pe_int (pa_cons (pv 2) (pa_cons pe_int (pa_cons pe_int pa_nil))))) (pe_ifExp (pt_val (pv 5)) pe_str (pv 3)) (nomark _)) (pss_one (ps_ret pe_bl)) pss_nil)
      (pss_cons (ps_set (i := 3) sc_law_lists_right.nd rfl (Or.inl rfl) (pe_ifExp (pt_val (pe_call (ok_law_is_allowed T) (hr.mono (by decide)) (by rfl) T.g_law_is_allowed T.F_law_is_allowed.kp T.b_law_is_allowed .nil pass0 (pa_cons (pv 2) pa_nil))) pe_str pe_str))
      (pss_cons (ps_if (PW.pt (pw_or (pt_cmpR op_ne (pe_call (ok_law_told T) (hr.mono (by decide)) (by rfl) T.g_law_told T.F_law_told.kp T.b_law_told .nil pass0 (pa_cons pe_int (pa_cons pe_int (pa_cons (pv 2) (pa_cons pe_int pa_nil))))) (pv 3) (nomark _)) (pw_or1 (pt_cmpR op_ne (pe_call (ok_law_told T) (hr.mono (by decide)) (by rfl) T.g_law_told T.F_law_told.kp T.b_law_told .nil pass0 (pa_cons pe_int (pa_cons pe_int (pa_cons pe_int (pa_cons (pv 2) pa_nil))))) (pv 3) (nomark _))))) (pss_one (ps_ret pe_bl)) pss_nil)
      (pss_cons (ps_if (PW.pt (pw_and (pt_cmpR op_eq (pv 3) pe_str (nomark _)) (pw_and1 (pt_cmpR op_ne (pe_call (ok_law_told T) (hr.mono (by decide)) (by rfl) T.g_law_told T.F_law_told.kp T.b_law_told .nil pass0 (pa_cons pe_int (pa_cons pe_int (pa_cons pe_int (pa_cons (pv 2) pa_nil))))) (pv 3) (nomark _))))) (pss_one (ps_ret pe_bl)) pss_nil)
      (pss_one (ps_if (pt_cmpR op_ne (pe_call (ok_law_told T) (hr.mono (by decide)) (by rfl) T.g_law_told T.F_law_told.kp T.b_law_told .nil pass0 (pa_cons pe_int (pa_cons pe_int (pa_cons (pv 2) (pa_cons (pe_un un_neg pe_int) pa_nil))))) (pe_ifExp (pt_cmpR op_eq (pv 3) pe_str (nomark _)) pe_str (pv 3)) (nomark _)) (pss_one (ps_ret pe_bl)) pss_nil))))))))))))
      (pss_one (ps_ret pe_bl)))), ?_⟩
    have many : EvP p (0 + 1) (tOp (rI0 fun i j => .int (i + j)) (tC (.int 1)) (tCall sp_law_dip [] E0 (tCons (tVar 0) (tCons (tC (.int 20)) tNil)))) (start n_law_lists_right [.ref p]) (Hm p H) (fun v _ => ∃ m : Nat, v = .int m ∧ 1 ≤ m ∧ m ≤ 20) :=
      ep_is (ep_add hm_p ev_c (ep_dipI (w := 20) hm_p (ev_var rfl) ev_c (by decide) (by decide))) fun v H4 ⟨r', e', r0', r1'⟩ => ⟨(1 + r').toNat, by rw [e']; exact congrArg V.int (by omega), by omega, by omega⟩
    refine pq_wid (n := n) (k := 0 + 1) (ev_var rfl) many hm_sub hpo (by omega) fun l s H1 nl hl os p1 e1 => ?_
    have lp := hpo.ne nl
    have sl : 1 ≤ s.length ∧ s.length ≤ 20 := by
      have a := sum_ge os.1
      have b := os.2.1
      have c := os.2.2
      cases s with
      | nil => simp at b
      | cons x r => rw [List.length_cons] at *; omega
    refine q_forE ?_
    refine callE (vs := [.ref p, .ref l]) (by walk_at "ea") fun H2 e2 => ⟨p, l, n + 42, s, rfl, p1.ex e2, by omega, lp, e2 l _ hl, sl, fun c ws H3 hc all p3 e3 => ?_⟩
    have e03 : Ex (Hm p H) H3 := hm_trans e1 (hm_trans (hm_of e2) e3)
    refine forQ_of (xs := ws) (fun i σ' H' => ∃ y2 y3 y5 : Option V, σ' = [some (.ref p), some (.ref l), y2, y3, none, y5] ∧ Ex H3 H') ⟨none, none, none, rfl, Ex.refl _⟩ (fun i σ' H' _ ⟨_, _, _, _, e⟩ => sq_of (e c _ hc)) ?_ ?_
    · rintro i v σ' H' hi ⟨y2, y3, y5, rfl, e⟩
      obtain ⟨o, ho⟩ := all v (List.mem_of_getElem? hi)
      have ho := ho.ex e
      obtain ⟨f1, f2, f3⟩ := due_f ho
      have ft := due_t ho
      obtain ⟨g1, g2⟩ := due_a o
      refine q_asg (v := .str (wordO (dZ o))) (ev_if (b := judgeZ o) (et_B (ev_call (ea_cons (ev_var rfl) ea_nil) (sv_anyZ ho))) (fun hb => ev_is ev_c ?_) (fun hb => ev_is ev_c ?_)) fun H4 e4 => ?_
      · unfold dZ
        rw [if_pos hb]
        rfl
      · unfold dZ
        rw [if_neg (by simpa using hb)]
        rfl
      have ho := ho.ex e4
      have sh := shaped_w (dZ_lt o)
      refine q_when (b := false) (et_is (et_or (a := false) (b := false) (et_is (et_test (ev_neD (d := .list ((List.replicate 4 (wordO (dZ o))).map PyData.str)) (e := .list ((List.replicate 4 (wordO (dZ o))).map PyData.str)) (ed_told (xs := [.int 0, .int 1, .int 3, .int 4]) (fun _ => dZ o) (eu_tup (ea_cons ev_c (ea_cons ev_c (ea_cons ev_c (ea_cons ev_c ea_nil)))) (Nat.le_of_ble_eq_true rfl)) (Nat.le_of_ble_eq_true rfl) (fun _ => rfl) fun i x hx => ?_) (ed_repS (n := 4) (ev_var rfl) ev_c (by decide) (by decide)) sh.1 sh.1)) (by rw [eqv_same sh.1]; rfl)) fun _ => et_is (et_test (ev_op (ev_call (ea_cons ev_c (ea_cons (ev_var rfl) (ea_cons ev_c (ea_cons ev_c ea_nil)))) (sv_toldI (d := dGO o 0) (z := wordO (dZ o)) (fun G eG => .w5 _ _ o 0 (ho.ex eG)) (by rw [f2]))) (ev_var rfl) (rv_ne rfl))) (by simp)) rfl) (fun hb => Bool.noConfusion hb) fun _ H5 e5 => ?_
      · have i4 : i < 4 := (List.getElem?_eq_some_iff.mp hx).1
        have : i = 0 ∨ i = 1 ∨ i = 2 ∨ i = 3 := by omega
        rcases this with rfl | rfl | rfl | rfl <;> cases Option.some.inj hx
        · exact ⟨_, _, _, _, fun G eG => ea_cons (ev_var rfl) (ea_cons (ev_var rfl) (ea_cons ev_c (ea_cons ev_c ea_nil))), fun G eG => .w0 _ _ _ o (ho.ex eG)⟩
        · exact ⟨_, _, _, _, fun G eG => ea_cons (ev_var rfl) (ea_cons (ev_var rfl) (ea_cons ev_c (ea_cons ev_c ea_nil))), fun G eG => .w1 _ _ _ o (ho.ex eG)⟩
        · exact ⟨_, _, _, _, fun G eG => ea_cons (ev_var rfl) (ea_cons (ev_var rfl) (ea_cons ev_c (ea_cons ev_c ea_nil))), fun G eG => by rw [← f1]; exact .w3 _ _ o 1 (ho.ex eG)⟩
        · exact ⟨_, _, _, _, fun G eG => ea_cons (ev_var rfl) (ea_cons (ev_var rfl) (ea_cons ev_c (ea_cons ev_c ea_nil))), fun G eG => by rw [← f1]; exact .w4 _ _ o 1 (ho.ex eG)⟩
      have ho := ho.ex e5
      refine q_when (b := false) (et_is (et_test (ev_op (ev_call (ea_cons ev_c (ea_cons (ev_var rfl) (ea_cons ev_c (ea_cons ev_c ea_nil)))) (sv_toldI (d := dNW o 0) (z := wordO (dZ o)) (fun G eG => .w6 _ _ o 0 (ho.ex eG)) (by rw [f3]))) (ev_var rfl) (rv_ne rfl))) (by simp)) (fun hb => Bool.noConfusion hb) fun _ H6 e6 => ?_
      have ho := ho.ex e6
      refine q_when (b := false) (et_is (et_and (a := !judgeZ o) (b := false) (et_is (et_test (ev_op (ev_var rfl) ev_c (rv_eq rfl))) ?_) fun hz => et_is (et_test (ev_neD (d := .list ((List.replicate 4 (wordO (dZ o))).map PyData.str)) (e := .list ((List.replicate 4 (wordO (dZ o))).map PyData.str)) (ed_told (xs := [.int 3, .int 4, .int 5, .int 6]) (fun _ => dZ o) (eu_tup (ea_cons ev_c (ea_cons ev_c (ea_cons ev_c (ea_cons ev_c ea_nil)))) (Nat.le_of_ble_eq_true rfl)) (Nat.le_of_ble_eq_true rfl) (fun _ => rfl) fun i x hx => ?_) (ed_repS (n := 4) (ev_var rfl) ev_c (by decide) (by decide)) sh.1 sh.1)) (by rw [eqv_same sh.1]; rfl)) (by simp)) (fun hb => Bool.noConfusion hb) fun _ H7 e7 => ?_
      · rw [str_dec]
        cases hj : judgeZ o with
        | false => rw [(due_z hj 0).1]; decide +kernel
        | true => unfold dZ; rw [if_pos hj]; decide +kernel
      · have hj : judgeZ o = false := by simpa using hz
        obtain ⟨z0, z1, z2, z3⟩ := due_z hj (-1)
        have i4 : i < 4 := (List.getElem?_eq_some_iff.mp hx).1
        have : i = 0 ∨ i = 1 ∨ i = 2 ∨ i = 3 := by omega
        rcases this with rfl | rfl | rfl | rfl <;> cases Option.some.inj hx
        · exact ⟨_, _, _, _, fun G eG => ea_cons (ev_var rfl) (ea_cons (ev_var rfl) (ea_cons (ev_un ev_c ru_neg) (ea_cons ev_c ea_nil))), fun G eG => by rw [z0, ← z1]; exact .w3 _ _ o (-1) (ho.ex eG)⟩
        · exact ⟨_, _, _, _, fun G eG => ea_cons (ev_var rfl) (ea_cons (ev_var rfl) (ea_cons (ev_un ev_c ru_neg) (ea_cons ev_c ea_nil))), fun G eG => by rw [z0, ← z1]; exact .w4 _ _ o (-1) (ho.ex eG)⟩
        · exact ⟨_, _, _, _, fun G eG => ea_cons (ev_var rfl) (ea_cons (ev_var rfl) (ea_cons (ev_un ev_c ru_neg) (ea_cons ev_c ea_nil))), fun G eG => by rw [z0, ← z2]; exact .w5 _ _ o (-1) (ho.ex eG)⟩
        · exact ⟨_, _, _, _, fun G eG => ea_cons (ev_var rfl) (ea_cons (ev_var rfl) (ea_cons (ev_un ev_c ru_neg) (ea_cons ev_c ea_nil))), fun G eG => by rw [z0, ← z3]; exact .w6 _ _ o (-1) (ho.ex eG)⟩
      have ho := ho.ex e7
      refine q_asg (v := .bl (judgeZ o && decide (sumO o = 1))) (ev_andV (a := judgeZ o) (b := decide (sumO o = 1)) (ev_is (ev_op (ev_var rfl) ev_c (rv_eq rfl)) (congrArg V.bl ?_)) fun hj => ?_) fun H8 e8 => ?_
      · rw [str_dec]
        cases hj : judgeZ o with
        | false => rw [(due_z hj 0).1]; decide +kernel
        | true => unfold dZ; rw [if_pos hj]; decide +kernel
      · obtain ⟨a, z, rfl, ha, oz, eo⟩ := judgeZ_get ho hj
        have so : sumO o = (z.sum : Int) := by rw [eo, sumO_ints]
        rw [so]
        refine ev_is (ev_op (ev_sumV rfl ha) ev_c (rv_eq rfl)) (congrArg V.bl ?_)
        rw [Bool.eq_iff_iff, decide_eq_true_iff, decide_eq_true_iff]
        exact ⟨fun h => V.int.inj h, fun h => congrArg V.int h⟩
      have ho := ho.ex e8
      generalize hal : (judgeZ o && decide (sumO o = 1)) = al at ft
      refine q_when (b := false) (et_is (et_test (ev_op (ev_call (ea_cons ev_c (ea_cons (ev_var rfl) (ea_cons ev_c (ea_cons ev_c ea_nil)))) (sv_told fun G eG => .w2 _ _ _ o (ho.ex eG))) (ev_if (v := .str (wordO (dT o))) (b := al) (et_B (ev_var (by rw [← hal]; rfl))) (fun hb => ev_is ev_c ?_) (fun hb => ev_is (ev_var rfl) ?_)) (rv_ne rfl))) (by simp)) (fun hb => Bool.noConfusion hb) fun _ H9 e9 => ?_
      · rw [ft, if_pos hb]
        rfl
      · rw [ft, if_neg (by rw [hb]; exact Bool.false_ne_true)]
      have ho := ho.ex e9
      refine q_asg (v := .str (wordO (dA o))) (ev_if (b := judgeA o) (et_B (ev_call (ea_cons (ev_var rfl) ea_nil) (sv_allow ho))) (fun hb => ev_is ev_c ?_) (fun hb => ev_is ev_c ?_)) fun H10 e10 => ?_
      · unfold dA
        rw [if_pos hb]
        rfl
      · unfold dA
        rw [if_neg (by simpa using hb)]
        rfl
      have ho := ho.ex e10
      refine q_when (b := false) (et_is (et_or (a := false) (b := false) (et_is (et_test (ev_op (ev_call (ea_cons ev_c (ea_cons ev_c (ea_cons (ev_var rfl) (ea_cons ev_c ea_nil)))) (sv_toldI (d := dCA 5 o) (z := wordO (dA o)) (fun G eG => .w10 _ _ _ o (ho.ex eG)) (by rw [g1]))) (ev_var rfl) (rv_ne rfl))) (by simp)) fun _ => et_is (et_test (ev_op (ev_call (ea_cons ev_c (ea_cons ev_c (ea_cons ev_c (ea_cons (ev_var rfl) ea_nil)))) (sv_toldI (d := dAS 5 2 o) (z := wordO (dA o)) (fun G eG => .w11 _ _ _ o (ho.ex eG)) (by rw [g2]))) (ev_var rfl) (rv_ne rfl))) (by simp)) rfl) (fun hb => Bool.noConfusion hb) fun _ H11 e11 => ?_
      have ho := ho.ex e11
      refine q_when (b := false) (et_is (et_and (a := !judgeA o) (b := false) (et_is (et_test (ev_op (ev_var rfl) ev_c (rv_eq rfl))) ?_) fun hz => et_is (et_test (ev_op (ev_call (ea_cons ev_c (ea_cons ev_c (ea_cons ev_c (ea_cons (ev_var rfl) ea_nil)))) (sv_toldI (d := dFA 5 2 o) (z := wordO (dA o)) (fun G eG => .w12 _ _ _ o (ho.ex eG) (by rw [due_fa (by simpa using hz)]; exact fun z => nomatch z)) (by
          have hj : judgeA o = false := by simpa using hz
          rw [due_fa hj]
          unfold dA
          rw [if_neg (by rw [hj]; exact Bool.false_ne_true)]))) (ev_var rfl) (rv_ne rfl))) (by simp)) (by simp)) (fun hb => Bool.noConfusion hb) fun _ H12 e12 => ?_
      · rw [str_dec]
        cases hj : judgeA o with
        | false => unfold dA; rw [if_neg (by rw [hj]; exact Bool.false_ne_true)]; decide +kernel
        | true => unfold dA; rw [if_pos hj]; decide +kernel
      have ho := ho.ex e12
      refine s_when (b := false) (et_is (et_test (ev_op (ev_call (ea_cons ev_c (ea_cons ev_c (ea_cons (ev_var rfl) (ea_cons (ev_un ev_c ru_neg) ea_nil)))) (sv_told fun G eG => .w13 _ _ _ o (ho.ex eG) (by rw [due_na]; split <;> exact fun z => nomatch z))) (ev_if (v := .str (wordO (dNA 5 o (-1)))) (b := judgeA o) (et_is (et_test (ev_op (ev_var rfl) ev_c (rv_eq rfl))) ?_) (fun hb => ev_is ev_c ?_) (fun hb => ev_is (ev_var rfl) ?_)) (rv_ne rfl))) (by simp)) (fun hb => Bool.noConfusion hb) fun _ H13 e13 => ⟨_, _, _, rfl, e.trans (e4.trans (e5.trans (e6.trans (e7.trans (e8.trans (e9.trans (e10.trans (e11.trans (e12.trans e13)))))))))⟩
      · rw [str_dec]
        cases hj : judgeA o with
        | false => unfold dA; rw [if_neg (by rw [hj]; exact Bool.false_ne_true)]; decide +kernel
        | true => unfold dA; rw [if_pos hj]; decide +kernel
      · rw [due_na, if_pos hb]
        rfl
      · rw [due_na, if_neg (by rw [hb]; exact Bool.false_ne_true)]
        unfold dA
        rw [if_neg (by rw [hb]; exact Bool.false_ne_true)]
    · rintro σ' H' ⟨y2, y3, y5, rfl, e⟩
      dsimp only
      refine s_ret (v := .bl true) ev_c fun H4 e4 => ?_
      exact k _ ((p3.ex (e.trans e4)).mono (by omega)) (hm_trans e03 (hm_of (e.trans e4)))
end


/-! ### _law_wrong_right -/
theorem judgeZ_nv {s : List Nat} (o : Szs s) : judgeZ (some ((iz s).map PyData.int)) = true := by
  have e : intsOf ((iz s).map PyData.int) = iz s := by
    unfold intsOf
    rw [List.map_map]
    exact List.map_id _
  have a := o.2.1
  have b := o.2.2
  show (((iz s).map PyData.int).all posI && (decide (1 ≤ (intsOf ((iz s).map PyData.int)).sum) && decide ((intsOf ((iz s).map PyData.int)).sum ≤ 20))) = true
  rw [e, iz_sum, Bool.and_eq_true, Bool.and_eq_true, decide_eq_true_iff, decide_eq_true_iff]
  refine ⟨List.all_eq_true.mpr fun d hd => ?_, by omega, by omega⟩
  obtain ⟨x, hx, rfl⟩ := List.mem_map.mp hd
  obtain ⟨y, hy, rfl⟩ := List.mem_map.mp hx
  have := o.1 y hy
  show decide ((y : Int) ≥ 1) = true
  rw [decide_eq_true_iff]
  omega
theorem thS_nv {K : PySem.W.Frag} {H : Hp} {a : Addr} {s : List Nat} (ha : H a = some (.lst (nv s))) (hl : s.length ≤ 60) : ThS K H (.ref a) (some ((iz s).map PyData.int)) := ⟨.lst ha (ita_ints _) (fine_ints _), by
  show ((iz s).map PyData.int).length ≤ 60
  simp [iz]
  exact hl⟩
section
variable {K : PySem.W.Frag} {σ : L2.St} {H0 H : Hp} {ta tb tc te tl tm t1 : TE} {p : Addr} {D : Ends} {tz : TS} {t : TA}
theorem el_told {xs : List V} {j : Nat} {ns : List Nat} {E : XK} (d : Nat → Option Nat) (h : EvU tl σ H xs) (hz : xs.length ≤ 40) (hw : ∀ x, wipe ((wipe σ ns).set j (some x)) ns = wipe σ ns)
    (he : ∀ (i : Nat) (x : V), xs[i]? = some x → ∃ w a b c, (∀ G, Ex H G → EvA t ((wipe σ ns).set j (some x)) G [.int w, a, b, c]) ∧ ∀ G, Ex H G → Asked K G w a b c (d i)) :
    EvL (tLc (iTup K tl) (gName j) tYes (tCall (sp_law_told K) [] E t) ns) σ H (((List.range xs.length).map fun i => wordO (d i)).map V.str) := by
  rw [List.map_map]
  refine el_lcNU (fun i => V.str (wordO (d i))) h (by omega) hw fun i x H1 e1 hi => ?_
  obtain ⟨w, a, b, c, ea, as⟩ := he i x hi
  exact ev_call (ea H1 e1) (sv_told fun G eG => as G (e1.trans eG))
theorem el_repS {z : Str} {n : Int} (h : Ev te σ H (.str z)) (hb : Ev tb σ H (.int n)) (h0 : 0 ≤ n) (h1 : n ≤ 1000) : EvL (tOp rRep (tLst (tCons te tNil)) tb) σ H ((List.replicate n.toNat z).map V.str) := by
  have g := el_rep (el_lst (ea_cons h ea_nil) (Nat.le_of_ble_eq_true rfl)) hb h0 h1 (Nat.le_of_ble_eq_true rfl)
  have e : (List.replicate n.toNat [V.str z]).flatten = (List.replicate n.toNat z).map V.str := by
    generalize n.toNat = k
    induction k with
    | zero => rfl
    | succ k ih => rw [List.replicate_succ, List.replicate_succ, List.flatten_cons, List.map_cons, ih]; rfl
  rw [e] at g
  exact g
theorem ev_told2L {w : Int} {b c : V} {al : List Nat} {d : Option Nat} {z : Str} {E : XK} (h1 : Ev ta σ H (.int w)) (h2 : Ev tb σ H b) (h3 : EvL tl σ H (nv al)) (h4 : Ev tc σ H c) (hA : ∀ G l, G l = some (.lst (nv al)) → Asked K G w b (.ref l) c d) (e : wordO d = z) : Ev (tCall (sp_law_told K) [] E (tCons ta (tCons tb (tCons tl (tCons tc tNil))))) σ H (.str z) := fun G1 g1 Q q =>
  h1 G1 g1 _ fun G2 g2 => h2 G2 (g1.trans g2) _ fun G3 g3 => h3 G3 (g1.trans (g2.trans g3)) _ fun l G4 _ g4 hl => h4 G4 (g1.trans (g2.trans (g3.trans g4))) _ fun G5 g5 => by
    subst e
    exact ⟨w, b, .ref l, c, d, rfl, hA G5 l (g5 l _ hl), fun G6 g6 => q G6 (g2.trans (g3.trans (g4.trans (g5.trans g6))))⟩
theorem ev_told3L {w : Int} {b c : V} {al : List Nat} {d : Option Nat} {z : Str} {E : XK} (h1 : Ev ta σ H (.int w)) (h2 : Ev tb σ H b) (h3 : Ev tc σ H c) (h4 : EvL tl σ H (nv al)) (hA : ∀ G l, G l = some (.lst (nv al)) → Asked K G w b c (.ref l) d) (e : wordO d = z) : Ev (tCall (sp_law_told K) [] E (tCons ta (tCons tb (tCons tc (tCons tl tNil))))) σ H (.str z) := fun G1 g1 Q q =>
  h1 G1 g1 _ fun G2 g2 => h2 G2 (g1.trans g2) _ fun G3 g3 => h3 G3 (g1.trans (g2.trans g3)) _ fun G4 g4 => h4 G4 (g1.trans (g2.trans (g3.trans g4))) _ fun l G5 _ g5 hl => by
    subst e
    exact ⟨w, b, c, .ref l, d, rfl, hA G5 l hl, fun G6 g6 => q G6 (g2.trans (g3.trans (g4.trans (g5.trans g6))))⟩
theorem pq_tupW {n i j k k2 : Nat} {E : XK} (h0 : H0 p = none) (h1 : EvP p k t1 σ H0 (fun v _ => ∃ m : Nat, v = .int m ∧ 1 ≤ m ∧ m ≤ 20)) (ha : ∀ G, Ev ta σ G (.ref p)) (hm : EvP p k2 tm σ H0 (fun v _ => ∃ m : Nat, v = .int m ∧ 1 ≤ m ∧ m ≤ 20)) (e : Ex H0 H) (hp : Po p n H) (hn : n + (k + (k2 + 41)) < 1000000000)
    (q : ∀ (m : Nat) l s H', (1 ≤ m ∧ m ≤ 20) → l ≠ p → H' l = some (.lst (nv s)) → Szs s → Po p (n + (k + (k2 + 41))) H' → Ex (Hm p H) H' → tz D ((σ.set i (some (.int (m : Nat)))).set j (some (.ref l))) H') :
    tSeq (tAsg (tTup (tCons t1 (tCons (tCall sp_law_some_widths [] E (tCons ta (tCons tm tNil))) tNil))) (gTup K 2 (gCons (gName i) (gCons (gName j) gNil)))) tz D σ H :=
  h1 n H e hp (by omega) _ fun u H1 hu p1 e1 => by
    obtain ⟨m, rfl, m1, m2⟩ := hu
    refine ha H1 H1 (Ex.refl _) _ fun H2 e2 => hm (n + k) H2 ((hm_next h0 e e1).trans e2) (p1.ex e2) (by omega) _ fun v H3 hv p3 e3 => ?_
    obtain ⟨m', rfl, m3, m4⟩ := hv
    refine ⟨p, n + k + k2, m', rfl, p3, by omega, m3, m4, fun l s H4 nl hl hs hsum _ p4 e4 => ⟨sz_of (by simp), fun t ht => ⟨t, [.int (m : Nat), .ref l], rfl, st_of upd_same, rfl, _, [.ref l], rfl, .ref l, [], rfl, rfl, q m l s _ ⟨m1, m2⟩ (p3.ne nl) (Ex.new ht l _ hl) ⟨hs, by omega, by omega⟩ ((p4.ex (Ex.new ht)).mono (by omega)) (hm_trans e1 (hm_trans (hm_of e2) (hm_trans e3 (hm_trans e4 (hm_of (Ex.new ht))))))⟩⟩⟩
end
/-- a number that is out of all bounds -/
def bad (z : Int) : Prop := ¬ (1 ≤ z ∧ z ≤ 1000000000000)
section
variable {z : Int} (hz : bad z) {m : Nat} (hm : 1 ≤ m ∧ m ≤ 20) {o : Option (List PyData)}
include hz
theorem bad20 : ¬ (1 ≤ z ∧ z ≤ 20) := fun h => hz ⟨h.1, by omega⟩
theorem b_sn (n : Int) : dSN z z n = some 3 := if_neg (bad20 hz)
theorem b_as : dAS z z o = some 3 := if_neg (bad20 hz)
theorem b_fa : dFA z z o = some 3 := if_neg (bad20 hz)
theorem b_ca : dCA z o = some 3 := if_neg (bad20 hz)
theorem b_na (i : Int) : dNA z o i = some 3 := if_neg (bad20 hz)
theorem b_zw (hj : judgeZ o = true) : dZW o z = some 2 := by
  unfold dZW
  rw [if_pos hj, if_neg hz]
include hm
theorem b_sn2 (n : Int) : dSN m z n = some 2 := by
  unfold dSN
  rw [if_pos ⟨by omega, by omega⟩, if_neg hz]
theorem b_as2 : dAS m z o = some 2 := by
  unfold dAS
  rw [if_pos ⟨by omega, by omega⟩, if_neg hz]
theorem b_fa2 : dFA m z o = some 2 := by
  unfold dFA
  rw [if_pos ⟨by omega, by omega⟩, if_neg hz]
theorem b_sn3 : dSN m 1 z = some 5 := by
  have := bad20 hz
  unfold dSN
  rw [if_pos ⟨by omega, by omega⟩, if_pos (by decide), if_neg fun h => this ⟨h.1, by omega⟩]
end
theorem rng_st {n : Nat} {z : Str} : (List.range n).map (fun _ => z) = List.replicate n z := by
  rw [List.map_const', List.length_range]
def sp_law_wrong_right : Sp := fun vs H Q _ => ∃ (p : Addr) (n : Nat), vs = [.ref p] ∧ Po p n H ∧ n + 100 < 1000000000 ∧ ∀ H', Po p (n + 100) H' → Ex (Hm p H) H' → Q (.bl true) H'
section
variable {P : Program} {w : World} {K : PySem.W.Frag} {mg : Str → Option Value} {base : Heap}
theorem ok_law_wrong_right (T : Tx K mg) : FnOk P w K mg base CX0 9 T.f_law_wrong_right T.d_law_wrong_right ["pouch"] sp_law_wrong_right := by
  refine T.F_law_wrong_right.ok sc_law_wrong_right (fun vs H Q E h => ?_) (fun cdv A outer s H vs Q E hr h => ?_)
  · obtain ⟨p, n, rfl, _⟩ := h
    rfl
  · obtain ⟨p, n, rfl, hpo, hn, k⟩ := h
    refine ⟨_, (pss_cons (ps_asg (pe_tup (pa_cons (pe_op op_add pe_int (pe_call (ok_law_dip T) (hr.mono (by decide)) (by rfl) T.g_law_dip T.F_law_dip.kp T.b_law_dip .nil pass0 (pa_cons (pv 0) (pa_cons pe_int pa_nil)))) (pa_cons (pe_call (ok_law_some_widths T) (hr.mono (by decide)) (by rfl) T.g_law_some_widths T.F_law_some_widths.kp T.b_law_some_widths .nil pass0 (pa_cons (pv 0) (pa_cons (pe_op op_add pe_int (pe_call (ok_law_dip T) (hr.mono (by decide)) (by rfl) T.g_law_dip T.F_law_dip.kp T.b_law_dip .nil pass0 (pa_cons (pv 0) (pa_cons pe_int pa_nil)))) pa_nil))) pa_nil))) (pg_tup rfl (pgs_cons (pg_name (i := 1) sc_law_wrong_right.nd rfl (Or.inr rfl)) (pgs_cons (pg_name (i := 2) sc_law_wrong_right.nd rfl (Or.inr rfl)) pgs_nil))))
      (pss_cons (ps_par (i := 3) (j := 4) (by rfl) sc_law_wrong_right.nd rfl rfl (by decide) rfl rfl (pa_cons (pe_call (ok_law_counted T) (hr.mono (by decide)) (by rfl) T.g_law_counted T.F_law_counted.kp T.b_law_counted .nil pass0 (pa_cons (pv 2) pa_nil)) (pa_cons (pe_callB (cr_sum rfl) (by rfl) T.m_sum (by decide +kernel) (pa_cons (pv 2) pa_nil)) pa_nil)) (by rfl))
      (pss_cons (ps_for PassesOwn.never rfl (pi_tup (pe_tup (pa_cons pe_int (pa_cons (pe_un un_neg pe_int) (pa_cons (pe_op op_powX pe_int pe_int) (pa_cons (pe_op op_sub pe_int (pe_op op_powX pe_int pe_int)) (pa_cons (pe_op op_add (pe_op op_powX pe_int pe_int) pe_int) pa_nil))))))) (pg_name (i := 5) sc_law_wrong_right.nd rfl (Or.inr rfl)) (pss_cons (ps_if (pt_cmpR (op_neD hr.units) (pe_lc (own := [("way", 6)]) (g := (gName 6)) (tt := tYes) rfl sc_law_wrong_right.nd (pi_tup (pe_tup (pa_cons pe_int (pa_cons pe_int pa_nil)))) (blkOk_by (own := [("way", 6)]) (N := n_law_wrong_right) (sc := defScope s_law_wrong_right) (by decide +kernel)) (fun _ _ _ _ _ => (pg_name (i := 6) sc_law_wrong_right.nd rfl (Or.inl rfl))) (fun _ _ _ _ _ => pts_nil) (fun _ _ _ _ _ => (pe_call (ok_law_told T) (hr.mono (by decide)) (by rfl) T.g_law_told T.F_law_told.kp T.b_law_told .nil pass0 (pa_cons (pv 6) (pa_cons (pv 5) (pa_cons (pv 5) (pa_cons pe_non pa_nil))))))) (pe_op op_rep (pe_lst (pa_cons pe_str pa_nil)) pe_int) (nomark _)) (pss_one (ps_ret pe_bl)) pss_nil)
      (pss_cons (ps_setLc (i := 7) (own := [("way", 6)]) (g := (gName 6)) (tt := tYes) rfl sc_law_wrong_right.nd rfl rfl (sw_true rfl rfl rfl (by decide +kernel)) (pi_tup (pe_tup (pa_cons pe_int (pa_cons pe_int (pa_cons pe_int pa_nil))))) (blkOk_by (own := [("way", 6)]) (N := n_law_wrong_right) (sc := defScope s_law_wrong_right) (by decide +kernel)) (fun _ _ _ _ _ => (pg_name (i := 6) sc_law_wrong_right.nd rfl (Or.inl rfl))) (fun _ _ _ _ _ => pts_nil) (fun _ _ _ _ _ => (pe_call (ok_law_told T) (hr.mono (by decide)) (by rfl) T.g_law_told T.F_law_told.kp T.b_law_told .nil pass0 (pa_cons (pv 6) (pa_cons (pv 5) (pa_cons (pv 5) (pa_cons pe_int pa_nil)))))))
      (pss_cons (ps_if (PW.pt (pw_or (pt_cmpR (op_neD hr.units) (pv 7) (pe_op op_rep (pe_lst (pa_cons pe_str pa_nil)) pe_int) (nomark _)) (pw_or1 (pt_cmpR (op_neD hr.units) (pe_lc (own := [("way", 6)]) (g := (gName 6)) (tt := tYes) rfl sc_law_wrong_right.nd (pi_tup (pe_tup (pa_cons pe_int (pa_cons pe_int (pa_cons pe_int pa_nil))))) (blkOk_by (own := [("way", 6)]) (N := n_law_wrong_right) (sc := defScope s_law_wrong_right) (by decide +kernel)) (fun _ _ _ _ _ => (pg_name (i := 6) sc_law_wrong_right.nd rfl (Or.inl rfl))) (fun _ _ _ _ _ => pts_nil) (fun _ _ _ _ _ => (pe_call (ok_law_told T) (hr.mono (by decide)) (by rfl) T.g_law_told T.F_law_told.kp T.b_law_told .nil pass0 (pa_cons (pv 6) (pa_cons (pv 1) (pa_cons (pv 5) (pa_cons pe_int pa_nil))))))) (pe_op op_rep (pe_lst (pa_cons pe_str pa_nil)) pe_int) (nomark _))))) (pss_one (ps_ret pe_bl)) pss_nil)
      (pss_cons (ps_setLc (i := 7) (own := [("way", 6)]) (g := (gName 6)) (tt := tYes) rfl sc_law_wrong_right.nd rfl rfl (sw_true rfl rfl rfl (by decide +kernel)) (pi_tup (pe_tup (pa_cons pe_int (pa_cons pe_int pa_nil)))) (blkOk_by (own := [("way", 6)]) (N := n_law_wrong_right) (sc := defScope s_law_wrong_right) (by decide +kernel)) (fun _ _ _ _ _ => (pg_name (i := 6) sc_law_wrong_right.nd rfl (Or.inl rfl))) (fun _ _ _ _ _ => pts_nil) (fun _ _ _ _ _ => (pe_call (ok_law_told T) (hr.mono (by decide)) (by rfl) T.g_law_told T.F_law_told.kp T.b_law_told .nil pass0 (pa_cons (pv 6) (pa_cons (pv 2) (pa_cons (pv 5) (pa_cons pe_int pa_nil)))))))
      (pss_cons (ps_set (i := 7) sc_law_wrong_right.nd rfl (Or.inl rfl) (pe_op op_cat (pv 7) (pe_lc (own := [("way", 6)]) (g := (gName 6)) (tt := tYes) rfl sc_law_wrong_right.nd (pi_tup (pe_tup (pa_cons pe_int (pa_cons pe_int pa_nil)))) (blkOk_by (own := [("way", 6)]) (N := n_law_wrong_right) (sc := defScope s_law_wrong_right) (by decide +kernel)) (fun _ _ _ _ _ => (pg_name (i := 6) sc_law_wrong_right.nd rfl (Or.inl rfl))) (fun _ _ _ _ _ => pts_nil) (fun _ _ _ _ _ => (pe_call (ok_law_told T) (hr.mono (by decide)) (by rfl) T.g_law_told T.F_law_told.kp T.b_law_told .nil pass0 (pa_cons (pv 6) (pa_cons (pv 1) (pa_cons (pv 5) (pa_cons pe_non pa_nil)))))))))
      (pss_cons (ps_if (PW.pt (pw_or (pt_cmpR (op_neD hr.units) (pv 7) (pe_op op_rep (pe_lst (pa_cons pe_str pa_nil)) pe_int) (nomark _)) (pw_or1 (pt_cmpR (op_neD hr.units) (pe_lc (own := [("way", 6)]) (g := (gName 6)) (tt := tYes) rfl sc_law_wrong_right.nd (pi_tup (pe_tup (pa_cons pe_int (pa_cons pe_int (pa_cons pe_int pa_nil))))) (blkOk_by (own := [("way", 6)]) (N := n_law_wrong_right) (sc := defScope s_law_wrong_right) (by decide +kernel)) (fun _ _ _ _ _ => (pg_name (i := 6) sc_law_wrong_right.nd rfl (Or.inl rfl))) (fun _ _ _ _ _ => pts_nil) (fun _ _ _ _ _ => (pe_call (ok_law_told T) (hr.mono (by decide)) (by rfl) T.g_law_told T.F_law_told.kp T.b_law_told .nil pass0 (pa_cons (pv 6) (pa_cons (pv 1) (pa_cons pe_int (pa_cons (pv 5) pa_nil))))))) (pe_op op_rep (pe_lst (pa_cons pe_str pa_nil)) pe_int) (nomark _))))) (pss_one (ps_ret pe_bl)) pss_nil)
      (pss_one (ps_if (PW.pt (pw_or (pt_cmpR op_ne (pe_call (ok_law_told T) (hr.mono (by decide)) (by rfl) T.g_law_told T.F_law_told.kp T.b_law_told .nil pass0 (pa_cons pe_int (pa_cons (pv 5) (pa_cons pe_non (pa_cons pe_int pa_nil))))) pe_str (nomark _)) (pw_or1 (pt_cmpR op_ne (pe_call (ok_law_told T) (hr.mono (by decide)) (by rfl) T.g_law_told T.F_law_told.kp T.b_law_told .nil pass0 (pa_cons pe_int (pa_cons (pv 5) (pa_cons (pe_lst (pa_cons pe_int pa_nil)) (pa_cons pe_int pa_nil))))) pe_str (nomark _))))) (pss_one (ps_ret pe_bl)) pss_nil)))))))))
      (pss_cons (ps_set (i := 7) sc_law_wrong_right.nd rfl (Or.inl rfl) (pe_lst (pa_cons (pe_call (ok_law_told T) (hr.mono (by decide)) (by rfl) T.g_law_told T.F_law_told.kp T.b_law_told .nil pass0 (pa_cons pe_int (pa_cons (pv 1) (pa_cons pe_int (pa_cons (pe_op op_add (pv 1) pe_int) pa_nil))))) (pa_cons (pe_call (ok_law_told T) (hr.mono (by decide)) (by rfl) T.g_law_told T.F_law_told.kp T.b_law_told .nil pass0 (pa_cons pe_int (pa_cons (pv 1) (pa_cons (pe_op op_powX pe_int pe_int) (pa_cons (pv 1) pa_nil))))) (pa_cons (pe_call (ok_law_told T) (hr.mono (by decide)) (by rfl) T.g_law_told T.F_law_told.kp T.b_law_told .nil pass0 (pa_cons pe_int (pa_cons (pv 2) (pa_cons (pv 4) (pa_cons pe_int pa_nil))))) pa_nil)))))
      (pss_cons (ps_set (i := 7) sc_law_wrong_right.nd rfl (Or.inl rfl) (pe_op op_cat (pv 7) (pe_lst (pa_cons (pe_call (ok_law_told T) (hr.mono (by decide)) (by rfl) T.g_law_told T.F_law_told.kp T.b_law_told .nil pass0 (pa_cons pe_int (pa_cons (pv 2) (pa_cons (pe_un un_neg pe_int) (pa_cons pe_int pa_nil))))) (pa_cons (pe_call (ok_law_told T) (hr.mono (by decide)) (by rfl) T.g_law_told T.F_law_told.kp T.b_law_told .nil pass0 (pa_cons pe_int (pa_cons (pv 2) (pa_cons (pe_op op_sub (pv 4) pe_int) (pa_cons pe_int pa_nil))))) pa_nil)))))
      (pss_cons (ps_if (pt_cmpR (op_neD hr.units) (pv 7) (pe_lst (pa_cons pe_str (pa_cons pe_str (pa_cons pe_str (pa_cons pe_str (pa_cons pe_str pa_nil)))))) (nomark _)) (pss_one (ps_ret pe_bl)) pss_nil)
      (pss_cons (ps_setLc (i := 7) (own := [("spot", 8)]) (g := (gName 8)) (tt := tYes) rfl sc_law_wrong_right.nd rfl rfl (sw_true rfl rfl rfl (by decide +kernel)) (pi_tup (pe_tup (pa_cons (pe_un un_neg pe_int) (pa_cons (pv 3) (pa_cons (pe_op op_add (pv 3) (pe_op op_powX pe_int pe_int)) (pa_cons (pe_op op_sub pe_int (pe_op op_powX pe_int pe_int)) (pa_cons pe_int (pa_cons (pe_op op_sub (pv 3) pe_int) pa_nil)))))))) (blkOk_by (own := [("spot", 8)]) (N := n_law_wrong_right) (sc := defScope s_law_wrong_right) (by decide +kernel)) (fun _ _ _ _ _ => (pg_name (i := 8) sc_law_wrong_right.nd rfl (Or.inl rfl))) (fun _ _ _ _ _ => pts_nil) (fun _ _ _ _ _ => (pe_call (ok_law_told T) (hr.mono (by decide)) (by rfl) T.g_law_told T.F_law_told.kp T.b_law_told .nil pass0 (pa_cons pe_int (pa_cons (pv 2) (pa_cons (pv 8) (pa_cons pe_int pa_nil)))))))
      (pss_one (ps_ret (pe_cmpR (op_eqD hr.units) (pv 7) (pe_op op_cat (pe_op op_rep (pe_lst (pa_cons pe_str pa_nil)) pe_int) (pe_op op_rep (pe_lst (pa_cons pe_str pa_nil)) pe_int)) (nomark _))))))))))), ?_⟩
    have big : ∀ (σ : L2.St) (H1 : Hp), Ev (tOp (rI CPowX fun i j => .int (i ^ j.toNat)) (tC (.int 10)) (tC (.int 30))) σ H1 (.int ((10 : Int) ^ (30 : Int).toNat)) := fun σ H1 => ev_op ev_c ev_c (rv_I (by constructor <;> decide +kernel))
    have mid : ∀ (σ : L2.St) (H1 : Hp), Ev (tOp (rI CPowX fun i j => .int (i ^ j.toNat)) (tC (.int 10)) (tC (.int 12))) σ H1 (.int ((10 : Int) ^ (12 : Int).toNat)) := fun σ H1 => ev_op ev_c ev_c (rv_I (by constructor <;> decide +kernel))
    have many : EvP p (0 + 1) (tOp (rI0 fun i j => .int (i + j)) (tC (.int 1)) (tCall sp_law_dip [] E0 (tCons (tVar 0) (tCons (tC (.int 20)) tNil)))) (start n_law_wrong_right [.ref p]) (Hm p H) (fun v _ => ∃ m : Nat, v = .int m ∧ 1 ≤ m ∧ m ≤ 20) :=
      ep_is (ep_add hm_p ev_c (ep_dipI (w := 20) hm_p (ev_var rfl) ev_c (by decide) (by decide))) fun v H4 ⟨r', e', r0', r1'⟩ => ⟨(1 + r').toNat, by rw [e']; exact congrArg V.int (by omega), by omega, by omega⟩
    refine pq_tupW (K := K) (n := n) hm_p many (fun G => ev_var rfl) many hm_sub hpo (by omega) fun m l s H1 hm lp hl os p1 e1 => ?_
    have jz := judgeZ_nv os
    have s60 : s.length ≤ 60 := by
      have := sum_ge os.1
      have := os.2.2
      omega
    have z1 := os.2.1
    have z20 := os.2.2
    refine q_par (x := .int (wws s : Nat)) (y := .int (s.sum : Nat)) (ea_cons (ev_call (ea_cons (ev_var rfl) ea_nil) (sv_cnt hl os)) (ea_cons (ev_sumV rfl hl) ea_nil)) fun H2 e2 => ?_
    have hl2 := e2 l _ hl
    have th : ∀ G, Ex H2 G → ThS K G (.ref l) (some ((iz s).map PyData.int)) := fun G eG => thS_nv (eG l _ hl2) s60
    have so : sumO (some ((iz s).map PyData.int)) = (s.sum : Int) := sumO_ints s
    have sz : szO (some ((iz s).map PyData.int)) = s := szO_ints s
    have wp := wws_pos os.z
    refine q_forNU (K := K) (xs := [V.int 0, .int (-1), .int ((10 : Int) ^ (30 : Int).toNat), .int (0 - (10 : Int) ^ (30 : Int).toNat), .int ((10 : Int) ^ (12 : Int).toNat + 1)]) (eu_tup (ea_cons ev_c (ea_cons (ev_un ev_c ru_neg) (ea_cons (big _ _) (ea_cons (ev_op ev_c (big _ _) rv_I0) (ea_cons (ev_op (mid _ _) ev_c rv_I0) ea_nil))))) (Nat.le_of_ble_eq_true rfl))
      (fun t i σ2 G => ∃ y5 y7 : Option V, σ2 = [some (.ref p), some (.int (m : Nat)), some (.ref l), some (.int (wws s : Nat)), some (.int (s.sum : Nat)), y5, none, y7, none] ∧ Ex H2 G ∧ G t = some (.tup [V.int 0, .int (-1), .int ((10 : Int) ^ (30 : Int).toNat), .int (0 - (10 : Int) ^ (30 : Int).toNat), .int ((10 : Int) ^ (12 : Int).toNat + 1)])) (fun t G nt e2 ht => ⟨none, none, rfl, e2, ht⟩) (fun t i σ2 G _ ⟨_, _, _, _, ht⟩ => st_of ht) ?_ ?_
    · rintro t i x σ2 G hi ⟨y5, y7, rfl, e, ht⟩
      have : ∃ z : Int, x = .int z ∧ bad z := by
        have i5 : i < 5 := (List.getElem?_eq_some_iff.mp hi).1
        have : i = 0 ∨ i = 1 ∨ i = 2 ∨ i = 3 ∨ i = 4 := by omega
        rcases this with rfl | rfl | rfl | rfl | rfl
        · exact ⟨_, (Option.some.inj hi).symm, by unfold bad; decide⟩
        · exact ⟨_, (Option.some.inj hi).symm, by unfold bad; decide⟩
        · exact ⟨_, (Option.some.inj hi).symm, by unfold bad; decide +kernel⟩
        · exact ⟨_, (Option.some.inj hi).symm, by unfold bad; decide +kernel⟩
        · exact ⟨_, (Option.some.inj hi).symm, by unfold bad; decide +kernel⟩
      obtain ⟨z, rfl, hz⟩ := this
      have non : ∀ G, ThS K G .non none := fun G => ⟨.non, Nat.zero_le _⟩
      have g3 : SeqAt.shaped (.list ((List.replicate 3 ("guests" : Str)).map PyData.str)) = true := by decide +kernel
      have g2 : SeqAt.shaped (.list ((List.replicate 2 ("guests" : Str)).map PyData.str)) = true := by decide +kernel
      have w3 : SeqAt.shaped (.list ((List.replicate 3 ("weight" : Str)).map PyData.str)) = true := by decide +kernel
      have w4 : SeqAt.shaped (.list ((List.replicate 4 ("weight" : Str)).map PyData.str)) = true := by decide +kernel
      have n3 : SeqAt.shaped (.list ((List.replicate 3 ("number" : Str)).map PyData.str)) = true := by decide +kernel
      refine q_when (b := false) (et_is (et_test (ev_neD (d := .list ((List.replicate 2 ("guests" : Str)).map PyData.str)) (e := .list ((List.replicate 2 ("guests" : Str)).map PyData.str)) (ed_told (xs := [.int 11, .int 12]) (fun _ => some 3) (eu_tup (ea_cons ev_c (ea_cons ev_c ea_nil)) (Nat.le_of_ble_eq_true rfl)) (Nat.le_of_ble_eq_true rfl) (fun _ => rfl) fun i x hx => ?_) (ed_repS (n := 2) ev_c ev_c (by decide) (by decide)) g2 g2)) (by rw [eqv_same g2]; rfl)) (fun hb => Bool.noConfusion hb) fun _ H3 e3 => ?_
      · have i2 : i < 2 := (List.getElem?_eq_some_iff.mp hx).1
        have : i = 0 ∨ i = 1 := by omega
        rcases this with rfl | rfl <;> cases Option.some.inj hx
        · exact ⟨_, _, _, _, fun G eG => ea_cons (ev_var rfl) (ea_cons (ev_var rfl) (ea_cons (ev_var rfl) (ea_cons ev_c ea_nil))), fun G eG => by rw [← b_as hz]; exact .w11 _ _ _ none (non G)⟩
        · exact ⟨_, _, _, _, fun G eG => ea_cons (ev_var rfl) (ea_cons (ev_var rfl) (ea_cons (ev_var rfl) (ea_cons ev_c ea_nil))), fun G eG => by rw [← b_fa hz]; exact .w12 _ _ _ none (non G) (by rw [b_fa hz]; exact fun z => nomatch z)⟩
      refine q_asgL (xs := ((List.range 3).map fun _ => wordO (some 3)).map V.str) (el_told (xs := [.int 7, .int 8, .int 9]) (fun _ => some 3) (eu_tup (ea_cons ev_c (ea_cons ev_c (ea_cons ev_c ea_nil))) (Nat.le_of_ble_eq_true rfl)) (Nat.le_of_ble_eq_true rfl) (fun _ => rfl) fun i x hx => ?_) fun c H4 nc e4 hc => ?_
      · have i3 : i < 3 := (List.getElem?_eq_some_iff.mp hx).1
        have : i = 0 ∨ i = 1 ∨ i = 2 := by omega
        rcases this with rfl | rfl | rfl <;> cases Option.some.inj hx
        · exact ⟨_, _, _, _, fun G eG => ea_cons (ev_var rfl) (ea_cons (ev_var rfl) (ea_cons (ev_var rfl) (ea_cons ev_c ea_nil))), fun G eG => by rw [← b_sn hz 0]; exact .w7 _ _ _ (by rw [b_sn hz]; exact fun z => nomatch z)⟩
        · exact ⟨_, _, _, _, fun G eG => ea_cons (ev_var rfl) (ea_cons (ev_var rfl) (ea_cons (ev_var rfl) (ea_cons ev_c ea_nil))), fun G eG => by rw [← b_sn hz 0]; exact .w8 _ _ _ (by rw [b_sn hz]; exact fun z => nomatch z)⟩
        · exact ⟨_, _, _, _, fun G eG => ea_cons (ev_var rfl) (ea_cons (ev_var rfl) (ea_cons (ev_var rfl) (ea_cons ev_c ea_nil))), fun G eG => by rw [← b_sn hz 0]; exact .w9 _ _ _⟩
      refine q_when (b := false) (et_is (et_or (a := false) (b := false) (et_is (et_test (ev_neD (d := .list ((List.replicate 3 ("guests" : Str)).map PyData.str)) (e := .list ((List.replicate 3 ("guests" : Str)).map PyData.str)) (ed_of (ev_var rfl) (.lst (sq_of hc) (dpa_strs _))) (ed_repS (n := 3) ev_c ev_c (by decide) (by decide)) g3 g3)) (by rw [eqv_same g3]; rfl)) fun _ => et_is (et_test (ev_neD (d := .list ((List.replicate 3 ("weight" : Str)).map PyData.str)) (e := .list ((List.replicate 3 ("weight" : Str)).map PyData.str)) (ed_told (xs := [.int 7, .int 8, .int 9]) (fun _ => some 2) (eu_tup (ea_cons ev_c (ea_cons ev_c (ea_cons ev_c ea_nil))) (Nat.le_of_ble_eq_true rfl)) (Nat.le_of_ble_eq_true rfl) (fun _ => rfl) fun i x hx => ?_) (ed_repS (n := 3) ev_c ev_c (by decide) (by decide)) w3 w3)) (by rw [eqv_same w3]; rfl)) rfl) (fun hb => Bool.noConfusion hb) fun _ H5 e5 => ?_
      · have i3 : i < 3 := (List.getElem?_eq_some_iff.mp hx).1
        have : i = 0 ∨ i = 1 ∨ i = 2 := by omega
        rcases this with rfl | rfl | rfl <;> cases Option.some.inj hx
        · exact ⟨_, _, _, _, fun G eG => ea_cons (ev_var rfl) (ea_cons (ev_var rfl) (ea_cons (ev_var rfl) (ea_cons ev_c ea_nil))), fun G eG => by rw [← b_sn2 hz hm 0]; exact .w7 _ _ _ (by rw [b_sn2 hz hm]; exact fun z => nomatch z)⟩
        · exact ⟨_, _, _, _, fun G eG => ea_cons (ev_var rfl) (ea_cons (ev_var rfl) (ea_cons (ev_var rfl) (ea_cons ev_c ea_nil))), fun G eG => by rw [← b_sn2 hz hm 0]; exact .w8 _ _ _ (by rw [b_sn2 hz hm]; exact fun z => nomatch z)⟩
        · exact ⟨_, _, _, _, fun G eG => ea_cons (ev_var rfl) (ea_cons (ev_var rfl) (ea_cons (ev_var rfl) (ea_cons ev_c ea_nil))), fun G eG => by rw [← b_sn2 hz hm 0]; exact .w9 _ _ _⟩
      have e25 := e.trans (e3.trans (e4.trans e5))
      refine q_asgL (xs := ((List.range 2).map fun _ => wordO (some 2)).map V.str) (el_told (xs := [.int 3, .int 4]) (fun _ => some 2) (eu_tup (ea_cons ev_c (ea_cons ev_c ea_nil)) (Nat.le_of_ble_eq_true rfl)) (Nat.le_of_ble_eq_true rfl) (fun _ => rfl) fun i x hx => ?_) fun c2 H6 nc2 e6 hc2 => ?_
      · have i2 : i < 2 := (List.getElem?_eq_some_iff.mp hx).1
        have : i = 0 ∨ i = 1 := by omega
        rcases this with rfl | rfl <;> cases Option.some.inj hx
        · exact ⟨_, _, _, _, fun G eG => ea_cons (ev_var rfl) (ea_cons (ev_var rfl) (ea_cons (ev_var rfl) (ea_cons ev_c ea_nil))), fun G eG => by rw [← b_zw hz jz]; exact .w3 _ _ _ _ (th G (e25.trans eG))⟩
        · exact ⟨_, _, _, _, fun G eG => ea_cons (ev_var rfl) (ea_cons (ev_var rfl) (ea_cons (ev_var rfl) (ea_cons ev_c ea_nil))), fun G eG => by rw [← b_zw hz jz]; exact .w4 _ _ _ _ (th G (e25.trans eG))⟩
      refine q_asgL (xs := ((List.range 2).map fun _ => wordO (some 2)).map V.str ++ ((List.range 2).map fun _ => wordO (some 2)).map V.str) (el_catL (ev_var rfl) hc2 (el_told (xs := [.int 11, .int 12]) (fun _ => some 2) (eu_tup (ea_cons ev_c (ea_cons ev_c ea_nil)) (Nat.le_of_ble_eq_true rfl)) (Nat.le_of_ble_eq_true rfl) (fun _ => rfl) fun i x hx => ?_) (Nat.le_of_ble_eq_true rfl)) fun c3 H7 nc3 e7 hc3 => ?_
      · have i2 : i < 2 := (List.getElem?_eq_some_iff.mp hx).1
        have : i = 0 ∨ i = 1 := by omega
        rcases this with rfl | rfl <;> cases Option.some.inj hx
        · exact ⟨_, _, _, _, fun G eG => ea_cons (ev_var rfl) (ea_cons (ev_var rfl) (ea_cons (ev_var rfl) (ea_cons ev_c ea_nil))), fun G eG => by rw [← b_as2 hz hm (o := none)]; exact .w11 _ _ _ none (non G)⟩
        · exact ⟨_, _, _, _, fun G eG => ea_cons (ev_var rfl) (ea_cons (ev_var rfl) (ea_cons (ev_var rfl) (ea_cons ev_c ea_nil))), fun G eG => by rw [← b_fa2 hz hm (o := none)]; exact .w12 _ _ _ none (non G) (by rw [b_fa2 hz hm]; exact fun z => nomatch z)⟩
      refine q_when (b := false) (et_is (et_or (a := false) (b := false) (et_is (et_test (ev_neD (d := .list ((List.replicate 4 ("weight" : Str)).map PyData.str)) (e := .list ((List.replicate 4 ("weight" : Str)).map PyData.str)) (ed_of (ev_var rfl) (.lst (sq_of hc3) (dpa_strs ["weight", "weight", "weight", "weight"]))) (ed_repS (n := 4) ev_c ev_c (by decide) (by decide)) w4 w4)) (by rw [eqv_same w4]; rfl)) fun _ => et_is (et_test (ev_neD (d := .list ((List.replicate 3 ("number" : Str)).map PyData.str)) (e := .list ((List.replicate 3 ("number" : Str)).map PyData.str)) (ed_told (xs := [.int 7, .int 8, .int 9]) (fun _ => some 5) (eu_tup (ea_cons ev_c (ea_cons ev_c (ea_cons ev_c ea_nil))) (Nat.le_of_ble_eq_true rfl)) (Nat.le_of_ble_eq_true rfl) (fun _ => rfl) fun i x hx => ?_) (ed_repS (n := 3) ev_c ev_c (by decide) (by decide)) n3 n3)) (by rw [eqv_same n3]; rfl)) rfl) (fun hb => Bool.noConfusion hb) fun _ H8 e8 => ?_
      · have i3 : i < 3 := (List.getElem?_eq_some_iff.mp hx).1
        have : i = 0 ∨ i = 1 ∨ i = 2 := by omega
        rcases this with rfl | rfl | rfl <;> cases Option.some.inj hx
        · exact ⟨_, _, _, _, fun G eG => ea_cons (ev_var rfl) (ea_cons (ev_var rfl) (ea_cons ev_c (ea_cons (ev_var rfl) ea_nil))), fun G eG => by rw [← b_sn3 hz hm]; exact .w7 _ _ _ (by rw [b_sn3 hz hm]; exact fun z => nomatch z)⟩
        · exact ⟨_, _, _, _, fun G eG => ea_cons (ev_var rfl) (ea_cons (ev_var rfl) (ea_cons ev_c (ea_cons (ev_var rfl) ea_nil))), fun G eG => by rw [← b_sn3 hz hm]; exact .w8 _ _ _ (by rw [b_sn3 hz hm]; exact fun z => nomatch z)⟩
        · exact ⟨_, _, _, _, fun G eG => ea_cons (ev_var rfl) (ea_cons (ev_var rfl) (ea_cons ev_c (ea_cons (ev_var rfl) ea_nil))), fun G eG => by rw [← b_sn3 hz hm]; exact .w9 _ _ _⟩
      refine s_when (b := false) (et_is (et_or (a := false) (b := false) (et_is (et_test (ev_op (ev_call (ea_cons ev_c (ea_cons (ev_var rfl) (ea_cons ev_c (ea_cons ev_c ea_nil)))) (sv_toldI (d := dCA z none) (z := "guests") (fun G eG => .w10 _ _ _ none (non G)) (by rw [b_ca hz]; rfl))) ev_c (rv_ne rfl))) (by decide +kernel)) fun _ => et_is (et_test (ev_op (ev_told2L (al := [1]) (d := dNA z (some ((iz [1]).map PyData.int)) 0) (z := "guests") ev_c (ev_var rfl) (el_lst (ea_cons ev_c ea_nil) (Nat.le_of_ble_eq_true rfl)) ev_c (fun G a ha => .w13 _ _ _ _ (thS_nv ha (by decide)) (by rw [b_na hz]; exact fun z => nomatch z)) (by rw [b_na hz]; rfl)) ev_c (rv_ne rfl))) (by decide +kernel)) rfl) (fun hb => Bool.noConfusion hb) fun _ H9 e9 => ⟨_, _, rfl, e25.trans (e6.trans (e7.trans (e8.trans e9))), ?_⟩
      exact e9 t _ (e8 t _ (e7 t _ (e6 t _ (e5 t _ (e4 t _ (e3 t _ ht))))))
    · rintro t σ2 G ⟨y5, y7, rfl, e, ht⟩
      have d1 : dSN m 1 ((m : Int) + 1) = some 5 := by
        unfold dSN
        rw [if_pos ⟨by omega, by omega⟩, if_pos (by decide), if_neg fun h => by omega]
      have d2 : dSN m ((10 : Int) ^ (12 : Int).toNat) m = none := by
        unfold dSN
        rw [if_pos ⟨by omega, by omega⟩, if_pos (by decide +kernel), if_pos ⟨by omega, by omega⟩]
      have d3 : ∀ x : Int, ¬ (0 ≤ x ∧ x < (s.sum : Int)) → dGO (some ((iz s).map PyData.int)) x = some 4 := fun x hx => by
        unfold dGO
        rw [if_pos jz, so, if_neg hx]
      have d4 : dGO (some ((iz s).map PyData.int)) ((s.sum : Int) - 1) = none := by
        unfold dGO
        rw [if_pos jz, so, if_pos ⟨by omega, by omega⟩]
      refine q_asgL (xs := (["number", "none", "guest"] : List Str).map V.str) (el_lst (ea_cons (ev_call (ea_cons ev_c (ea_cons (ev_var rfl) (ea_cons ev_c (ea_cons (ev_op (ev_var rfl) ev_c rv_I0) ea_nil)))) (sv_toldI (d := some 5) (fun G eG => by rw [← d1]; exact .w7 _ _ _ (by rw [d1]; exact fun z => nomatch z)) rfl))
        (ea_cons (ev_call (ea_cons ev_c (ea_cons (ev_var rfl) (ea_cons (mid _ _) (ea_cons (ev_var rfl) ea_nil)))) (sv_toldI (d := none) (fun G eG => by rw [← d2]; exact .w9 _ _ _) rfl))
        (ea_cons (ev_call (ea_cons ev_c (ea_cons (ev_var rfl) (ea_cons (ev_var rfl) (ea_cons ev_c ea_nil)))) (sv_toldI (d := some 4) (fun G eG => by rw [← d3 (s.sum : Int) (fun h => by omega)]; exact .w5 _ _ _ _ (th G (e.trans eG))) rfl)) ea_nil))) (Nat.le_of_ble_eq_true rfl)) fun c H3 nc e3 hc => ?_
      refine q_asgL (xs := (["number", "none", "guest"] : List Str).map V.str ++ (["guest", "none"] : List Str).map V.str) (el_catL (ev_var rfl) hc (el_lst (ea_cons (ev_call (ea_cons ev_c (ea_cons (ev_var rfl) (ea_cons (ev_un ev_c ru_neg) (ea_cons ev_c ea_nil)))) (sv_toldI (d := some 4) (fun G eG => by rw [← d3 (-1) (fun h => by omega)]; exact .w5 _ _ _ _ (th G (e.trans (e3.trans eG)))) rfl))
        (ea_cons (ev_call (ea_cons ev_c (ea_cons (ev_var rfl) (ea_cons (ev_op (ev_var rfl) ev_c rv_I0) (ea_cons ev_c ea_nil)))) (sv_toldI (d := none) (fun G eG => by rw [← d4]; exact .w5 _ _ _ _ (th G (e.trans (e3.trans eG)))) rfl)) ea_nil)) (Nat.le_of_ble_eq_true rfl)) (Nat.le_of_ble_eq_true rfl)) fun c2 H4 nc2 e4 hc2 => ?_
      have s5 : SeqAt.shaped (.list ((["number", "none", "guest", "guest", "none"] : List Str).map PyData.str)) = true := by decide +kernel
      refine q_when (b := false) (et_is (et_test (ev_neD (d := .list ((["number", "none", "guest", "guest", "none"] : List Str).map PyData.str)) (e := .list ((["number", "none", "guest", "guest", "none"] : List Str).map PyData.str)) (ed_of (ev_var rfl) (.lst (sq_of hc2) (dpa_strs ["number", "none", "guest", "guest", "none"]))) (ed_ofL (el_lst (ea_cons ev_c (ea_cons ev_c (ea_cons ev_c (ea_cons ev_c (ea_cons ev_c ea_nil))))) (Nat.le_of_ble_eq_true rfl)) (dpa_strs ["number", "none", "guest", "guest", "none"])) s5 s5)) (by rw [eqv_same s5]; rfl)) (fun hb => Bool.noConfusion hb) fun _ H5 e5 => ?_
      have e25 := e.trans (e3.trans (e4.trans e5))
      have i1 : ∀ x : Int, ¬ (0 ≤ x ∧ x < ((wws s : Nat) : Int)) → dNW (some ((iz s).map PyData.int)) x = some 6 := fun x hx => by
        unfold dNW
        rw [if_pos jz, sz, if_neg hx]
      have i2 : ∀ x : Int, (0 ≤ x ∧ x < ((wws s : Nat) : Int)) → dNW (some ((iz s).map PyData.int)) x = none := fun x hx => by
        unfold dNW
        rw [if_pos jz, sz, if_pos hx]
      have b30 : (0 : Int) < (10 : Int) ^ (30 : Int).toNat := by decide +kernel
      refine q_asgL (xs := (["index", "index", "index", "index", "none", "none"] : List Str).map V.str) (el_told (xs := [.int (-1), .int (wws s : Nat), .int ((wws s : Nat) + (10 : Int) ^ (30 : Int).toNat), .int (0 - (10 : Int) ^ (30 : Int).toNat), .int 0, .int ((wws s : Nat) - 1)]) (fun i => if i < 4 then some 6 else none) (eu_tup (ea_cons (ev_un ev_c ru_neg) (ea_cons (ev_var rfl) (ea_cons (ev_op (ev_var rfl) (big _ _) rv_I0) (ea_cons (ev_op ev_c (big _ _) rv_I0) (ea_cons ev_c (ea_cons (ev_op (ev_var rfl) ev_c rv_I0) ea_nil)))))) (Nat.le_of_ble_eq_true rfl)) (Nat.le_of_ble_eq_true rfl) (fun _ => rfl) fun i x hx => ?_) fun c3 H6 nc3 e6 hc3 => ?_
      · have i6 : i < 6 := (List.getElem?_eq_some_iff.mp hx).1
        have : i = 0 ∨ i = 1 ∨ i = 2 ∨ i = 3 ∨ i = 4 ∨ i = 5 := by omega
        generalize hbb : (10 : Int) ^ (30 : Int).toNat = B at b30 hx
        rcases this with rfl | rfl | rfl | rfl | rfl | rfl <;> cases Option.some.inj hx
        · exact ⟨_, _, _, _, fun G eG => ea_cons ev_c (ea_cons (ev_var rfl) (ea_cons (ev_var rfl) (ea_cons ev_c ea_nil))), fun G eG => by rw [if_pos (by decide), ← i1 (-1) (fun h => by omega)]; exact .w6 _ _ _ _ (th G (e25.trans eG))⟩
        · exact ⟨_, _, _, _, fun G eG => ea_cons ev_c (ea_cons (ev_var rfl) (ea_cons (ev_var rfl) (ea_cons ev_c ea_nil))), fun G eG => by rw [if_pos (by decide), ← i1 ((wws s : Nat) : Int) (fun h => by omega)]; exact .w6 _ _ _ _ (th G (e25.trans eG))⟩
        · exact ⟨_, _, _, _, fun G eG => ea_cons ev_c (ea_cons (ev_var rfl) (ea_cons (ev_var rfl) (ea_cons ev_c ea_nil))), fun G eG => by rw [if_pos (by decide), ← i1 (((wws s : Nat) : Int) + B) (fun h => by omega)]; exact .w6 _ _ _ _ (th G (e25.trans eG))⟩
        · exact ⟨_, _, _, _, fun G eG => ea_cons ev_c (ea_cons (ev_var rfl) (ea_cons (ev_var rfl) (ea_cons ev_c ea_nil))), fun G eG => by rw [if_pos (by decide), ← i1 (0 - B) (fun h => by omega)]; exact .w6 _ _ _ _ (th G (e25.trans eG))⟩
        · exact ⟨_, _, _, _, fun G eG => ea_cons ev_c (ea_cons (ev_var rfl) (ea_cons (ev_var rfl) (ea_cons ev_c ea_nil))), fun G eG => by rw [if_neg (by decide), ← i2 0 (by omega)]; exact .w6 _ _ _ _ (th G (e25.trans eG))⟩
        · exact ⟨_, _, _, _, fun G eG => ea_cons ev_c (ea_cons (ev_var rfl) (ea_cons (ev_var rfl) (ea_cons ev_c ea_nil))), fun G eG => by rw [if_neg (by decide), ← i2 (((wws s : Nat) : Int) - 1) (by omega)]; exact .w6 _ _ _ _ (th G (e25.trans eG))⟩
      have s6 : SeqAt.shaped (.list ((["index", "index", "index", "index", "none", "none"] : List Str).map PyData.str)) = true := by decide +kernel
      refine s_ret (v := .bl true) (ev_is (ev_eqD (d := .list ((["index", "index", "index", "index", "none", "none"] : List Str).map PyData.str)) (e := .list ((["index", "index", "index", "index", "none", "none"] : List Str).map PyData.str)) (ed_of (ev_var rfl) (.lst (sq_of hc3) (dpa_strs ["index", "index", "index", "index", "none", "none"]))) (ed_ofL (xs := (List.replicate (4 : Int).toNat ("index" : Str)).map V.str ++ (List.replicate (2 : Int).toNat ("none" : Str)).map V.str) (el_cat (el_repS (n := 4) ev_c ev_c (by decide) (by decide)) (el_repS (n := 2) ev_c ev_c (by decide) (by decide)) (Nat.le_of_ble_eq_true rfl)) (dpa_strs ["index", "index", "index", "index", "none", "none"])) s6 s6) (by rw [eqv_same s6])) fun H7 e7 => ?_
      exact k _ ((p1.ex (e2.trans (e25.trans (e6.trans e7)))).mono (by omega)) (hm_trans e1 (hm_of (e2.trans (e25.trans (e6.trans e7)))))
end


/-! ### _law_seatings_right -/
section
variable {K : PySem.W.Frag} {σ : L2.St} {H0 H : Hp} {p : Addr} {k : Nat} {ta tm te : TE} {t : TA} {D : Ends} {tz : TS}
theorem pq_hall {i n : Nat} {E1 E2 E3 : XK} (h0 : H0 p = none) (ha : Ev ta σ H0 (.ref p)) (hm : EvP p k tm σ H0 (fun v _ => ∃ m : Nat, v = .int (m : Int) ∧ 1 ≤ m ∧ m ≤ 20)) (e : Ex H0 H) (hp : Po p n H) (hn : n + k + 61 < 1000000000)
    (q : ∀ a h H1, a ≠ p → H a = none → H1 a = some (.lst (nv h)) → Ord h → Po p (n + k + 61) H1 → Ex (Hm p H) H1 → tz D (σ.set i (some (.ref a))) H1) :
    tSeq (tAsg (tCall sp_law_seat [] E1 (tCons (tCall sp_law_rings [] E2 (tCons (tCall sp_law_entries [] E3 (tCons ta (tCons tm tNil))) tNil)) tNil)) (gName i)) tz D σ H :=
  ha H e _ fun H1 e1 => hm n H1 (e.trans e1) (hp.ex e1) (by omega) _ fun v H2 hv p2 e2 => by
    obtain ⟨m, rfl, m1, m20⟩ := hv
    refine ⟨p, n + k, m, rfl, p2, by omega, m20, fun l f H3 hl h3 hlen hx p3 e3 => ⟨l, f, rfl, h3, by omega, hx, fun c bs H4 L e4 => ?_⟩⟩
    have R := ringsTo_ok hx f.length (Nat.le_refl _)
    rw [hlen] at R L
    refine ⟨c, bs.map V.ref, _, m, rfl, L.self, L.lb, R.all, m20, fun a H5 ha4 e5 h5 => ?_⟩
    have p5 := (p3.ex e4).ex e5
    have ap := (p3.ex e4).ne ha4
    have e05 : Ex (Hm p H) H5 := hm_trans (hm_trans (hm_of e1) e2) (hm_trans e3 (hm_of (e4.trans e5)))
    have hn0 : H a = none := by
      have z := fresh_back (hm_trans (hm_trans (hm_of e1) e2) (hm_trans e3 (hm_of e4))) ha4
      unfold Hm at z
      rw [if_neg ap] at z
      exact z
    exact q a _ H5 ap hn0 h5 (seat_ord R.all R.ne m1 m20) (p5.mono (by omega)) e05
end
theorem canLay_w : ∀ l : List Str, (∀ x ∈ l, PyData.canLay0 (.str x) = true) → PyData.canLayAll0 (l.map PyData.str) = true
  | [], _ => rfl
  | x :: r, h => by
    have a := h x List.mem_cons_self
    have b := canLay_w r fun y hy => h y (List.mem_cons_of_mem _ hy)
    simp [PyData.canLayAll0, a, b]
theorem depth_w : ∀ l : List Str, PyData.depthAll (l.map PyData.str) = 0
  | [] => rfl
  | x :: r => by simp [PyData.depthAll, PyData.depth, depth_w r]
theorem shaped_words {l : List Str} (h : ∀ x ∈ l, PyData.canLay0 (.str x) = true) : SeqAt.shaped (.list (l.map PyData.str)) = true := by
  simp [SeqAt.shaped, PyData.canLay0, canLay_w l h, PyData.depth, depth_w]
def sp_law_seatings_right : Sp := fun vs H Q _ => ∃ (p : Addr) (n : Nat), vs = [.ref p] ∧ Po p n H ∧ n + 100 < 1000000000 ∧ ∀ H', Po p (n + 100) H' → Ex (Hm p H) H' → Q (.bl true) H'
section
variable {P : Program} {w : World} {K : PySem.W.Frag} {mg : Str → Option Value} {base : Heap}
theorem ok_law_seatings_right (T : Tx K mg) : FnOk P w K mg base CX0 9 T.f_law_seatings_right T.d_law_seatings_right ["pouch"] sp_law_seatings_right := by
  refine T.F_law_seatings_right.ok sc_law_seatings_right (fun vs H Q E h => ?_) (fun cdv A outer s H vs Q E hr h => ?_)
  · obtain ⟨p, n, rfl, _⟩ := h
    rfl
  · obtain ⟨p, n, rfl, hpo, hn, k⟩ := h
    refine ⟨_, (pss_cons (ps_set (i := 1) sc_law_seatings_right.nd rfl (Or.inl rfl) (pe_call (ok_law_seat T) (hr.mono (by decide)) (by rfl) T.g_law_seat T.F_law_seat.kp T.b_law_seat .nil pass0 (pa_cons (pe_call (ok_law_rings T) (hr.mono (by decide)) (by rfl) T.g_law_rings T.F_law_rings.kp T.b_law_rings .nil pass0 (pa_cons (pe_call (ok_law_entries T) (hr.mono (by decide)) (by rfl) T.g_law_entries T.F_law_entries.kp T.b_law_entries .nil pass0 (pa_cons (pv 0) (pa_cons (pe_op op_add pe_int (pe_call (ok_law_dip T) (hr.mono (by decide)) (by rfl) T.g_law_dip T.F_law_dip.kp T.b_law_dip .nil pass0 (pa_cons (pv 0) (pa_cons pe_int pa_nil)))) pa_nil))) pa_nil)) pa_nil)))
      (pss_cons (ps_set (i := 2) sc_law_seatings_right.nd rfl (Or.inl rfl) (pe_callTy call_listR (by rfl) T.m_list (by decide +kernel) (pa_cons (pv 1) pa_nil)))
      (pss_cons (ps_set (i := 3) sc_law_seatings_right.nd rfl (Or.inl rfl) (pe_call (ok_law_things T) (hr.mono (by decide)) (by rfl) T.g_law_things T.F_law_things.kp T.b_law_things .nil pass0 (pa_cons (pv 0) (pa_cons (pv 1) pa_nil))))
      (pss_cons (ps_setLc (i := 5) (own := [("item", 4)]) (g := (gName 4)) (tt := tYes) rfl sc_law_seatings_right.nd rfl rfl (sw_true rfl rfl rfl (by decide +kernel)) (pi_list (pv 3)) (blkOk_by (own := [("item", 4)]) (N := n_law_seatings_right) (sc := defScope s_law_seatings_right) (by decide +kernel)) (fun _ _ _ _ _ => (pg_name (i := 4) sc_law_seatings_right.nd rfl (Or.inl rfl))) (fun _ _ _ _ _ => pts_nil) (fun _ _ _ _ _ => (pe_call (ok_law_told T) (hr.mono (by decide)) (by rfl) T.g_law_told T.F_law_told.kp T.b_law_told .nil pass0 (pa_cons pe_int (pa_cons (pv 4) (pa_cons pe_int (pa_cons pe_int pa_nil)))))))
      (pss_one (ps_ret (pe_and (pe_cmpR (op_eqD hr.units) (pv 5) (pe_lc (own := [("item", 4)]) (g := (gName 4)) (tt := tYes) rfl sc_law_seatings_right.nd (pi_list (pv 3)) (blkOk_by (own := [("item", 4)]) (N := n_law_seatings_right) (sc := defScope s_law_seatings_right) (by decide +kernel)) (fun _ _ _ _ _ => (pg_name (i := 4) sc_law_seatings_right.nd rfl (Or.inl rfl))) (fun _ _ _ _ _ => pts_nil) (fun _ _ _ _ _ => (pe_ifExp (pt_val (pe_call (ok_law_is_row T) (hr.mono (by decide)) (by rfl) T.g_law_is_row T.F_law_is_row.kp T.b_law_is_row .nil pass0 (pa_cons (pv 4) pa_nil))) pe_str pe_str))) (nomark _)) (pe_one (pe_cmpR (op_eqD hr.units) (pv 1) (pv 2) (nomark _)))))))))), ?_⟩
    refine pq_hall (p := p) (k := 0 + 1) (H0 := Hm p H) hm_p (ev_var rfl) (ep_is (ep_add (C := fun r => 0 ≤ r ∧ r < 20) hm_p ev_c (ep_dipI (w := 20) hm_p (ev_var rfl) ev_c (by decide) (by decide))) fun v H ⟨r, e, r0, r1⟩ => ⟨(1 + r).toNat, by rw [e]; exact congrArg V.int (by omega), by omega, by omega⟩) hm_sub hpo (by omega) fun a h H1 ap na ha oh p1 e1 => ?_
    refine q_asgL (el_list (K := K) (ev_var rfl) (sq_of ha)) fun b H2 nb e2 hb => ?_
    have ha2 := e2 a _ ha
    have bp := p1.ne nb
    have p2 := p1.ex e2
    have o2 := oh.2
    refine q_asgCall (vs := [.ref p, .ref a]) (by walk_at "ea") fun H3 e3 => ?_
    refine ⟨p, a, n + (0 + 1) + 61, h, rfl, p2.ex e3, by omega, ap, e3 a _ ha2, oh.2, fun l ws H4 nl hl wl hw p4 e4 => ?_⟩
    have lp := (p2.ex e3).ne nl
    have ha4 := hm_at e4 ap (e3 a _ ha2)
    have hb4 := hm_at e4 bp (e3 b _ hb)
    have e04 : Ex (Hm p H) H4 := hm_trans e1 (hm_trans (hm_of (e2.trans e3)) e4)
    have ch : ∀ i : Nat, ∃ o : Option (List PyData), ∀ v : V, ws[i]? = some v → Th K H4 v o := fun i => by
      cases hi : ws[i]? with
      | none => exact ⟨none, fun v h => by cases h⟩
      | some x =>
        obtain ⟨o, ho⟩ := hw x (List.mem_of_getElem? hi)
        exact ⟨o, fun v h => by cases h; exact ho.ex hm_sub⟩
    obtain ⟨os, hos⟩ := Classical.axiomOfChoice ch
    have wd : ∀ i, wordO (dIW (os i)) = if judge (os i) then "none" else "seating" := fun i => by
      unfold dIW
      split <;> rfl
    have sh : SeqAt.shaped (.list (((List.range ws.length).map fun i => wordO (dIW (os i))).map PyData.str)) = true := shaped_words fun x hx => by
      obtain ⟨i, _, rfl⟩ := List.mem_map.mp hx
      rw [wd]
      split <;> decide +kernel
    have eV : ((List.range ws.length).map fun i => V.str (wordO (dIW (os i)))) = ((List.range ws.length).map fun i => wordO (dIW (os i))).map V.str := by
      rw [List.map_map]
      rfl
    refine q_asgL (xs := ((List.range ws.length).map fun i => wordO (dIW (os i))).map V.str) ?_ fun c H5 nc e5 hc => ?_
    · rw [← eV]
      refine el_mapI (K := K) _ (ev_var rfl) (sq_of hl) (by omega) (fun _ => rfl) fun i x G eG hx => ?_
      exact ev_call (ea_cons ev_c (ea_cons (ev_var rfl) (ea_cons ev_c (ea_cons ev_c ea_nil)))) (sv_told fun G2 eG2 => .w14 _ _ _ (os i) ((hos i x hx).ex (eG.trans eG2)))
    have shh := shaped_ints (iz h)
    refine s_ret (v := .bl true) (ev_is (ev_andV (a := true) (b := true) (ev_is (ev_eqD (d := .list (((List.range ws.length).map fun i => wordO (dIW (os i))).map PyData.str)) (e := .list (((List.range ws.length).map fun i => wordO (dIW (os i))).map PyData.str)) (ed_of (ev_var rfl) (.lst (sq_of hc) (dpa_strs _))) (ed_ofL (xs := ((List.range ws.length).map fun i => wordO (dIW (os i))).map V.str) ?_ (dpa_strs _)) sh sh) (by rw [eqv_same sh])) fun _ => ev_is (ev_eqD (d := .list ((iz h).map PyData.int)) (e := .list ((iz h).map PyData.int)) (ed_of (ev_var rfl) (.lst (sq_of (e5 a _ ha4)) (dpa_ints _))) (ed_of (ev_var rfl) (.lst (sq_of (e5 b _ hb4)) (dpa_ints _))) shh shh) (by rw [eqv_same shh])) rfl) fun H6 e6 => ?_
    · rw [← eV]
      refine el_mapI (K := K) _ (ev_var rfl) (sq_of (e5 l _ hl)) (by omega) (fun _ => rfl) fun i x G eG hx => ?_
      have ho := (hos i x hx).ex (e5.trans eG)
      exact ev_if (b := judge (os i)) (et_B (ev_call (ea_cons (ev_var rfl) ea_nil) (fun G3 eG3 Q q E => ⟨x, os i, rfl, ho.ex eG3, q⟩))) (fun hb => ev_is ev_c (by rw [wd, if_pos hb])) (fun hb => ev_is ev_c (by rw [wd, if_neg (by rw [hb]; exact Bool.false_ne_true)]))
    · exact k _ ((p4.ex (e5.trans e6)).mono (by omega)) (hm_trans e04 (hm_of (e5.trans e6)))
end


/-! ### the law -/
section
variable {K : PySem.W.Frag} {σ : L2.St} {H : Hp} {ta : TE} {p : Addr}
theorem ep_l1 {E : XK} (ha : Ev ta σ H (.ref p)) : EvP p 101 (tCall sp_law_lists_right [] E (tCons ta tNil)) σ H (fun v _ => v = .bl true) := fun n H1 e hp hn Q q =>
  ha H1 e _ fun H2 e2 => ⟨p, n, rfl, hp.ex e2, by omega, fun H3 p3 e3 => q _ H3 rfl (p3.mono (by omega)) (hm_trans (hm_of e2) e3)⟩
theorem ep_l2 {E : XK} (ha : Ev ta σ H (.ref p)) : EvP p 101 (tCall sp_law_wrong_right [] E (tCons ta tNil)) σ H (fun v _ => v = .bl true) := fun n H1 e hp hn Q q =>
  ha H1 e _ fun H2 e2 => ⟨p, n, rfl, hp.ex e2, by omega, fun H3 p3 e3 => q _ H3 rfl (p3.mono (by omega)) (hm_trans (hm_of e2) e3)⟩
theorem ep_l3 {E : XK} (ha : Ev ta σ H (.ref p)) : EvP p 101 (tCall sp_law_seatings_right [] E (tCons ta tNil)) σ H (fun v _ => v = .bl true) := fun n H1 e hp hn Q q =>
  ha H1 e _ fun H2 e2 => ⟨p, n, rfl, hp.ex e2, by omega, fun H3 p3 e3 => q _ H3 rfl (p3.mono (by omega)) (hm_trans (hm_of e2) e3)⟩
end
theorem max_min3 {m : Int} (h0 : 0 ≤ m) : 0 ≤ (if (if m < 3 then m else 3) > 1 then (if m < 3 then m else 3) else 1) ∧ (if (if m < 3 then m else 3) > 1 then (if m < 3 then m else 3) else 1) ≤ (3 : Int) := by
  split <;> split <;> omega
theorem v12a : dFA 3 1 (some ((iz [2]).map PyData.int)) = some 7 := by decide +kernel
theorem v12b : dFA 20 1000000000000 (some ((iz [3]).map PyData.int)) = some 7 := by decide +kernel
theorem v12c : dFA 1 1 (some ((iz [2, 20]).map PyData.int)) = some 7 := by decide +kernel
theorem v11 : dAS 3 1 (some ((iz [2]).map PyData.int)) = none := by decide +kernel
theorem v13 : dNA 3 (some ((iz [2]).map PyData.int)) 0 = some 6 := by decide +kernel
def sp_law (K : PySem.W.Frag) : Sp := fun vs H Q _ => ∃ (a : Addr) (ns : List Int), vs = [.ref a] ∧ SqL K H a (ns.map V.int) ∧ ns.length ≤ 63 ∧ ∀ H', Q (.bl true) H'
section
variable {P : Program} {w : World} {K : PySem.W.Frag} {mg : Str → Option Value} {base : Heap}
theorem ok_law (T : Tx K mg) : FnOk P w K mg base CX0 10 T.f_law T.d_law ["script"] (sp_law K) := by
  refine T.F_law.ok sc_law (fun vs H Q E h => ?_) (fun cdv A outer s H vs Q E hr h => ?_)
  · obtain ⟨a, ns, rfl, _⟩ := h
    rfl
  · obtain ⟨a, ns, rfl, hs, hl, k⟩ := h
    refine ⟨_, (pss_cons (ps_for PassesOwn.never rfl (pi_range1 (by rfl) T.m_range (pa_cons (pe_callB (call_maxR rfl) (by rfl) T.m_max (by decide +kernel) (pa_cons pe_int (pa_cons (pe_callB (call_minR rfl) (by rfl) T.m_min (by decide +kernel) (pa_cons pe_int (pa_cons (pe_callB call_lenR (by rfl) T.m_len (by decide +kernel) (pa_cons (pv 0) pa_nil)) pa_nil))) pa_nil))) pa_nil)) (pg_name (i := 1) sc_law.nd rfl (Or.inl rfl)) (pss_cons (ps_set (i := 2) sc_law.nd rfl (Or.inl rfl) (pe_call (ok_law_pouch T) (hr.mono (by decide)) (by rfl) T.g_law_pouch T.F_law_pouch.kp T.b_law_pouch .nil pass0 (pa_cons (pv 0) (pa_cons (pv 1) pa_nil))))
      (pss_one (ps_if (PW.pt (pw_or (pt_not (pt_val (pe_call (ok_law_lists_right T) (hr.mono (by decide)) (by rfl) T.g_law_lists_right T.F_law_lists_right.kp T.b_law_lists_right .nil pass0 (pa_cons (pv 2) pa_nil)))) (pw_or (pt_not (pt_val (pe_call (ok_law_wrong_right T) (hr.mono (by decide)) (by rfl) T.g_law_wrong_right T.F_law_wrong_right.kp T.b_law_wrong_right .nil pass0 (pa_cons (pv 2) pa_nil)))) (pw_or1 (pt_not (pt_val (pe_call (ok_law_seatings_right T) (hr.mono (by decide)) (by rfl) T.g_law_seatings_right T.F_law_seatings_right.kp T.b_law_seatings_right .nil pass0 (pa_cons (pv 2) pa_nil)))))))) (pss_one (ps_ret pe_bl)) pss_nil))))
      (pss_cons (ps_set (i := 3) sc_law.nd rfl (Or.inl rfl) (pe_lst (pa_cons (pe_call (ok_law_told T) (hr.mono (by decide)) (by rfl) T.g_law_told T.F_law_told.kp T.b_law_told .nil pass0 (pa_cons pe_int (pa_cons pe_int (pa_cons pe_int (pa_cons (pe_lst (pa_cons pe_int pa_nil)) pa_nil))))) (pa_cons (pe_call (ok_law_told T) (hr.mono (by decide)) (by rfl) T.g_law_told T.F_law_told.kp T.b_law_told .nil pass0 (pa_cons pe_int (pa_cons pe_int (pa_cons (pe_op op_powX pe_int pe_int) (pa_cons (pe_lst (pa_cons pe_int pa_nil)) pa_nil))))) (pa_cons (pe_call (ok_law_told T) (hr.mono (by decide)) (by rfl) T.g_law_told T.F_law_told.kp T.b_law_told .nil pass0 (pa_cons pe_int (pa_cons pe_int (pa_cons pe_int (pa_cons (pe_lst (pa_cons pe_int (pa_cons pe_int pa_nil))) pa_nil))))) pa_nil)))))
      (pss_cons (ps_if (pt_cmpR (op_neD hr.units) (pv 3) (pe_op op_rep (pe_lst (pa_cons pe_str pa_nil)) pe_int) (nomark _)) (pss_one (ps_ret pe_bl)) pss_nil)
      (pss_one (ps_ret (pe_cmpR (op_eqD hr.units) (pe_lst (pa_cons (pe_call (ok_law_told T) (hr.mono (by decide)) (by rfl) T.g_law_told T.F_law_told.kp T.b_law_told .nil pass0 (pa_cons pe_int (pa_cons pe_int (pa_cons pe_int (pa_cons (pe_lst (pa_cons pe_int pa_nil)) pa_nil))))) (pa_cons (pe_call (ok_law_told T) (hr.mono (by decide)) (by rfl) T.g_law_told T.F_law_told.kp T.b_law_told .nil pass0 (pa_cons pe_int (pa_cons pe_int (pa_cons (pe_lst (pa_cons pe_int pa_nil)) (pa_cons pe_int pa_nil))))) pa_nil))) (pe_lst (pa_cons pe_str (pa_cons pe_str pa_nil))) (nomark _))))))), ?_⟩
    have mm := max_min3 (m := ((ns.map V.int).length : Int)) (by omega)
    refine q_forR1 (by walk_at "ea") ⟨mm.1, Int.le_trans mm.2 (by decide)⟩ (fun i σ' H' => ∃ y1 y2 : Option V, σ' = [some (.ref a), y1, y2, none] ∧ Ex H H') (fun H1 e1 => ⟨none, none, rfl, e1⟩) ?_ ?_
    · rintro i σ' H' hi ⟨y1, y2, rfl, e⟩
      have hi3 : (i : Int) < 3 := Int.lt_of_lt_of_le hi mm.2
      refine pq_pouch (by walk_at "ea") (ex_l e hs) (by omega) fun p H1 hp e1 hpo => ?_
      refine ps_no (p := p) (k := 101 + (101 + 101)) (H0 := H') (tp_or hp (tp_is (b := !true) (tp_not (tp_B (ep_l1 (ev_var rfl)))) rfl) (tp_or hp (tp_is (b := !true) (tp_not (tp_B (ep_l2 (ev_var rfl)))) rfl) (tp_is (b := !true) (tp_not (tp_B (ep_l3 (ev_var rfl)))) rfl))) e1 hpo (by decide) fun H3 p3 e3 => ?_
      exact ⟨_, _, rfl, e.trans (hm_next hp e1 e3)⟩
    · rintro σ' H' ⟨y1, y2, rfl, e⟩
      have mid : ∀ (σ : L2.St) (H1 : Hp), Ev (tOp (rI CPowX fun i j => .int (i ^ j.toNat)) (tC (.int 10)) (tC (.int 12))) σ H1 (.int 1000000000000) := fun σ H1 => ev_op ev_c ev_c (rv_I (by constructor <;> decide +kernel))
      refine q_asgL (xs := (["none of them", "none of them", "none of them"] : List Str).map V.str) (el_lst (ea_cons (ev_told3L (al := [2]) (d := some 7) ev_c ev_c ev_c (el_lst (ea_cons ev_c ea_nil) (Nat.le_of_ble_eq_true rfl)) (fun G l hl => by rw [← v12a]; exact .w12 _ _ _ _ (thS_nv hl (by decide)) (by rw [v12a]; exact fun z => nomatch z)) rfl)
        (ea_cons (ev_told3L (al := [3]) (d := some 7) ev_c ev_c (mid _ _) (el_lst (ea_cons ev_c ea_nil) (Nat.le_of_ble_eq_true rfl)) (fun G l hl => by rw [← v12b]; exact .w12 _ _ _ _ (thS_nv hl (by decide)) (by rw [v12b]; exact fun z => nomatch z)) rfl)
        (ea_cons (ev_told3L (al := [2, 20]) (d := some 7) ev_c ev_c ev_c (el_lst (ea_cons ev_c (ea_cons ev_c ea_nil)) (Nat.le_of_ble_eq_true rfl)) (fun G l hl => by rw [← v12c]; exact .w12 _ _ _ _ (thS_nv hl (by decide)) (by rw [v12c]; exact fun z => nomatch z)) rfl) ea_nil))) (Nat.le_of_ble_eq_true rfl)) fun b H1 nb e1 h1 => ?_
      have s3 : SeqAt.shaped (.list ((List.replicate 3 ("none of them" : Str)).map PyData.str)) = true := by decide +kernel
      have s2 : SeqAt.shaped (.list ((["none", "index"] : List Str).map PyData.str)) = true := by decide +kernel
      refine q_when (b := false) (et_is (et_test (ev_neD (d := .list ((List.replicate 3 ("none of them" : Str)).map PyData.str)) (e := .list ((List.replicate 3 ("none of them" : Str)).map PyData.str)) (ed_of (ev_var rfl) (.lst (sq_of h1) (dpa_strs ["none of them", "none of them", "none of them"]))) (ed_repS (n := 3) ev_c ev_c (by decide) (by decide)) s3 s3)) (by rw [eqv_same s3]; rfl)) (fun hb => Bool.noConfusion hb) fun _ H2 e2 => ?_
      refine s_ret (v := .bl true) (ev_is (ev_eqD (d := .list ((["none", "index"] : List Str).map PyData.str)) (e := .list ((["none", "index"] : List Str).map PyData.str)) (ed_ofL (xs := (["none", "index"] : List Str).map V.str) (el_lst (ea_cons (ev_told3L (al := [2]) (d := none) ev_c ev_c ev_c (el_lst (ea_cons ev_c ea_nil) (Nat.le_of_ble_eq_true rfl)) (fun G l hl => by rw [← v11]; exact .w11 _ _ _ _ (thS_nv hl (by decide))) rfl)
        (ea_cons (ev_told2L (al := [2]) (d := some 6) ev_c ev_c (el_lst (ea_cons ev_c ea_nil) (Nat.le_of_ble_eq_true rfl)) ev_c (fun G l hl => by rw [← v13]; exact .w13 _ _ _ _ (thS_nv hl (by decide)) (by rw [v13]; exact fun z => nomatch z)) rfl) ea_nil)) (Nat.le_of_ble_eq_true rfl)) (dpa_strs ["none", "index"])) (ed_ofL (xs := (["none", "index"] : List Str).map V.str) (el_lst (ea_cons ev_c (ea_cons ev_c ea_nil)) (Nat.le_of_ble_eq_true rfl)) (dpa_strs ["none", "index"])) s2 s2) (by rw [eqv_same s2])) fun H3 e3 => k H3
end


theorem all_mk {l : PySem.W.OpenLaw} {w : World} {K : PySem.W.Frag} {h : Heap} {mg : Str → Option Value} {fa : Addr} (X : K.In h) (G : h.Ns mainGlobals mg) (hfa : mg "law" = some (.ref fa))
    {f1 : Addr} {od1 an1 : Option Addr} {sl1 : Array (Option Value)} {oc1 kV1 dc1 pm1 cd1 ct1 : Value}
    {f2 : Addr} {od2 an2 : Option Addr} {sl2 : Array (Option Value)} {oc2 kV2 dc2 pm2 cd2 ct2 : Value}
    {f3 : Addr} {od3 an3 : Option Addr} {sl3 : Array (Option Value)} {oc3 kV3 dc3 pm3 cd3 ct3 : Value}
    {f4 : Addr} {od4 an4 : Option Addr} {sl4 : Array (Option Value)} {oc4 kV4 dc4 pm4 cd4 ct4 : Value}
    {f5 : Addr} {od5 an5 : Option Addr} {sl5 : Array (Option Value)} {oc5 kV5 dc5 pm5 cd5 ct5 : Value}
    {f6 : Addr} {od6 an6 : Option Addr} {sl6 : Array (Option Value)} {oc6 kV6 dc6 pm6 cd6 ct6 : Value}
    {f7 : Addr} {od7 an7 : Option Addr} {sl7 : Array (Option Value)} {oc7 kV7 dc7 pm7 cd7 ct7 : Value}
    {f8 : Addr} {od8 an8 : Option Addr} {sl8 : Array (Option Value)} {oc8 kV8 dc8 pm8 cd8 ct8 : Value}
    {f9 : Addr} {od9 an9 : Option Addr} {sl9 : Array (Option Value)} {oc9 kV9 dc9 pm9 cd9 ct9 : Value}
    {f10 : Addr} {od10 an10 : Option Addr} {sl10 : Array (Option Value)} {oc10 kV10 dc10 pm10 cd10 ct10 : Value}
    {f11 : Addr} {od11 an11 : Option Addr} {sl11 : Array (Option Value)} {oc11 kV11 dc11 pm11 cd11 ct11 : Value}
    {f12 : Addr} {od12 an12 : Option Addr} {sl12 : Array (Option Value)} {oc12 kV12 dc12 pm12 cd12 ct12 : Value}
    {f13 : Addr} {od13 an13 : Option Addr} {sl13 : Array (Option Value)} {oc13 kV13 dc13 pm13 cd13 ct13 : Value}
    {f14 : Addr} {od14 an14 : Option Addr} {sl14 : Array (Option Value)} {oc14 kV14 dc14 pm14 cd14 ct14 : Value}
    {f15 : Addr} {od15 an15 : Option Addr} {sl15 : Array (Option Value)} {oc15 kV15 dc15 pm15 cd15 ct15 : Value}
    {f16 : Addr} {od16 an16 : Option Addr} {sl16 : Array (Option Value)} {oc16 kV16 dc16 pm16 cd16 ct16 : Value}
    {f17 : Addr} {od17 an17 : Option Addr} {sl17 : Array (Option Value)} {oc17 kV17 dc17 pm17 cd17 ct17 : Value}
    {f18 : Addr} {od18 an18 : Option Addr} {sl18 : Array (Option Value)} {oc18 kV18 dc18 pm18 cd18 ct18 : Value}
    {f19 : Addr} {od19 an19 : Option Addr} {sl19 : Array (Option Value)} {oc19 kV19 dc19 pm19 cd19 ct19 : Value}
    {f20 : Addr} {od20 an20 : Option Addr} {sl20 : Array (Option Value)} {oc20 kV20 dc20 pm20 cd20 ct20 : Value}
    {f21 : Addr} {od21 an21 : Option Addr} {sl21 : Array (Option Value)} {oc21 kV21 dc21 pm21 cd21 ct21 : Value}
    {f22 : Addr} {od22 an22 : Option Addr} {sl22 : Array (Option Value)} {oc22 kV22 dc22 pm22 cd22 ct22 : Value}
    {f23 : Addr} {od23 an23 : Option Addr} {sl23 : Array (Option Value)} {oc23 kV23 dc23 pm23 cd23 ct23 : Value}
    {f24 : Addr} {od24 an24 : Option Addr} {sl24 : Array (Option Value)} {oc24 kV24 dc24 pm24 cd24 ct24 : Value}
    {f25 : Addr} {od25 an25 : Option Addr} {sl25 : Array (Option Value)} {oc25 kV25 dc25 pm25 cd25 ct25 : Value}
    {f26 : Addr} {od26 an26 : Option Addr} {sl26 : Array (Option Value)} {oc26 kV26 dc26 pm26 cd26 ct26 : Value}
    {f27 : Addr} {od27 an27 : Option Addr} {sl27 : Array (Option Value)} {oc27 kV27 dc27 pm27 cd27 ct27 : Value}
    {f28 : Addr} {od28 an28 : Option Addr} {sl28 : Array (Option Value)} {oc28 kV28 dc28 pm28 cd28 ct28 : Value}
    {f29 : Addr} {od29 an29 : Option Addr} {sl29 : Array (Option Value)} {oc29 kV29 dc29 pm29 cd29 ct29 : Value}
    {f30 : Addr} {od30 an30 : Option Addr} {sl30 : Array (Option Value)} {oc30 kV30 dc30 pm30 cd30 ct30 : Value}
    {f31 : Addr} {od31 an31 : Option Addr} {sl31 : Array (Option Value)} {oc31 kV31 dc31 pm31 cd31 ct31 : Value}
    {f32 : Addr} {od32 an32 : Option Addr} {sl32 : Array (Option Value)} {oc32 kV32 dc32 pm32 cd32 ct32 : Value}
    {f33 : Addr} {od33 an33 : Option Addr} {sl33 : Array (Option Value)} {oc33 kV33 dc33 pm33 cd33 ct33 : Value}
    {f34 : Addr} {od34 an34 : Option Addr} {sl34 : Array (Option Value)} {oc34 kV34 dc34 pm34 cd34 ct34 : Value}
    {f35 : Addr} {od35 an35 : Option Addr} {sl35 : Array (Option Value)} {oc35 kV35 dc35 pm35 cd35 ct35 : Value}
    {f36 : Addr} {od36 an36 : Option Addr} {sl36 : Array (Option Value)} {oc36 kV36 dc36 pm36 cd36 ct36 : Value}
    {f37 : Addr} {od37 an37 : Option Addr} {sl37 : Array (Option Value)} {oc37 kV37 dc37 pm37 cd37 ct37 : Value}
    {f38 : Addr} {od38 an38 : Option Addr} {sl38 : Array (Option Value)} {oc38 kV38 dc38 pm38 cd38 ct38 : Value}
    {f39 : Addr} {od39 an39 : Option Addr} {sl39 : Array (Option Value)} {oc39 kV39 dc39 pm39 cd39 ct39 : Value}
    {f40 : Addr} {od40 an40 : Option Addr} {sl40 : Array (Option Value)} {oc40 kV40 dc40 pm40 cd40 ct40 : Value}
    {f41 : Addr} {od41 an41 : Option Addr} {sl41 : Array (Option Value)} {oc41 kV41 dc41 pm41 cd41 ct41 : Value}
    {f42 : Addr} {od42 an42 : Option Addr} {sl42 : Array (Option Value)} {oc42 kV42 dc42 pm42 cd42 ct42 : Value}
    {f43 : Addr} {od43 an43 : Option Addr} {sl43 : Array (Option Value)} {oc43 kV43 dc43 pm43 cd43 ct43 : Value}
    {f44 : Addr} {od44 an44 : Option Addr} {sl44 : Array (Option Value)} {oc44 kV44 dc44 pm44 cd44 ct44 : Value}
    {f45 : Addr} {od45 an45 : Option Addr} {sl45 : Array (Option Value)} {oc45 kV45 dc45 pm45 cd45 ct45 : Value}
    {f46 : Addr} {od46 an46 : Option Addr} {sl46 : Array (Option Value)} {oc46 kV46 dc46 pm46 cd46 ct46 : Value}
    {f47 : Addr} {od47 an47 : Option Addr} {sl47 : Array (Option Value)} {oc47 kV47 dc47 pm47 cd47 ct47 : Value}
    {f48 : Addr} {od48 an48 : Option Addr} {sl48 : Array (Option Value)} {oc48 kV48 dc48 pm48 cd48 ct48 : Value}
    {f49 : Addr} {od49 an49 : Option Addr} {sl49 : Array (Option Value)} {oc49 kV49 dc49 pm49 cd49 ct49 : Value}
    {f50 : Addr} {od50 an50 : Option Addr} {sl50 : Array (Option Value)} {oc50 kV50 dc50 pm50 cd50 ct50 : Value}
    {f51 : Addr} {od51 an51 : Option Addr} {sl51 : Array (Option Value)} {oc51 kV51 dc51 pm51 cd51 ct51 : Value}
    {f52 : Addr} {od52 an52 : Option Addr} {sl52 : Array (Option Value)} {oc52 kV52 dc52 pm52 cd52 ct52 : Value}
    {f53 : Addr} {od53 an53 : Option Addr} {sl53 : Array (Option Value)} {oc53 kV53 dc53 pm53 cd53 ct53 : Value}
    {f54 : Addr} {od54 an54 : Option Addr} {sl54 : Array (Option Value)} {oc54 kV54 dc54 pm54 cd54 ct54 : Value}
    {f55 : Addr} {od55 an55 : Option Addr} {sl55 : Array (Option Value)} {oc55 kV55 dc55 pm55 cd55 ct55 : Value}
    {f56 : Addr} {od56 an56 : Option Addr} {sl56 : Array (Option Value)} {oc56 kV56 dc56 pm56 cd56 ct56 : Value}
    {f57 : Addr} {od57 an57 : Option Addr} {sl57 : Array (Option Value)} {oc57 kV57 dc57 pm57 cd57 ct57 : Value}
    {f58 : Addr} {od58 an58 : Option Addr} {sl58 : Array (Option Value)} {oc58 kV58 dc58 pm58 cd58 ct58 : Value}
    {f59 : Addr} {od59 an59 : Option Addr} {sl59 : Array (Option Value)} {oc59 kV59 dc59 pm59 cd59 ct59 : Value}
    {f60 : Addr} {od60 an60 : Option Addr} {sl60 : Array (Option Value)} {oc60 kV60 dc60 pm60 cd60 ct60 : Value}
    {f61 : Addr} {od61 an61 : Option Addr} {sl61 : Array (Option Value)} {oc61 kV61 dc61 pm61 cd61 ct61 : Value}
    {f62 : Addr} {od62 an62 : Option Addr} {sl62 : Array (Option Value)} {oc62 kV62 dc62 pm62 cd62 ct62 : Value}
    {f63 : Addr} {od63 an63 : Option Addr} {sl63 : Array (Option Value)} {oc63 kV63 dc63 pm63 cd63 ct63 : Value}
    {f64 : Addr} {od64 an64 : Option Addr} {sl64 : Array (Option Value)} {oc64 kV64 dc64 pm64 cd64 ct64 : Value}
    {f65 : Addr} {od65 an65 : Option Addr} {sl65 : Array (Option Value)} {oc65 kV65 dc65 pm65 cd65 ct65 : Value}
    {f66 : Addr} {od66 an66 : Option Addr} {sl66 : Array (Option Value)} {oc66 kV66 dc66 pm66 cd66 ct66 : Value}
    {c_HallError : Addr}
    {c_InvalidSeating : Addr}
    {c_InvalidSizes : Addr}
    {c_InvalidWeight : Addr}
    {c_InvalidGuests : Addr}
    {c_InvalidGuest : Addr}
    {c_InvalidNumber : Addr}
    {c_InvalidIndex : Addr}
    {c_NoSeating : Addr}
    {t_MOST_GUESTS : Tok}
    {t_MOST_WEIGHT : Tok}
    (a1 : PySem.W.nsIn K mainGlobals "is_whole" = some (some (.ref f1))) (l1 : K.lookup f1 = some ⟨oc1, od1, .func (PySem.W.fnOf "is_whole" "is_whole" (defArgs s_is_whole) (defBody s_is_whole) (defScope s_is_whole) .none kV1 dc1 pm1 an1 cd1 ct1), sl1⟩) (c1 : PySem.W.codeIn K cd1 "is_whole" = true) (k1 : PySem.W.keepIn K (.ref f1) = true)
    (a2 : PySem.W.nsIn K mainGlobals "is_within" = some (some (.ref f2))) (l2 : K.lookup f2 = some ⟨oc2, od2, .func (PySem.W.fnOf "is_within" "is_within" (defArgs s_is_within) (defBody s_is_within) (defScope s_is_within) .none kV2 dc2 pm2 an2 cd2 ct2), sl2⟩) (c2 : PySem.W.codeIn K cd2 "is_within" = true) (k2 : PySem.W.keepIn K (.ref f2) = true)
    (a3 : PySem.W.nsIn K mainGlobals "is_order" = some (some (.ref f3))) (l3 : K.lookup f3 = some ⟨oc3, od3, .func (PySem.W.fnOf "is_order" "is_order" (defArgs s_is_order) (defBody s_is_order) (defScope s_is_order) .none kV3 dc3 pm3 an3 cd3 ct3), sl3⟩) (c3 : PySem.W.codeIn K cd3 "is_order" = true) (k3 : PySem.W.keepIn K (.ref f3) = true)
    (a4 : PySem.W.nsIn K mainGlobals "is_ascending" = some (some (.ref f4))) (l4 : K.lookup f4 = some ⟨oc4, od4, .func (PySem.W.fnOf "is_ascending" "is_ascending" (defArgs s_is_ascending) (defBody s_is_ascending) (defScope s_is_ascending) .none kV4 dc4 pm4 an4 cd4 ct4), sl4⟩) (c4 : PySem.W.codeIn K cd4 "is_ascending" = true) (k4 : PySem.W.keepIn K (.ref f4) = true)
    (a5 : PySem.W.nsIn K mainGlobals "check_guests" = some (some (.ref f5))) (l5 : K.lookup f5 = some ⟨oc5, od5, .func (PySem.W.fnOf "check_guests" "check_guests" (defArgs s_check_guests) (defBody s_check_guests) (defScope s_check_guests) .none kV5 dc5 pm5 an5 cd5 ct5), sl5⟩) (c5 : PySem.W.codeIn K cd5 "check_guests" = true) (k5 : PySem.W.keepIn K (.ref f5) = true)
    (a6 : PySem.W.nsIn K mainGlobals "check_weight" = some (some (.ref f6))) (l6 : K.lookup f6 = some ⟨oc6, od6, .func (PySem.W.fnOf "check_weight" "check_weight" (defArgs s_check_weight) (defBody s_check_weight) (defScope s_check_weight) .none kV6 dc6 pm6 an6 cd6 ct6), sl6⟩) (c6 : PySem.W.codeIn K cd6 "check_weight" = true) (k6 : PySem.W.keepIn K (.ref f6) = true)
    (a7 : PySem.W.nsIn K mainGlobals "check_guest" = some (some (.ref f7))) (l7 : K.lookup f7 = some ⟨oc7, od7, .func (PySem.W.fnOf "check_guest" "check_guest" (defArgs s_check_guest) (defBody s_check_guest) (defScope s_check_guest) .none kV7 dc7 pm7 an7 cd7 ct7), sl7⟩) (c7 : PySem.W.codeIn K cd7 "check_guest" = true) (k7 : PySem.W.keepIn K (.ref f7) = true)
    (a8 : PySem.W.nsIn K mainGlobals "check_number" = some (some (.ref f8))) (l8 : K.lookup f8 = some ⟨oc8, od8, .func (PySem.W.fnOf "check_number" "check_number" (defArgs s_check_number) (defBody s_check_number) (defScope s_check_number) .none kV8 dc8 pm8 an8 cd8 ct8), sl8⟩) (c8 : PySem.W.codeIn K cd8 "check_number" = true) (k8 : PySem.W.keepIn K (.ref f8) = true)
    (a9 : PySem.W.nsIn K mainGlobals "check_index" = some (some (.ref f9))) (l9 : K.lookup f9 = some ⟨oc9, od9, .func (PySem.W.fnOf "check_index" "check_index" (defArgs s_check_index) (defBody s_check_index) (defScope s_check_index) .none kV9 dc9 pm9 an9 cd9 ct9), sl9⟩) (c9 : PySem.W.codeIn K cd9 "check_index" = true) (k9 : PySem.W.keepIn K (.ref f9) = true)
    (a10 : PySem.W.nsIn K mainGlobals "raised" = some (some (.ref f10))) (l10 : K.lookup f10 = some ⟨oc10, od10, .func (PySem.W.fnOf "raised" "raised" (defArgs s_raised) (defBody s_raised) (defScope s_raised) .none kV10 dc10 pm10 an10 cd10 ct10), sl10⟩) (c10 : PySem.W.codeIn K cd10 "raised" = true) (k10 : PySem.W.keepIn K (.ref f10) = true)
    (a11 : PySem.W.nsIn K mainGlobals "rising" = some (some (.ref f11))) (l11 : K.lookup f11 = some ⟨oc11, od11, .func (PySem.W.fnOf "rising" "rising" (defArgs s_rising) (defBody s_rising) (defScope s_rising) .none kV11 dc11 pm11 an11 cd11 ct11), sl11⟩) (c11 : PySem.W.codeIn K cd11 "rising" = true) (k11 : PySem.W.keepIn K (.ref f11) = true)
    (a12 : PySem.W.nsIn K mainGlobals "fraction" = some (some (.ref f12))) (l12 : K.lookup f12 = some ⟨oc12, od12, .func (PySem.W.fnOf "fraction" "fraction" (defArgs s_fraction) (defBody s_fraction) (defScope s_fraction) .none kV12 dc12 pm12 an12 cd12 ct12), sl12⟩) (c12 : PySem.W.codeIn K cd12 "fraction" = true) (k12 : PySem.W.keepIn K (.ref f12) = true)
    (a13 : PySem.W.nsIn K mainGlobals "is_seating" = some (some (.ref f13))) (l13 : K.lookup f13 = some ⟨oc13, od13, .func (PySem.W.fnOf "is_seating" "is_seating" (defArgs s_is_seating) (defBody s_is_seating) (defScope s_is_seating) .none kV13 dc13 pm13 an13 cd13 ct13), sl13⟩) (c13 : PySem.W.codeIn K cd13 "is_seating" = true) (k13 : PySem.W.keepIn K (.ref f13) = true)
    (a14 : PySem.W.nsIn K mainGlobals "tables_of" = some (some (.ref f14))) (l14 : K.lookup f14 = some ⟨oc14, od14, .func (PySem.W.fnOf "tables_of" "tables_of" (defArgs s_tables_of) (defBody s_tables_of) (defScope s_tables_of) .none kV14 dc14 pm14 an14 cd14 ct14), sl14⟩) (c14 : PySem.W.codeIn K cd14 "tables_of" = true) (k14 : PySem.W.keepIn K (.ref f14) = true)
    (a15 : PySem.W.nsIn K mainGlobals "check_seating" = some (some (.ref f15))) (l15 : K.lookup f15 = some ⟨oc15, od15, .func (PySem.W.fnOf "check_seating" "check_seating" (defArgs s_check_seating) (defBody s_check_seating) (defScope s_check_seating) .none kV15 dc15 pm15 an15 cd15 ct15), sl15⟩) (c15 : PySem.W.codeIn K cd15 "check_seating" = true) (k15 : PySem.W.keepIn K (.ref f15) = true)
    (a16 : PySem.W.nsIn K mainGlobals "walk_left" = some (some (.ref f16))) (l16 : K.lookup f16 = some ⟨oc16, od16, .func (PySem.W.fnOf "walk_left" "walk_left" (defArgs s_walk_left) (defBody s_walk_left) (defScope s_walk_left) .none kV16 dc16 pm16 an16 cd16 ct16), sl16⟩) (c16 : PySem.W.codeIn K cd16 "walk_left" = true) (k16 : PySem.W.keepIn K (.ref f16) = true)
    (a17 : PySem.W.nsIn K mainGlobals "tables_among" = some (some (.ref f17))) (l17 : K.lookup f17 = some ⟨oc17, od17, .func (PySem.W.fnOf "tables_among" "tables_among" (defArgs s_tables_among) (defBody s_tables_among) (defScope s_tables_among) .none kV17 dc17 pm17 an17 cd17 ct17), sl17⟩) (c17 : PySem.W.codeIn K cd17 "tables_among" = true) (k17 : PySem.W.keepIn K (.ref f17) = true)
    (a18 : PySem.W.nsIn K mainGlobals "seating_with" = some (some (.ref f18))) (l18 : K.lookup f18 = some ⟨oc18, od18, .func (PySem.W.fnOf "seating_with" "seating_with" (defArgs s_seating_with) (defBody s_seating_with) (defScope s_seating_with) .none kV18 dc18 pm18 an18 cd18 ct18), sl18⟩) (c18 : PySem.W.codeIn K cd18 "seating_with" = true) (k18 : PySem.W.keepIn K (.ref f18) = true)
    (a19 : PySem.W.nsIn K mainGlobals "count_sizes" = some (some (.ref f19))) (l19 : K.lookup f19 = some ⟨oc19, od19, .func (PySem.W.fnOf "count_sizes" "count_sizes" (defArgs s_count_sizes) (defBody s_count_sizes) (defScope s_count_sizes) .none kV19 dc19 pm19 an19 cd19 ct19), sl19⟩) (c19 : PySem.W.codeIn K cd19 "count_sizes" = true) (k19 : PySem.W.keepIn K (.ref f19) = true)
    (a20 : PySem.W.nsIn K mainGlobals "sizes_share" = some (some (.ref f20))) (l20 : K.lookup f20 = some ⟨oc20, od20, .func (PySem.W.fnOf "sizes_share" "sizes_share" (defArgs s_sizes_share) (defBody s_sizes_share) (defScope s_sizes_share) .none kV20 dc20 pm20 an20 cd20 ct20), sl20⟩) (c20 : PySem.W.codeIn K cd20 "sizes_share" = true) (k20 : PySem.W.keepIn K (.ref f20) = true)
    (a21 : PySem.W.nsIn K mainGlobals "nth_with_sizes" = some (some (.ref f21))) (l21 : K.lookup f21 = some ⟨oc21, od21, .func (PySem.W.fnOf "nth_with_sizes" "nth_with_sizes" (defArgs s_nth_with_sizes) (defBody s_nth_with_sizes) (defScope s_nth_with_sizes) .none kV21 dc21 pm21 an21 cd21 ct21), sl21⟩) (c21 : PySem.W.codeIn K cd21 "nth_with_sizes" = true) (k21 : PySem.W.keepIn K (.ref f21) = true)
    (a22 : PySem.W.nsIn K mainGlobals "index_with_sizes" = some (some (.ref f22))) (l22 : K.lookup f22 = some ⟨oc22, od22, .func (PySem.W.fnOf "index_with_sizes" "index_with_sizes" (defArgs s_index_with_sizes) (defBody s_index_with_sizes) (defScope s_index_with_sizes) .none kV22 dc22 pm22 an22 cd22 ct22), sl22⟩) (c22 : PySem.W.codeIn K cd22 "index_with_sizes" = true) (k22 : PySem.W.keepIn K (.ref f22) = true)
    (a23 : PySem.W.nsIn K mainGlobals "count_by_opening" = some (some (.ref f23))) (l23 : K.lookup f23 = some ⟨oc23, od23, .func (PySem.W.fnOf "count_by_opening" "count_by_opening" (defArgs s_count_by_opening) (defBody s_count_by_opening) (defScope s_count_by_opening) .none kV23 dc23 pm23 an23 cd23 ct23), sl23⟩) (c23 : PySem.W.codeIn K cd23 "count_by_opening" = true) (k23 : PySem.W.keepIn K (.ref f23) = true)
    (a24 : PySem.W.nsIn K mainGlobals "opening_share" = some (some (.ref f24))) (l24 : K.lookup f24 = some ⟨oc24, od24, .func (PySem.W.fnOf "opening_share" "opening_share" (defArgs s_opening_share) (defBody s_opening_share) (defScope s_opening_share) .none kV24 dc24 pm24 an24 cd24 ct24), sl24⟩) (c24 : PySem.W.codeIn K cd24 "opening_share" = true) (k24 : PySem.W.keepIn K (.ref f24) = true)
    (a25 : PySem.W.nsIn K mainGlobals "size_share" = some (some (.ref f25))) (l25 : K.lookup f25 = some ⟨oc25, od25, .func (PySem.W.fnOf "size_share" "size_share" (defArgs s_size_share) (defBody s_size_share) (defScope s_size_share) .none kV25 dc25 pm25 an25 cd25 ct25), sl25⟩) (c25 : PySem.W.codeIn K cd25 "size_share" = true) (k25 : PySem.W.keepIn K (.ref f25) = true)
    (a26 : PySem.W.nsIn K mainGlobals "mean_number" = some (some (.ref f26))) (l26 : K.lookup f26 = some ⟨oc26, od26, .func (PySem.W.fnOf "mean_number" "mean_number" (defArgs s_mean_number) (defBody s_mean_number) (defScope s_mean_number) .none kV26 dc26 pm26 an26 cd26 ct26), sl26⟩) (c26 : PySem.W.codeIn K cd26 "mean_number" = true) (k26 : PySem.W.keepIn K (.ref f26) = true)
    (a27 : PySem.W.nsIn K mainGlobals "number_shares" = some (some (.ref f27))) (l27 : K.lookup f27 = some ⟨oc27, od27, .func (PySem.W.fnOf "number_shares" "number_shares" (defArgs s_number_shares) (defBody s_number_shares) (defScope s_number_shares) .none kV27 dc27 pm27 an27 cd27 ct27), sl27⟩) (c27 : PySem.W.codeIn K cd27 "number_shares" = true) (k27 : PySem.W.keepIn K (.ref f27) = true)
    (a28 : PySem.W.nsIn K mainGlobals "count_allowed" = some (some (.ref f28))) (l28 : K.lookup f28 = some ⟨oc28, od28, .func (PySem.W.fnOf "count_allowed" "count_allowed" (defArgs s_count_allowed) (defBody s_count_allowed) (defScope s_count_allowed) .none kV28 dc28 pm28 an28 cd28 ct28), sl28⟩) (c28 : PySem.W.codeIn K cd28 "count_allowed" = true) (k28 : PySem.W.keepIn K (.ref f28) = true)
    (a29 : PySem.W.nsIn K mainGlobals "allowed_share" = some (some (.ref f29))) (l29 : K.lookup f29 = some ⟨oc29, od29, .func (PySem.W.fnOf "allowed_share" "allowed_share" (defArgs s_allowed_share) (defBody s_allowed_share) (defScope s_allowed_share) .none kV29 dc29 pm29 an29 cd29 ct29), sl29⟩) (c29 : PySem.W.codeIn K cd29 "allowed_share" = true) (k29 : PySem.W.keepIn K (.ref f29) = true)
    (a30 : PySem.W.nsIn K mainGlobals "nth_allowed" = some (some (.ref f30))) (l30 : K.lookup f30 = some ⟨oc30, od30, .func (PySem.W.fnOf "nth_allowed" "nth_allowed" (defArgs s_nth_allowed) (defBody s_nth_allowed) (defScope s_nth_allowed) .none kV30 dc30 pm30 an30 cd30 ct30), sl30⟩) (c30 : PySem.W.codeIn K cd30 "nth_allowed" = true) (k30 : PySem.W.keepIn K (.ref f30) = true)
    (a31 : PySem.W.nsIn K mainGlobals "first_allowed" = some (some (.ref f31))) (l31 : K.lookup f31 = some ⟨oc31, od31, .func (PySem.W.fnOf "first_allowed" "first_allowed" (defArgs s_first_allowed) (defBody s_first_allowed) (defScope s_first_allowed) .none kV31 dc31 pm31 an31 cd31 ct31), sl31⟩) (c31 : PySem.W.codeIn K cd31 "first_allowed" = true) (k31 : PySem.W.keepIn K (.ref f31) = true)
    (a32 : PySem.W.nsIn K mainGlobals "given_open" = some (some (.ref f32))) (l32 : K.lookup f32 = some ⟨oc32, od32, .func (PySem.W.fnOf "given_open" "given_open" (defArgs s_given_open) (defBody s_given_open) (defScope s_given_open) .none kV32 dc32 pm32 an32 cd32 ct32), sl32⟩) (c32 : PySem.W.codeIn K cd32 "given_open" = true) (k32 : PySem.W.keepIn K (.ref f32) = true)
    (a33 : PySem.W.nsIn K mainGlobals "given_together" = some (some (.ref f33))) (l33 : K.lookup f33 = some ⟨oc33, od33, .func (PySem.W.fnOf "given_together" "given_together" (defArgs s_given_together) (defBody s_given_together) (defScope s_given_together) .none kV33 dc33 pm33 an33 cd33 ct33), sl33⟩) (c33 : PySem.W.codeIn K cd33 "given_together" = true) (k33 : PySem.W.keepIn K (.ref f33) = true)
    (a34 : PySem.W.nsIn K mainGlobals "check_sizes" = some (some (.ref f34))) (l34 : K.lookup f34 = some ⟨oc34, od34, .func (PySem.W.fnOf "check_sizes" "check_sizes" (defArgs s_check_sizes) (defBody s_check_sizes) (defScope s_check_sizes) .none kV34 dc34 pm34 an34 cd34 ct34), sl34⟩) (c34 : PySem.W.codeIn K cd34 "check_sizes" = true) (k34 : PySem.W.keepIn K (.ref f34) = true)
    (a35 : PySem.W.nsIn K mainGlobals "are_sizes" = some (some (.ref f35))) (l35 : K.lookup f35 = some ⟨oc35, od35, .func (PySem.W.fnOf "are_sizes" "are_sizes" (defArgs s_are_sizes) (defBody s_are_sizes) (defScope s_are_sizes) .none kV35 dc35 pm35 an35 cd35 ct35), sl35⟩) (c35 : PySem.W.codeIn K cd35 "are_sizes" = true) (k35 : PySem.W.keepIn K (.ref f35) = true)
    (a36 : PySem.W.nsIn K mainGlobals "check_allowed" = some (some (.ref f36))) (l36 : K.lookup f36 = some ⟨oc36, od36, .func (PySem.W.fnOf "check_allowed" "check_allowed" (defArgs s_check_allowed) (defBody s_check_allowed) (defScope s_check_allowed) .none kV36 dc36 pm36 an36 cd36 ct36), sl36⟩) (c36 : PySem.W.codeIn K cd36 "check_allowed" = true) (k36 : PySem.W.keepIn K (.ref f36) = true)
    (a37 : PySem.W.nsIn K mainGlobals "ways_with_sizes" = some (some (.ref f37))) (l37 : K.lookup f37 = some ⟨oc37, od37, .func (PySem.W.fnOf "ways_with_sizes" "ways_with_sizes" (defArgs s_ways_with_sizes) (defBody s_ways_with_sizes) (defScope s_ways_with_sizes) .none kV37 dc37 pm37 an37 cd37 ct37), sl37⟩) (c37 : PySem.W.codeIn K cd37 "ways_with_sizes" = true) (k37 : PySem.W.keepIn K (.ref f37) = true)
    (a38 : PySem.W.nsIn K mainGlobals "ways_by_opening" = some (some (.ref f38))) (l38 : K.lookup f38 = some ⟨oc38, od38, .func (PySem.W.fnOf "ways_by_opening" "ways_by_opening" (defArgs s_ways_by_opening) (defBody s_ways_by_opening) (defScope s_ways_by_opening) .none kV38 dc38 pm38 an38 cd38 ct38), sl38⟩) (c38 : PySem.W.codeIn K cd38 "ways_by_opening" = true) (k38 : PySem.W.keepIn K (.ref f38) = true)
    (a39 : PySem.W.nsIn K mainGlobals "share_of_ways" = some (some (.ref f39))) (l39 : K.lookup f39 = some ⟨oc39, od39, .func (PySem.W.fnOf "share_of_ways" "share_of_ways" (defArgs s_share_of_ways) (defBody s_share_of_ways) (defScope s_share_of_ways) .none kV39 dc39 pm39 an39 cd39 ct39), sl39⟩) (c39 : PySem.W.codeIn K cd39 "share_of_ways" = true) (k39 : PySem.W.keepIn K (.ref f39) = true)
    (a40 : PySem.W.nsIn K mainGlobals "tables_weight" = some (some (.ref f40))) (l40 : K.lookup f40 = some ⟨oc40, od40, .func (PySem.W.fnOf "tables_weight" "tables_weight" (defArgs s_tables_weight) (defBody s_tables_weight) (defScope s_tables_weight) .none kV40 dc40 pm40 an40 cd40 ct40), sl40⟩) (c40 : PySem.W.codeIn K cd40 "tables_weight" = true) (k40 : PySem.W.keepIn K (.ref f40) = true)
    (a41 : PySem.W.nsIn K mainGlobals "weight_with_size" = some (some (.ref f41))) (l41 : K.lookup f41 = some ⟨oc41, od41, .func (PySem.W.fnOf "weight_with_size" "weight_with_size" (defArgs s_weight_with_size) (defBody s_weight_with_size) (defScope s_weight_with_size) .none kV41 dc41 pm41 an41 cd41 ct41), sl41⟩) (c41 : PySem.W.codeIn K cd41 "weight_with_size" = true) (k41 : PySem.W.keepIn K (.ref f41) = true)
    (a42 : PySem.W.nsIn K mainGlobals "weights_with_allowed" = some (some (.ref f42))) (l42 : K.lookup f42 = some ⟨oc42, od42, .func (PySem.W.fnOf "weights_with_allowed" "weights_with_allowed" (defArgs s_weights_with_allowed) (defBody s_weights_with_allowed) (defScope s_weights_with_allowed) .none kV42 dc42 pm42 an42 cd42 ct42), sl42⟩) (c42 : PySem.W.codeIn K cd42 "weights_with_allowed" = true) (k42 : PySem.W.keepIn K (.ref f42) = true)
    (a43 : PySem.W.nsIn K mainGlobals "ways_behind_sizes" = some (some (.ref f43))) (l43 : K.lookup f43 = some ⟨oc43, od43, .func (PySem.W.fnOf "ways_behind_sizes" "ways_behind_sizes" (defArgs s_ways_behind_sizes) (defBody s_ways_behind_sizes) (defScope s_ways_behind_sizes) .none kV43 dc43 pm43 an43 cd43 ct43), sl43⟩) (c43 : PySem.W.codeIn K cd43 "ways_behind_sizes" = true) (k43 : PySem.W.keepIn K (.ref f43) = true)
    (a44 : PySem.W.nsIn K mainGlobals "table_at" = some (some (.ref f44))) (l44 : K.lookup f44 = some ⟨oc44, od44, .func (PySem.W.fnOf "table_at" "table_at" (defArgs s_table_at) (defBody s_table_at) (defScope s_table_at) .none kV44 dc44 pm44 an44 cd44 ct44), sl44⟩) (c44 : PySem.W.codeIn K cd44 "table_at" = true) (k44 : PySem.W.keepIn K (.ref f44) = true)
    (a45 : PySem.W.nsIn K mainGlobals "index_of_table" = some (some (.ref f45))) (l45 : K.lookup f45 = some ⟨oc45, od45, .func (PySem.W.fnOf "index_of_table" "index_of_table" (defArgs s_index_of_table) (defBody s_index_of_table) (defScope s_index_of_table) .none kV45 dc45 pm45 an45 cd45 ct45), sl45⟩) (c45 : PySem.W.codeIn K cd45 "index_of_table" = true) (k45 : PySem.W.keepIn K (.ref f45) = true)
    (a46 : PySem.W.nsIn K mainGlobals "ways_to_go_on" = some (some (.ref f46))) (l46 : K.lookup f46 = some ⟨oc46, od46, .func (PySem.W.fnOf "ways_to_go_on" "ways_to_go_on" (defArgs s_ways_to_go_on) (defBody s_ways_to_go_on) (defScope s_ways_to_go_on) .none kV46 dc46 pm46 an46 cd46 ct46), sl46⟩) (c46 : PySem.W.codeIn K cd46 "ways_to_go_on" = true) (k46 : PySem.W.keepIn K (.ref f46) = true)
    (a47 : PySem.W.nsIn K mainGlobals "_law_pouch" = some (some (.ref f47))) (l47 : K.lookup f47 = some ⟨oc47, od47, .func (PySem.W.fnOf "_law_pouch" "_law_pouch" (defArgs s_law_pouch) (defBody s_law_pouch) (defScope s_law_pouch) .none kV47 dc47 pm47 an47 cd47 ct47), sl47⟩) (c47 : PySem.W.codeIn K cd47 "_law_pouch" = true) (k47 : PySem.W.keepIn K (.ref f47) = true)
    (a48 : PySem.W.nsIn K mainGlobals "_law_dip" = some (some (.ref f48))) (l48 : K.lookup f48 = some ⟨oc48, od48, .func (PySem.W.fnOf "_law_dip" "_law_dip" (defArgs s_law_dip) (defBody s_law_dip) (defScope s_law_dip) .none kV48 dc48 pm48 an48 cd48 ct48), sl48⟩) (c48 : PySem.W.codeIn K cd48 "_law_dip" = true) (k48 : PySem.W.keepIn K (.ref f48) = true)
    (a49 : PySem.W.nsIn K mainGlobals "_law_entries" = some (some (.ref f49))) (l49 : K.lookup f49 = some ⟨oc49, od49, .func (PySem.W.fnOf "_law_entries" "_law_entries" (defArgs s_law_entries) (defBody s_law_entries) (defScope s_law_entries) .none kV49 dc49 pm49 an49 cd49 ct49), sl49⟩) (c49 : PySem.W.codeIn K cd49 "_law_entries" = true) (k49 : PySem.W.keepIn K (.ref f49) = true)
    (a50 : PySem.W.nsIn K mainGlobals "_law_rings" = some (some (.ref f50))) (l50 : K.lookup f50 = some ⟨oc50, od50, .func (PySem.W.fnOf "_law_rings" "_law_rings" (defArgs s_law_rings) (defBody s_law_rings) (defScope s_law_rings) .none kV50 dc50 pm50 an50 cd50 ct50), sl50⟩) (c50 : PySem.W.codeIn K cd50 "_law_rings" = true) (k50 : PySem.W.keepIn K (.ref f50) = true)
    (a51 : PySem.W.nsIn K mainGlobals "_law_seat" = some (some (.ref f51))) (l51 : K.lookup f51 = some ⟨oc51, od51, .func (PySem.W.fnOf "_law_seat" "_law_seat" (defArgs s_law_seat) (defBody s_law_seat) (defScope s_law_seat) .none kV51 dc51 pm51 an51 cd51 ct51), sl51⟩) (c51 : PySem.W.codeIn K cd51 "_law_seat" = true) (k51 : PySem.W.keepIn K (.ref f51) = true)
    (a52 : PySem.W.nsIn K mainGlobals "_law_things" = some (some (.ref f52))) (l52 : K.lookup f52 = some ⟨oc52, od52, .func (PySem.W.fnOf "_law_things" "_law_things" (defArgs s_law_things) (defBody s_law_things) (defScope s_law_things) .none kV52 dc52 pm52 an52 cd52 ct52), sl52⟩) (c52 : PySem.W.codeIn K cd52 "_law_things" = true) (k52 : PySem.W.keepIn K (.ref f52) = true)
    (a53 : PySem.W.nsIn K mainGlobals "_law_is_row" = some (some (.ref f53))) (l53 : K.lookup f53 = some ⟨oc53, od53, .func (PySem.W.fnOf "_law_is_row" "_law_is_row" (defArgs s_law_is_row) (defBody s_law_is_row) (defScope s_law_is_row) .none kV53 dc53 pm53 an53 cd53 ct53), sl53⟩) (c53 : PySem.W.codeIn K cd53 "_law_is_row" = true) (k53 : PySem.W.keepIn K (.ref f53) = true)
    (a54 : PySem.W.nsIn K mainGlobals "_law_rise" = some (some (.ref f54))) (l54 : K.lookup f54 = some ⟨oc54, od54, .func (PySem.W.fnOf "_law_rise" "_law_rise" (defArgs s_law_rise) (defBody s_law_rise) (defScope s_law_rise) .none kV54 dc54 pm54 an54 cd54 ct54), sl54⟩) (c54 : PySem.W.codeIn K cd54 "_law_rise" = true) (k54 : PySem.W.keepIn K (.ref f54) = true)
    (a55 : PySem.W.nsIn K mainGlobals "_law_some_widths" = some (some (.ref f55))) (l55 : K.lookup f55 = some ⟨oc55, od55, .func (PySem.W.fnOf "_law_some_widths" "_law_some_widths" (defArgs s_law_some_widths) (defBody s_law_some_widths) (defScope s_law_some_widths) .none kV55 dc55 pm55 an55 cd55 ct55), sl55⟩) (c55 : PySem.W.codeIn K cd55 "_law_some_widths" = true) (k55 : PySem.W.keepIn K (.ref f55) = true)
    (a56 : PySem.W.nsIn K mainGlobals "_law_counted" = some (some (.ref f56))) (l56 : K.lookup f56 = some ⟨oc56, od56, .func (PySem.W.fnOf "_law_counted" "_law_counted" (defArgs s_law_counted) (defBody s_law_counted) (defScope s_law_counted) .none kV56 dc56 pm56 an56 cd56 ct56), sl56⟩) (c56 : PySem.W.codeIn K cd56 "_law_counted" = true) (k56 : PySem.W.keepIn K (.ref f56) = true)
    (a57 : PySem.W.nsIn K mainGlobals "_law_word" = some (some (.ref f57))) (l57 : K.lookup f57 = some ⟨oc57, od57, .func (PySem.W.fnOf "_law_word" "_law_word" (defArgs s_law_word) (defBody s_law_word) (defScope s_law_word) .none kV57 dc57 pm57 an57 cd57 ct57), sl57⟩) (c57 : PySem.W.codeIn K cd57 "_law_word" = true) (k57 : PySem.W.keepIn K (.ref f57) = true)
    (a58 : PySem.W.nsIn K mainGlobals "_law_asked" = some (some (.ref f58))) (l58 : K.lookup f58 = some ⟨oc58, od58, .func (PySem.W.fnOf "_law_asked" "_law_asked" (defArgs s_law_asked) (defBody s_law_asked) (defScope s_law_asked) .none kV58 dc58 pm58 an58 cd58 ct58), sl58⟩) (c58 : PySem.W.codeIn K cd58 "_law_asked" = true) (k58 : PySem.W.keepIn K (.ref f58) = true)
    (a59 : PySem.W.nsIn K mainGlobals "_law_told" = some (some (.ref f59))) (l59 : K.lookup f59 = some ⟨oc59, od59, .func (PySem.W.fnOf "_law_told" "_law_told" (defArgs s_law_told) (defBody s_law_told) (defScope s_law_told) .none kV59 dc59 pm59 an59 cd59 ct59), sl59⟩) (c59 : PySem.W.codeIn K cd59 "_law_told" = true) (k59 : PySem.W.keepIn K (.ref f59) = true)
    (a60 : PySem.W.nsIn K mainGlobals "_law_is_sizes" = some (some (.ref f60))) (l60 : K.lookup f60 = some ⟨oc60, od60, .func (PySem.W.fnOf "_law_is_sizes" "_law_is_sizes" (defArgs s_law_is_sizes) (defBody s_law_is_sizes) (defScope s_law_is_sizes) .none kV60 dc60 pm60 an60 cd60 ct60), sl60⟩) (c60 : PySem.W.codeIn K cd60 "_law_is_sizes" = true) (k60 : PySem.W.keepIn K (.ref f60) = true)
    (a61 : PySem.W.nsIn K mainGlobals "_law_is_allowed" = some (some (.ref f61))) (l61 : K.lookup f61 = some ⟨oc61, od61, .func (PySem.W.fnOf "_law_is_allowed" "_law_is_allowed" (defArgs s_law_is_allowed) (defBody s_law_is_allowed) (defScope s_law_is_allowed) .none kV61 dc61 pm61 an61 cd61 ct61), sl61⟩) (c61 : PySem.W.codeIn K cd61 "_law_is_allowed" = true) (k61 : PySem.W.keepIn K (.ref f61) = true)
    (a62 : PySem.W.nsIn K mainGlobals "_law_odd" = some (some (.ref f62))) (l62 : K.lookup f62 = some ⟨oc62, od62, .func (PySem.W.fnOf "_law_odd" "_law_odd" (defArgs s_law_odd) (defBody s_law_odd) (defScope s_law_odd) .none kV62 dc62 pm62 an62 cd62 ct62), sl62⟩) (c62 : PySem.W.codeIn K cd62 "_law_odd" = true) (k62 : PySem.W.keepIn K (.ref f62) = true)
    (a63 : PySem.W.nsIn K mainGlobals "_law_lists_right" = some (some (.ref f63))) (l63 : K.lookup f63 = some ⟨oc63, od63, .func (PySem.W.fnOf "_law_lists_right" "_law_lists_right" (defArgs s_law_lists_right) (defBody s_law_lists_right) (defScope s_law_lists_right) .none kV63 dc63 pm63 an63 cd63 ct63), sl63⟩) (c63 : PySem.W.codeIn K cd63 "_law_lists_right" = true) (k63 : PySem.W.keepIn K (.ref f63) = true)
    (a64 : PySem.W.nsIn K mainGlobals "_law_wrong_right" = some (some (.ref f64))) (l64 : K.lookup f64 = some ⟨oc64, od64, .func (PySem.W.fnOf "_law_wrong_right" "_law_wrong_right" (defArgs s_law_wrong_right) (defBody s_law_wrong_right) (defScope s_law_wrong_right) .none kV64 dc64 pm64 an64 cd64 ct64), sl64⟩) (c64 : PySem.W.codeIn K cd64 "_law_wrong_right" = true) (k64 : PySem.W.keepIn K (.ref f64) = true)
    (a65 : PySem.W.nsIn K mainGlobals "_law_seatings_right" = some (some (.ref f65))) (l65 : K.lookup f65 = some ⟨oc65, od65, .func (PySem.W.fnOf "_law_seatings_right" "_law_seatings_right" (defArgs s_law_seatings_right) (defBody s_law_seatings_right) (defScope s_law_seatings_right) .none kV65 dc65 pm65 an65 cd65 ct65), sl65⟩) (c65 : PySem.W.codeIn K cd65 "_law_seatings_right" = true) (k65 : PySem.W.keepIn K (.ref f65) = true)
    (a66 : PySem.W.nsIn K mainGlobals "law" = some (some (.ref f66))) (l66 : K.lookup f66 = some ⟨oc66, od66, .func (PySem.W.fnOf "law" "law" (defArgs s_law) (defBody s_law) (defScope s_law) .none kV66 dc66 pm66 an66 cd66 ct66), sl66⟩) (c66 : PySem.W.codeIn K cd66 "law" = true) (k66 : PySem.W.keepIn K (.ref f66) = true)
    (q_HallError : PySem.W.nsIn K mainGlobals "HallError" = some (some (.ref c_HallError)))
    (q_InvalidSeating : PySem.W.nsIn K mainGlobals "InvalidSeating" = some (some (.ref c_InvalidSeating)))
    (q_InvalidSizes : PySem.W.nsIn K mainGlobals "InvalidSizes" = some (some (.ref c_InvalidSizes)))
    (q_InvalidWeight : PySem.W.nsIn K mainGlobals "InvalidWeight" = some (some (.ref c_InvalidWeight)))
    (q_InvalidGuests : PySem.W.nsIn K mainGlobals "InvalidGuests" = some (some (.ref c_InvalidGuests)))
    (q_InvalidGuest : PySem.W.nsIn K mainGlobals "InvalidGuest" = some (some (.ref c_InvalidGuest)))
    (q_InvalidNumber : PySem.W.nsIn K mainGlobals "InvalidNumber" = some (some (.ref c_InvalidNumber)))
    (q_InvalidIndex : PySem.W.nsIn K mainGlobals "InvalidIndex" = some (some (.ref c_InvalidIndex)))
    (q_NoSeating : PySem.W.nsIn K mainGlobals "NoSeating" = some (some (.ref c_NoSeating)))
    (e_InvalidSeating : Kit.excB K c_InvalidSeating = true) (x_InvalidSeating : PySem.W.exmOne K (.ref c_InvalidSeating) (.ref c_HallError) = some true) (t_InvalidSeating : Kit.isRow K c_InvalidSeating [((.ref c_InvalidSeating : Value), true), ((.ref c_InvalidSizes : Value), false), ((.ref c_InvalidWeight : Value), false), ((.ref c_InvalidGuests : Value), false), ((.ref c_InvalidGuest : Value), false), ((.ref c_InvalidNumber : Value), false), ((.ref c_InvalidIndex : Value), false), ((.ref c_NoSeating : Value), false), ((.type "ValueError" : Value), true)] = true)
    (e_InvalidSizes : Kit.excB K c_InvalidSizes = true) (x_InvalidSizes : PySem.W.exmOne K (.ref c_InvalidSizes) (.ref c_HallError) = some true) (t_InvalidSizes : Kit.isRow K c_InvalidSizes [((.ref c_InvalidSeating : Value), false), ((.ref c_InvalidSizes : Value), true), ((.ref c_InvalidWeight : Value), false), ((.ref c_InvalidGuests : Value), false), ((.ref c_InvalidGuest : Value), false), ((.ref c_InvalidNumber : Value), false), ((.ref c_InvalidIndex : Value), false), ((.ref c_NoSeating : Value), false), ((.type "ValueError" : Value), true)] = true)
    (e_InvalidWeight : Kit.excB K c_InvalidWeight = true) (x_InvalidWeight : PySem.W.exmOne K (.ref c_InvalidWeight) (.ref c_HallError) = some true) (t_InvalidWeight : Kit.isRow K c_InvalidWeight [((.ref c_InvalidSeating : Value), false), ((.ref c_InvalidSizes : Value), false), ((.ref c_InvalidWeight : Value), true), ((.ref c_InvalidGuests : Value), false), ((.ref c_InvalidGuest : Value), false), ((.ref c_InvalidNumber : Value), false), ((.ref c_InvalidIndex : Value), false), ((.ref c_NoSeating : Value), false), ((.type "ValueError" : Value), true)] = true)
    (e_InvalidGuests : Kit.excB K c_InvalidGuests = true) (x_InvalidGuests : PySem.W.exmOne K (.ref c_InvalidGuests) (.ref c_HallError) = some true) (t_InvalidGuests : Kit.isRow K c_InvalidGuests [((.ref c_InvalidSeating : Value), false), ((.ref c_InvalidSizes : Value), false), ((.ref c_InvalidWeight : Value), false), ((.ref c_InvalidGuests : Value), true), ((.ref c_InvalidGuest : Value), false), ((.ref c_InvalidNumber : Value), false), ((.ref c_InvalidIndex : Value), false), ((.ref c_NoSeating : Value), false), ((.type "ValueError" : Value), true)] = true)
    (e_InvalidGuest : Kit.excB K c_InvalidGuest = true) (x_InvalidGuest : PySem.W.exmOne K (.ref c_InvalidGuest) (.ref c_HallError) = some true) (t_InvalidGuest : Kit.isRow K c_InvalidGuest [((.ref c_InvalidSeating : Value), false), ((.ref c_InvalidSizes : Value), false), ((.ref c_InvalidWeight : Value), false), ((.ref c_InvalidGuests : Value), false), ((.ref c_InvalidGuest : Value), true), ((.ref c_InvalidNumber : Value), false), ((.ref c_InvalidIndex : Value), false), ((.ref c_NoSeating : Value), false), ((.type "ValueError" : Value), true)] = true)
    (e_InvalidNumber : Kit.excB K c_InvalidNumber = true) (x_InvalidNumber : PySem.W.exmOne K (.ref c_InvalidNumber) (.ref c_HallError) = some true) (t_InvalidNumber : Kit.isRow K c_InvalidNumber [((.ref c_InvalidSeating : Value), false), ((.ref c_InvalidSizes : Value), false), ((.ref c_InvalidWeight : Value), false), ((.ref c_InvalidGuests : Value), false), ((.ref c_InvalidGuest : Value), false), ((.ref c_InvalidNumber : Value), true), ((.ref c_InvalidIndex : Value), false), ((.ref c_NoSeating : Value), false), ((.type "ValueError" : Value), true)] = true)
    (e_InvalidIndex : Kit.excB K c_InvalidIndex = true) (x_InvalidIndex : PySem.W.exmOne K (.ref c_InvalidIndex) (.ref c_HallError) = some true) (t_InvalidIndex : Kit.isRow K c_InvalidIndex [((.ref c_InvalidSeating : Value), false), ((.ref c_InvalidSizes : Value), false), ((.ref c_InvalidWeight : Value), false), ((.ref c_InvalidGuests : Value), false), ((.ref c_InvalidGuest : Value), false), ((.ref c_InvalidNumber : Value), false), ((.ref c_InvalidIndex : Value), true), ((.ref c_NoSeating : Value), false), ((.type "ValueError" : Value), true)] = true)
    (e_NoSeating : Kit.excB K c_NoSeating = true) (x_NoSeating : PySem.W.exmOne K (.ref c_NoSeating) (.ref c_HallError) = some true) (t_NoSeating : Kit.isRow K c_NoSeating [((.ref c_InvalidSeating : Value), false), ((.ref c_InvalidSizes : Value), false), ((.ref c_InvalidWeight : Value), false), ((.ref c_InvalidGuests : Value), false), ((.ref c_InvalidGuest : Value), false), ((.ref c_InvalidNumber : Value), false), ((.ref c_InvalidIndex : Value), false), ((.ref c_NoSeating : Value), true), ((.type "ValueError" : Value), true)] = true)
    (z_ValueError : PySem.W.nsIn K mainGlobals "ValueError" = some none)
    (z_abs : PySem.W.nsIn K mainGlobals "abs" = some none)
    (z_all : PySem.W.nsIn K mainGlobals "all" = some none)
    (z_bool : PySem.W.nsIn K mainGlobals "bool" = some none)
    (z_divmod : PySem.W.nsIn K mainGlobals "divmod" = some none)
    (z_enumerate : PySem.W.nsIn K mainGlobals "enumerate" = some none)
    (z_int : PySem.W.nsIn K mainGlobals "int" = some none)
    (z_isinstance : PySem.W.nsIn K mainGlobals "isinstance" = some none)
    (z_len : PySem.W.nsIn K mainGlobals "len" = some none)
    (z_list : PySem.W.nsIn K mainGlobals "list" = some none)
    (z_max : PySem.W.nsIn K mainGlobals "max" = some none)
    (z_min : PySem.W.nsIn K mainGlobals "min" = some none)
    (z_range : PySem.W.nsIn K mainGlobals "range" = some none)
    (z_set : PySem.W.nsIn K mainGlobals "set" = some none)
    (z_sorted : PySem.W.nsIn K mainGlobals "sorted" = some none)
    (z_sum : PySem.W.nsIn K mainGlobals "sum" = some none)
    (z_tuple : PySem.W.nsIn K mainGlobals "tuple" = some none)
    (z_type : PySem.W.nsIn K mainGlobals "type" = some none)
    (y_MOST_GUESTS : PySem.W.nsIn K mainGlobals "MOST_GUESTS" = some (some (.int 20 t_MOST_GUESTS)))
    (y_MOST_WEIGHT : PySem.W.nsIn K mainGlobals "MOST_WEIGHT" = some (some (.int 1000000000000 t_MOST_WEIGHT)))
    (x_comb : PySem.W.nsIn K mainGlobals "comb" = some (some (.builtin "math.comb")))
    (x_factorial : PySem.W.nsIn K mainGlobals "factorial" = some (some (.builtin "math.factorial")))
    (x_gcd : PySem.W.nsIn K mainGlobals "gcd" = some (some (.builtin "math.gcd")))
    (x_perm : PySem.W.nsIn K mainGlobals "perm" = some (some (.builtin "math.perm")))
    : ∃ fd : FuncData, (∀ (s : Shared) (v : Value), BindsTo s fd ⟨[v], []⟩ [("script", v)]) ∧ ∀ base : Heap, K.In base → base.Ns mainGlobals mg → FnOk l.prog w K mg base CX0 10 fa fd ["script"] (sp_law K) := by
  have e := hfa.symm.trans (PySem.W.mg_of X G a66)
  cases e
  have F1 := fun_mk (st := s_is_whole) l1 c1 k1
  have F2 := fun_mk (st := s_is_within) l2 c2 k2
  have F3 := fun_mk (st := s_is_order) l3 c3 k3
  have F4 := fun_mk (st := s_is_ascending) l4 c4 k4
  have F5 := fun_mk (st := s_check_guests) l5 c5 k5
  have F6 := fun_mk (st := s_check_weight) l6 c6 k6
  have F7 := fun_mk (st := s_check_guest) l7 c7 k7
  have F8 := fun_mk (st := s_check_number) l8 c8 k8
  have F9 := fun_mk (st := s_check_index) l9 c9 k9
  have F10 := fun_mk (st := s_raised) l10 c10 k10
  have F11 := fun_mk (st := s_rising) l11 c11 k11
  have F12 := fun_mk (st := s_fraction) l12 c12 k12
  have F13 := fun_mk (st := s_is_seating) l13 c13 k13
  have F14 := fun_mk (st := s_tables_of) l14 c14 k14
  have F15 := fun_mk (st := s_check_seating) l15 c15 k15
  have F16 := fun_mk (st := s_walk_left) l16 c16 k16
  have F17 := fun_mk (st := s_tables_among) l17 c17 k17
  have F18 := fun_mk (st := s_seating_with) l18 c18 k18
  have F19 := fun_mk (st := s_count_sizes) l19 c19 k19
  have F20 := fun_mk (st := s_sizes_share) l20 c20 k20
  have F21 := fun_mk (st := s_nth_with_sizes) l21 c21 k21
  have F22 := fun_mk (st := s_index_with_sizes) l22 c22 k22
  have F23 := fun_mk (st := s_count_by_opening) l23 c23 k23
  have F24 := fun_mk (st := s_opening_share) l24 c24 k24
  have F25 := fun_mk (st := s_size_share) l25 c25 k25
  have F26 := fun_mk (st := s_mean_number) l26 c26 k26
  have F27 := fun_mk (st := s_number_shares) l27 c27 k27
  have F28 := fun_mk (st := s_count_allowed) l28 c28 k28
  have F29 := fun_mk (st := s_allowed_share) l29 c29 k29
  have F30 := fun_mk (st := s_nth_allowed) l30 c30 k30
  have F31 := fun_mk (st := s_first_allowed) l31 c31 k31
  have F32 := fun_mk (st := s_given_open) l32 c32 k32
  have F33 := fun_mk (st := s_given_together) l33 c33 k33
  have F34 := fun_mk (st := s_check_sizes) l34 c34 k34
  have F35 := fun_mk (st := s_are_sizes) l35 c35 k35
  have F36 := fun_mk (st := s_check_allowed) l36 c36 k36
  have F37 := fun_mk (st := s_ways_with_sizes) l37 c37 k37
  have F38 := fun_mk (st := s_ways_by_opening) l38 c38 k38
  have F39 := fun_mk (st := s_share_of_ways) l39 c39 k39
  have F40 := fun_mk (st := s_tables_weight) l40 c40 k40
  have F41 := fun_mk (st := s_weight_with_size) l41 c41 k41
  have F42 := fun_mk (st := s_weights_with_allowed) l42 c42 k42
  have F43 := fun_mk (st := s_ways_behind_sizes) l43 c43 k43
  have F44 := fun_mk (st := s_table_at) l44 c44 k44
  have F45 := fun_mk (st := s_index_of_table) l45 c45 k45
  have F46 := fun_mk (st := s_ways_to_go_on) l46 c46 k46
  have F47 := fun_mk (st := s_law_pouch) l47 c47 k47
  have F48 := fun_mk (st := s_law_dip) l48 c48 k48
  have F49 := fun_mk (st := s_law_entries) l49 c49 k49
  have F50 := fun_mk (st := s_law_rings) l50 c50 k50
  have F51 := fun_mk (st := s_law_seat) l51 c51 k51
  have F52 := fun_mk (st := s_law_things) l52 c52 k52
  have F53 := fun_mk (st := s_law_is_row) l53 c53 k53
  have F54 := fun_mk (st := s_law_rise) l54 c54 k54
  have F55 := fun_mk (st := s_law_some_widths) l55 c55 k55
  have F56 := fun_mk (st := s_law_counted) l56 c56 k56
  have F57 := fun_mk (st := s_law_word) l57 c57 k57
  have F58 := fun_mk (st := s_law_asked) l58 c58 k58
  have F59 := fun_mk (st := s_law_told) l59 c59 k59
  have F60 := fun_mk (st := s_law_is_sizes) l60 c60 k60
  have F61 := fun_mk (st := s_law_is_allowed) l61 c61 k61
  have F62 := fun_mk (st := s_law_odd) l62 c62 k62
  have F63 := fun_mk (st := s_law_lists_right) l63 c63 k63
  have F64 := fun_mk (st := s_law_wrong_right) l64 c64 k64
  have F65 := fun_mk (st := s_law_seatings_right) l65 c65 k65
  have F66 := fun_mk (st := s_law) l66 c66 k66
  let T : Tx K mg :=
    { f_is_whole := f1, d_is_whole := _, F_is_whole := F1, g_is_whole := PySem.W.mg_of X G a1, b_is_whole := F1.binds (ps := ["thing"]) fun _ _ _ _ _ _ us hl => match us, hl with | [_], _ => rfl,
      f_is_within := f2, d_is_within := _, F_is_within := F2, g_is_within := PySem.W.mg_of X G a2, b_is_within := F2.binds (ps := ["thing", "least", "most"]) fun _ _ _ _ _ _ us hl => match us, hl with | [_, _, _], _ => rfl,
      f_is_order := f3, d_is_order := _, F_is_order := F3, g_is_order := PySem.W.mg_of X G a3, b_is_order := F3.binds (ps := ["thing"]) fun _ _ _ _ _ _ us hl => match us, hl with | [_], _ => rfl,
      f_is_ascending := f4, d_is_ascending := _, F_is_ascending := F4, g_is_ascending := PySem.W.mg_of X G a4, b_is_ascending := F4.binds (ps := ["thing", "least", "most"]) fun _ _ _ _ _ _ us hl => match us, hl with | [_, _, _], _ => rfl,
      f_check_guests := f5, d_check_guests := _, F_check_guests := F5, g_check_guests := PySem.W.mg_of X G a5, b_check_guests := F5.binds (ps := ["guests"]) fun _ _ _ _ _ _ us hl => match us, hl with | [_], _ => rfl,
      f_check_weight := f6, d_check_weight := _, F_check_weight := F6, g_check_weight := PySem.W.mg_of X G a6, b_check_weight := F6.binds (ps := ["weight"]) fun _ _ _ _ _ _ us hl => match us, hl with | [_], _ => rfl,
      f_check_guest := f7, d_check_guest := _, F_check_guest := F7, g_check_guest := PySem.W.mg_of X G a7, b_check_guest := F7.binds (ps := ["guest", "guests"]) fun _ _ _ _ _ _ us hl => match us, hl with | [_, _], _ => rfl,
      f_check_number := f8, d_check_number := _, F_check_number := F8, g_check_number := PySem.W.mg_of X G a8, b_check_number := F8.binds (ps := ["number", "least", "most"]) fun _ _ _ _ _ _ us hl => match us, hl with | [_, _, _], _ => rfl,
      f_check_index := f9, d_check_index := _, F_check_index := F9, g_check_index := PySem.W.mg_of X G a9, b_check_index := F9.binds (ps := ["index", "many"]) fun _ _ _ _ _ _ us hl => match us, hl with | [_, _], _ => rfl,
      f_raised := f10, d_raised := _, F_raised := F10, g_raised := PySem.W.mg_of X G a10, b_raised := F10.binds (ps := ["base", "times"]) fun _ _ _ _ _ _ us hl => match us, hl with | [_, _], _ => rfl,
      f_rising := f11, d_rising := _, F_rising := F11, g_rising := PySem.W.mg_of X G a11, b_rising := F11.binds (ps := ["weight", "guests"]) fun _ _ _ _ _ _ us hl => match us, hl with | [_, _], _ => rfl,
      f_fraction := f12, d_fraction := _, F_fraction := F12, g_fraction := PySem.W.mg_of X G a12, b_fraction := F12.binds (ps := ["top", "bottom"]) fun _ _ _ _ _ _ us hl => match us, hl with | [_, _], _ => rfl,
      f_is_seating := f13, d_is_seating := _, F_is_seating := F13, g_is_seating := PySem.W.mg_of X G a13, b_is_seating := F13.binds (ps := ["thing"]) fun _ _ _ _ _ _ us hl => match us, hl with | [_], _ => rfl,
      f_tables_of := f14, d_tables_of := _, F_tables_of := F14, g_tables_of := PySem.W.mg_of X G a14, b_tables_of := F14.binds (ps := ["seating"]) fun _ _ _ _ _ _ us hl => match us, hl with | [_], _ => rfl,
      f_check_seating := f15, d_check_seating := _, F_check_seating := F15, g_check_seating := PySem.W.mg_of X G a15, b_check_seating := F15.binds (ps := ["seating"]) fun _ _ _ _ _ _ us hl => match us, hl with | [_], _ => rfl,
      f_walk_left := f16, d_walk_left := _, F_walk_left := F16, g_walk_left := PySem.W.mg_of X G a16, b_walk_left := F16.binds (ps := ["lefts", "guest"]) fun _ _ _ _ _ _ us hl => match us, hl with | [_, _], _ => rfl,
      f_tables_among := f17, d_tables_among := _, F_tables_among := F17, g_tables_among := PySem.W.mg_of X G a17, b_tables_among := F17.binds (ps := ["lefts", "guests"]) fun _ _ _ _ _ _ us hl => match us, hl with | [_, _], _ => rfl,
      f_seating_with := f18, d_seating_with := _, F_seating_with := F18, g_seating_with := PySem.W.mg_of X G a18, b_seating_with := F18.binds (ps := ["tables"]) fun _ _ _ _ _ _ us hl => match us, hl with | [_], _ => rfl,
      f_count_sizes := f19, d_count_sizes := _, F_count_sizes := F19, g_count_sizes := PySem.W.mg_of X G a19, b_count_sizes := F19.binds (ps := ["sizes"]) fun _ _ _ _ _ _ us hl => match us, hl with | [_], _ => rfl,
      f_sizes_share := f20, d_sizes_share := _, F_sizes_share := F20, g_sizes_share := PySem.W.mg_of X G a20, b_sizes_share := F20.binds (ps := ["sizes", "weight"]) fun _ _ _ _ _ _ us hl => match us, hl with | [_, _], _ => rfl,
      f_nth_with_sizes := f21, d_nth_with_sizes := _, F_nth_with_sizes := F21, g_nth_with_sizes := PySem.W.mg_of X G a21, b_nth_with_sizes := F21.binds (ps := ["sizes", "index"]) fun _ _ _ _ _ _ us hl => match us, hl with | [_, _], _ => rfl,
      f_index_with_sizes := f22, d_index_with_sizes := _, F_index_with_sizes := F22, g_index_with_sizes := PySem.W.mg_of X G a22, b_index_with_sizes := F22.binds (ps := ["seating"]) fun _ _ _ _ _ _ us hl => match us, hl with | [_], _ => rfl,
      f_count_by_opening := f23, d_count_by_opening := _, F_count_by_opening := F23, g_count_by_opening := PySem.W.mg_of X G a23, b_count_by_opening := F23.binds (ps := ["sizes"]) fun _ _ _ _ _ _ us hl => match us, hl with | [_], _ => rfl,
      f_opening_share := f24, d_opening_share := _, F_opening_share := F24, g_opening_share := PySem.W.mg_of X G a24, b_opening_share := F24.binds (ps := ["sizes", "weight"]) fun _ _ _ _ _ _ us hl => match us, hl with | [_, _], _ => rfl,
      f_size_share := f25, d_size_share := _, F_size_share := F25, g_size_share := PySem.W.mg_of X G a25, b_size_share := F25.binds (ps := ["guests", "weight", "size"]) fun _ _ _ _ _ _ us hl => match us, hl with | [_, _, _], _ => rfl,
      f_mean_number := f26, d_mean_number := _, F_mean_number := F26, g_mean_number := PySem.W.mg_of X G a26, b_mean_number := F26.binds (ps := ["guests", "weight", "size"]) fun _ _ _ _ _ _ us hl => match us, hl with | [_, _, _], _ => rfl,
      f_number_shares := f27, d_number_shares := _, F_number_shares := F27, g_number_shares := PySem.W.mg_of X G a27, b_number_shares := F27.binds (ps := ["guests", "weight", "size"]) fun _ _ _ _ _ _ us hl => match us, hl with | [_, _, _], _ => rfl,
      f_count_allowed := f28, d_count_allowed := _, F_count_allowed := F28, g_count_allowed := PySem.W.mg_of X G a28, b_count_allowed := F28.binds (ps := ["guests", "allowed"]) fun _ _ _ _ _ _ us hl => match us, hl with | [_, _], _ => rfl,
      f_allowed_share := f29, d_allowed_share := _, F_allowed_share := F29, g_allowed_share := PySem.W.mg_of X G a29, b_allowed_share := F29.binds (ps := ["guests", "weight", "allowed"]) fun _ _ _ _ _ _ us hl => match us, hl with | [_, _, _], _ => rfl,
      f_nth_allowed := f30, d_nth_allowed := _, F_nth_allowed := F30, g_nth_allowed := PySem.W.mg_of X G a30, b_nth_allowed := F30.binds (ps := ["guests", "allowed", "index"]) fun _ _ _ _ _ _ us hl => match us, hl with | [_, _, _], _ => rfl,
      f_first_allowed := f31, d_first_allowed := _, F_first_allowed := F31, g_first_allowed := PySem.W.mg_of X G a31, b_first_allowed := F31.binds (ps := ["guests", "weight", "allowed"]) fun _ _ _ _ _ _ us hl => match us, hl with | [_, _, _], _ => rfl,
      f_given_open := f32, d_given_open := _, F_given_open := F32, g_given_open := PySem.W.mg_of X G a32, b_given_open := F32.binds (ps := ["sizes", "guest"]) fun _ _ _ _ _ _ us hl => match us, hl with | [_, _], _ => rfl,
      f_given_together := f33, d_given_together := _, F_given_together := F33, g_given_together := PySem.W.mg_of X G a33, b_given_together := F33.binds (ps := ["sizes"]) fun _ _ _ _ _ _ us hl => match us, hl with | [_], _ => rfl,
      f_check_sizes := f34, d_check_sizes := _, F_check_sizes := F34, g_check_sizes := PySem.W.mg_of X G a34, b_check_sizes := F34.binds (ps := ["sizes"]) fun _ _ _ _ _ _ us hl => match us, hl with | [_], _ => rfl,
      f_are_sizes := f35, d_are_sizes := _, F_are_sizes := F35, g_are_sizes := PySem.W.mg_of X G a35, b_are_sizes := F35.binds (ps := ["thing"]) fun _ _ _ _ _ _ us hl => match us, hl with | [_], _ => rfl,
      f_check_allowed := f36, d_check_allowed := _, F_check_allowed := F36, g_check_allowed := PySem.W.mg_of X G a36, b_check_allowed := F36.binds (ps := ["allowed"]) fun _ _ _ _ _ _ us hl => match us, hl with | [_], _ => rfl,
      f_ways_with_sizes := f37, d_ways_with_sizes := _, F_ways_with_sizes := F37, g_ways_with_sizes := PySem.W.mg_of X G a37, b_ways_with_sizes := F37.binds (ps := ["sizes"]) fun _ _ _ _ _ _ us hl => match us, hl with | [_], _ => rfl,
      f_ways_by_opening := f38, d_ways_by_opening := _, F_ways_by_opening := F38, g_ways_by_opening := PySem.W.mg_of X G a38, b_ways_by_opening := F38.binds (ps := ["sizes"]) fun _ _ _ _ _ _ us hl => match us, hl with | [_], _ => rfl,
      f_share_of_ways := f39, d_share_of_ways := _, F_share_of_ways := F39, g_share_of_ways := PySem.W.mg_of X G a39, b_share_of_ways := F39.binds (ps := ["ways", "sizes", "weight"]) fun _ _ _ _ _ _ us hl => match us, hl with | [_, _, _], _ => rfl,
      f_tables_weight := f40, d_tables_weight := _, F_tables_weight := F40, g_tables_weight := PySem.W.mg_of X G a40, b_tables_weight := F40.binds (ps := ["guests", "weight", "size"]) fun _ _ _ _ _ _ us hl => match us, hl with | [_, _, _], _ => rfl,
      f_weight_with_size := f41, d_weight_with_size := _, F_weight_with_size := F41, g_weight_with_size := PySem.W.mg_of X G a41, b_weight_with_size := F41.binds (ps := ["guests", "weight", "size"]) fun _ _ _ _ _ _ us hl => match us, hl with | [_, _, _], _ => rfl,
      f_weights_with_allowed := f42, d_weights_with_allowed := _, F_weights_with_allowed := F42, g_weights_with_allowed := PySem.W.mg_of X G a42, b_weights_with_allowed := F42.binds (ps := ["guests", "weight", "allowed"]) fun _ _ _ _ _ _ us hl => match us, hl with | [_, _, _], _ => rfl,
      f_ways_behind_sizes := f43, d_ways_behind_sizes := _, F_ways_behind_sizes := F43, g_ways_behind_sizes := PySem.W.mg_of X G a43, b_ways_behind_sizes := F43.binds (ps := ["sizes"]) fun _ _ _ _ _ _ us hl => match us, hl with | [_], _ => rfl,
      f_table_at := f44, d_table_at := _, F_table_at := F44, g_table_at := PySem.W.mg_of X G a44, b_table_at := F44.binds (ps := ["free", "behind", "index"]) fun _ _ _ _ _ _ us hl => match us, hl with | [_, _, _], _ => rfl,
      f_index_of_table := f45, d_index_of_table := _, F_index_of_table := F45, g_index_of_table := PySem.W.mg_of X G a45, b_index_of_table := F45.binds (ps := ["free", "behind", "table"]) fun _ _ _ _ _ _ us hl => match us, hl with | [_, _, _], _ => rfl,
      f_ways_to_go_on := f46, d_ways_to_go_on := _, F_ways_to_go_on := F46, g_ways_to_go_on := PySem.W.mg_of X G a46, b_ways_to_go_on := F46.binds (ps := ["length", "many", "behind"]) fun _ _ _ _ _ _ us hl => match us, hl with | [_, _, _], _ => rfl,
      f_law_pouch := f47, d_law_pouch := _, F_law_pouch := F47, g_law_pouch := PySem.W.mg_of X G a47, b_law_pouch := F47.binds (ps := ["script", "at"]) fun _ _ _ _ _ _ us hl => match us, hl with | [_, _], _ => rfl,
      f_law_dip := f48, d_law_dip := _, F_law_dip := F48, g_law_dip := PySem.W.mg_of X G a48, b_law_dip := F48.binds (ps := ["pouch", "wide"]) fun _ _ _ _ _ _ us hl => match us, hl with | [_, _], _ => rfl,
      f_law_entries := f49, d_law_entries := _, F_law_entries := F49, g_law_entries := PySem.W.mg_of X G a49, b_law_entries := F49.binds (ps := ["pouch", "many"]) fun _ _ _ _ _ _ us hl => match us, hl with | [_, _], _ => rfl,
      f_law_rings := f50, d_law_rings := _, F_law_rings := F50, g_law_rings := PySem.W.mg_of X G a50, b_law_rings := F50.binds (ps := ["entries"]) fun _ _ _ _ _ _ us hl => match us, hl with | [_], _ => rfl,
      f_law_seat := f51, d_law_seat := _, F_law_seat := F51, g_law_seat := PySem.W.mg_of X G a51, b_law_seat := F51.binds (ps := ["rings"]) fun _ _ _ _ _ _ us hl => match us, hl with | [_], _ => rfl,
      f_law_things := f52, d_law_things := _, F_law_things := F52, g_law_things := PySem.W.mg_of X G a52, b_law_things := F52.binds (ps := ["pouch", "row"]) fun _ _ _ _ _ _ us hl => match us, hl with | [_, _], _ => rfl,
      f_law_is_row := f53, d_law_is_row := _, F_law_is_row := F53, g_law_is_row := PySem.W.mg_of X G a53, b_law_is_row := F53.binds (ps := ["item"]) fun _ _ _ _ _ _ us hl => match us, hl with | [_], _ => rfl,
      f_law_rise := f54, d_law_rise := _, F_law_rise := F54, g_law_rise := PySem.W.mg_of X G a54, b_law_rise := F54.binds (ps := ["heavy", "many"]) fun _ _ _ _ _ _ us hl => match us, hl with | [_, _], _ => rfl,
      f_law_some_widths := f55, d_law_some_widths := _, F_law_some_widths := F55, g_law_some_widths := PySem.W.mg_of X G a55, b_law_some_widths := F55.binds (ps := ["pouch", "many"]) fun _ _ _ _ _ _ us hl => match us, hl with | [_, _], _ => rfl,
      f_law_counted := f56, d_law_counted := _, F_law_counted := F56, g_law_counted := PySem.W.mg_of X G a56, b_law_counted := F56.binds (ps := ["widths"]) fun _ _ _ _ _ _ us hl => match us, hl with | [_], _ => rfl,
      f_law_word := f57, d_law_word := _, F_law_word := F57, g_law_word := PySem.W.mg_of X G a57, b_law_word := F57.binds (ps := ["caught"]) fun _ _ _ _ _ _ us hl => match us, hl with | [_], _ => rfl,
      f_law_asked := f58, d_law_asked := _, F_law_asked := F58, g_law_asked := PySem.W.mg_of X G a58, b_law_asked := F58.binds (ps := ["way", "one", "two", "three"]) fun _ _ _ _ _ _ us hl => match us, hl with | [_, _, _, _], _ => rfl,
      f_law_told := f59, d_law_told := _, F_law_told := F59, g_law_told := PySem.W.mg_of X G a59, b_law_told := F59.binds (ps := ["way", "one", "two", "three"]) fun _ _ _ _ _ _ us hl => match us, hl with | [_, _, _, _], _ => rfl,
      f_law_is_sizes := f60, d_law_is_sizes := _, F_law_is_sizes := F60, g_law_is_sizes := PySem.W.mg_of X G a60, b_law_is_sizes := F60.binds (ps := ["item"]) fun _ _ _ _ _ _ us hl => match us, hl with | [_], _ => rfl,
      f_law_is_allowed := f61, d_law_is_allowed := _, F_law_is_allowed := F61, g_law_is_allowed := PySem.W.mg_of X G a61, b_law_is_allowed := F61.binds (ps := ["item"]) fun _ _ _ _ _ _ us hl => match us, hl with | [_], _ => rfl,
      f_law_odd := f62, d_law_odd := _, F_law_odd := F62, g_law_odd := PySem.W.mg_of X G a62, b_law_odd := F62.binds (ps := ["pouch", "row"]) fun _ _ _ _ _ _ us hl => match us, hl with | [_, _], _ => rfl,
      f_law_lists_right := f63, d_law_lists_right := _, F_law_lists_right := F63, g_law_lists_right := PySem.W.mg_of X G a63, b_law_lists_right := F63.binds (ps := ["pouch"]) fun _ _ _ _ _ _ us hl => match us, hl with | [_], _ => rfl,
      f_law_wrong_right := f64, d_law_wrong_right := _, F_law_wrong_right := F64, g_law_wrong_right := PySem.W.mg_of X G a64, b_law_wrong_right := F64.binds (ps := ["pouch"]) fun _ _ _ _ _ _ us hl => match us, hl with | [_], _ => rfl,
      f_law_seatings_right := f65, d_law_seatings_right := _, F_law_seatings_right := F65, g_law_seatings_right := PySem.W.mg_of X G a65, b_law_seatings_right := F65.binds (ps := ["pouch"]) fun _ _ _ _ _ _ us hl => match us, hl with | [_], _ => rfl,
      f_law := fa, d_law := _, F_law := F66, g_law := PySem.W.mg_of X G a66, b_law := F66.binds (ps := ["script"]) fun _ _ _ _ _ _ us hl => match us, hl with | [_], _ => rfl,
      cl_HallError := c_HallError, gc_HallError := PySem.W.mg_of X G q_HallError,
      cl_InvalidSeating := c_InvalidSeating, gc_InvalidSeating := PySem.W.mg_of X G q_InvalidSeating,
      cl_InvalidSizes := c_InvalidSizes, gc_InvalidSizes := PySem.W.mg_of X G q_InvalidSizes,
      cl_InvalidWeight := c_InvalidWeight, gc_InvalidWeight := PySem.W.mg_of X G q_InvalidWeight,
      cl_InvalidGuests := c_InvalidGuests, gc_InvalidGuests := PySem.W.mg_of X G q_InvalidGuests,
      cl_InvalidGuest := c_InvalidGuest, gc_InvalidGuest := PySem.W.mg_of X G q_InvalidGuest,
      cl_InvalidNumber := c_InvalidNumber, gc_InvalidNumber := PySem.W.mg_of X G q_InvalidNumber,
      cl_InvalidIndex := c_InvalidIndex, gc_InvalidIndex := PySem.W.mg_of X G q_InvalidIndex,
      cl_NoSeating := c_NoSeating, gc_NoSeating := PySem.W.mg_of X G q_NoSeating,
      e_InvalidSeating := Kit.excD_of e_InvalidSeating, x_InvalidSeating := x_InvalidSeating, t_InvalidSeating := t_InvalidSeating,
      e_InvalidSizes := Kit.excD_of e_InvalidSizes, x_InvalidSizes := x_InvalidSizes, t_InvalidSizes := t_InvalidSizes,
      e_InvalidWeight := Kit.excD_of e_InvalidWeight, x_InvalidWeight := x_InvalidWeight, t_InvalidWeight := t_InvalidWeight,
      e_InvalidGuests := Kit.excD_of e_InvalidGuests, x_InvalidGuests := x_InvalidGuests, t_InvalidGuests := t_InvalidGuests,
      e_InvalidGuest := Kit.excD_of e_InvalidGuest, x_InvalidGuest := x_InvalidGuest, t_InvalidGuest := t_InvalidGuest,
      e_InvalidNumber := Kit.excD_of e_InvalidNumber, x_InvalidNumber := x_InvalidNumber, t_InvalidNumber := t_InvalidNumber,
      e_InvalidIndex := Kit.excD_of e_InvalidIndex, x_InvalidIndex := x_InvalidIndex, t_InvalidIndex := t_InvalidIndex,
      e_NoSeating := Kit.excD_of e_NoSeating, x_NoSeating := x_NoSeating, t_NoSeating := t_NoSeating,
      m_ValueError := PySem.W.mg_none_of X G z_ValueError,
      m_abs := PySem.W.mg_none_of X G z_abs,
      m_all := PySem.W.mg_none_of X G z_all,
      m_bool := PySem.W.mg_none_of X G z_bool,
      m_divmod := PySem.W.mg_none_of X G z_divmod,
      m_enumerate := PySem.W.mg_none_of X G z_enumerate,
      m_int := PySem.W.mg_none_of X G z_int,
      m_isinstance := PySem.W.mg_none_of X G z_isinstance,
      m_len := PySem.W.mg_none_of X G z_len,
      m_list := PySem.W.mg_none_of X G z_list,
      m_max := PySem.W.mg_none_of X G z_max,
      m_min := PySem.W.mg_none_of X G z_min,
      m_range := PySem.W.mg_none_of X G z_range,
      m_set := PySem.W.mg_none_of X G z_set,
      m_sorted := PySem.W.mg_none_of X G z_sorted,
      m_sum := PySem.W.mg_none_of X G z_sum,
      m_tuple := PySem.W.mg_none_of X G z_tuple,
      m_type := PySem.W.mg_none_of X G z_type,
      c_MOST_GUESTS := ⟨_, PySem.W.mg_of X G y_MOST_GUESTS, ⟨_, rfl⟩⟩,
      c_MOST_WEIGHT := ⟨_, PySem.W.mg_of X G y_MOST_WEIGHT, ⟨_, rfl⟩⟩,
      i_comb := PySem.W.mg_of X G x_comb,
      i_factorial := PySem.W.mg_of X G x_factorial,
      i_gcd := PySem.W.mg_of X G x_gcd,
      i_perm := PySem.W.mg_of X G x_perm }
  exact ⟨PySem.W.fnOf "law" "law" (defArgs s_law) (defBody s_law) (defScope s_law) .none kV66 dc66 pm66 an66 cd66 ct66, fun s v => .of_eq rfl, fun base _ _ => ok_law T⟩
end K15
open PySem PySem.W PyProof.Rows
set_option maxRecDepth 100000 in
set_option maxHeartbeats 0 in
theorem PySem.Challenge.cw_newtables_k15_errors_of_sizes_holds : PySem.Challenge.rw_newtables_k15_errors_of_sizes.Holds := by
  w_on; o_law; k_head; (case hw => w_witness2)
  k_fill
  refine L2.walk_of (l := PySem.Challenge.rw_newtables_k15_errors_of_sizes) (n := 63) (k := 10) (x := "script") (CX := fun _ => L2.CX0) (sp := fun w => K15.sp_law _) rfl (by decide) rfl ⟨rfl, by decide, by decide⟩ (fun w h Y => PySem.W.kIn_of Y) ?F (fun _ _ a ns hl _ hS => ⟨a, ns, rfl, hS, hl, fun _ => rfl⟩) (fun _ _ _ _ _ h => h)
  case F =>
    intro w mg fa h KX G hmg
    refine' K15.all_mk KX G hmg ?a1 ?l1 ?c1 ?k1 ?a2 ?l2 ?c2 ?k2 ?a3 ?l3 ?c3 ?k3 ?a4 ?l4 ?c4 ?k4 ?a5 ?l5 ?c5 ?k5 ?a6 ?l6 ?c6 ?k6 ?a7 ?l7 ?c7 ?k7 ?a8 ?l8 ?c8 ?k8 ?a9 ?l9 ?c9 ?k9 ?a10 ?l10 ?c10 ?k10 ?a11 ?l11 ?c11 ?k11 ?a12 ?l12 ?c12 ?k12 ?a13 ?l13 ?c13 ?k13 ?a14 ?l14 ?c14 ?k14 ?a15 ?l15 ?c15 ?k15 ?a16 ?l16 ?c16 ?k16 ?a17 ?l17 ?c17 ?k17 ?a18 ?l18 ?c18 ?k18 ?a19 ?l19 ?c19 ?k19 ?a20 ?l20 ?c20 ?k20 ?a21 ?l21 ?c21 ?k21 ?a22 ?l22 ?c22 ?k22 ?a23 ?l23 ?c23 ?k23 ?a24 ?l24 ?c24 ?k24 ?a25 ?l25 ?c25 ?k25 ?a26 ?l26 ?c26 ?k26 ?a27 ?l27 ?c27 ?k27 ?a28 ?l28 ?c28 ?k28 ?a29 ?l29 ?c29 ?k29 ?a30 ?l30 ?c30 ?k30 ?a31 ?l31 ?c31 ?k31 ?a32 ?l32 ?c32 ?k32 ?a33 ?l33 ?c33 ?k33 ?a34 ?l34 ?c34 ?k34 ?a35 ?l35 ?c35 ?k35 ?a36 ?l36 ?c36 ?k36 ?a37 ?l37 ?c37 ?k37 ?a38 ?l38 ?c38 ?k38 ?a39 ?l39 ?c39 ?k39 ?a40 ?l40 ?c40 ?k40 ?a41 ?l41 ?c41 ?k41 ?a42 ?l42 ?c42 ?k42 ?a43 ?l43 ?c43 ?k43 ?a44 ?l44 ?c44 ?k44 ?a45 ?l45 ?c45 ?k45 ?a46 ?l46 ?c46 ?k46 ?a47 ?l47 ?c47 ?k47 ?a48 ?l48 ?c48 ?k48 ?a49 ?l49 ?c49 ?k49 ?a50 ?l50 ?c50 ?k50 ?a51 ?l51 ?c51 ?k51 ?a52 ?l52 ?c52 ?k52 ?a53 ?l53 ?c53 ?k53 ?a54 ?l54 ?c54 ?k54 ?a55 ?l55 ?c55 ?k55 ?a56 ?l56 ?c56 ?k56 ?a57 ?l57 ?c57 ?k57 ?a58 ?l58 ?c58 ?k58 ?a59 ?l59 ?c59 ?k59 ?a60 ?l60 ?c60 ?k60 ?a61 ?l61 ?c61 ?k61 ?a62 ?l62 ?c62 ?k62 ?a63 ?l63 ?c63 ?k63 ?a64 ?l64 ?c64 ?k64 ?a65 ?l65 ?c65 ?k65 ?a66 ?l66 ?c66 ?k66 ?q_HallError ?q_InvalidSeating ?q_InvalidSizes ?q_InvalidWeight ?q_InvalidGuests ?q_InvalidGuest ?q_InvalidNumber ?q_InvalidIndex ?q_NoSeating ?e_InvalidSeating ?x_InvalidSeating ?t_InvalidSeating ?e_InvalidSizes ?x_InvalidSizes ?t_InvalidSizes ?e_InvalidWeight ?x_InvalidWeight ?t_InvalidWeight ?e_InvalidGuests ?x_InvalidGuests ?t_InvalidGuests ?e_InvalidGuest ?x_InvalidGuest ?t_InvalidGuest ?e_InvalidNumber ?x_InvalidNumber ?t_InvalidNumber ?e_InvalidIndex ?x_InvalidIndex ?t_InvalidIndex ?e_NoSeating ?x_NoSeating ?t_NoSeating ?z_ValueError ?z_abs ?z_all ?z_bool ?z_divmod ?z_enumerate ?z_int ?z_isinstance ?z_len ?z_list ?z_max ?z_min ?z_range ?z_set ?z_sorted ?z_sum ?z_tuple ?z_type ?y_MOST_GUESTS ?y_MOST_WEIGHT ?x_comb ?x_factorial ?x_gcd ?x_perm
    (case a1 => k_is); (case l1 => k_is); (case c1 => k_is); (case k1 => k_is); (case a2 => k_is); (case l2 => k_is)
    (case c2 => k_is); (case k2 => k_is); (case a3 => k_is); (case l3 => k_is); (case c3 => k_is); (case k3 => k_is)
    (case a4 => k_is); (case l4 => k_is); (case c4 => k_is); (case k4 => k_is); (case a5 => k_is); (case l5 => k_is)
    (case c5 => k_is); (case k5 => k_is); (case a6 => k_is); (case l6 => k_is); (case c6 => k_is); (case k6 => k_is)
    (case a7 => k_is); (case l7 => k_is); (case c7 => k_is); (case k7 => k_is); (case a8 => k_is); (case l8 => k_is)
    (case c8 => k_is); (case k8 => k_is); (case a9 => k_is); (case l9 => k_is); (case c9 => k_is); (case k9 => k_is)
    (case a10 => k_is); (case l10 => k_is); (case c10 => k_is); (case k10 => k_is); (case a11 => k_is); (case l11 => k_is)
    (case c11 => k_is); (case k11 => k_is); (case a12 => k_is); (case l12 => k_is); (case c12 => k_is); (case k12 => k_is)
    (case a13 => k_is); (case l13 => k_is); (case c13 => k_is); (case k13 => k_is); (case a14 => k_is); (case l14 => k_is)
    (case c14 => k_is); (case k14 => k_is); (case a15 => k_is); (case l15 => k_is); (case c15 => k_is); (case k15 => k_is)
    (case a16 => k_is); (case l16 => k_is); (case c16 => k_is); (case k16 => k_is); (case a17 => k_is); (case l17 => k_is)
    (case c17 => k_is); (case k17 => k_is); (case a18 => k_is); (case l18 => k_is); (case c18 => k_is); (case k18 => k_is)
    (case a19 => k_is); (case l19 => k_is); (case c19 => k_is); (case k19 => k_is); (case a20 => k_is); (case l20 => k_is)
    (case c20 => k_is); (case k20 => k_is); (case a21 => k_is); (case l21 => k_is); (case c21 => k_is); (case k21 => k_is)
    (case a22 => k_is); (case l22 => k_is); (case c22 => k_is); (case k22 => k_is); (case a23 => k_is); (case l23 => k_is)
    (case c23 => k_is); (case k23 => k_is); (case a24 => k_is); (case l24 => k_is); (case c24 => k_is); (case k24 => k_is)
    (case a25 => k_is); (case l25 => k_is); (case c25 => k_is); (case k25 => k_is); (case a26 => k_is); (case l26 => k_is)
    (case c26 => k_is); (case k26 => k_is); (case a27 => k_is); (case l27 => k_is); (case c27 => k_is); (case k27 => k_is)
    (case a28 => k_is); (case l28 => k_is); (case c28 => k_is); (case k28 => k_is); (case a29 => k_is); (case l29 => k_is)
    (case c29 => k_is); (case k29 => k_is); (case a30 => k_is); (case l30 => k_is); (case c30 => k_is); (case k30 => k_is)
    (case a31 => k_is); (case l31 => k_is); (case c31 => k_is); (case k31 => k_is); (case a32 => k_is); (case l32 => k_is)
    (case c32 => k_is); (case k32 => k_is); (case a33 => k_is); (case l33 => k_is); (case c33 => k_is); (case k33 => k_is)
    (case a34 => k_is); (case l34 => k_is); (case c34 => k_is); (case k34 => k_is); (case a35 => k_is); (case l35 => k_is)
    (case c35 => k_is); (case k35 => k_is); (case a36 => k_is); (case l36 => k_is); (case c36 => k_is); (case k36 => k_is)
    (case a37 => k_is); (case l37 => k_is); (case c37 => k_is); (case k37 => k_is); (case a38 => k_is); (case l38 => k_is)
    (case c38 => k_is); (case k38 => k_is); (case a39 => k_is); (case l39 => k_is); (case c39 => k_is); (case k39 => k_is)
    (case a40 => k_is); (case l40 => k_is); (case c40 => k_is); (case k40 => k_is); (case a41 => k_is); (case l41 => k_is)
    (case c41 => k_is); (case k41 => k_is); (case a42 => k_is); (case l42 => k_is); (case c42 => k_is); (case k42 => k_is)
    (case a43 => k_is); (case l43 => k_is); (case c43 => k_is); (case k43 => k_is); (case a44 => k_is); (case l44 => k_is)
    (case c44 => k_is); (case k44 => k_is); (case a45 => k_is); (case l45 => k_is); (case c45 => k_is); (case k45 => k_is)
    (case a46 => k_is); (case l46 => k_is); (case c46 => k_is); (case k46 => k_is); (case a47 => k_is); (case l47 => k_is)
    (case c47 => k_is); (case k47 => k_is); (case a48 => k_is); (case l48 => k_is); (case c48 => k_is); (case k48 => k_is)
    (case a49 => k_is); (case l49 => k_is); (case c49 => k_is); (case k49 => k_is); (case a50 => k_is); (case l50 => k_is)
    (case c50 => k_is); (case k50 => k_is); (case a51 => k_is); (case l51 => k_is); (case c51 => k_is); (case k51 => k_is)
    (case a52 => k_is); (case l52 => k_is); (case c52 => k_is); (case k52 => k_is); (case a53 => k_is); (case l53 => k_is)
    (case c53 => k_is); (case k53 => k_is); (case a54 => k_is); (case l54 => k_is); (case c54 => k_is); (case k54 => k_is)
    (case a55 => k_is); (case l55 => k_is); (case c55 => k_is); (case k55 => k_is); (case a56 => k_is); (case l56 => k_is)
    (case c56 => k_is); (case k56 => k_is); (case a57 => k_is); (case l57 => k_is); (case c57 => k_is); (case k57 => k_is)
    (case a58 => k_is); (case l58 => k_is); (case c58 => k_is); (case k58 => k_is); (case a59 => k_is); (case l59 => k_is)
    (case c59 => k_is); (case k59 => k_is); (case a60 => k_is); (case l60 => k_is); (case c60 => k_is); (case k60 => k_is)
    (case a61 => k_is); (case l61 => k_is); (case c61 => k_is); (case k61 => k_is); (case a62 => k_is); (case l62 => k_is)
    (case c62 => k_is); (case k62 => k_is); (case a63 => k_is); (case l63 => k_is); (case c63 => k_is); (case k63 => k_is)
    (case a64 => k_is); (case l64 => k_is); (case c64 => k_is); (case k64 => k_is); (case a65 => k_is); (case l65 => k_is)
    (case c65 => k_is); (case k65 => k_is); (case a66 => k_is); (case l66 => k_is); (case c66 => k_is); (case k66 => k_is)
    (case q_HallError => k_is); (case q_InvalidSeating => k_is); (case q_InvalidSizes => k_is); (case q_InvalidWeight => k_is); (case q_InvalidGuests => k_is); (case q_InvalidGuest => k_is)
    (case q_InvalidNumber => k_is); (case q_InvalidIndex => k_is); (case q_NoSeating => k_is); (case e_InvalidSeating => kernel_rfl); (case x_InvalidSeating => kernel_rfl); (case t_InvalidSeating => kernel_rfl)
    (case e_InvalidSizes => kernel_rfl); (case x_InvalidSizes => kernel_rfl); (case t_InvalidSizes => kernel_rfl); (case e_InvalidWeight => kernel_rfl); (case x_InvalidWeight => kernel_rfl); (case t_InvalidWeight => kernel_rfl)
    (case e_InvalidGuests => kernel_rfl); (case x_InvalidGuests => kernel_rfl); (case t_InvalidGuests => kernel_rfl); (case e_InvalidGuest => kernel_rfl); (case x_InvalidGuest => kernel_rfl); (case t_InvalidGuest => kernel_rfl)
    (case e_InvalidNumber => kernel_rfl); (case x_InvalidNumber => kernel_rfl); (case t_InvalidNumber => kernel_rfl); (case e_InvalidIndex => kernel_rfl); (case x_InvalidIndex => kernel_rfl); (case t_InvalidIndex => kernel_rfl)
    (case e_NoSeating => kernel_rfl); (case x_NoSeating => kernel_rfl); (case t_NoSeating => kernel_rfl); (case z_ValueError => k_is); (case z_abs => k_is); (case z_all => k_is)
    (case z_bool => k_is); (case z_divmod => k_is); (case z_enumerate => k_is); (case z_int => k_is); (case z_isinstance => k_is); (case z_len => k_is)
    (case z_list => k_is); (case z_max => k_is); (case z_min => k_is); (case z_range => k_is); (case z_set => k_is); (case z_sorted => k_is)
    (case z_sum => k_is); (case z_tuple => k_is); (case z_type => k_is); (case y_MOST_GUESTS => k_is); (case y_MOST_WEIGHT => k_is); (case x_comb => k_is)
    (case x_factorial => k_is); (case x_gcd => k_is); (case x_perm => k_is)