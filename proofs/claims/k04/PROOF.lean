import PyProof.Rows.All
import Wide.All
import OpenK.AllK
import Wide.FinOn
import PyProof.TypeEq
import HandS.ForMost
import HandS.Evl
import HandS.Wide
import HandS.WideBits
import HandS.Gcd
import HandS.Codes
import HandS.Conv
import HandS.IsInst
import HandS.More
import HandS.Walk
import HandS.Style
import PyProof.InstEq
import HandS.Sort
import KE.DataMinMax
import KE.GoesEnum
import KE.GoesMore
import HandS.Iter
import HandS.WordsDict
import PyProof.Rows.RegFStrParts
import PyProof.ReprLen
import PyProof.Rows.RegStrFacts
import KE.KMathGC
import HandS.RevRange
import HandS.Deep
import HandS.Strs
import PySem.Challenge.RW_newtables_k04_coming_lists
set_option Elab.async false
set_option linter.all false
set_option maxRecDepth 100000
set_option maxHeartbeats 4000000
namespace Kit
open PySem PySem.Spec PyProof.Rows L2 Evl
/-! rules that the layer lacks -/
section
variable {X : Cx} {a b c d : Expr} {ta tb tc td : TE} {pos : Pos}
def CPowX (i j : Int) : Prop := 0 ≤ j ∧ (Builtin.Int.intBits i : Int) * j ≤ 2 ^ 27
theorem op_powX : OpR X (binaryOp .Pow) (rI CPowX fun i j => .int (i ^ j.toNat)) := opI fun _ _ _ _ _ _ _ hc q => pow_int hc.1 hc.2 q
/-- the types that are compared by == -/
def Meta (n : String) : Prop := ∀ s : Shared, s.TypeIs (.type n) "type"
def rEqTy : R2 := fun x y H Q => ∃ m n, x = .ty m ∧ y = .ty n ∧ Meta m ∧ Meta n ∧ Q (.bl (decide (m = n))) H
theorem op_eqTy : OpR X (compareOp .Eq) rEqTy := by
  intro pins s σ H x y v u Q I rx ry h
  obtain ⟨m, n, rfl, rfl, hm, hn, q⟩ := h
  cases (show v = Value.type m from rx)
  cases (show u = Value.type n from ry)
  by_cases e : m = n
  · subst e
    exact PySem.TypeEq.eq_type_same hm ⟨.bl true, H, I, rfl, by simpa using q⟩
  · exact PySem.TypeEq.eq_type_other hm hn (by rw [beq_eq_false_iff_ne]; exact fun z => e (Value.type.inj z)) ⟨.bl false, H, I, rfl, by simpa [e] using q⟩
/-- a op b op c op d -/
def tChain3 (r r' r'' : R2) (ta tb tc td : TE) : TE := fun σ H Q => ta σ H fun x H1 => tb σ H1 fun y H2 => r x y H2 fun z H3 => ∃ k, z = .bl k ∧
  (if k = true then tc σ H3 fun w' H4 => r' y w' H4 fun z' H5 => ∃ k', z' = .bl k' ∧ (if k' = true then td σ H5 fun w'' H6 => r'' w' w'' H6 Q else Q (.bl false) H5) else Q (.bl false) H3)
theorem pe_chain3 {op op' op'' : CmpOp} {r r' r'' : R2} (ho : OpR X (compareOp op) r) (ho' : OpR X (compareOp op') r') (ho'' : OpR X (compareOp op'') r'') (ha : PE X a ta) (hb : PE X b tb) (hc : PE X c tc) (hd : PE X d td)
    (hm : lastMarks [op, op', op''] [b, c, d] = false := by with_unfolding_all rfl) : PE X (.Compare a [op, op', op''] [b, c, d] pos) (tChain3 r r' r'' ta tb tc td) := by
  refine ⟨fun pins s σ H Q I h => ?_⟩
  refine Compare_chain (thn (ha.run pins s σ H _ I h) fun v s1 ⟨x, H1, I1, r1, q1⟩ => chain_link (thn (hb.run pins s1 σ H1 _ I1 q1) fun u s2 ⟨y, H2, I2, r2, q2⟩ =>
    thn (ho pins s2 σ H2 x y v u _ I2 r1 r2 q2) fun d s3 ⟨z, H3, I3, r3, k, e, q3⟩ => ?_)) hm
  subst e
  cases r3
  refine wpAny_truthy_bool ?_
  cases k with
  | false => exact ite_ff ⟨.bl false, H3, I3, rfl, q3⟩
  | true =>
    refine ite_tt (chain_link (thn (hc.run pins s3 σ H3 _ I3 q3) fun w' s4 ⟨z', H4, I4, r4, q4⟩ => thn (ho' pins s4 σ H4 y z' u w' _ I4 r2 r4 q4) fun d' s5 ⟨z5, H5, I5, r5, k5, e5, q5⟩ => ?_))
    subst e5
    cases r5
    refine wpAny_truthy_bool ?_
    cases k5 with
    | false => exact ite_ff ⟨.bl false, H5, I5, rfl, q5⟩
    | true => exact ite_tt (chain_last (thn (hd.run pins s5 σ H5 _ I5 q5) fun w6 s6 ⟨z6, H6, I6, r6, q6⟩ => ho'' pins s6 σ H6 z' z6 w' w6 Q I6 r4 r6 q6))
theorem pt_chain3 {op op' op'' : CmpOp} {r r' r'' : R2} (ho : OpR X (compareOp op) r) (ho' : OpR X (compareOp op') r') (ho'' : OpR X (compareOp op'') r'') (ha : PE X a ta) (hb : PE X b tb) (hc : PE X c tc) (hd : PE X d td)
    (hm : lastMarks [op, op', op''] [b, c, d] = false := by with_unfolding_all rfl) : PT X (.Compare a [op, op', op''] [b, c, d] pos) (tTest (tChain3 r r' r'' ta tb tc td)) := by
  refine ⟨fun pins s σ H Q I h => ?_⟩
  refine isTrue_chain (thn (ha.run pins s σ H _ I h) fun v s1 ⟨x, H1, I1, r1, q1⟩ => test_link (thn (hb.run pins s1 σ H1 _ I1 q1) fun u s2 ⟨y, H2, I2, r2, q2⟩ =>
    thn (ho pins s2 σ H2 x y v u _ I2 r1 r2 q2) fun d s3 ⟨z, H3, I3, r3, k, e, q3⟩ => ?_)) hm
  subst e
  cases r3
  refine wpAny_truthy_bool ?_
  cases k with
  | false =>
    obtain ⟨k', e', q'⟩ := q3
    cases e'
    exact ite_ff ⟨H3, I3, q'⟩
  | true =>
    refine ite_tt (test_link (thn (hc.run pins s3 σ H3 _ I3 q3) fun w' s4 ⟨z', H4, I4, r4, q4⟩ => thn (ho' pins s4 σ H4 y z' u w' _ I4 r2 r4 q4) fun d' s5 ⟨z5, H5, I5, r5, k5, e5, q5⟩ => ?_))
    subst e5
    cases r5
    refine wpAny_truthy_bool ?_
    cases k5 with
    | false =>
      obtain ⟨k', e', q'⟩ := q5
      cases e'
      exact ite_ff ⟨H5, I5, q'⟩
    | true =>
      refine ite_tt (test_last (thn (hd.run pins s5 σ H5 _ I5 q5) fun w6 s6 ⟨z6, H6, I6, r6, q6⟩ => thn (ho'' pins s6 σ H6 z' z6 w' w6 _ I6 r4 r6 q6) fun d7 s7 ⟨z7, H7, I7, r7, k7, e7, q7⟩ => ?_))
      subst e7
      cases r7
      exact wpAny_truthy_bool ⟨H7, I7, q7⟩
end
/-! f(k = v, ..): keywords alone -/
section
variable {X : Cx} {CX : CXT} {k : Nat} {f C : Addr} {fd : FuncData} {ps ks : List Str} {sp : Sp} {E : XK} {x m : Str} {p pos apos kpos : Pos} {kws : List Keyword} {tk : TA}
variable {g : List Value → List Value → List Value} {gV : List V → List V → List V}
theorem pe_callK0 (F : FnOk X.prog X.w X.K X.mg X.base CX k f fd ps sp) (hr : Room k X.A) (hg : Gl X x) (hm : X.mg x = some (.ref f)) (hk : PySem.W.keepIn X.K (.ref f) = true) (hb : KBinds X.K fd ps ks g gV) (hx : Passes CX X E)
    (hkw : PK X kws tk) (hall : (backToKw pos (keywordEach kws X.env)).all (·.1.isSome) = true := by rfl) (hks : (backToKw pos (keywordEach kws X.env)).filterMap (·.1) = ks := by rfl)
    (hdb : (x == ("__debug__" : Str)) = false := by decide)
    (hpl : ((backTo pos (starEach [] X.env)).any (·.1) || (backToKw pos (keywordEach kws X.env)).any (·.1.isNone)) = false := by rfl) :
    PE X (.Call (.Name x p) [] kws pos) (tCallK sp gV E tNil tk) := by
  refine ⟨fun pins s σ H Q I h => ?_⟩
  refine wpAny_Call_Name_kw (ld_glob I hg hm ?_ hdb)
  refine PySem.W.callWith_KW0 (h₀ := X.base) I.ok.mod.kin hk hall ?_ hpl
  refine thn (hkw.run pos pins s σ H _ I h) fun ws s2 ⟨zs, H2, I2, rz, q2⟩ => ⟨I2.kIn, ?_⟩
  rw [hks]
  exact run_fnk F hr hb hx I2 (us := []) (vs := []) .nil rz q2
end
theorem pe_gc {X : Cx} {x : Str} {pos : Pos} {v : V} (hg : Gl X x) (h : ∃ u, X.mg x = some u ∧ RelV v u) (hd : (x == ("__debug__" : Str)) = false := by decide) : PE X (.Name x pos) (tC v) := by
  obtain ⟨u, hm, r⟩ := h
  exact pe_glob hg hm r hd
/-! built-ins by name, with readings that have names -/
section
variable {X : Cx}
def rAbs : List V → Hp → VK → Prop := fun xs H Q => ∃ i, xs = [.int i] ∧ Q (.int (if i < 0 then -i else i)) H
def rMin2 : List V → Hp → VK → Prop := fun xs H Q => ∃ i j, xs = [.int i, .int j] ∧ Q (.int (if j < i then j else i)) H
def rIntI : List V → Hp → VK → Prop := fun xs H Q => ∃ i, xs = [.int i] ∧ Q (.int i) H
def rIntB : List V → Hp → VK → Prop := fun xs H Q => ∃ b, xs = [.bl b] ∧ Q (.int (if b then 1 else 0)) H
theorem call_absR : CallR X (.builtin "abs") rAbs := call_abs
theorem call_maxR (hc : X.calm = true) : CallR X (.builtin "max") rMax2 := call_max2 hc
theorem call_minR (hc : X.calm = true) : CallR X (.builtin "min") rMin2 := call_min2 hc
theorem call_intI : CallR X (.type "int") rIntI := by
  intro pins s σ H xs us Q I r h
  obtain ⟨i, e, q⟩ := h
  exact call_int1 pins s σ H xs us Q I r (.inl ⟨i, e, q⟩)
theorem call_intB : CallR X (.type "int") rIntB := by
  intro pins s σ H xs us Q I r h
  obtain ⟨i, e, q⟩ := h
  exact call_int1 pins s σ H xs us Q I r (.inr ⟨i, e, q⟩)
theorem call_lenR : CallR X (.builtin "len") (rLenS X.K) := call_len_seq
theorem call_listR : CallR X (.type "list") (rListS X.K) := call_list_of
def rTupS (K : PySem.W.Frag) : List V → Hp → VK → Prop := fun xs H Q => ∃ p ys, xs = [.ref p] ∧ SqL K H p ys ∧ ∀ l, H l = none → Q (.ref l) (upd H l (.tup ys))
theorem call_tupR : CallR X (.type "tuple") (rTupS X.K) := by
  intro pins s σ H xs us Q I r h
  obtain ⟨p, ys, e, hs, q⟩ := h
  exact call_tuple_of pins s σ H xs us Q I r ⟨p, ys, e, .inl ⟨hs, q⟩⟩
def rIsN1 : R2 := fun x y H Q => y = .non ∧ Q (.bl (decide (x = .non))) H
def rNotN1 : R2 := fun x y H Q => y = .non ∧ Q (.bl (!decide (x = .non))) H
theorem op_isNR : OpR X (compareOp .Is) rIsN1 := op_isN
theorem op_notNR : OpR X (compareOp .IsNot) rNotN1 := op_notN
end
/-! evaluations of these -/
section
variable {K : PySem.W.Frag} {σ : L2.St} {H H' : Hp} {ta tb tc td te : TE} {x y z v : V} {r : R2} {i j : Int}
theorem ev_abs (h : Ev ta σ H (.int i)) : Ev (tCB rAbs (tCons ta tNil)) σ H (.int (if i < 0 then -i else i)) := fun H1 e Q q => h H1 e _ fun H2 e2 => ⟨i, rfl, q H2 e2⟩
theorem ev_min2 (ha : Ev ta σ H (.int i)) (hb : Ev tb σ H (.int j)) : Ev (tCB rMin2 (tCons ta (tCons tb tNil))) σ H (.int (if j < i then j else i)) := fun H1 e Q q =>
  ha H1 e _ fun H2 e2 => hb H2 (e.trans e2) _ fun H3 e3 => ⟨i, j, rfl, q H3 (e2.trans e3)⟩
theorem ev_intI (h : Ev ta σ H (.int i)) : Ev (tCB rIntI (tCons ta tNil)) σ H (.int i) := fun H1 e Q q => h H1 e _ fun H2 e2 => ⟨i, rfl, q H2 e2⟩
theorem ev_intB {b : Bool} (h : Ev ta σ H (.bl b)) : Ev (tCB rIntB (tCons ta tNil)) σ H (.int (if b then 1 else 0)) := fun H1 e Q q => h H1 e _ fun H2 e2 => ⟨b, rfl, q H2 e2⟩
theorem rv_isN : RV rIsN1 x .non H (.bl (decide (x = .non))) := fun H1 _ _ q => ⟨rfl, q H1 (Ex.refl H1)⟩
theorem rv_notN : RV rNotN1 x .non H (.bl (!decide (x = .non))) := fun H1 _ _ q => ⟨rfl, q H1 (Ex.refl H1)⟩
theorem ev_chain {r r' : R2} {k : Bool} {k' : Bool} (ha : Ev ta σ H x) (hb : Ev tb σ H y) (hr : RV r x y H (.bl k)) (hc : k = true → ∃ z, Ev tc σ H z ∧ RV r' y z H (.bl k')) : Ev (tChain r r' ta tb tc) σ H (.bl (k && k')) := fun H1 e Q q =>
  ha H1 e _ fun H2 e2 => hb H2 (e.trans e2) _ fun H3 e3 => hr H3 ((e.trans e2).trans e3) _ fun H4 e4 => ⟨k, rfl, by
    cases k with
    | true =>
      obtain ⟨z, h1, h2⟩ := hc rfl
      exact h1 H4 (((e.trans e2).trans e3).trans e4) _ fun H5 e5 => h2 H5 ((((e.trans e2).trans e3).trans e4).trans e5) _ fun H6 e6 => q H6 ((((e2.trans e3).trans e4).trans e5).trans e6)
    | false => exact q H4 ((e2.trans e3).trans e4)⟩
theorem ev_chainI {C C' : Int → Int → Bool} {i j l : Int} (ha : Ev ta σ H (.int i)) (hb : Ev tb σ H (.int j)) (hc : Ev tc σ H (.int l)) :
    Ev (tChain (rI0 fun i j => .bl (C i j)) (rI0 fun i j => .bl (C' i j)) ta tb tc) σ H (.bl (C i j && C' j l)) := ev_chain ha hb rv_I0 fun _ => ⟨_, hc, rv_I0⟩
theorem ev_chain3I {C C' C'' : Int → Int → Bool} {i j l m : Int} (ha : Ev ta σ H (.int i)) (hb : Ev tb σ H (.int j)) (hc : Ev tc σ H (.int l)) (hd : Ev td σ H (.int m)) :
    Ev (tChain3 (rI0 fun i j => .bl (C i j)) (rI0 fun i j => .bl (C' i j)) (rI0 fun i j => .bl (C'' i j)) ta tb tc td) σ H (.bl (C i j && (C' j l && C'' l m))) := fun H1 e Q q =>
  ha H1 e _ fun H2 e2 => hb H2 (e.trans e2) _ fun H3 e3 => ⟨i, j, rfl, rfl, C i j, rfl, by
    have e23 := e2.trans e3
    generalize C i j = k1 at q ⊢
    cases k1 with
    | false => exact q H3 e23
    | true =>
      refine hc H3 (e.trans e23) _ fun H4 e4 => ⟨j, l, rfl, rfl, C' j l, rfl, ?_⟩
      generalize C' j l = k2 at q ⊢
      cases k2 with
      | false => exact q H4 (e23.trans e4)
      | true => exact hd H4 ((e.trans e23).trans e4) _ fun H5 e5 => ⟨l, m, rfl, rfl, q H5 ((e23.trans e4).trans e5)⟩⟩
theorem rv_eqTy {m n : String} (hm : Meta m) (hn : Meta n) : RV rEqTy (.ty m) (.ty n) H (.bl (decide (m = n))) := fun H1 _ _ q => ⟨m, n, rfl, rfl, hm, hn, q H1 (Ex.refl H1)⟩
theorem ev_typeI (h : Ev ta σ H (.int i)) : Ev (tThenZ ta kTyp) σ H (.ty "int") := fun H1 e Q q => h H1 e _ fun H2 e2 => ⟨"int", rfl, q H2 e2⟩
/-- a tuple that was made is read as two names -/
theorem s_tup2 {D : Ends} {i j : Nat} {p : Addr} (ha : Ev ta σ H (.ref p)) (hp : SqT K H p [x, y]) (k : ∀ H1, Ex H H1 → D.nx ((σ.set i (some x)).set j (some y)) H1) : tAsg ta (gTup K 2 (gCons (gName i) (gCons (gName j) gNil))) D σ H :=
  ha H (Ex.refl H) _ fun H1 e => ⟨p, [x, y], rfl, ex_t e hp, rfl, x, [y], rfl, y, [], rfl, rfl, k H1 e⟩
end
/-- a new tuple that is handed back -/
def RetU (xs : List V) (H : Hp) (Q : VK) : Prop := ∀ p H2, H p = none → Ex H H2 → H2 p = some (.tup xs) → Q (.ref p) H2
def SpU (sp : Sp) (vs : List V) (H : Hp) (xs : List V) : Prop := ∀ H1, Ex H H1 → ∀ Q : VK, (∀ p H2, H1 p = none → Ex H1 H2 → H2 p = some (.tup xs) → Q (.ref p) H2) → ∀ E : XK, sp vs H1 Q E
section
variable {K : PySem.W.Frag} {σ : L2.St} {H : Hp}
theorem eu_call {sp : Sp} {dvs vs xs : List V} {E : XK} {ta : TA} (h : EvA ta σ H vs) (hs : SpU sp (vs ++ dvs) H xs) : EvU (tCall sp dvs E ta) σ H xs := fun H1 e Q q =>
  h H1 e _ fun H2 e2 => hs H2 (e.trans e2) Q (fun p H3 hp e3 h3 => q p H3 (fresh_back e2 hp) (e2.trans e3) h3) E
/-- a, b = f(..), f's answer a new tuple -/
theorem s_tup2U {te : TE} {D : Ends} {i j : Nat} {x y : V} (ha : EvU te σ H [x, y]) (k : ∀ H1, Ex H H1 → D.nx ((σ.set i (some x)).set j (some y)) H1) : tAsg te (gTup K 2 (gCons (gName i) (gCons (gName j) gNil))) D σ H :=
  ha H (Ex.refl H) _ fun p H1 _ e h1 => ⟨p, [x, y], rfl, st_of h1, rfl, x, [y], rfl, y, [], rfl, rfl, k H1 e⟩
theorem q_tup2U {te : TE} {tz : TS} {D : Ends} {i j : Nat} {x y : V} (ha : EvU te σ H [x, y]) (k : ∀ H1, Ex H H1 → tz D ((σ.set i (some x)).set j (some y)) H1) : tSeq (tAsg te (gTup K 2 (gCons (gName i) (gCons (gName j) gNil)))) tz D σ H := s_tup2U (D := { D with nx := tz D }) ha k
theorem q_tup2 {ta : TE} {tz : TS} {D : Ends} {i j : Nat} {p : Addr} {x y : V} (ha : Ev ta σ H (.ref p)) (hp : SqT K H p [x, y]) (k : ∀ H1, Ex H H1 → tz D ((σ.set i (some x)).set j (some y)) H1) : tSeq (tAsg ta (gTup K 2 (gCons (gName i) (gCons (gName j) gNil)))) tz D σ H := s_tup2 (D := { D with nx := tz D }) ha hp k
/-- a, b = x, y -/
theorem s_par {ta : TA} {D : Ends} {i j : Nat} {x y : V} (ha : EvA ta σ H [x, y]) (k : ∀ H1, Ex H H1 → D.nx ((σ.set i (some x)).set j (some y)) H1) : tPar i j ta D σ H := ha H (Ex.refl H) _ fun H1 e => ⟨x, y, rfl, k H1 e⟩
theorem q_par {ta : TA} {tz : TS} {D : Ends} {i j : Nat} {x y : V} (ha : EvA ta σ H [x, y]) (k : ∀ H1, Ex H H1 → tz D ((σ.set i (some x)).set j (some y)) H1) : tSeq (tPar i j ta) tz D σ H := s_par (D := { D with nx := tz D }) ha k
end
theorem natAbs_pow_le {b : Int} {k : Nat} (h : b.natAbs < 2 ^ k) (n : Nat) : (b ^ n).natAbs ≤ 2 ^ (k * n) := by
  rw [Int.natAbs_pow, Nat.pow_mul]
  exact Nat.pow_le_pow_left (Nat.le_of_lt h) n
theorem lt_of_le2 {x k : Nat} (h : x ≤ 2 ^ k) : x < 2 ^ (k + 1) := Nat.lt_of_le_of_lt h (Nat.pow_lt_pow_right (by decide) (Nat.lt_succ_self k))
theorem lt2_mono {x k m : Nat} (h : x < 2 ^ k) (e : k ≤ m) : x < 2 ^ m := Nat.lt_of_lt_of_le h (Nat.pow_le_pow_right (by decide) e)
theorem natAbs_mul_lt {a b : Int} {k m : Nat} (ha : a.natAbs < 2 ^ k) (hb : b.natAbs < 2 ^ m) : (a * b).natAbs < 2 ^ (k + m) := wide_lt ha hb
/-! comprehensions -/
section
variable {K : PySem.W.Frag} {σ : L2.St} {H : Hp} {te tl : TE} {t : TT}
theorem et_yes : EvT tYes σ H true := fun H1 _ _ q => q H1 (Ex.refl H1)
theorem given_map {xs : List V} {F : V → V} : given xs.length (fun _ => true) (fun i => F (xs.getD i .non)) = xs.map F := by
  unfold given
  rw [List.filter_eq_self.mpr (fun _ _ => rfl)]
  refine List.ext_getElem (by simp) fun i h1 h2 => ?_
  simp at h1
  simp [h1]
/-- [e for x in xs] -/
theorem el_map {a : Addr} {xs : List V} {j : Nat} {vs : List Nat} (F : V → V) (h : Ev tl σ H (.ref a)) (hx : SqL K H a xs) (hz : xs.length ≤ 40000) (hw : ∀ x, wipe ((wipe σ vs).set j (some x)) vs = wipe σ vs)
    (he : ∀ (i : Nat) (x : V) H1, Ex H H1 → xs[i]? = some x → Ev te ((wipe σ vs).set j (some x)) H1 (F x)) : EvL (tLc (iList K tl) (gName j) tYes te vs) σ H (xs.map F) := by
  rw [← given_map]
  refine el_lcL _ _ h hx hz hw (fun _ _ _ _ _ => et_yes) fun i x H1 e hi _ => ?_
  have q := he i x H1 e hi
  have g : xs.getD i .non = x := by rw [List.getD_eq_getElem?_getD, hi] <;> rfl
  show Ev _ _ _ (F (xs.getD i .non))
  rw [g]
  exact q
theorem el_mapN {xs : List V} {j : Nat} {vs : List Nat} (F : V → V) (h : EvL tl σ H xs) (hz : xs.length ≤ 40000) (hw : ∀ x, wipe ((wipe σ vs).set j (some x)) vs = wipe σ vs)
    (he : ∀ (i : Nat) (x : V) H1, Ex H H1 → xs[i]? = some x → Ev te ((wipe σ vs).set j (some x)) H1 (F x)) : EvL (tLc (iList K tl) (gName j) tYes te vs) σ H (xs.map F) := by
  rw [← given_map]
  refine el_lcNL _ _ h hz hw (fun _ _ _ _ _ => et_yes) fun i x H1 e hi _ => ?_
  have q := he i x H1 e hi
  have g : xs.getD i .non = x := by rw [List.getD_eq_getElem?_getD, hi] <;> rfl
  show Ev _ _ _ (F (xs.getD i .non))
  rw [g]
  exact q
/-- [e for x in range(lo, hi) if t] -/
theorem el_lcR2 {ta : TA} {j : Nat} {vs : List Nat} {lo n : Int} (f : Nat → Bool) (v : Nat → V) (h : EvA ta σ H [.int lo, .int n]) (hn : 0 ≤ lo ∧ lo ≤ 40000 ∧ -40000 ≤ n ∧ n ≤ 40000) (hw : ∀ x, wipe ((wipe σ vs).set j (some x)) vs = wipe σ vs)
    (ht : ∀ (i : Nat) H1, Ex H H1 → lo + (i : Int) < n → EvT t ((wipe σ vs).set j (some (.int (lo + (i : Int))))) H1 (f i)) (he : ∀ (i : Nat) H1, Ex H H1 → lo + (i : Int) < n → f i = true → Ev te ((wipe σ vs).set j (some (.int (lo + (i : Int))))) H1 (v i)) :
    EvL (tLc (iRng2 ta) (gName j) t te vs) σ H (given (n - lo).toNat f v) := fun H0 e Q q => h H0 e _ fun H1 e1 => ⟨lo, n, rfl, ⟨by omega, by omega, by omega, by omega⟩, fun Dl hD =>
  lc_range (lo := lo) (n := (n - lo).toNat) (Cw H1 f v Dl) ⟨hD, Ex.new hD, upd_same⟩ (fun i H' hi p =>
    ⟨hw _, cw_turn p (by omega) (ht i H1 (e.trans e1) (by omega)) (fun hf => he i H1 (e.trans e1) (by omega) hf)⟩) (fun H' p => q Dl H' (fresh_back e1 p.1) (e1.trans p.2.1) p.2.2)⟩
theorem given_none {n : Nat} {f : Nat → Bool} {v : Nat → V} (h : ∀ i, i < n → f i = false) : given n f v = [] := by
  unfold given
  rw [List.filter_eq_nil_iff.mpr (fun i hi => by simp [h i (List.mem_range.mp hi)])]
  rfl
/-- xs + ys, both new -/
theorem el_cat {ta tb : TE} {xs ys : List V} (ha : EvL ta σ H xs) (hb : EvL tb σ H ys) (hl : xs.length + ys.length ≤ 100000) : EvL (tOp rCat ta tb) σ H (xs ++ ys) := fun H1 e Q q =>
  ha H1 e _ fun p H2 hp e2 h2 => hb H2 (e.trans e2) _ fun p' H3 hp' e3 h3 =>
    ⟨p, p', xs, ys, rfl, rfl, e3 p _ h2, h3, sz_of hl, fun l hl' => q l _ (fresh_back (e2.trans e3) hl') ((e2.trans e3).trans (Ex.new hl')) upd_same⟩
/-- [e for x, y in zip(xs, ys)] -/
theorem el_zip {ta : TA} {i j : Nat} {vs : List Nat} {a b : Addr} {xs ys : List V} (F : V → V → V) (h : EvA ta σ H [.ref a, .ref b]) (hx : SqL K H a xs) (hy : SqL K H b ys) (hl : xs.length = ys.length) (hz : xs.length ≤ 40000)
    (hw : ∀ x y, wipe (((wipe σ vs).set i (some x)).set j (some y)) vs = wipe σ vs)
    (he : ∀ (n : Nat) x y H1, Ex H H1 → xs[n]? = some x → ys[n]? = some y → Ev te (((wipe σ vs).set i (some x)).set j (some y)) H1 (F x y)) :
    EvL (tLc (iZip K ta) (gTup K 2 (gCons (gName i) (gCons (gName j) gNil))) tYes te vs) σ H (List.zipWith F xs ys) := fun H0 e Q q => h H0 e _ fun H1 e1 => ⟨a, b, xs, ys, rfl, ex_l (e.trans e1) hx, ex_l (e.trans e1) hy, fun Dl hD => by
  refine lc_it (walk_zip (n := xs.length) (by omega)) (fun n H' => Ex H1 H' ∧ H' Dl = some (.lst ((List.zipWith F xs ys).take n))) ⟨Ex.new hD, upd_same⟩ (fun n H' _ p => ⟨ex_l ((e.trans e1).trans p.1) hx, ex_l ((e.trans e1).trans p.1) hy⟩) ?_ fun H' p => ?_
  · rintro n v Hh H' hn ⟨p1, p2⟩ ⟨T, x, y, rfl, nT, rfl, g1, g2⟩
    have eT : Ex Hh (upd Hh T (.tup [x, y])) := Ex.new nT
    refine ⟨T, [x, y], rfl, st_of upd_same, rfl, x, [y], rfl, y, [], rfl, rfl, hw x y, ?_⟩
    show te _ _ _
    refine he n x y H1 (e.trans e1) g1 g2 _ (p1.trans eT) _ fun H4 e4 => ?_
    have k2 := e4 Dl _ (eT Dl _ p2)
    refine ⟨_, k2, sz_lt (by rw [List.length_take]; omega), Ex.mut (p1.trans (eT.trans e4)) hD, ?_⟩
    rw [upd_same]
    have gz : (List.zipWith F xs ys)[n]? = some (F x y) := by
      rw [List.getElem?_zipWith, show xs[n]? = some x from g1, show ys[n]? = some y from g2]
    rw [List.take_add_one, gz]
    rfl
  · obtain ⟨p1, p2⟩ := p
    rw [List.take_of_length_le (by rw [List.length_zipWith]; omega)] at p2
    exact q Dl H' (fresh_back e1 hD) (e1.trans p1) p2⟩
theorem ev_gcd {ta tb : TE} {a b : Int} (ha : Ev ta σ H (.int a)) (hb : Ev tb σ H (.int b)) : Ev (tCB rGcd (tCons ta (tCons tb tNil))) σ H (.int ((Nat.gcd a.natAbs b.natAbs : Nat) : Int)) := fun H1 e Q q =>
  ha H1 e _ fun H2 e2 => hb H2 (e.trans e2) _ fun H3 e3 => ⟨a, b, rfl, q H3 (e2.trans e3)⟩
end
/-! data, compared by == -/
section
variable {K : PySem.W.Frag} {σ : L2.St} {H H' : Hp}
mutual
theorem Dp.ex (e : Ex H H') : ∀ (d : PyData) (v : V), Dp K H v d → Dp K H' v d
  | .none, _, h => by cases h; exact .non
  | .bool _, _, h => by cases h; exact .bl _
  | .int _, _, h => by cases h; exact .int _
  | .str _, _, h => by cases h; exact .str _
  | .list ds, _, h => by
    cases h with
    | lst hs ha => exact .lst (ex_l e hs) (DpAll.ex e ds _ ha)
  | .tuple ds, _, h => by
    cases h with
    | tup hs ha => exact .tup (ex_t e hs) (DpAll.ex e ds _ ha)
  | .dict _, _, h => by cases h
theorem DpAll.ex (e : Ex H H') : ∀ (ds : List PyData) (vs : List V), DpAll K H vs ds → DpAll K H' vs ds
  | [], _, h => by cases h; exact .nil
  | d :: ds, _, h => by
    cases h with
    | cons h1 h2 => exact .cons (Dp.ex e d _ h1) (DpAll.ex e ds _ h2)
end
theorem DpAll.len : ∀ {ds : List PyData} {vs : List V}, DpAll K H vs ds → vs.length = ds.length
  | [], _, h => by cases h; rfl
  | d :: ds, _, h => by
    cases h with
    | cons h1 h2 => simp [DpAll.len h2]
def EvD (K : PySem.W.Frag) (te : TE) (σ : L2.St) (H : Hp) (d : PyData) : Prop := ∀ H1, Ex H H1 → ∀ Q : VK, (∀ v H2, Ex H1 H2 → Dp K H2 v d → Q v H2) → te σ H1 Q
def EvDA (K : PySem.W.Frag) (ta : TA) (σ : L2.St) (H : Hp) (ds : List PyData) : Prop := ∀ H1, Ex H H1 → ∀ Q : List V → Hp → Prop, (∀ vs H2, Ex H1 H2 → DpAll K H2 vs ds → Q vs H2) → ta σ H1 Q
variable {te ta tb : TE} {d e : PyData} {ds : List PyData}
theorem ed_of {v : V} (h : Ev te σ H v) (k : Dp K H v d) : EvD K te σ H d := fun H1 e1 Q q => h H1 e1 Q fun H2 e2 => q v H2 e2 (Dp.ex (e1.trans e2) d v k)
theorem ed_int {i : Int} (h : Ev te σ H (.int i)) : EvD K te σ H (.int i) := ed_of h (.int i)
theorem ed_bl {i : Bool} (h : Ev te σ H (.bl i)) : EvD K te σ H (.bool i) := ed_of h (.bl i)
theorem ed_non (h : Ev te σ H .non) : EvD K te σ H .none := ed_of h .non
theorem ed_str {i : Str} (h : Ev te σ H (.str i)) : EvD K te σ H (.str i) := ed_of h (.str i)
theorem eda_nil : EvDA K tNil σ H [] := fun H1 _ _ q => q [] H1 (Ex.refl H1) .nil
theorem eda_cons {tr : TA} (h : EvD K te σ H d) (hr : EvDA K tr σ H ds) : EvDA K (tCons te tr) σ H (d :: ds) := fun H1 e _ q =>
  h H1 e _ fun v H2 e2 dv => hr H2 (e.trans e2) _ fun vs H3 e3 dvs => q (v :: vs) H3 (e2.trans e3) (.cons (Dp.ex e3 d v dv) dvs)
theorem ed_lst {t : TA} (h : EvDA K t σ H ds) (hl : ds.length ≤ 100000) : EvD K (tLst t) σ H (.list ds) := fun H1 e _ q =>
  h H1 e _ fun vs H2 e2 dv => ⟨sz_of (by rw [DpAll.len dv]; exact hl), fun p hp => q _ _ (e2.trans (Ex.new hp)) (.lst (sq_of upd_same) (DpAll.ex (Ex.new hp) ds vs dv))⟩
theorem ed_tup {t : TA} (h : EvDA K t σ H ds) (hl : ds.length ≤ 100000) : EvD K (tTup t) σ H (.tuple ds) := fun H1 e _ q =>
  h H1 e _ fun vs H2 e2 dv => ⟨sz_of (by rw [DpAll.len dv]; exact hl), fun p hp => q _ _ (e2.trans (Ex.new hp)) (.tup (st_of upd_same) (DpAll.ex (Ex.new hp) ds vs dv))⟩
theorem ed_ofL {xs : List V} (h : EvL te σ H xs) (k : DpAll K H xs ds) : EvD K te σ H (.list ds) := fun H1 e1 Q q => h H1 e1 Q fun p H2 _ e2 h2 => q _ H2 e2 (.lst (sq_of h2) (DpAll.ex (e1.trans e2) ds xs k))
theorem ed_ofU {xs : List V} (h : EvU te σ H xs) (k : DpAll K H xs ds) : EvD K te σ H (.tuple ds) := fun H1 e1 Q q => h H1 e1 Q fun p H2 _ e2 h2 => q _ H2 e2 (.tup (st_of h2) (DpAll.ex (e1.trans e2) ds xs k))
theorem dpa_ints : ∀ ns : List Int, DpAll K H (ns.map V.int) (ns.map PyData.int)
  | [] => .nil
  | n :: r => .cons (.int n) (dpa_ints r)
theorem ev_eqD (ha : EvD K ta σ H d) (hb : EvD K tb σ H e) (sd : SeqAt.shaped d = true) (se : SeqAt.shaped e = true) : Ev (tOp (rEqD K) ta tb) σ H (.bl (PyData.eqv d e)) := fun H1 e1 Q q =>
  ha H1 e1 _ fun v H2 e2 dv => hb H2 (e1.trans e2) _ fun u H3 e3 du => ⟨d, e, Dp.ex e3 d v dv, du, sd, se, q H3 (e2.trans e3)⟩
theorem ev_neD (ha : EvD K ta σ H d) (hb : EvD K tb σ H e) (sd : SeqAt.shaped d = true) (se : SeqAt.shaped e = true) : Ev (tOp (rNeD K) ta tb) σ H (.bl (!PyData.eqv d e)) := fun H1 e1 Q q =>
  ha H1 e1 _ fun v H2 e2 dv => hb H2 (e1.trans e2) _ fun u H3 e3 du => ⟨d, e, Dp.ex e3 d v dv, du, sd, se, q H3 (e2.trans e3)⟩
theorem shaped_ints : ∀ ns : List Int, SeqAt.shaped (.list (ns.map PyData.int)) = true := fun ns => by
  have h1 : ∀ ms : List Int, PyData.canLayAll0 (ms.map PyData.int) = true := fun ms => by
    induction ms with
    | nil => rfl
    | cons m r ih => simp [PyData.canLayAll0, PyData.canLay0, ih]
  have h2 : ∀ ms : List Int, PyData.depthAll (ms.map PyData.int) = 0 := fun ms => by
    induction ms with
    | nil => rfl
    | cons m r ih => simp [PyData.depthAll, PyData.depth, ih]
  simp [SeqAt.shaped, PyData.canLay0, h1, PyData.depth, h2]
theorem eqv_same {d : PyData} (h : SeqAt.shaped d = true) : PyData.eqv d d = true := by
  have h1 : PyData.canLay0 d = true := (Bool.and_eq_true_iff.mp h).1
  first
    | exact PySem.P3.eqv_refl d h1
    | exact PyData.eqv_refl d h1
    | exact PySem.SeqAt.eqv_refl d h1
/-- f(k = v): a new tuple back -/
theorem eu_callK {sp : Sp} {gV : List V → List V → List V} {E : XK} {t tk : TA} {vs zs xs : List V} (h : EvA t σ H vs) (hk : EvA tk σ H zs) (hs : SpU sp (gV vs zs) H xs) : EvU (tCallK sp gV E t tk) σ H xs := fun H1 e Q q =>
  h H1 e _ fun H2 e2 => hk H2 (e.trans e2) _ fun H3 e3 => hs H3 ((e.trans e2).trans e3) Q (fun p H4 hp e4 h4 => q p H4 (fresh_back (e2.trans e3) hp) ((e2.trans e3).trans e4) h4) E
theorem ev_callK {sp : Sp} {gV : List V → List V → List V} {E : XK} {t tk : TA} {vs zs : List V} {z : V} (h : EvA t σ H vs) (hk : EvA tk σ H zs) (hs : SpV sp (gV vs zs) H z) : Ev (tCallK sp gV E t tk) σ H z := fun H1 e Q q =>
  h H1 e _ fun H2 e2 => hk H2 (e.trans e2) _ fun H3 e3 => hs H3 ((e.trans e2).trans e3) Q (fun H4 e4 => q H4 ((e2.trans e3).trans e4)) E
/-- isinstance(x, tuple) of a tuple; len of a tuple -/
theorem ev_isT {p : Addr} {xs : List V} {n : String} {b : Bool} (h : Ev ta σ H (.ref p)) (hp : H p = some (.tup xs)) (hk : PySem.W.kitOne K (.type "tuple") (.type n) = some b) : Ev (tCB (rIsi K) (tCons ta (tCons (tC (.ty n)) tNil))) σ H (.bl b) := fun H1 e Q q =>
  h H1 e _ fun H2 e2 => ⟨.ref p, .ty n, .type "tuple", .type n, b, rfl, .ty n, .base (.tup (e2 p _ (e p _ hp))), hk, q H2 e2⟩
theorem ev_lenT {p : Addr} {xs : List V} (ha : Ev ta σ H (.ref p)) (h : SqT K H p xs) : Ev (tCB (rLenS K) (tCons ta tNil)) σ H (.int (xs.length : Int)) := fun H1 e Q q =>
  ha H1 e _ fun H2 e2 => ⟨p, xs, rfl, Or.inr (ex_t (e.trans e2) h), q H2 e2⟩
/-- list(range(a, b)) -/
theorem el_rg2 {a b : Int} (ha : Ev ta σ H (.int a)) (hb : Ev tb σ H (.int b)) (h : RgOk a b) : EvL (tLstRg (tRg2 ta tb)) σ H (rgV a b) := fun H1 e Q q =>
  ha H1 e _ fun H2 e2 => hb H2 (e.trans e2) _ fun H3 e3 => ⟨a, b, rfl, rfl, h, fun p hp => q p _ (fresh_back (e2.trans e3) hp) ((e2.trans e3).trans (Ex.new hp)) upd_same⟩
theorem el_rg1 {b : Int} (hb : Ev tb σ H (.int b)) (h : RgOk 0 b) : EvL (tLstRg (tRg1 tb)) σ H (rgV 0 b) := fun H1 e Q q =>
  hb H1 e _ fun H3 e3 => ⟨b, rfl, h, fun p hp => q p _ (fresh_back e3 hp) (e3.trans (Ex.new hp)) upd_same⟩
end
/-! more statements -/
section
variable {K : PySem.W.Frag} {σ : L2.St} {H H' : Hp} {te tl : TE} {t : TT} {D : Ends} {tu tz : TS} {g : TG}
/-- a comprehension over range(lo, n) that keeps nothing -/
theorem el_noneR2 {ta : TA} {j : Nat} {vs : List Nat} {lo n : Int} (h : EvA ta σ H [.int lo, .int n]) (hn : 0 ≤ lo ∧ lo ≤ 40000 ∧ -40000 ≤ n ∧ n ≤ 40000) (hw : ∀ x, wipe ((wipe σ vs).set j (some x)) vs = wipe σ vs)
    (ht : ∀ (i : Nat) H1, Ex H H1 → lo + (i : Int) < n → EvT t ((wipe σ vs).set j (some (.int (lo + (i : Int))))) H1 false) : EvL (tLc (iRng2 ta) (gName j) t te vs) σ H [] := by
  have q := el_lcR2 (te := te) (fun _ => false) (fun _ => .non) h hn hw ht (fun _ _ _ _ hf => Bool.noConfusion hf)
  rw [given_none (fun _ _ => rfl)] at q
  exact q
/-- a for over a new tuple -/
theorem s_forNU {xs : List V} (h : EvU tl σ H xs) (Pv : Addr → Nat → L2.St → Hp → Prop) (h0 : ∀ p H1, H p = none → Ex H H1 → H1 p = some (.tup xs) → Pv p 0 σ H1) (hl : ∀ p i σ' H', i ≤ xs.length → Pv p i σ' H' → SqT K H' p xs)
    (hs : ∀ p i x σ' H', xs[i]? = some x → Pv p i σ' H' → g x σ' H' fun σ2 H2 => tu { D with nx := Pv p (i + 1), ct := Pv p (i + 1), bk := D.nx } σ2 H2) (hd : ∀ p σ' H', Pv p xs.length σ' H' → D.nx σ' H') : tFor (iTup K tl) g tu D σ H :=
  h H (Ex.refl H) _ fun p H1 hp e h1 => ⟨p, rfl, ⟨xs, st_of h1⟩, for_tup (Pv p) (h0 p H1 hp e h1) (hl p) (hs p) (hd p)⟩
theorem q_forNU {xs : List V} (h : EvU tl σ H xs) (Pv : Addr → Nat → L2.St → Hp → Prop) (h0 : ∀ p H1, H p = none → Ex H H1 → H1 p = some (.tup xs) → Pv p 0 σ H1) (hl : ∀ p i σ' H', i ≤ xs.length → Pv p i σ' H' → SqT K H' p xs)
    (hs : ∀ p i x σ' H', xs[i]? = some x → Pv p i σ' H' → g x σ' H' fun σ2 H2 => tu { D with nx := Pv p (i + 1), ct := Pv p (i + 1), bk := tz D } σ2 H2) (hd : ∀ p σ' H', Pv p xs.length σ' H' → tz D σ' H') : tSeq (tFor (iTup K tl) g tu) tz D σ H :=
  s_forNU (D := { D with nx := tz D }) h Pv h0 hl hs hd
theorem s_asgD {i : Nat} {d : PyData} (h : EvD K te σ H d) (k : ∀ v H1, Ex H H1 → Dp K H1 v d → D.nx (σ.set i (some v)) H1) : tAsg te (gName i) D σ H := h H (Ex.refl H) _ fun v H1 e dv => k v H1 e dv
theorem q_asgD {i : Nat} {d : PyData} (h : EvD K te σ H d) (k : ∀ v H1, Ex H H1 → Dp K H1 v d → tz D (σ.set i (some v)) H1) : tSeq (tAsg te (gName i)) tz D σ H := s_asgD (D := { D with nx := tz D }) h k
end
end Kit
set_option Elab.async false
set_option linter.all false
set_option maxRecDepth 100000
set_option maxHeartbeats 4000000
namespace Kit
open PySem PySem.Spec PyProof.Rows L2 Evl
theorem slot_type_ne : Slot "type" (cmpInfo .NotEq).2.1 "object.__ne__" :=
  .of (owner := "object") (n := "__ne__") (by rw [typeLookup_type, builtinLookup_eq_fast]; kernel_rfl) (by decide +kernel) (by decide +kernel) (by decide +kernel)
    (by first | exact .inl (by decide +kernel) | exact .inr (by decide +kernel)) (by rw [isSubtype_type]; kernel_rfl)
theorem slot_type_eqN : Slot "type" "__eq__" "object.__eq__" :=
  .of (owner := "object") (n := "__eq__") (by rw [typeLookup_type, builtinLookup_eq_fast]; kernel_rfl) (by decide +kernel) (by decide +kernel) (by decide +kernel)
    (by first | exact .inl (by decide +kernel) | exact .inr (by decide +kernel)) (by rw [isSubtype_type]; kernel_rfl)
section
variable {prog : Program} {w : World} {A : Around} {E : Value → Shared → Prop} {s : Shared} {Q : Value → Shared → Prop}
theorem ne_type_same {X : String} (hX : ∀ s' : Shared, s'.TypeIs (.type X) "type") (hu : A.units + 1 < cLine) (h : Q (.bool false) s) : wpAny (model prog w) A (compareOp .NotEq (.type X) (.type X)) Q E s := by
  show wpAny _ A (richCompare .NotEq _ _) Q E s
  refine wpAny_richCompare_same (T := "type") (hX s) (hX s) slot_type_ne ?_
  refine wpAny_call_entry slot_type_ne (hX s) PySem.F.cmpEntry_ne ?_ (PySem.F.cmpArgs_ne _ _)
  unfold Builtin.«object.__ne__»
  have key : wpAny (model prog w) A.in1 (call (.builtin "object.__eq__") [.type X, .type X]) (fun v s' => v = .bool true ∧ s' = s) E s :=
    call_gives slot_type_eqN (hX s) F.entry_object_eq (F.args_object_eq_2 _ _) (PySem.TypeEq.object_eq_same rfl (by simp)) ⟨rfl, rfl⟩
  repeat (first
    | with_reducible refine wpAny_cRoomFor (by show A.units + 1 < cLine; exact hu) ?_
    | (refine wpAny_bind (m := callSpecialIfBound? (.type X) (Str.ofString "__eq__") [.type X])
        (wpAny_callSpecialIfBound?_slot (hX _) slot_type_eqN (wpAny_mono key (fun r s' hr => by
          obtain ⟨rfl, rfl⟩ := hr
          have hq : Q (.bool false) s' := h
          repeat (first | exact ⟨_, rfl, (by intro e; cases e), hq⟩ | exact wpAny_pure ⟨_, rfl, (by intro e; cases e), hq⟩ | (refine wpAny_bind (m := truthy (.bool _)) (wpAny_truthy_bool ?_)) | wp_step)) fun _ _ e => e)))
    | wp_step)
end
end Kit
set_option Elab.async false
set_option linter.all false
set_option maxRecDepth 100000
set_option maxHeartbeats 4000000
namespace Kit
open PySem PySem.Spec PyProof.Rows L2 Evl
section
variable {X : Cx}
def rNeTyS : R2 := fun x y H Q => ∃ m, x = .ty m ∧ y = .ty m ∧ Meta m ∧ Q (.bl false) H
theorem op_neTyS (hu : X.A.units + 1 < cLine) : OpR X (compareOp .NotEq) rNeTyS := by
  intro pins s σ H x y v u Q I rx ry h
  obtain ⟨m, rfl, rfl, hm, q⟩ := h
  cases (show v = Value.type m from rx)
  cases (show u = Value.type m from ry)
  exact ne_type_same hm hu ⟨.bl false, H, I, rfl, q⟩
/-- min of a tuple of ints -/
def rMinT (K : PySem.W.Frag) : List V → Hp → VK → Prop := fun vs H Q => ∃ (a : Addr) (n : Int) (ns : List Int), vs = [V.ref a] ∧ SqT K H a ((n :: ns).map V.int) ∧ Q (.int (ns.foldl min n)) H
theorem alike_ints (ns : List Int) : PySem.W.AlikeAll (ns.map PyData.int) := by
  refine ⟨fun x hx y hy => ?_, fun x hx => ?_⟩
  · obtain ⟨a, _, rfl⟩ := List.mem_map.mp hx
    obtain ⟨b, _, rfl⟩ := List.mem_map.mp hy
    rfl
  · obtain ⟨a, _, rfl⟩ := List.mem_map.mp hx
    exact fun z => by cases z
theorem depth_ints : ∀ ms : List Int, PyData.depthAll (ms.map PyData.int) = 0
  | [] => rfl
  | m :: r => by simp [PyData.depthAll, PyData.depth, depth_ints r]
theorem cr_minT (hc : X.calm = true) (hu : X.A.units + 1 < cLine) : CallR X (.builtin "min") (rMinT X.K) := by
  intro pins s σ H vs us Q I r h
  obtain ⟨a, n, ns, rfl, hs, q⟩ := h
  obtain ⟨its, rv, hl, _⟩ := I.tuple hs
  rw [Vals.ref1 r]
  obtain ⟨as, rd⟩ := Dp.readsAll I (PyData.int n :: ns.map PyData.int) _ its (dpa_ints (n :: ns)) rv
  refine PySem.W.min_tuple_data (I.ok.hd hc) (show s.heap.IsTuple a its.toArray from hl) (by simpa using rd) (alike_ints (n :: ns)) ?_ fun i v h' tk bs hv hr hk => ?_
  · have := depth_ints (n :: ns)
    rw [List.map_cons] at this
    rw [this]
    exact hu
  · rw [PySem.W.minD_ints] at hr
    cases hr with
    | int _ t => exact ⟨.int (ns.foldl min n), H, I.kept (t' := tk) hk, ⟨_, rfl⟩, q⟩
theorem foldl_min_spec : ∀ (ns : List Int) (n : Int), ns.foldl min n ∈ n :: ns ∧ ∀ y ∈ n :: ns, ns.foldl min n ≤ y
  | [], n => ⟨by simp, by simp⟩
  | k :: r, n => by
    obtain ⟨h1, h2⟩ := foldl_min_spec r (min n k)
    refine ⟨?_, fun y hy => ?_⟩
    · rcases List.mem_cons.mp h1 with e | e
      · rw [List.foldl_cons, e]
        rcases Int.le_total n k with h | h
        · rw [Int.min_eq_left h]; simp
        · rw [Int.min_eq_right h]; simp
      · simp [List.foldl_cons, e]
    · have h3 := h2 (min n k) (by simp)
      rw [List.foldl_cons]
      rcases List.mem_cons.mp hy with e | hy
      · omega
      · rcases List.mem_cons.mp hy with e | hy
        · omega
        · exact h2 y (by simp [hy])
end
/-! readings of these -/
section
variable {K : PySem.W.Frag} {σ : L2.St} {H H' : Hp} {ta tb te tl : TE} {D : Ends} {tu tz : TS} {t : TT}
theorem ev_typeL {p : Addr} {xs : List V} (h : Ev ta σ H (.ref p)) (hp : H p = some (.lst xs)) : Ev (tThenZ ta kTyp) σ H (.ty "list") := fun H1 e Q q => h H1 e _ fun H2 e2 => ⟨"list", by
  have := e2 p _ (e p _ hp)
  simp [zTyV, this], q H2 e2⟩
theorem ev_typeT {p : Addr} {xs : List V} (h : Ev ta σ H (.ref p)) (hp : H p = some (.tup xs)) : Ev (tThenZ ta kTyp) σ H (.ty "tuple") := fun H1 e Q q => h H1 e _ fun H2 e2 => ⟨"tuple", by
  have := e2 p _ (e p _ hp)
  simp [zTyV, this], q H2 e2⟩
theorem rv_neTyS {m : String} (hm : Meta m) : RV rNeTyS (.ty m) (.ty m) H (.bl false) := fun H1 _ _ q => ⟨m, rfl, rfl, hm, q H1 (Ex.refl H1)⟩
theorem ev_sumN {ns : List Int} (h : EvL ta σ H (ns.map V.int)) : Ev (tCB (rSum K) (tCons ta tNil)) σ H (.int ns.sum) := fun H1 e Q q => h H1 e _ fun p H2 _ e2 h2 => ⟨p, ns, rfl, sq_of h2, q H2 e2⟩
theorem ev_allN {bs : List Bool} (h : EvL ta σ H (bs.map V.bl)) : Ev (tCB (rAll K) (tCons ta tNil)) σ H (.bl (bs.all id)) := fun H1 e Q q => h H1 e _ fun p H2 _ e2 h2 => ⟨p, bs, rfl, sq_of h2, q H2 e2⟩
theorem ev_minT {p : Addr} {n : Int} {ns : List Int} (h : Ev ta σ H (.ref p)) (hp : SqT K H p ((n :: ns).map V.int)) : Ev (tCB (rMinT K) (tCons ta tNil)) σ H (.int (ns.foldl min n)) := fun H1 e Q q => h H1 e _ fun H2 e2 => ⟨p, n, ns, rfl, ex_t (e.trans e2) hp, q H2 e2⟩
/-- sorted(xs), told by what it is -/
theorem ed_sorted {p : Addr} {ns ms : List Int} (h : Ev ta σ H (.ref p)) (hp : SqL K H p (ns.map V.int)) (hl : ns.length < 64) (hm : ms.Perm ns) (hs : ms.Pairwise (· ≤ ·)) : EvD K (tCB (rSorted K) (tCons ta tNil)) σ H (.list (ms.map PyData.int)) := fun H1 e Q q => h H1 e _ fun H2 e2 =>
  ⟨p, ns, rfl, ex_l (e.trans e2) hp, hl, fun ns' l pm so new => by
    have eq : ns' = ms := by
      exact List.Perm.eq_of_pairwise (le := fun a b : Int => a ≤ b) (fun a b _ _ h1 h2 => Int.le_antisymm h1 h2) so hs (pm.trans hm.symm)
    subst eq
    exact q _ _ (e2.trans (Ex.new new)) (.lst (sq_of upd_same) (dpa_ints _))⟩
/-- a new tuple of a list's items -/
theorem eu_tupOf {p : Addr} {xs : List V} (h : Ev ta σ H (.ref p)) (hp : SqL K H p xs) : EvU (tCB (rTupS K) (tCons ta tNil)) σ H xs := fun H1 e Q q => h H1 e _ fun H2 e2 =>
  ⟨p, xs, rfl, ex_l (e.trans e2) hp, fun l hl => q l _ (fresh_back e2 hl) (e2.trans (Ex.new hl)) upd_same⟩
/-- [0] * n -/
theorem el_rep {xs : List V} {k : Int} (ha : EvL ta σ H xs) (hb : Ev tb σ H (.int k)) (h0 : 0 ≤ k) (h1 : k ≤ 1000) (hx : xs.length ≤ 50) : EvL (tOp rRep ta tb) σ H (List.replicate k.toNat xs).flatten := fun H1 e Q q =>
  ha H1 e _ fun p H2 hp e2 h2 => hb H2 (e.trans e2) _ fun H3 e3 => ⟨p, k, xs, rfl, rfl, e3 p _ h2, by omega, by omega, sz_of (by
    have : xs.length * k.toNat ≤ 50 * 1000 := Nat.mul_le_mul hx (by omega)
    omega), fun l hl => q l _ (fresh_back (e2.trans e3) hl) ((e2.trans e3).trans (Ex.new hl)) upd_same⟩
/-- xs[::-1] -/
theorem el_rev {p : Addr} {xs : List V} (h : Ev ta σ H (.ref p)) (hp : SqL K H p xs) : EvL (tRevL K ta) σ H xs.reverse := fun H1 e Q q => h H1 e _ fun H2 e2 =>
  ⟨p, xs, rfl, ex_l (e.trans e2) hp, fun l hl => q l _ (fresh_back e2 hl) (e2.trans (Ex.new hl)) upd_same⟩
theorem el_revN {xs : List V} (h : EvL ta σ H xs) : EvL (tRevL K ta) σ H xs.reverse := fun H1 e Q q => h H1 e _ fun p H2 _ e2 h2 =>
  ⟨p, xs, rfl, sq_of h2, fun l hl => q l _ (fresh_back e2 hl) (e2.trans (Ex.new hl)) upd_same⟩
/-- for i, x in enumerate(xs): the pair is a new tuple -/
theorem s_forEn {ta : TA} {i j : Nat} {a : Addr} {xs : List V} (h : EvA ta σ H [.ref a]) (hx : SqL K H a xs) (Pv : Nat → L2.St → Hp → Prop) (h0 : ∀ H1, Ex H H1 → Pv 0 σ H1) (hl : ∀ n σ' H', n ≤ xs.length → Pv n σ' H' → SqL K H' a xs)
    (hs : ∀ n x σ' H' H2, xs[n]? = some x → Pv n σ' H' → Ex H' H2 → tu { D with nx := Pv (n + 1), ct := Pv (n + 1), bk := D.nx } ((σ'.set i (some (.int (n : Int)))).set j (some x)) H2) (hd : ∀ σ' H', Pv xs.length σ' H' → D.nx σ' H') :
    tFor (iEnum K ta) (gTup K 2 (gCons (gName i) (gCons (gName j) gNil))) tu D σ H := h H (Ex.refl H) _ fun H1 e => ⟨a, xs, rfl, ex_l e hx, by
  refine for_it walk_enum Pv (h0 H1 e) (fun n σ' H' hn p => hl n σ' H' hn p) ?_ hd
  rintro n v σ' Hh H2 hn p ⟨T, x, y, rfl, nT, rfl, g1, g2⟩
  have ex : V.int (n : Nat) = x := Option.some.inj g1
  subst ex
  exact ⟨T, [.int (n : Nat), y], rfl, st_of upd_same, rfl, _, [y], rfl, y, [], rfl, rfl, hs n y σ' Hh _ g2 p (Ex.new nT)⟩⟩
theorem q_forEn {ta : TA} {i j : Nat} {a : Addr} {xs : List V} (h : EvA ta σ H [.ref a]) (hx : SqL K H a xs) (Pv : Nat → L2.St → Hp → Prop) (h0 : ∀ H1, Ex H H1 → Pv 0 σ H1) (hl : ∀ n σ' H', n ≤ xs.length → Pv n σ' H' → SqL K H' a xs)
    (hs : ∀ n x σ' H' H2, xs[n]? = some x → Pv n σ' H' → Ex H' H2 → tu { D with nx := Pv (n + 1), ct := Pv (n + 1), bk := tz D } ((σ'.set i (some (.int (n : Int)))).set j (some x)) H2) (hd : ∀ σ' H', Pv xs.length σ' H' → tz D σ' H') :
    tSeq (tFor (iEnum K ta) (gTup K 2 (gCons (gName i) (gCons (gName j) gNil))) tu) tz D σ H := s_forEn (D := { D with nx := tz D }) h hx Pv h0 hl hs hd
end
end Kit
set_option Elab.async false
set_option linter.all false
set_option maxRecDepth 100000
set_option maxHeartbeats 4000000
namespace Kit
open PySem PySem.Spec PyProof.Rows L2 Evl
/-! ### new lists of new tuples -/
def TL (H : Hp) (vs : List V) (rs : List (List V)) : Prop := Paired (fun v r => ∃ a, v = .ref a ∧ H a = some (.tup r)) vs rs
theorem TL.imp {H H' : Hp} (f : ∀ a r, H a = some (.tup r) → H' a = some (.tup r)) : ∀ {vs : List V} {rs : List (List V)}, TL H vs rs → TL H' vs rs
  | _, _, .nil => .nil
  | _, _, .cons ⟨a, e, h⟩ t => .cons ⟨a, e, f a _ h⟩ (TL.imp f t)
theorem TL.ex {H H' : Hp} {vs : List V} {rs : List (List V)} (e : Ex H H') (h : TL H vs rs) : TL H' vs rs := h.imp fun a r x => e a _ x
theorem TL.upd {H : Hp} {l : Addr} {xs : List V} {o : HO} {vs : List V} {rs : List (List V)} (hl : H l = some (.lst xs)) (h : TL H vs rs) : TL (upd H l o) vs rs := h.imp fun a r x => by
  rw [upd_ne (ne_of x hl (by intro z; cases z))]
  exact x
theorem TL.len {H : Hp} : ∀ {vs : List V} {rs : List (List V)}, TL H vs rs → vs.length = rs.length
  | _, _, .nil => rfl
  | _, _, .cons _ t => by rw [List.length_cons, List.length_cons, TL.len t]
theorem TL.app {H : Hp} {v : V} {r : List V} (hv : ∃ a, v = .ref a ∧ H a = some (.tup r)) : ∀ {vs : List V} {rs : List (List V)}, TL H vs rs → TL H (vs ++ [v]) (rs ++ [r])
  | _, _, .nil => .cons hv .nil
  | _, _, .cons q t => .cons q (TL.app hv t)
theorem TL.get {H : Hp} : ∀ {vs : List V} {rs : List (List V)} {i : Nat} {v : V}, TL H vs rs → vs[i]? = some v → ∃ a r, v = .ref a ∧ H a = some (.tup r) ∧ rs[i]? = some r
  | _, _, 0, v, .cons ⟨a, e, h⟩ t, hv => ⟨a, _, (Option.some.inj (by simpa using hv)).symm.trans e, h, rfl⟩
  | _, _, i + 1, v, .cons _ t, hv => by
    obtain ⟨a, r, h1, h2, h3⟩ := TL.get (i := i) t (by simpa using hv)
    exact ⟨a, r, h1, h2, by simpa using h3⟩
  | _, _, 0, v, .nil, hv => by simp at hv
  | _, _, i + 1, v, .nil, hv => by simp at hv
theorem TL.rev {H : Hp} : ∀ {vs : List V} {rs : List (List V)}, TL H vs rs → TL H vs.reverse rs.reverse
  | _, _, .nil => .nil
  | _, _, .cons q t => by
    rw [List.reverse_cons, List.reverse_cons]
    exact TL.app q (TL.rev t)
def EvLT (te : TE) (σ : L2.St) (H : Hp) (rs : List (List V)) : Prop := ∀ H1, Ex H H1 → ∀ Q : VK, (∀ p vs H2, H1 p = none → Ex H1 H2 → H2 p = some (.lst vs) → TL H2 vs rs → Q (.ref p) H2) → te σ H1 Q
section
variable {K : PySem.W.Frag} {σ : L2.St} {H H' : Hp} {te tl : TE} {D : Ends} {tz : TS} {t : TT}
/-- [a new tuple for i in range(n)] -/
theorem elt_R1 {ta : TA} {j : Nat} {vs : List Nat} {n : Int} (f : Nat → List V) (h : EvA ta σ H [.int n]) (hn : 0 ≤ n ∧ n ≤ 40000) (hw : ∀ x, wipe ((wipe σ vs).set j (some x)) vs = wipe σ vs)
    (he : ∀ (i : Nat) H1, Ex H H1 → (i : Int) < n → EvU te ((wipe σ vs).set j (some (.int (i : Int)))) H1 (f i)) : EvLT (tLc (iRng1 ta) (gName j) tYes te vs) σ H ((List.range n.toNat).map f) := fun H0 e Q q => h H0 e _ fun H1 e1 => ⟨n, rfl, by omega, by omega, fun Dl hD =>
  lc_range (lo := 0) (n := n.toNat) (fun i H' => Ex H1 H' ∧ ∃ ws, H' Dl = some (.lst ws) ∧ TL H' ws ((List.range i).map f)) ⟨Ex.new hD, [], upd_same, .nil⟩ (fun i H' hi p => by
    obtain ⟨p1, ws, p2, p3⟩ := p
    have e0 : (0 : Int) + (i : Int) = (i : Int) := Int.zero_add _
    show wipe ((wipe σ vs).set j (some (.int ((0 : Int) + (i : Int))))) vs = wipe σ vs ∧ te ((wipe σ vs).set j (some (.int ((0 : Int) + (i : Int))))) H' fun y H4 => ∃ acc, H4 Dl = some (.lst acc) ∧ acc.length < sizeLine ∧ _
    rw [e0]
    refine ⟨hw _, he i H1 (e.trans e1) (by omega) H' p1 _ fun p H4 hp e4 h4 => ⟨ws, e4 Dl _ p2, sz_lt (by
      have := p3.len
      simp at this
      omega), Ex.mut (p1.trans e4) hD, ws ++ [.ref p], upd_same, ?_⟩⟩
    rw [List.range_succ, List.map_append]
    exact ((p3.ex e4).app ⟨p, rfl, h4⟩).upd (e4 Dl _ p2)) (fun H' p => by
      obtain ⟨p1, ws, p2, p3⟩ := p
      exact q Dl ws H' (fresh_back e1 hD) (e1.trans p1) p2 p3)⟩
/-- [a new tuple for x in xs] -/
theorem elt_map {a : Addr} {xs : List V} {j : Nat} {vs : List Nat} (f : Nat → List V) (h : Ev tl σ H (.ref a)) (hx : SqL K H a xs) (hz : xs.length ≤ 40000) (hw : ∀ x, wipe ((wipe σ vs).set j (some x)) vs = wipe σ vs)
    (he : ∀ (i : Nat) (x : V) H1, Ex H H1 → xs[i]? = some x → EvU te ((wipe σ vs).set j (some x)) H1 (f i)) : EvLT (tLc (iList K tl) (gName j) tYes te vs) σ H ((List.range xs.length).map f) := fun H0 e Q q => h H0 e _ fun H1 e1 => ⟨a, rfl, ⟨xs, ex_l (e.trans e1) hx⟩, fun Dl hD =>
  lc_list (xs := xs) (fun i H' => Ex H1 H' ∧ ∃ ws, H' Dl = some (.lst ws) ∧ TL H' ws ((List.range i).map f)) ⟨Ex.new hD, [], upd_same, .nil⟩ (fun i H' _ p => ex_l ((e.trans e1).trans p.1) hx) (fun i x H' hi p => by
    obtain ⟨p1, ws, p2, p3⟩ := p
    show wipe ((wipe σ vs).set j (some x)) vs = wipe σ vs ∧ te ((wipe σ vs).set j (some x)) H' fun y H4 => ∃ acc, H4 Dl = some (.lst acc) ∧ acc.length < sizeLine ∧ _
    refine ⟨hw _, he i x H1 (e.trans e1) hi H' p1 _ fun p H4 hp e4 h4 => ⟨ws, e4 Dl _ p2, sz_lt (by
      have := p3.len
      have := (List.getElem?_eq_some_iff.mp hi).1
      simp at *
      omega), Ex.mut (p1.trans e4) hD, ws ++ [.ref p], upd_same, ?_⟩⟩
    rw [List.range_succ, List.map_append]
    exact ((p3.ex e4).app ⟨p, rfl, h4⟩).upd (e4 Dl _ p2)) (fun H' p => by
      obtain ⟨p1, ws, p2, p3⟩ := p
      exact q Dl ws H' (fresh_back e1 hD) (e1.trans p1) p2 p3)⟩
theorem range_get {α : Type} (rs : List α) (d : α) : rs = (List.range rs.length).map fun i => rs.getD i d := by
  refine List.ext_getElem (by simp) fun i h1 h2 => ?_
  simp [h1]
theorem paired_map {α β γ : Type} {F : β → γ → Prop} (f : α → β) (g : α → γ) : ∀ l : List α, (∀ x ∈ l, F (f x) (g x)) → Paired F (l.map f) (l.map g)
  | [], _ => .nil
  | x :: r, h => .cons (h x (by simp)) (paired_map f g r fun y hy => h y (by simp [hy]))
/-- [x for x in xs if test(x)], xs a list of tuples, the test P of the tuple's items -/
theorem elt_filter {a : Addr} {xs : List V} {rs : List (List V)} {j : Nat} {vs : List Nat} (P : List V → Bool) (h : Ev tl σ H (.ref a)) (hx : SqL K H a xs) (ht : TL H xs rs) (hz : xs.length ≤ 40000) (hw : ∀ x, wipe ((wipe σ vs).set j (some x)) vs = wipe σ vs) (hj : ∀ x, ((wipe σ vs).set j (some x))[j]? = some (some x))
    (he : ∀ (b : Addr) (r : List V) H1, Ex H H1 → r ∈ rs → H1 b = some (.tup r) → EvT t ((wipe σ vs).set j (some (.ref b))) H1 (P r)) : EvLT (tLc (iList K tl) (gName j) t (tVar j) vs) σ H (rs.filter P) := fun H0 e Q q => by
  refine el_lcL (K := K) (f := fun i => P (rs.getD i [])) (v := fun i => xs.getD i .non) h hx hz hw (fun i x H1 e1 hi => ?_) (fun i x H1 e1 hi hf => ?_) H0 e Q fun p H2 hp e2 h2 => ?_
  · obtain ⟨b, r, rfl, hb, hr⟩ := ht.get hi
    have g : rs.getD i [] = r := by rw [List.getD_eq_getElem?_getD, hr] <;> rfl
    show EvT _ _ _ (P (rs.getD i []))
    rw [g]
    exact he b r H1 e1 (List.mem_of_getElem? hr) (e1 b _ hb)
  · have g : xs.getD i .non = x := by rw [List.getD_eq_getElem?_getD, hi] <;> rfl
    show Ev _ _ _ (xs.getD i .non)
    rw [g]
    exact ev_var (hj x)
  · refine q p _ H2 hp e2 h2 ?_
    have e3 : rs.filter P = ((List.range rs.length).filter fun i => P (rs.getD i [])).map fun i => rs.getD i [] := by
      conv => lhs; rw [range_get rs [], List.filter_map]
      rfl
    unfold given
    rw [e3, ht.len]
    refine paired_map _ _ _ fun i hi => ?_
    have hi := List.mem_range.mp (List.mem_filter.mp hi).1
    have hlx : i < xs.length := by rw [ht.len]; exact hi
    obtain ⟨b, r, h1, h2', h3⟩ := ht.get (List.getElem?_eq_getElem hlx)
    refine ⟨b, ?_, ?_⟩
    · rw [List.getD_eq_getElem?_getD, List.getElem?_eq_getElem hlx, h1]
      rfl
    · rw [List.getD_eq_getElem?_getD, h3]
      exact (e.trans e2) b _ h2'
theorem q_asgLT {i : Nat} {rs : List (List V)} (h : EvLT te σ H rs) (k : ∀ p vs H1, H p = none → Ex H H1 → H1 p = some (.lst vs) → TL H1 vs rs → tz D (σ.set i (some (.ref p))) H1) : tSeq (tAsg te (gName i)) tz D σ H := h H (Ex.refl H) _ fun p vs H1 hp e h1 h2 => k p vs H1 hp e h1 h2
theorem s_retLT {rs : List (List V)} (h : EvLT te σ H rs) (k : ∀ p vs H1, H p = none → Ex H H1 → H1 p = some (.lst vs) → TL H1 vs rs → D.rt (.ref p) H1) : tRet te D σ H := h H (Ex.refl H) _ k
end
end Kit
set_option Elab.async false
set_option linter.all false
set_option maxRecDepth 100000
set_option maxHeartbeats 4000000
namespace Kit
open PySem PySem.Spec PyProof.Rows L2 Evl
/-! ### a promise of a def that shows data (repr): no repr may be under way around it -/
structure FnOkG (P : Program) (w : World) (K : PySem.W.Frag) (mg : Str → Option Value) (base : Heap) (n : Nat) (f : Addr) (fd : FuncData) (names : List Str) (want : Sp) : Prop where
  many : ∀ xs H Q E, want xs H Q E → xs.length = names.length
  go : ∀ (A : Around) (frames : List Env) (st : Shared) (H : Hp) (given : Args) (us : List Value) (xs : List V) (Q : VK) (E : XK), A.guards = some [] → Room n A → Env0 P w K mg base A frames st H →
    BindsTo st fd given (names.zip us) → Vals xs us → want xs H Q E → codeAny (model P w) A (.call (.ref f) given) (CR CX0 frames P w H st Q E) st
section
variable {P : Program} {w : World} {K : PySem.W.Frag} {mg : Str → Option Value} {base : Heap}
theorem FnOkG.mono {j n : Nat} {f : Addr} {fd : FuncData} {names : List Str} {want : Sp} (F : FnOkG P w K mg base j f fd names want) (h : j ≤ n) : FnOkG P w K mg base n f fd names want :=
  ⟨F.many, fun A fr st H g us xs Q E hg r => F.go A fr st H g us xs Q E hg (r.mono h)⟩
/-- the rule for such a def -/
theorem funG {x qual : Str} {d : Stmt} {f : Addr} {fd : FuncData} {N names : List Str} {n : Nat} {want : Sp} (F : Fun K x qual d f fd) (S : FnScope N names (defScope d)) (many : ∀ xs H Q E, want xs H Q E → xs.length = names.length)
    (body : ∀ (cv : Value) (A : Around) (frames : List Env) (st : Shared) (H : Hp) (xs : List V) (Q : VK) (E : XK), A.guards = some [] → Room n (A.deeper (envOfC qual (defScope d) st.heap.objs.size f cv)) → want xs H Q E →
      ∃ t, PSs (cxOf CX0 P w K mg base N qual (defScope d) f cv A frames st H E).nox (defBody d) t ∧ t { nx := fun _ H' => Q .non H', rt := Q } (start N xs) H) : FnOkG P w K mg base (n + 1) f fd names want := by
  obtain ⟨o1, o2, v1, v2, v3, an, cv, ct, sl, rfl, look, code⟩ := F.ex
  refine ⟨many, fun A frames st H given us xs Q E hg room en bind vals hw => ?_⟩
  have size := many _ _ _ _ hw
  have inK : K.In st.heap := en.mod.kin.keeps fun b o q => (en.bs b o q).1
  have noLim : st.heap.NoLimit := en.mod.nolimit.keeps fun b o q => (en.bs b o q).1
  have kinds : ∀ y ∈ names.zip us, (defScope d).names.lookup y.1 = some .local ∨ ((defScope d).names.lookup y.1 = some .cell ∧ ((cellsFrom (st.heap.objs.size + 1) (defScope d).names []).lookup y.1).isSome = true) := by
    rintro ⟨a, b⟩ hy
    exact (S.par a (List.of_mem_zip hy).1).elim .inl fun q => .inr ⟨q, PySem.W.cellsFrom_some _ _ _ (.inl q)⟩
  refine codeAny_call_function room.depth (inK _ _ look) rfl S.co S.gen rfl (PySem.W.codeRec_of inK code) (bind _ _ _ _ (wpAny_newFunctionEnv_cells S.kind kinds fun env eq st1 made => ?_))
  cases eq
  refine ⟨noLim.keeps made.toInCall.keep, codeAny_func ?_⟩
  obtain ⟨t, rule, done⟩ := body cv A frames st H xs Q E hg (room.deeper _) hw
  have J : Inv (cxOf CX0 P w K mg base N qual (defScope d) f cv A frames st H E) [] (start N xs) H st1 := inv_start S room.hd en size vals made
  have back : ∀ {σ' : L2.St} {H' : Hp} {v : V} {u : Value} {st2 : Shared}, Inv (cxOf CX0 P w K mg base N qual (defScope d) f cv A frames st H E) [] σ' H' st2 → RelV v u → Q v H' → CE frames P w H st Q u st2 := fun J2 rv q => ⟨_, _, J2.os, J2.bare, J2.base, J2.hok, rv, q⟩
  refine wpAny_mono (rule.nox.run [] st1 (start N xs) H _ J done) (fun r st2 hs => ?_) fun _ _ hs => hs
  match r, hs with
  | .ret u, ⟨v, σ2, H2, J2, rv, q⟩ => exact back J2 rv q
  | .next, ⟨σ2, H2, J2, q⟩ => exact back (v := V.non) (u := Value.none) J2 rfl q
  | .brk, ⟨_, _, _, q⟩ => exact False.elim q
  | .cont, ⟨_, _, _, q⟩ => exact False.elim q
end
/-- such a def is called -/
theorem pe_callG {X : Cx} {n : Nat} {f : Addr} {fd : FuncData} {names : List Str} {want : Sp} {x : Str} {p pos : Pos} {e : Expr} {es : List Expr} {t : TA} (F : FnOkG X.prog X.w X.K X.mg X.base n f fd names want) (hg : X.A.guards = some []) (room : Room n X.A) (gl : Gl X x)
    (at_ : X.mg x = some (.ref f)) (keep : PySem.W.keepIn X.K (.ref f) = true) (bind : Binds X.K fd names []) (ha : PA X (e :: es) t) (nd : (x == ("__debug__" : Str)) = false := by decide)
    (one : starEach (e :: es) X.env = (false, eval e X.env) :: starEach es X.env := by rfl) (plain : (backTo pos (starEach es X.env)).any (·.1) = false := by rfl) : PE X (.Call (.Name x p) (e :: es) [] pos) (tCall want [] E0 t) := by
  refine ⟨fun pins st σ H Q J h => wpAny_Call_Name_kw (ld_glob J gl at_ ?_ nd)⟩
  refine PySem.W.callWith_K (h₀ := X.base) J.ok.mod.kin keep (thn (ha.run pos pins st σ H _ J h) fun us st1 ⟨vs, H1, J1, r, q⟩ => ⟨J1.kIn, ?_⟩) one plain
  have q : want vs H1 Q E0 := by
    have q' : want (vs ++ []) H1 Q E0 := q
    rwa [List.append_nil] at q'
  have size : us.length = names.length := r.length.symm.trans (F.many _ _ _ _ q)
  have bd := bind st1 us J1.kIn (by rw [List.append_nil]; exact size)
  rw [List.append_nil] at bd
  refine wpAny_call (codeAny_mono (F.go X.A X.stack st1 H1 ⟨us, []⟩ us vs Q E0 hg room J1.env0 bd r q) fun res st2 hq => ?_)
  match res, hq with
  | .error _, hq => exact False.elim hq
  | .ok (.ret _), hq => exact J1.after hq
  | .ok .next, hq => exact False.elim hq
  | .ok .brk, hq => exact False.elim hq
  | .ok .cont, hq => exact False.elim hq
/-- the law's promise, at the heap behind the top -/
theorem headG {P : Program} {w : World} {K : PySem.W.Frag} {mg mb : Str → Option Value} {n : Nat} {fa a : Addr} {fd : FuncData} {x : Str} {want : Sp} {st : Shared} {us : List Value} {ns : List Int}
    (inK : K.In st.heap) (glob : st.heap.Ns mainGlobals mg) (blt : st.heap.Ns builtinsNs mb) (boot : ∀ x : Str, x ≠ "__name__" → mb x = bootBuiltins x) (noLim : st.heap.NoLimit) (gens : st.gens = #[])
    (obj : st.heap.get? a = some { cls := .type "list", data := .seq us.toArray }) (allInt : IntsAre us ns) (short : ns.length ≤ sizeLine) (room : Room n callerA)
    (F : ∀ base : Heap, K.In base → base.Ns mainGlobals mg → FnOkG P w K mg base n fa fd [x] want) (bind : ∀ (s : Shared) (u : Value), BindsTo s fd ⟨[u], []⟩ [(x, u)])
    (ask : ∀ H : Hp, Only H → SqL K H a (ns.map V.int) → want [.ref a] H (fun v _ => v = .bl true) fun _ _ _ => False) :
    codeAny (model P w) callerA (.call (.ref fa) ⟨[.ref a], []⟩) (fun r s' => r = .ok (.ret (.bool true)) ∧ OldK st.heap s'.heap ∧ s'.os = st.os ∧ AllBare s'.gens) st := by
  have vals := vals_ints allInt
  have size := allInt.length
  have main : ∀ H : Hp, Only H → SqL K H a (ns.map V.int) → HOk P w H st.heap → (∀ b, H b ≠ none → b = a) → (H a ≠ none → K.lookup a = none) →
      codeAny (model P w) callerA (.call (.ref fa) ⟨[.ref a], []⟩) (fun r s' => r = .ok (.ret (.bool true)) ∧ OldK st.heap s'.heap ∧ s'.os = st.os ∧ AllBare s'.gens) st := by
    intro H only sq ok one not
    have stay : ∀ {b : Addr} {o : Obj}, st.heap.get? b = some o → H b = none → (hidT st.heap H).get? b = some o := fun q z => hidT_get q z
    have free : ∀ {b : Addr}, (b = a → False) → H b = none := fun {b} ne => by
      cases q : H b with
      | none => rfl
      | some u => exact (ne (one b (by rw [q]; exact Option.some_ne_none u))).elim
    have space : ∀ {b : Addr} {m : Str → Option Value}, st.heap.Ns b m → (hidT st.heap H).Ns b m := fun {b m} ⟨o, es, ep, q, d, r⟩ => ⟨o, es, ep, stay q (free fun z => by
      subst z
      rw [obj] at q
      cases q
      exact Data.noConfusion (show Data.seq us.toArray _ = Data.dict es ep from d)), d, r⟩
    have kin : K.In (hidT st.heap H) := fun b o q => stay (inK b o q) (by
      cases z : H b with
      | none => rfl
      | some u =>
        have ne : H b ≠ none := by rw [z]; exact Option.some_ne_none u
        have ba := one b ne
        subst ba
        rw [not ne] at q
        cases q)
    obtain ⟨mc, l1, l2⟩ := noLim
    have md : Mod K mg (hidT st.heap H) := ⟨kin, space glob, ⟨mb, space blt, boot⟩, ⟨mc, space l1, l2⟩⟩
    have en : Env0 P w K mg (hidT st.heap H) callerA [] st H := ⟨rfl, md, fun b o q => of_hidT q, Nat.le_of_eq (hidT_size _ _), trivial, fun b hb => absurd (show b ∈ ([] : List Addr) from hb) (by simp), ok, .of_eq gens⟩
    refine codeAny_mono ((F _ kin (space glob)).go callerA [] st H ⟨[.ref a], []⟩ [.ref a] [.ref a] _ _ rfl room en (bind st (.ref a)) (.cons rfl .nil) (ask H only sq)) fun r s' h => ?_
    match r, h with
    | .error _, h => exact False.elim h
    | .ok .next, h => exact False.elim h
    | .ok .brk, h => exact False.elim h
    | .ok .cont, h => exact False.elim h
    | .ok (.ret u), ⟨v, H', os, bare, un, ok', rel, q⟩ =>
      have q2 : v = .bl true := q
      cases q2
      have r2 : u = Value.bool true := rel
      cases r2
      refine ⟨rfl, OldK.of_keep fun b o e => ?_, os, bare⟩
      rcases only b with z | ⟨ob, xs, z⟩
      · exact un.keep b o e z (fun t => absurd (show b ∈ ([] : List Addr) from t) (by simp)) (by simp)
      · have z2 := un.frzs b ob _ z
        obtain ⟨g1, _⟩ := ok b _ z
        obtain ⟨g2, _⟩ := ok' b _ z2
        rw [e] at g1
        cases g1
        exact g2
  cases own : K.lookup a with
  | some o =>
    have e := inK a o own
    rw [obj] at e
    cases e
    exact main (fun _ => none) (fun _ => .inl rfl) (.inr ⟨_, us.toArray, _, own, rfl, rfl, rfl, by rw [List.size_toArray, size]; exact short, by simpa using vals⟩) (fun b u z => by have y : (none : Option HO) = some u := z; cases y) (fun b z => absurd rfl z) fun z => absurd rfl z
  | none =>
    have yes : (fun b => if b = a then some (HO.frz { cls := .type "list", data := .seq us.toArray } (.lst (ns.map V.int))) else none) a = some (HO.frz { cls := .type "list", data := .seq us.toArray } (.lst (ns.map V.int))) := if_pos rfl
    have no : ∀ b, b ≠ a → (fun b => if b = a then some (HO.frz { cls := .type "list", data := .seq us.toArray } (.lst (ns.map V.int))) else none) b = none := fun b ne => if_neg ne
    generalize (fun b => if b = a then some (HO.frz { cls := .type "list", data := .seq us.toArray } (.lst (ns.map V.int))) else none) = G at yes no
    refine main G (fun b => ?_) (.inl (.inr ⟨_, yes⟩)) (fun b u z => ?_) (fun b z => ?_) fun _ => own
    · by_cases hb : b = a
      · subst hb
        exact .inr ⟨_, _, yes⟩
      · exact .inl (no b hb)
    · by_cases hb : b = a
      · subst hb
        rw [yes] at z
        cases z
        exact ⟨obj, by rw [List.length_map]; exact short, us, _, vals, obj⟩
      · rw [no b hb] at z
        cases z
    · by_cases hb : b = a
      · exact hb
      · exact absurd (no b hb) z
theorem walk_G {l : PySem.W.OpenLaw} {m n : Nat} {q : Program} {loose : List Str} {XP : (Str → Option Value) → Heap → Prop} {YP : World → Heap → Prop} {d : DefRec} {K : Params → PySem.W.Frag} {want : World → Sp} {x : Str}
    (most : l.most = some m) (most2 : m ≤ sizeLine) (noDef : d.params.defaults = []) (room : Room n callerA) (inK : ∀ (w : World) (h : Heap), YP w h → (K w.params).In h)
    (F : ∀ (w : World) (mg : Str → Option Value) (fa : Addr) (h : Heap), (K w.params).In h → h.Ns mainGlobals mg → mg d.name = some (.ref fa) →
      ∃ fd : FuncData, (∀ (s : Shared) (u : Value), BindsTo s fd ⟨[u], []⟩ [(x, u)]) ∧ ∀ base : Heap, (K w.params).In base → base.Ns mainGlobals mg → FnOkG l.prog w (K w.params) mg base n fa fd [x] (want w))
    (ask : ∀ (w : World) (H : Hp) (a : Addr) (ns : List Int), ns.length ≤ m → Only H → SqL (K w.params) H a (ns.map V.int) → want w [.ref a] H (fun v _ => v = .bl true) fun _ _ _ => False) :
    PySem.W.WalkO q loose XP YP l.row.toRowW d [] (fun f vs => PySem.call f vs) :=
  Att.attach_call most noDef fun w s₀ st mg mb fa o pm cd doc a us ns G Y ho hd hcd named obj allInt short gens => by
    have kin := inK w _ Y
    obtain ⟨fd, bind, FF⟩ := F w mg fa _ kin G.T.g named
    exact headG kin G.T.g G.T.b G.T.builtins G.T.nolimit gens obj allInt (Nat.le_trans short most2) room FF bind fun H only sq => ask w H a ns short only sq
/-! ### repr of data -/
def rRepr (K : PySem.W.Frag) : List V → Hp → VK → Prop := fun xs H Q => ∃ p d, xs = [.ref p] ∧ Dp K H (.ref p) d ∧ d.showable = true ∧ d.hasDict = false ∧ d.depth ≤ 50 ∧ d.shown.length ≤ sizeLine ∧ Q (.str d.shown) H
theorem call_reprD {X : Cx} (hg : X.A.guards = some []) (hu : X.A.units + 64 < cLine) : CallR X (.builtin "repr") (rRepr X.K) := by
  intro pins st σ H xs us Q J r h
  obtain ⟨p, d, rfl, dp, hs, hd, hdp, hz, q⟩ := h
  obtain ⟨u, rfl, hu2⟩ : ∃ u, us = [u] ∧ RelV (.ref p) u := by
    cases r with
    | cons a b =>
      cases b
      exact ⟨_, rfl, a⟩
  have e : u = Value.ref p := hu2
  subst e
  obtain ⟨as, rd⟩ := Dp.reads J d _ _ dp hu2
  refine repr_of_reads' rd hs (fun z => by rw [hd] at z; cases z) hg (by omega) (fun _ _ e => e) (fun h' u tk keep => ?_) hz
  exact ⟨.str d.shown, H, J.turnedL (ch := []) (fun b o _ e => keep b o e) (fun b hb => absurd hb (by simp)), ⟨_, rfl⟩, q⟩
section
variable {K : PySem.W.Frag} {σ : L2.St} {H : Hp} {te : TE}
theorem ev_repr {d : PyData} (h : EvD K te σ H d) (hl : isDisplay d = true) (hs : d.showable = true) (hd : d.hasDict = false) (hdp : d.depth ≤ 50) (hz : d.shown.length ≤ sizeLine) : Ev (tCB (rRepr K) (tCons te tNil)) σ H (.str d.shown) := fun H1 e Q q =>
  h H1 e _ fun v H2 e2 dv => by
    have hp : ∃ p, v = .ref p := by
      cases dv with
      | lst _ _ => exact ⟨_, rfl⟩
      | tup _ _ => exact ⟨_, rfl⟩
      | non => cases hl
      | bl _ => cases hl
      | int _ => cases hl
      | str _ => cases hl
    obtain ⟨p, rfl⟩ := hp
    exact ⟨p, d, rfl, dv, hs, hd, hdp, hz, q H2 e2⟩
end
end Kit
set_option Elab.async false
set_option linter.all false
set_option maxRecDepth 100000
set_option maxHeartbeats 4000000
namespace Kit
open PySem PySem.Spec PyProof.Rows L2 Evl
theorem slot_type_neR : Slot "type" (cmpInfo .NotEq).2.2 "object.__ne__" :=
  .of (owner := "object") (n := "__ne__") (by rw [typeLookup_type, builtinLookup_eq_fast]; kernel_rfl) (by decide +kernel) (by decide +kernel) (by decide +kernel)
    (by first | exact .inl (by decide +kernel) | exact .inr (by decide +kernel)) (by rw [isSubtype_type]; kernel_rfl)
section
variable {M : Model} {A : Around} {E : Value → Shared → Prop} {s : Shared}
theorem ne_decline {a b : Value} {T id : String} {k : Bool} {Q : Value → Shared → Prop} (ta : ∀ s' : Shared, s'.TypeIs a T) (tb : ∀ s' : Shared, s'.TypeIs b T) (l1 : Slot T (cmpInfo .NotEq).2.1 id) (l2 : Slot T (cmpInfo .NotEq).2.2 id)
    (nh : [a, b].any Value.onHeap = false) (same : isSame a b = pure k) (go : wpAny M A (call (.builtin id) [a, b]) (fun v t => v = .notImplemented ∧ wpAny M A (call (.builtin id) [b, a]) (fun v t2 => v = .notImplemented ∧ Q (.bool (!k)) t2) E t) E s) :
    wpAny M A (richCompare .NotEq a b) Q E s := by
  rcases eq : cmpInfo CmpOp.NotEq with ⟨n1, n2, n3⟩
  rw [eq] at l1 l2
  simp only [richCompare, eq, (ta s).oneThing_none]
  try with_reducible refine wpAny_holding ?_
  refine wpAny_bind (wpAny_cRoomFor_or (.inl nh) (wpAny_bind (wpAny_typeOf (ta s) (wpAny_bind (wpAny_typeOf (tb s) ?_)))))
  simp only [bne_self_eq_false, Bool.false_eq_true, if_false, pure_bind, Bool.not_false, if_true]
  refine wpAny_bind (m := tryCompare a _ b) (wpAny_tryCompare_declines (ta s) l1 (wpAny_mono go (fun v t z => ⟨z.1, ?_⟩) fun _ _ x => x))
  refine wpAny_bind (m := tryCompare b _ a) (wpAny_tryCompare_declines (tb t) l2 (wpAny_mono z.2 (fun v t2 z2 => ⟨z2.1, ?_⟩) fun _ _ x => x))
  refine wpAny_bind (wpAny_rule (wpAny_bind (wpAny_of_eq same (wpAny_pure z2.2))))
end
section
variable {prog : Program} {w : World} {A : Around} {E : Value → Shared → Prop} {s : Shared} {Q : Value → Shared → Prop}
theorem obj_ne_other {X Y : String} (hX : ∀ s' : Shared, s'.TypeIs (.type X) "type") (ne : (Value.type X == Value.type Y) = false) (hu : A.units + 1 < cLine) (h : Q .notImplemented s) : wpAny (model prog w) A (call (.builtin "object.__ne__") [.type X, .type Y]) Q E s := by
  refine wpAny_call_entry slot_type_ne (hX s) PySem.F.cmpEntry_ne ?_ (PySem.F.cmpArgs_ne _ _)
  unfold Builtin.«object.__ne__»
  have key : wpAny (model prog w) A.in1 (call (.builtin "object.__eq__") [.type X, .type Y]) (fun v s' => v = .notImplemented ∧ s' = s) E s :=
    call_gives slot_type_eqN (hX s) F.entry_object_eq (F.args_object_eq_2 _ _) (PySem.TypeEq.object_eq_other rfl ne) ⟨rfl, rfl⟩
  repeat (first
    | with_reducible refine wpAny_cRoomFor (by show A.units + 1 < cLine; exact hu) ?_
    | (refine wpAny_bind (m := callSpecialIfBound? (.type X) (Str.ofString "__eq__") [.type Y])
        (wpAny_callSpecialIfBound?_slot (hX _) slot_type_eqN (wpAny_mono key (fun r s' hr => by
          obtain ⟨rfl, rfl⟩ := hr
          have hq : Q .notImplemented s' := h
          repeat (first | exact hq | exact ⟨_, rfl, hq⟩ | exact wpAny_pure hq | wp_step)) fun _ _ e => e)))
    | wp_step)
theorem ne_type_other {X Y : String} (hX : ∀ s' : Shared, s'.TypeIs (.type X) "type") (hY : ∀ s' : Shared, s'.TypeIs (.type Y) "type") (ne : (Value.type X == Value.type Y) = false) (hu : A.units + 1 < cLine) (h : Q (.bool true) s) : wpAny (model prog w) A (compareOp .NotEq (.type X) (.type Y)) Q E s := by
  have ne' : (Value.type Y == Value.type X) = false := by
    rw [beq_eq_false_iff_ne] at ne ⊢
    exact fun z => ne z.symm
  show wpAny _ A (richCompare .NotEq _ _) Q E s
  exact ne_decline (T := "type") (k := false) hX hY slot_type_ne slot_type_neR rfl (by rw [isSame_plain rfl, ne]) (obj_ne_other hX ne hu ⟨rfl, obj_ne_other hY ne' hu ⟨rfl, h⟩⟩)
end
end Kit
set_option Elab.async false
set_option linter.all false
set_option maxRecDepth 100000
set_option maxHeartbeats 4000000
namespace Kit
open PySem PySem.Spec PyProof.Rows L2 Evl
theorem meets_enum_new1 {v : Value} {o : Obj} {H : Heap → Prop} (B : Begins v o H) :
    Meets (Builtin.«enumerate.__new__» ⟨[.type "enumerate", v], []⟩) (fun _ R s => H s.heap ∧
      R (.ok (.ret (.ref (s.heap.push o).objs.size))) { s with heap := (s.heap.push o).push { cls := .type "enumerate", data := .fields #[.none, .bool false, .ref s.heap.objs.size, rawInt 0, .none, .none] } }) :=
  .of_wp fun prog w A R s h => by
    obtain ⟨hp, g, d, tk, os⟩ := s; obtain ⟨h1, h⟩ := h
    have hsub := sub_enumerate
    have q1 : ∀ {A' : Around} {E : Value → Shared → Prop} {Q : Value → Shared → Prop}, Q (.ref hp.objs.size) ⟨hp.push o, g, d, tk, os⟩ → wpAny (model prog w) A' (pyIter v) Q E ⟨hp, g, d, tk, os⟩ :=
      fun q => B.iter prog w _ _ ⟨hp, g, d, tk, os⟩ _ h1 q
    wp_walk using q1
    refine wpAny_stack_any fun st => wpAny_pure ?_
    split
    · rename_i c _ _ _ _ _
      cases (c == Value.type "enumerate")
      · wp_walk using q1
        exact ⟨_, rfl, h⟩
      · wp_walk using q1
        exact ⟨_, rfl, h⟩
    · wp_walk using q1
      exact ⟨_, rfl, h⟩
section
variable {prog : Program} {w : World} {A : Around} {E : Value → Shared → Prop} {s : Shared}
theorem enum_begins1 {v : Value} {o : Obj} {H : Heap → Prop} {Q : Value → Shared → Prop} (B : Begins v o H) (h1 : H s.heap)
    (h : ∀ h', IsEnum h' (s.heap.objs.size + 1) s.heap.objs.size 0 .none → h'.get? s.heap.objs.size = some o → h'.objs.size = s.heap.objs.size + 2 →
      (∀ b o, s.heap.get? b = some o → h'.get? b = some o) → Q (.ref (s.heap.objs.size + 1)) { s with heap := h' }) :
    wpAny (model prog w) A (call (.type "enumerate") [v]) Q E s := by
  refine callType_new F.called_enumerate (by decide) (F.typeCall_enumerate_1 _) (F.newCall_enumerate_1 _) (fun obj => F.args_object_init_2 obj _) F.entry_enumerate_new
    (meets_enum_new1 B) ⟨h1, ?_⟩
  have hz : (s.heap.push o).objs.size = s.heap.objs.size + 1 := Heap.size_push ..
  show _ ∧ _
  rw [hz]
  have he : IsEnum ((s.heap.push o).push { cls := .type "enumerate", data := .fields #[.none, .bool false, .ref s.heap.objs.size, rawInt 0, .none, .none] }) (s.heap.objs.size + 1) s.heap.objs.size 0 .none := by
    have := Heap.get?_push_size (s.heap.push o) (o := { cls := .type "enumerate", data := .fields #[.none, .bool false, .ref s.heap.objs.size, rawInt 0, .none, .none] }) rfl
    rw [hz] at this; exact this
  refine ⟨⟨_, he, rfl⟩, h _ he (Heap.get?_push_of_some _ (Heap.get?_push_size _ B.free)) (by rw [Heap.size_push, hz]) fun b o x => Heap.get?_push_of_some _ (Heap.get?_push_of_some _ x)⟩
end
end Kit
set_option Elab.async false
set_option linter.all false
set_option maxRecDepth 100000
set_option maxHeartbeats 4000000
namespace Kit
open PySem PySem.Spec PyProof.Rows L2 Evl
/-- the tuple at a, each item in a new pair -/
def IteT (K : PySem.W.Frag) (a : Addr) : It :=
  ⟨fun i H => ∃ (xs : List V) (x : V), SqT K H a xs ∧ xs[i]? = some x, fun i H v H' => ∃ T x, v = .ref T ∧ H T = none ∧ H' = upd H T (.tup [.int (i : Nat), x]) ∧ ∀ xs, SqT K H a xs → xs[i]? = some x, fun i H => ∃ xs : List V, SqT K H a xs ∧ xs.length = i⟩
theorem enum_ne {h : Heap} {e it t : Addr} {i : Int} {old : Value} {vs : Array Value} (he : IsEnum h e it i old) (ht : h.IsTuple t vs) : e ≠ t := fun z => by
  subst z
  obtain ⟨o, ho, hc, _⟩ := ht
  have he' : h.get? e = _ := he
  rw [he'] at ho
  cases ho
  exact absurd hc (by show ¬ (Value.type "enumerate" = Value.type "tuple"); decide +kernel)
theorem turn_enumT {P : Program} {w : World} {K : PySem.W.Frag} {elts : List Expr} {kk : Nat} {tpos : Pos} (a e it : Addr) :
    Turn P w K (.Tuple elts kk tpos) (IteT K a) [e, it] e (fun i h => (∃ old, IsEnum h e it ((i : Nat) : Int) old) ∧ h.IsTupleIter it a i ∧ e ≠ it) where
  mem := by simp
  obj := fun i h st b hb => by
    obtain ⟨⟨old, he⟩, ⟨o, ho, hc, hd⟩, _⟩ := st
    have e' : b = e ∨ b = it := by simpa using hb
    rcases e' with z | z
    · rw [z]; exact ⟨_, he, fun v q => nomatch q⟩
    · rw [z]; exact ⟨o, ho, fun v q => by rw [hd] at q; cases q⟩
  keep := fun i h h' st k => by
    obtain ⟨⟨old, he⟩, ⟨o, ho, hr⟩, hne⟩ := st
    exact ⟨⟨old, k e (by simp) _ he⟩, ⟨o, k it (by simp) o ho, hr⟩, hne⟩
  item := by
    intro X hP hw hK hc i pins s σ H E I hf st hg
    subst hP hw hK
    obtain ⟨⟨old, he⟩, hit, hne⟩ := st
    obtain ⟨xs, x, hq, hx⟩ := hg
    obtain ⟨its, rv, p, hz⟩ := I.tuple hq
    obtain ⟨u, hu, ru⟩ := rv.get hx
    have hel : e < s.heap.objs.size := Heap.lt_size he
    have hil : it < s.heap.objs.size := by obtain ⟨_, q, _⟩ := hit; exact Heap.lt_size q
    have pT : s.heap.IsTuple a its.toArray := p
    have nea : e ≠ a := enum_ne he pT
    have nit : a ≠ it := fun z => by
      subst z
      obtain ⟨o, ho, hc', _⟩ := pT
      obtain ⟨o', ho', hc'', _⟩ := hit
      rw [ho] at ho'
      cases ho'
      rw [hc'] at hc''
      exact absurd hc'' (by decide +kernel)
    have hlt : i < its.toArray.size := by
      have := (List.getElem?_eq_some_iff.mp hu).1
      simpa using this
    refine wpAny_pyNext_enum_itemD (Draws.tuple (by exact I.ok.hd hc) it a nit its.toArray) he ⟨hit, pT⟩ hlt hne (by simp [hne, nea]) fun x' h' tk hx' ho hst' hT hsz hk => ?_
    have eu : u = x' := by
      have : its[i]? = some x' := by simpa using hx'
      rw [hu] at this
      exact Option.some.inj this
    subst eu
    refine ⟨_, rfl, wpAny_letOwnedTupleGo_enum (s := { s with heap := h', toks := tk + 1 }) ho fun h'' he' sb => ?_⟩
    have hT2 : h''.get? s.heap.objs.size = some { cls := .type "tuple", data := .seq #[.int i tk, u] } := (sb.2 _ (Nat.ne_of_gt hel)).trans hT
    have new : ObjOk X.prog X.w (upd H s.heap.objs.size (.tup [.int (i : Nat), x])) h'' s.heap.objs.size (.tup [.int (i : Nat), x]) :=
      ⟨by show 2 ≤ sizeLine; decide, [.int i tk, u], .cons ⟨_, rfl⟩ (.cons ru .nil), ⟨_, hT2, rfl, _, rfl⟩⟩
    have I1 : Inv X pins σ (upd H s.heap.objs.size (.tup [.int (i : Nat), x])) { s with heap := h'', toks := tk + 1 } :=
      I.turnedNew (ch := [e, it]) (fun b ob hb q => (sb.2 b (fun z => hb (by simp [z]))).trans (hk b ob (fun z => hb (by simp [z])) (fun z => hb (by simp [z])) q)) hf (Nat.le_refl _) new
    refine ⟨.ref s.heap.objs.size, _, I1, rfl, ⟨_, x, rfl, I.hok.fresh (Nat.le_refl _), rfl, fun ys hy => by rw [I.tuple_inj hy hq]; exact hx⟩, ⟨⟨u, ?_⟩, ?_, hne⟩, fun b hb => ?_⟩
    · have e1 : ((i + 1 : Nat) : Int) = (i : Int) + 1 := by omega
      rw [e1]; exact he'
    · obtain ⟨o, q, r⟩ := hst'.1
      exact ⟨o, (sb.2 it (Ne.symm hne)).trans q, r⟩
    · have hb' : b < s.heap.objs.size := by
        have e' : b = e ∨ b = it := by simpa using hb
        rcases e' with z | z
        · rw [z]; exact hel
        · rw [z]; exact hil
      rw [upd_ne (Nat.ne_of_lt hb')]
      exact (hf b hb).1
  done := by
    intro X hP hw hK hc i pins s σ H E I hf st hg
    subst hP hw hK
    obtain ⟨⟨old, he⟩, hit, hne⟩ := st
    obtain ⟨xs, hq, hx⟩ := hg
    obtain ⟨its, rv, p, hz⟩ := I.tuple hq
    obtain ⟨f0, f1, f2, f3, f4, f5⟩ := hf it (by simp)
    have hl := rv.length
    have pT : s.heap.IsTuple a its.toArray := p
    have nit : a ≠ it := fun z => by
      subst z
      obtain ⟨o, ho, hc', _⟩ := pT
      obtain ⟨o', ho', hc'', _⟩ := hit
      rw [ho] at ho'
      cases ho'
      rw [hc'] at hc''
      exact absurd hc'' (by decide +kernel)
    have hn : its.toArray.size = i := by
      rw [← hx, hl]
      simp
    subst hn
    exact wpAny_pyNext_enum_endD (Draws.tuple (by exact I.ok.hd hc) it a nit its.toArray) he ⟨hit, pT⟩ fun h' eb => ⟨rfl, I.turned (t' := s.toks) (fun b o hb q => eb b o hb q) f0 f1 f3 f4 f5⟩
  self := fun A i s Q E st h => let ⟨⟨_, he⟩, _⟩ := st; wpAny_pyIter_enum he h
def iEnumS (K : PySem.W.Frag) (ta : TA) : TI := fun σ H R => ta σ H fun vs H1 => ∃ a xs, vs = [.ref a] ∧ ((SqL K H1 a xs ∧ R (Ite K a) H1) ∨ (SqT K H1 a xs ∧ R (IteT K a) H1))
theorem pi_enumS {X : Cx} {e : Expr} {ta : TA} {p pos tpos : Pos} {elts : List Expr} {kk : Nat} (hg : Gl X "enumerate") (hm : X.mg "enumerate" = none) (ha : PA X [e] ta) (hs : starEach [e] X.env = [(false, eval e X.env)] := by rfl) :
    PI X (.Tuple elts kk tpos) (.Call (.Name "enumerate" p) [e] [] pos) (iEnumS X.K ta) := by
  refine ⟨fun pins s σ H R I h => ?_⟩
  refine Call_ (ld_blt I hg hm boot_enumerate (PyProof.Rows.callWith_type1 (thn (ha.run pos pins s σ H _ I h) fun us s1 ⟨vs, H1, I1, r1, q1⟩ => ?_) hs rfl))
  obtain ⟨a, xs, ex, q1⟩ := q1
  subst ex
  cases r1 with
  | cons r rr =>
    cases rr
    cases r
    have fin : ∀ (h' : Heap) (itx : Addr), itx = s1.heap.objs.size → (∀ b o, s1.heap.get? b = some o → h'.get? b = some o) → ∀ b ∈ [s1.heap.objs.size + 1, itx], FpOk X pins H1 b := fun h' itx ei hk b hb => by
      have hle : s1.heap.objs.size ≤ b := by
        have e' : b = s1.heap.objs.size + 1 ∨ b = itx := by simpa using hb
        rcases e' with z | z
        · rw [z]; exact Nat.le_add_right _ _
        · rw [z, ei]; exact Nat.le_refl _
      exact I1.fpOk hle (I1.hok.fresh hle)
    rcases q1 with ⟨hq, q⟩ | ⟨hq, q⟩
    · obtain ⟨its, rv, p', hz⟩ := I1.list hq
      refine call_enumerate_list p'.isList fun h' he hit hsz hk => wpAny_pyIter_enum he ?_
      have I2 : Inv X pins σ H1 { s1 with heap := h' } := I1.kept (t' := s1.toks) hk
      exact ⟨s1.heap.objs.size + 1, [s1.heap.objs.size + 1, s1.heap.objs.size], _, _, H1, rfl, I2, turn_enum a (s1.heap.objs.size + 1) s1.heap.objs.size, ⟨⟨.none, he⟩, hit, Nat.succ_ne_self _⟩, fin h' _ rfl hk, q⟩
    · obtain ⟨its, rv, p', hz⟩ := I1.tuple hq
      refine enum_begins1 (begins_tuple a its.toArray) (show s1.heap.IsTuple a its.toArray from p') fun h' he hit hsz hk => wpAny_pyIter_enum he ?_
      have I2 : Inv X pins σ H1 { s1 with heap := h' } := I1.kept (t' := s1.toks) hk
      exact ⟨s1.heap.objs.size + 1, [s1.heap.objs.size + 1, s1.heap.objs.size], _, _, H1, rfl, I2, turn_enumT a (s1.heap.objs.size + 1) s1.heap.objs.size, ⟨⟨.none, he⟩, ⟨_, hit, rfl, rfl⟩, Nat.succ_ne_self _⟩, fin h' _ rfl hk, q⟩
theorem walk_enumT {K : PySem.W.Frag} {a : Addr} {xs : List V} : Walk (IteT K a) xs.length (fun H => SqT K H a xs) (YPair (fun i => some (.int (i : Nat))) (fun i => xs[i]?)) := by
  refine ⟨fun i _ hi q => ⟨xs, xs[i], q, by simp [hi]⟩, fun _ q => ⟨xs, q, rfl⟩, fun i H v H' _ q y => ?_⟩
  obtain ⟨T, x, h1, h2, h3, h4⟩ := y
  exact ⟨T, .int (i : Nat), x, h1, h2, h3, rfl, h4 xs q⟩
section
variable {K : PySem.W.Frag} {σ : L2.St} {H H' : Hp} {D : Ends} {tu tz : TS}
/-- for i, x in enumerate(xs), xs a list or a tuple -/
theorem s_forEnS {ta : TA} {i j : Nat} {a : Addr} {xs : List V} (h : EvA ta σ H [.ref a]) (G : Hp → Prop) (hG : (∀ H, G H → SqL K H a xs) ∨ (∀ H, G H → SqT K H a xs)) (hx : ∀ H1, Ex H H1 → G H1) (Pv : Nat → L2.St → Hp → Prop) (h0 : ∀ H1, Ex H H1 → Pv 0 σ H1) (hl : ∀ n σ' H', n ≤ xs.length → Pv n σ' H' → G H')
    (hs : ∀ n x σ' H' H2, xs[n]? = some x → Pv n σ' H' → Ex H' H2 → tu { D with nx := Pv (n + 1), ct := Pv (n + 1), bk := D.nx } ((σ'.set i (some (.int (n : Int)))).set j (some x)) H2) (hd : ∀ σ' H', Pv xs.length σ' H' → D.nx σ' H') :
    tFor (iEnumS K ta) (gTup K 2 (gCons (gName i) (gCons (gName j) gNil))) tu D σ H := h H (Ex.refl H) _ fun H1 e => by
  have turn : ∀ n v σ' Hh H2, n < xs.length → Pv n σ' Hh → YPair (fun i => some (.int (i : Nat))) (fun i => xs[i]?) n Hh v H2 → gTup K 2 (gCons (gName i) (gCons (gName j) gNil)) v σ' H2 fun σ2 H3 => tu { D with nx := Pv (n + 1), ct := Pv (n + 1), bk := D.nx } σ2 H3 := by
    rintro n v σ' Hh H2 hn p ⟨T, x, y, rfl, nT, rfl, g1, g2⟩
    have ex : V.int (n : Nat) = x := Option.some.inj g1
    subst ex
    exact ⟨T, [.int (n : Nat), y], rfl, st_of upd_same, rfl, _, [y], rfl, y, [], rfl, rfl, hs n y σ' Hh _ g2 p (Ex.new nT)⟩
  rcases hG with hG | hG
  · exact ⟨a, xs, rfl, .inl ⟨hG _ (hx H1 e), for_it walk_enum Pv (h0 H1 e) (fun n σ' H' hn p => hG _ (hl n σ' H' hn p)) (fun n v σ' Hh H2 => turn n v σ' Hh H2) hd⟩⟩
  · exact ⟨a, xs, rfl, .inr ⟨hG _ (hx H1 e), for_it walk_enumT Pv (h0 H1 e) (fun n σ' H' hn p => hG _ (hl n σ' H' hn p)) (fun n v σ' Hh H2 => turn n v σ' Hh H2) hd⟩⟩
end
end Kit
set_option Elab.async false
set_option linter.all false
set_option maxRecDepth 100000
set_option maxHeartbeats 4000000
namespace Kit
open PySem PySem.Spec PyProof.Rows L2 Evl
/-! list(range(a, b, c)) -/
def rgC (i c : Int) (n : Nat) : List V := (List.range n).map fun k => V.int (i + (k : Nat) * c)
def PRgC (X : Cx) (e : Expr) (t : L2.St → Hp → (Int → Int → Int → Hp → Prop) → Prop) : Prop :=
  ∀ (pins : List (Addr × Obj)) (s : Shared) (σ : L2.St) (H : Hp) (Q : Int → Int → Int → Hp → Prop), Inv X pins σ H s → t σ H Q →
    wpAny (model X.prog X.w) X.A (eval e X.env) (fun x s' => ∃ r a b c t u v H', x = .ref r ∧ IsRange s'.heap r a b c t u v ∧ Inv X pins σ H' s' ∧ Q a b c H') X.xe s
def tRg3 (ta : TA) : L2.St → Hp → (Int → Int → Int → Hp → Prop) → Prop := fun σ H Q => ta σ H fun vs H1 => ∃ i j c, vs = [.int i, .int j, .int c] ∧ (c ≠ 0 ∧ c.natAbs < 1073741824) ∧ Q i j c H1
section
variable {X : Cx}
theorem prg_3 {a b c : Expr} {ta : TA} {p pos : Pos} (hg : Gl X "range") (hm : X.mg "range" = none) (ha : PA X [a, b, c] ta)
    (hs : starEach [a, b, c] X.env = (false, eval a X.env) :: starEach [b, c] X.env := by rfl) (hpl : (backTo pos (starEach [b, c] X.env)).any (·.1) = false := by rfl) : PRgC X (.Call (.Name "range" p) [a, b, c] [] pos) (tRg3 ta) := by
  intro pins s σ H Q I h
  refine Call_ (ld_blt I hg hm boot_range (PyProof.Rows.callWith_type1 (thn (ha.run pos pins s σ H _ I h) fun us s1 ⟨vs, H1, I1, r1, q1⟩ => ?_) hs hpl))
  obtain ⟨i, j, k, e, ⟨c0, c1⟩, q⟩ := q1
  subst e
  cases r1 with
  | cons r rr =>
    cases rr with
    | cons r' rr =>
      cases rr with
      | cons r'' rr =>
        cases rr
        obtain ⟨t, rfl⟩ := r
        obtain ⟨t', rfl⟩ := r'
        obtain ⟨t'', rfl⟩ := r''
        exact call_range_3 c0 ⟨_, i, j, k, _, _, _, H1, rfl, IsRange.new _ _ _ _ _ _ _, I1.kept fun b u e => Heap.get?_push_of_some _ e, q⟩ (.inl (PyProof.noPylong_small c1))
theorem vals_rgC {a c : Int} {n : Nat} {acc : Array Value} (h : ItemsOf (fun i v => ∃ t, v = .int (a + i * c) t) acc n) : Vals (rgC a c n) acc.toList := by
  have e : acc.toList.length = n := by rw [Array.length_toList]; exact h.1
  unfold rgC
  rw [← e]
  refine vals_of_get acc.toList _ fun j u hj => ?_
  obtain ⟨t, rfl⟩ := h.2 j u (by rw [← hj, Array.getElem?_toList])
  exact ⟨t, rfl⟩
def tLstRgC (te : L2.St → Hp → (Int → Int → Int → Hp → Prop) → Prop) : TE := fun σ H Q => te σ H fun a b c H1 => ∃ n : Nat, (Builtin.Range.small a b c = true ∧ Builtin.Range.rangeSize a b c = n ∧ n ≤ 2 ^ 24) ∧ ∀ q, H1 q = none → Q (.ref q) (upd H1 q (.lst (rgC a c n)))
theorem pe_listRgC {e : Expr} {te : L2.St → Hp → (Int → Int → Int → Hp → Prop) → Prop} {p pos : Pos} (hc : X.calm = true) (hg : Gl X "list") (hm : X.mg "list" = none) (he : PRgC X e te) (na : starEach [e] X.env = (false, eval e X.env) :: starEach [] X.env := by rfl) : PE X (.Call (.Name "list" p) [e] [] pos) (tLstRgC te) := by
  refine ⟨fun pins s σ H Q I h => ?_⟩
  refine Call_ (ld_blt I hg hm boot_list (PyProof.Rows.callWith_type1 (args_cons (thn (he pins s σ H _ I h) fun x s1 ⟨r, a, b, c, t, u, v, H1, ex, hr, I1, n, ⟨ok1, ok2, ok3⟩, q⟩ => args_nil ?_) na) na))
  subst ex
  refine call_list_range (n := n) (I1.ok.hd hc) hr ok1 ok2 ok3 fun h' tk acc c' hk e' hi => ?_
  refine ⟨.ref s1.heap.objs.size, upd H1 s1.heap.objs.size (.lst (rgC a c n)), I1.laid hk (Nat.le_refl _) (show ObjOk X.prog X.w _ _ _ (.lst (rgC a c n)) from ⟨?_, acc.toList, c', vals_rgC hi, ?_⟩), rfl, q _ (I1.hok.fresh (Nat.le_refl _))⟩
  · unfold rgC
    rw [List.length_map, List.length_range, sizeLine_eq]
    omega
  · rw [Array.toArray_toList]; exact e'
end
theorem el_down {σ : L2.St} {H : Hp} {ta : TA} {i j : Int} (h : EvA ta σ H [.int i, .int j, .int (-1)]) (hi : 0 ≤ i ∧ i ≤ 1000) (hj : -1 ≤ j ∧ j ≤ 1000) : EvL (tLstRgC (tRg3 ta)) σ H (rgC i (-1) (i - j).toNat) := fun H1 e Q q =>
  h H1 e _ fun H2 e2 => ⟨i, j, -1, rfl, ⟨by decide, by decide⟩, (i - j).toNat, ⟨(RgC.neg (by omega) (by omega) (by omega) (by omega)).2.2.1, (RgC.neg (by omega) (by omega) (by omega) (by omega)).2.2.2, by omega⟩, fun l hl => q l _ (fresh_back e2 hl) (e2.trans (Ex.new hl)) upd_same⟩
end Kit
set_option Elab.async false
set_option linter.all false
set_option maxRecDepth 100000
set_option maxHeartbeats 4000000
namespace Kit
open PySem PySem.Spec PyProof.Rows L2 Evl
/-! ### any thing: none, bools, ints, texts, tuples, dicts, lists of data -/
inductive It (K : PySem.W.Frag) (H : Hp) : V → PyData → Prop
  | non : It K H .non .none
  | bl (b : Bool) : It K H (.bl b) (.bool b)
  | int (i : Int) : It K H (.int i) (.int i)
  | str (x : Str) : It K H (.str x) (.str x)
  | lst {a : Addr} {xs : List V} {ds : List PyData} (h : H a = some (.lst xs)) (hd : DpAll K H xs ds) : It K H (.ref a) (.list ds)
theorem It.ex {K : PySem.W.Frag} {H H' : Hp} {v : V} {d : PyData} (e : Ex H H') (h : It K H v d) : It K H' v d := by
  cases h with
  | non => exact .non
  | bl b => exact .bl b
  | int i => exact .int i
  | str x => exact .str x
  | lst h hd => exact .lst (e _ _ h) (DpAll.ex e _ _ hd)
theorem It.dp {K : PySem.W.Frag} {H : Hp} {v : V} {d : PyData} (h : It K H v d) : Dp K H v d := by
  cases h with
  | non => exact .non
  | bl b => exact .bl b
  | int i => exact .int i
  | str x => exact .str x
  | lst h hd => exact .lst (sq_of h) hd
def ItAll (K : PySem.W.Frag) (H : Hp) (vs : List V) (ds : List PyData) : Prop := Paired (It K H) vs ds
theorem ItAll.ex {K : PySem.W.Frag} {H H' : Hp} (e : Ex H H') : ∀ {vs : List V} {ds : List PyData}, ItAll K H vs ds → ItAll K H' vs ds
  | _, _, .nil => .nil
  | _, _, .cons h t => .cons (h.ex e) (ItAll.ex e t)
theorem ItAll.dp {K : PySem.W.Frag} {H : Hp} : ∀ {vs : List V} {ds : List PyData}, ItAll K H vs ds → DpAll K H vs ds
  | _, _, .nil => .nil
  | _, _, .cons h t => .cons h.dp (ItAll.dp t)
theorem ItAll.app {K : PySem.W.Frag} {H : Hp} : ∀ {vs ws : List V} {ds es : List PyData}, ItAll K H vs ds → ItAll K H ws es → ItAll K H (vs ++ ws) (ds ++ es)
  | _, _, _, _, .nil, q => q
  | _, _, _, _, .cons h t, q => .cons h (ItAll.app t q)
theorem ItAll.len {K : PySem.W.Frag} {H : Hp} {vs : List V} {ds : List PyData} (h : ItAll K H vs ds) : vs.length = ds.length := Paired.length h
theorem ita_ints {K : PySem.W.Frag} {H : Hp} : ∀ ns : List Int, ItAll K H (ns.map V.int) (ns.map PyData.int)
  | [] => .nil
  | n :: r => .cons (.int n) (ita_ints r)
def Fine (ds : List PyData) : Prop := ∀ d ∈ ds, d.canLay0 = true ∧ d.depth ≤ 5
theorem fine_nil : Fine [] := fun d h => by cases h
theorem fine_cons {d : PyData} {ds : List PyData} (h : d.canLay0 = true) (h2 : d.depth ≤ 5) (t : Fine ds) : Fine (d :: ds) := fun x hx => by
  rcases List.mem_cons.mp hx with e | e
  · rw [e]
    exact ⟨h, h2⟩
  · exact t x e
theorem fine_app {ds es : List PyData} (h : Fine ds) (h2 : Fine es) : Fine (ds ++ es) := fun x hx => (List.mem_append.mp hx).elim (h x) (h2 x)
theorem fine_ints : ∀ ns : List Int, Fine (ns.map PyData.int)
  | [] => fine_nil
  | n :: r => fine_cons rfl (Nat.zero_le _) (fine_ints r)
theorem Fine.sub {ds es : List PyData} (h : Fine ds) (s : ∀ x ∈ es, x ∈ ds) : Fine es := fun x hx => h x (s x hx)
theorem Fine.shaped {ds : List PyData} (h : Fine ds) : SeqAt.shaped (.list ds) = true := by
  have : PyData.canLayAll0 ds = true ∧ PyData.depthAll ds ≤ 5 := by
    induction ds with
    | nil => exact ⟨rfl, Nat.zero_le _⟩
    | cons d r ih =>
      obtain ⟨a, b⟩ := ih fun x hx => h x (List.mem_cons_of_mem _ hx)
      obtain ⟨c, e⟩ := h d List.mem_cons_self
      refine ⟨by simp [PyData.canLayAll0, a, c], ?_⟩
      simp [PyData.depthAll]
      omega
  simp [SeqAt.shaped, PyData.canLay0, this.1, PyData.depth]
  omega
inductive Th (K : PySem.W.Frag) (H : Hp) : V → Option (List PyData) → Prop
  | non : Th K H .non none
  | bl (b : Bool) : Th K H (.bl b) none
  | int (i : Int) : Th K H (.int i) none
  | str (x : Str) : Th K H (.str x) none
  | tup {a : Addr} {xs : List V} (h : H a = some (.tup xs)) : Th K H (.ref a) none
  | dct {a : Addr} {kvs : List (Key × V)} (h : H a = some (.dK kvs)) : Th K H (.ref a) none
  | lst {a : Addr} {xs : List V} {ds : List PyData} (h : H a = some (.lst xs)) (hd : ItAll K H xs ds) (hf : Fine ds) : Th K H (.ref a) (some ds)
def AT (K : PySem.W.Frag) (H : Hp) (v : V) : Prop := ∃ o, Th K H v o
section
variable {K : PySem.W.Frag} {σ : L2.St} {H H' : Hp} {te ta tb : TE} {t tr : TA}
theorem Th.ex {v : V} {o : Option (List PyData)} (e : Ex H H') (h : Th K H v o) : Th K H' v o := by
  cases h with
  | non => exact .non
  | bl b => exact .bl b
  | int i => exact .int i
  | str x => exact .str x
  | tup h => exact .tup (e _ _ h)
  | dct h => exact .dct (e _ _ h)
  | lst h hd hf => exact .lst (e _ _ h) (hd.ex e) hf
theorem AT.ex {v : V} (e : Ex H H') (h : AT K H v) : AT K H' v := h.imp fun _ x => x.ex e
def EvTh (K : PySem.W.Frag) (te : TE) (σ : L2.St) (H : Hp) : Prop := ∀ H1, Ex H H1 → ∀ Q : VK, (∀ v H2, Ex H1 H2 → AT K H2 v → Q v H2) → te σ H1 Q
def EvThA (K : PySem.W.Frag) (ta : TA) (σ : L2.St) (H : Hp) (n : Nat) : Prop := ∀ H1, Ex H H1 → ∀ Q : List V → Hp → Prop, (∀ vs H2, Ex H1 H2 → vs.length = n → (∀ v ∈ vs, AT K H2 v) → Q vs H2) → ta σ H1 Q
theorem tha_nil : EvThA K tNil σ H 0 := fun H1 _ _ q => q [] H1 (Ex.refl H1) rfl (by simp)
theorem tha_cons {n : Nat} (h : EvTh K te σ H) (hr : EvThA K tr σ H n) : EvThA K (tCons te tr) σ H (n + 1) := fun H1 e _ q =>
  h H1 e _ fun v H2 e2 hv => hr H2 (e.trans e2) _ fun vs H3 e3 hl hvs => q (v :: vs) H3 (e2.trans e3) (by simp [hl]) fun x hx => by
    rcases List.mem_cons.mp hx with z | z
    · rw [z]
      exact hv.ex e3
    · exact hvs x z
theorem th_non (h : Ev te σ H .non) : EvTh K te σ H := fun H1 e Q q => h H1 e Q fun H2 e2 => q _ H2 e2 ⟨_, .non⟩
theorem th_bl {b : Bool} (h : Ev te σ H (.bl b)) : EvTh K te σ H := fun H1 e Q q => h H1 e Q fun H2 e2 => q _ H2 e2 ⟨_, .bl b⟩
theorem th_int {i : Int} (h : Ev te σ H (.int i)) : EvTh K te σ H := fun H1 e Q q => h H1 e Q fun H2 e2 => q _ H2 e2 ⟨_, .int i⟩
theorem th_str {x : Str} (h : Ev te σ H (.str x)) : EvTh K te σ H := fun H1 e Q q => h H1 e Q fun H2 e2 => q _ H2 e2 ⟨_, .str x⟩
theorem th_U {xs : List V} (h : EvU te σ H xs) : EvTh K te σ H := fun H1 e Q q => h H1 e Q fun p H2 _ e2 h2 => q _ H2 e2 ⟨_, .tup h2⟩
theorem th_L {xs : List V} (h : EvL te σ H xs) (hd : ∃ ds, ItAll K H xs ds ∧ Fine ds) : EvTh K te σ H := fun H1 e Q q => h H1 e Q fun p H2 _ e2 h2 => q _ H2 e2 (by
  obtain ⟨ds, d, f⟩ := hd
  exact ⟨_, .lst h2 (d.ex (e.trans e2)) f⟩)
def EvIA (K : PySem.W.Frag) (ta : TA) (σ : L2.St) (H : Hp) (ds : List PyData) : Prop := ∀ H1, Ex H H1 → ∀ Q : List V → Hp → Prop, (∀ vs H2, Ex H1 H2 → ItAll K H2 vs ds → Q vs H2) → ta σ H1 Q
def EvI (K : PySem.W.Frag) (te : TE) (σ : L2.St) (H : Hp) (d : PyData) : Prop := ∀ H1, Ex H H1 → ∀ Q : VK, (∀ v H2, Ex H1 H2 → It K H2 v d → Q v H2) → te σ H1 Q
theorem ia_nil : EvIA K tNil σ H [] := fun H1 _ _ q => q [] H1 (Ex.refl H1) .nil
theorem ia_cons {d : PyData} {ds : List PyData} (h : EvI K te σ H d) (hr : EvIA K tr σ H ds) : EvIA K (tCons te tr) σ H (d :: ds) := fun H1 e _ q =>
  h H1 e _ fun v H2 e2 dv => hr H2 (e.trans e2) _ fun vs H3 e3 dvs => q (v :: vs) H3 (e2.trans e3) (.cons (dv.ex e3) dvs)
theorem it_of {v : V} {d : PyData} (h : Ev te σ H v) (k : It K H v d) : EvI K te σ H d := fun H1 e Q q => h H1 e Q fun H2 e2 => q v H2 e2 (k.ex (e.trans e2))
theorem it_D {ds : List PyData} (h : EvDA K t σ H ds) (hl : ds.length ≤ 100000) : EvI K (tLst t) σ H (.list ds) := fun H1 e Q q =>
  h H1 e _ fun vs H2 e2 dv => ⟨sz_of (by rw [DpAll.len dv]; exact hl), fun p hp => q _ _ (e2.trans (Ex.new hp)) (.lst upd_same (DpAll.ex (Ex.new hp) ds vs dv))⟩
theorem th_D {ds : List PyData} (h : EvIA K t σ H ds) (hf : Fine ds) (hl : ds.length ≤ 100000) : EvTh K (tLst t) σ H := fun H1 e Q q =>
  h H1 e _ fun vs H2 e2 dv => ⟨sz_of (by rw [dv.len]; exact hl), fun p hp => q _ _ (e2.trans (Ex.new hp)) ⟨_, .lst upd_same (dv.ex (Ex.new hp)) hf⟩⟩
theorem th_var {i : Nat} {v : V} (h : σ[i]? = some (some v)) (hv : AT K H v) : EvTh K (tVar i) σ H := fun H1 e Q q => ⟨v, h, q v H1 (Ex.refl _) (hv.ex e)⟩
theorem th_dnew : EvTh K tDNewK σ H := fun H1 e Q q p hp => q _ _ (Ex.new hp) ⟨_, .dct upd_same⟩
theorem th_disp {x : Str} {i : Int} : EvTh K (tDisp [(tC (.str x), tC (.int i))]) σ H := fun H1 e Q q p hp =>
  ⟨upd_same, [(.inr x, .int i)], rfl, Nat.le_of_ble_eq_true rfl, q _ _ (Ex.mut (Ex.new hp) hp) ⟨_, .dct upd_same⟩⟩
/-- [.., ..] of things: a new list -/
def EvTL (K : PySem.W.Frag) (te : TE) (σ : L2.St) (H : Hp) (n : Nat) : Prop := ∀ H1, Ex H H1 → ∀ Q : VK, (∀ p vs H2, H1 p = none → Ex H1 H2 → H2 p = some (.lst vs) → vs.length = n → (∀ v ∈ vs, AT K H2 v) → Q (.ref p) H2) → te σ H1 Q
theorem tl_lst {n : Nat} (h : EvThA K t σ H n) (hn : n ≤ 100000) : EvTL K (tLst t) σ H n := fun H1 e Q q =>
  h H1 e _ fun vs H2 e2 hl hv => ⟨sz_of (by omega), fun p hp => q p vs _ (fresh_back e2 hp) (e2.trans (Ex.new hp)) upd_same hl fun v z => (hv v z).ex (Ex.new hp)⟩
theorem tl_cat {a : Addr} {xs : List V} {n : Nat} (h : Ev ta σ H (.ref a)) (ha : H a = some (.lst xs)) (hx : ∀ v ∈ xs, AT K H v) (h2 : EvTL K tb σ H n) (hz : xs.length + n ≤ 1000) : EvTL K (tOp rCat ta tb) σ H (xs.length + n) := fun H1 e Q q =>
  h H1 e _ fun H2 e2 => h2 H2 (e.trans e2) _ fun p vs H3 _ e3 h3 hl hv =>
    ⟨a, p, xs, vs, rfl, rfl, e3 a _ (e2 a _ (e a _ ha)), h3, sz_of (by omega), fun l hl' => q l _ _ (fresh_back (e2.trans e3) hl') ((e2.trans e3).trans (Ex.new hl')) upd_same (by rw [List.length_append, hl]) fun v z => by
      rcases List.mem_append.mp z with z | z
      · exact (hx v z).ex (e.trans (e2.trans (e3.trans (Ex.new hl'))))
      · exact (hv v z).ex (Ex.new hl')⟩
/-- x + ys, x an old list -/
theorem el_catO {a : Addr} {xs ys : List V} (h : Ev ta σ H (.ref a)) (ha : H a = some (.lst xs)) (h2 : EvL tb σ H ys) (hz : xs.length + ys.length ≤ 1000) : EvL (tOp rCat ta tb) σ H (xs ++ ys) := fun H1 e Q q =>
  h H1 e _ fun H2 e2 => h2 H2 (e.trans e2) _ fun p H3 _ e3 h3 =>
    ⟨a, p, xs, ys, rfl, rfl, e3 a _ (e2 a _ (e a _ ha)), h3, sz_of (by omega), fun l hl' => q l _ (fresh_back (e2.trans e3) hl') ((e2.trans e3).trans (Ex.new hl')) upd_same⟩
end
/-! ### the type of any thing -/
def kTyp2 (x : V) (H : Hp) (Q : VK) : Prop := ∃ n, (zTyV x H = some n ∨ (n = "dict" ∧ ∃ a kvs, x = .ref a ∧ H a = some (.dK kvs))) ∧ Q (.ty n) H
def rNeTyG : R2 := fun x y H Q => ∃ m n, x = .ty m ∧ y = .ty n ∧ Meta m ∧ Meta n ∧ Q (.bl (!decide (m = n))) H
section
variable {X : Cx} {ta : TE} {a : Expr}
theorem rl_type2 (pins : List (Addr × Obj)) (st : Shared) (σ : L2.St) (H : Hp) (x : V) (u : Value) (Q : VK) (J : Inv X pins σ H st) (r : RelV x u) (h : kTyp2 x H Q) :
    wpAny (model X.prog X.w) X.A (call (.type "type") [u]) (EP X pins σ Q) X.xe st := by
  obtain ⟨n, e | ⟨rfl, a, kvs, rfl, ha⟩, q⟩ := h
  · exact rl_type pins st σ H x u Q J r ⟨n, e, q⟩
  · cases (show u = Value.ref a from r)
    obtain ⟨_, _, vs, _, o, es, ep, h1, h2, _⟩ := (show ObjOk X.prog X.w H st.heap a (.dK kvs) from J.hok a _ ha)
    exact call_type_of (Tx := "dict") ⟨o, h1, h2.1⟩ (by decide +kernel) ⟨.ty "dict", H, J, rfl, q⟩
theorem pe_typeOf2 {p pos : Pos} (hg : Gl X "type") (hm : X.mg "type" = none) (ha : PE X a ta) (na : starEach [a] X.env = (false, eval a X.env) :: starEach [] X.env := by rfl) :
    PE X (.Call (.Name "type" p) [a] [] pos) (tThenZ ta kTyp2) := pe_callTy (call_r1 rl_type2) hg hm (by decide +kernel) (pa_cons ha pa_nil na) (he := na)
theorem op_neTyG (hu : X.A.units + 1 < cLine) : OpR X (compareOp .NotEq) rNeTyG := by
  intro pins st σ H x y v u Q J rx ry h
  obtain ⟨m, n, rfl, rfl, hm, hn, q⟩ := h
  cases (show v = Value.type m from rx)
  cases (show u = Value.type n from ry)
  by_cases e : m = n
  · subst e
    exact ne_type_same hm hu ⟨.bl false, H, J, rfl, by simpa using q⟩
  · exact ne_type_other hm hn (by rw [beq_eq_false_iff_ne]; exact fun z => e (Value.type.inj z)) hu ⟨.bl true, H, J, rfl, by simpa [e] using q⟩
end
section
variable {K : PySem.W.Frag} {σ : L2.St} {H : Hp} {ta tb : TE}
/-- the name of a thing's type -/
theorem th_type {v : V} {o : Option (List PyData)} (h : Th K H v o) : ∃ n, (zTyV v H = some n ∨ (n = "dict" ∧ ∃ a kvs, v = .ref a ∧ H a = some (.dK kvs))) ∧ Meta n ∧ (n = "list" ↔ o.isSome = true) := by
  cases h with
  | non => exact ⟨"NoneType", .inl rfl, PySem.TypeEq.meta_NoneType, by simp⟩
  | bl b => exact ⟨"bool", .inl rfl, PySem.TypeEq.meta_bool, by simp⟩
  | int i => exact ⟨"int", .inl rfl, PySem.TypeEq.meta_int, by simp⟩
  | str x => exact ⟨"str", .inl rfl, PySem.TypeEq.meta_str, by simp⟩
  | tup h => exact ⟨"tuple", .inl (by simp [zTyV, h]), PySem.TypeEq.meta_tuple, by simp⟩
  | dct h => exact ⟨"dict", .inr ⟨rfl, _, _, rfl, h⟩, PySem.TypeEq.meta_dict, by simp⟩
  | lst h _ _ => exact ⟨"list", .inl (by simp [zTyV, h]), PySem.TypeEq.meta_list, by simp⟩
/-- type(v) != list -/
theorem ev_noList {v : V} {o : Option (List PyData)} (h : Ev ta σ H v) (hv : Th K H v o) : Ev (tOp rNeTyG (tThenZ ta kTyp2) (tC (.ty "list"))) σ H (.bl (!o.isSome)) := fun H1 e Q q => h H1 e _ fun H2 e2 => by
  obtain ⟨n, hn, mt, iff⟩ := th_type (hv.ex (e.trans e2))
  refine ⟨n, hn, n, "list", rfl, rfl, mt, PySem.TypeEq.meta_list, ?_⟩
  have : decide (n = "list") = o.isSome := by
    rw [Bool.eq_iff_iff, decide_eq_true_iff]
    exact iff
  rw [this]
  exact q H2 e2
theorem th_is {v : V} {o : Option (List PyData)} (h : Th K H v o) : ∃ n, TyX K H v (.type n) ∧ PySem.W.kitOne K (.type n) (.type "list") = some o.isSome := by
  cases h with
  | non => exact ⟨_, .base .non, rfl⟩
  | bl b => exact ⟨_, .base (.bl b), rfl⟩
  | int i => exact ⟨_, .base (.int i), rfl⟩
  | str x => exact ⟨_, .base (.str x), rfl⟩
  | tup h => exact ⟨_, .base (.tup h), rfl⟩
  | dct h => exact ⟨_, .base (.dK h), rfl⟩
  | lst h _ _ => exact ⟨_, .base (.lst h), rfl⟩
/-- isinstance(v, list) -/
theorem ev_isList {v : V} {o : Option (List PyData)} (h : Ev ta σ H v) (hv : Th K H v o) : Ev (tCB (rIsi K) (tCons ta (tCons (tC (.ty "list")) tNil))) σ H (.bl o.isSome) := fun H1 e Q q => h H1 e _ fun H2 e2 => by
  obtain ⟨n, ht, hk⟩ := th_is (hv.ex (e.trans e2))
  exact ⟨v, .ty "list", .type n, .type "list", o.isSome, rfl, .ty "list", ht, hk, q H2 e2⟩
def isI : PyData → Bool
  | .int _ => true
  | _ => false
theorem it_type {v : V} {d : PyData} (h : It K H v d) : ∃ n, zTyV v H = some n ∧ Meta n ∧ decide (n = "int") = isI d := by
  cases h with
  | non => exact ⟨"NoneType", rfl, PySem.TypeEq.meta_NoneType, by simp [isI]⟩
  | bl b => exact ⟨"bool", rfl, PySem.TypeEq.meta_bool, by simp [isI]⟩
  | int i => exact ⟨"int", rfl, PySem.TypeEq.meta_int, by simp [isI]⟩
  | str x => exact ⟨"str", rfl, PySem.TypeEq.meta_str, by simp [isI]⟩
  | lst h _ => exact ⟨"list", by simp [zTyV, h], PySem.TypeEq.meta_list, by simp [isI]⟩
/-- type(v) == int -/
theorem ev_isWhole {v : V} {d : PyData} (h : Ev ta σ H v) (hv : It K H v d) : Ev (tOp rEqTy (tThenZ ta kTyp) (tC (.ty "int"))) σ H (.bl (isI d)) := fun H1 e Q q => h H1 e _ fun H2 e2 => by
  obtain ⟨n, hn, mt, iff⟩ := it_type (hv.ex (e.trans e2))
  refine ⟨n, hn, n, "int", rfl, rfl, mt, PySem.TypeEq.meta_int, ?_⟩
  rw [iff]
  exact q H2 e2
def isB : PyData → Bool
  | .bool _ => true
  | _ => false
theorem it_isB {v : V} {d : PyData} (h : It K H v d) : ∃ n, TyX K H v (.type n) ∧ PySem.W.kitOne K (.type n) (.type "bool") = some (isB d) := by
  cases h with
  | non => exact ⟨_, .base .non, rfl⟩
  | bl b => exact ⟨_, .base (.bl b), rfl⟩
  | int i => exact ⟨_, .base (.int i), rfl⟩
  | str x => exact ⟨_, .base (.str x), rfl⟩
  | lst h _ => exact ⟨_, .base (.lst h), rfl⟩
theorem it_isI {v : V} {d : PyData} (h : It K H v d) : ∃ n, TyX K H v (.type n) ∧ PySem.W.kitOne K (.type n) (.type "int") = some (isI d || isB d) := by
  cases h with
  | non => exact ⟨_, .base .non, rfl⟩
  | bl b => exact ⟨_, .base (.bl b), rfl⟩
  | int i => exact ⟨_, .base (.int i), rfl⟩
  | str x => exact ⟨_, .base (.str x), rfl⟩
  | lst h _ => exact ⟨_, .base (.lst h), rfl⟩
/-- isinstance(v, bool) or not isinstance(v, int) -/
theorem et_noInt {v : V} {d : PyData} (h : Ev ta σ H v) (hv : It K H v d) : EvT (tOr (tB (tCB (rIsi K) (tCons ta (tCons (tC (.ty "bool")) tNil)))) (tNot (tB (tCB (rIsi K) (tCons ta (tCons (tC (.ty "int")) tNil)))))) σ H (!isI d) := by
  have one : Ev (tCB (rIsi K) (tCons ta (tCons (tC (.ty "bool")) tNil))) σ H (.bl (isB d)) := fun H1 e Q q => h H1 e _ fun H2 e2 => by
    obtain ⟨n, ht, hb⟩ := it_isB (hv.ex (e.trans e2))
    exact ⟨v, .ty "bool", _, .type "bool", _, rfl, .ty "bool", ht, hb, q H2 e2⟩
  have two : Ev (tCB (rIsi K) (tCons ta (tCons (tC (.ty "int")) tNil))) σ H (.bl (isI d || isB d)) := fun H1 e Q q => h H1 e _ fun H2 e2 => by
    obtain ⟨n, ht, hb⟩ := it_isI (hv.ex (e.trans e2))
    exact ⟨v, .ty "int", _, .type "int", _, rfl, .ty "int", ht, hb, q H2 e2⟩
  refine et_is (et_or (et_B one) fun _ => et_not (et_B two)) ?_
  cases d <;> rfl
end
/-! tuple(range(a, b, c)) -/
def tTupRgC (te : L2.St → Hp → (Int → Int → Int → Hp → Prop) → Prop) : TE := fun σ H Q => te σ H fun a b c H1 => ∃ n : Nat, (Builtin.Range.small a b c = true ∧ Builtin.Range.rangeSize a b c = n ∧ n ≤ 2 ^ 24) ∧ ∀ q, H1 q = none → Q (.ref q) (upd H1 q (.tup (rgC a c n)))
theorem pe_tupRgC {X : Cx} {e : Expr} {te : L2.St → Hp → (Int → Int → Int → Hp → Prop) → Prop} {p pos : Pos} (calm : X.calm = true) (hg : Gl X "tuple") (hm : X.mg "tuple" = none) (he : PRgC X e te) (na : starEach [e] X.env = (false, eval e X.env) :: starEach [] X.env := by rfl) : PE X (.Call (.Name "tuple" p) [e] [] pos) (tTupRgC te) := by
  refine ⟨fun pins st σ H Q J h => ?_⟩
  refine Call_ (ld_blt J hg hm boot_tuple (PyProof.Rows.callWith_type1 (args_cons (thn (he pins st σ H _ J h) fun x s1 ⟨r, a, b, c, t, u, v, H1, ex, hr, J1, n, ⟨o1, o2, o3⟩, q⟩ => args_nil ?_) na) na))
  subst ex
  refine call_tuple_range (n := n) (J1.ok.hd calm) hr o1 o2 o3 fun h' tk acc keep its => ?_
  have J2 : Inv X pins σ H1 { s1 with heap := h', toks := tk } := J1.kept keep
  refine ⟨.ref h'.objs.size, upd H1 h'.objs.size (.tup (rgC a c n)), J2.laid (t' := tk) (fun z o e => Heap.get?_push_of_some _ e) (Nat.le_refl _) (show ObjOk X.prog X.w _ _ _ (.tup (rgC a c n)) from ⟨?_, acc.toList, vals_rgC its, ?_⟩), rfl, q _ (J2.hok.fresh (Nat.le_refl _))⟩
  · unfold rgC
    rw [List.length_map, List.length_range, sizeLine_eq]
    omega
  · rw [Array.toArray_toList]
    exact IsTup.new _ _
theorem eu_down {σ : L2.St} {H : Hp} {ta : TA} {i j : Int} (h : EvA ta σ H [.int i, .int j, .int (-1)]) (hi : 0 ≤ i ∧ i ≤ 1000) (hj : -1 ≤ j ∧ j ≤ 1000) : EvU (tTupRgC (tRg3 ta)) σ H (rgC i (-1) (i - j).toNat) := fun H1 e Q q =>
  h H1 e _ fun H2 e2 => ⟨i, j, -1, rfl, ⟨by decide, by decide⟩, (i - j).toNat, ⟨(RgC.neg (by omega) (by omega) (by omega) (by omega)).2.2.1, (RgC.neg (by omega) (by omega) (by omega) (by omega)).2.2.2, by omega⟩, fun l hl => q l _ (fresh_back e2 hl) (e2.trans (Ex.new hl)) upd_same⟩
/-! xs.index(x) where the written part must be said -/
theorem pe_indexK {X : Cx} {K : PySem.W.Frag} {o e : Expr} {to te : TE} {apos cpos : Pos} (hK : X.K = K) (ho : PE X o to) (he : PE X e te) (b : attributeBase o "index" X.env (eval o X.env) = eval o X.env := by rfl)
    (few : ((backTo cpos (starEach [e] X.env)).all (fun x => !x.1) && (backToKw cpos (keywordEach [] X.env)).all (fun x => x.1.isSome) && decide ([e].length + ([] : List Keyword).length + (if ([] : List Keyword).isEmpty then 0 else 1) < 30)) = true := by rfl)
    (line : (apos.endLine == cpos.line) = true := by rfl) (st : starEach [e] X.env = (false, eval e X.env) :: starEach [] X.env := by rfl) (pl : (backTo cpos (starEach [] X.env)).any (·.1) = false := by rfl) :
    PE X (.Call (.Attribute o "index" apos) [e] [] cpos) (tBM K "list" (rIndex K) to (tCons te tNil)) := by
  subst hK
  exact pe_bm PySem.F.plainAttrs_list PySem.F.slot_list_index PySem.F.type_list_index mt_index ho (pa_cons he pa_nil st) b few line st pl
theorem pe_revLK {X : Cx} {K : PySem.W.Frag} {e : Expr} {te : TE} {k : Nat} {p1 p2 p3 pos : Pos} (hK : X.K = K) (he : PE X e te) : PE X (.Subscript e (.Slice none none (some (.UnaryOp .USub (.Constant (.int 1) k p1) p2)) p3) pos) (tRevL K te) := by
  subst hK
  exact pe_revL he
end Kit
set_option Elab.async false
set_option linter.all false
set_option maxRecDepth 100000
set_option maxHeartbeats 4000000
namespace Kit
open PySem PySem.Spec PyProof.Rows L2 Evl
/-! ### data that repr shows -/
structure Shw (d : PyData) : Prop where
  lay : d.canLay0 = true
  shw : d.showable = true
  nod : d.hasDict = false
  int : d.intsShort 13 = true
theorem shw_all : ∀ {ds : List PyData}, (∀ d ∈ ds, Shw d) → PyData.canLayAll0 ds = true ∧ PyData.showableAll ds = true ∧ PyData.hasDictAll ds = false ∧ PyData.intsShortAll 13 ds = true
  | [], _ => ⟨rfl, rfl, rfl, rfl⟩
  | d :: r, h => by
    obtain ⟨a, b, c, e⟩ := shw_all fun x hx => h x (List.mem_cons_of_mem _ hx)
    obtain ⟨p, q, s, t⟩ := h d List.mem_cons_self
    exact ⟨by simp [PyData.canLayAll0, a, p], by simp [PyData.showableAll, b, q], by simp [PyData.hasDictAll, c, s], by simp [PyData.intsShortAll, e, t]⟩
theorem shw_list {ds : List PyData} (h : ∀ d ∈ ds, Shw d) : Shw (.list ds) := by
  obtain ⟨a, b, c, e⟩ := shw_all h
  exact ⟨a, by simpa [PyData.showable] using b, by simpa [PyData.hasDict] using c, by simpa [PyData.intsShort] using e⟩
theorem shw_tup {ds : List PyData} (h : ∀ d ∈ ds, Shw d) : Shw (.tuple ds) := by
  obtain ⟨a, b, c, e⟩ := shw_all h
  exact ⟨a, by simpa [PyData.showable] using b, by simpa [PyData.hasDict] using c, by simpa [PyData.intsShort] using e⟩
theorem shw_bool (b : Bool) : Shw (.bool b) := ⟨rfl, rfl, rfl, rfl⟩
theorem shw_int {x : Nat} (h : x < 20) : Shw (.int (x : Int)) := by
  have h1 : ∀ y : Nat, y < 20 → (PyData.int (y : Int)).showable = true ∧ (PyData.int (y : Int)).intsShort 13 = true := by decide +kernel
  exact ⟨rfl, (h1 x h).1, rfl, (h1 x h).2⟩
theorem wgt_int {x : Nat} (h : x < 20) : (PyData.int (x : Int)).weight ≤ 5 := by
  have h1 : ∀ y : Nat, y < 20 → (PyData.int (y : Int)).weight ≤ 5 := by decide +kernel
  exact h1 x h
theorem wgt_all {C : Nat} : ∀ {ds : List PyData}, (∀ d ∈ ds, d.weight ≤ C) → PyData.weightAll ds ≤ (C + 1) * ds.length
  | [], _ => by simp [PyData.weightAll]
  | d :: r, h => by
    have a := wgt_all fun x hx => h x (List.mem_cons_of_mem _ hx)
    have b := h d List.mem_cons_self
    rw [List.length_cons, Nat.mul_succ]
    simp only [PyData.weightAll]
    omega
section
variable {K : PySem.W.Frag} {σ : L2.St} {H : Hp} {te : TE}
theorem ev_reprS {d : PyData} (h : EvD K te σ H d) (hl : isDisplay d = true) (s : Shw d) (hdp : d.depth ≤ 50) (hw : d.weight ≤ 2 ^ 20) : Ev (tCB (rRepr K) (tCons te tNil)) σ H (.str d.shown) := by
  refine ev_repr h hl s.shw s.nod hdp ?_
  have lay : d.layable0 = true := by
    unfold PyData.layable0
    rw [s.lay]
    simp only [Bool.true_and, Bool.and_eq_true, decide_eq_true_iff]
    exact ⟨by omega, hw⟩
  have := shown_le13 lay s.int
  exact Nat.le_trans this (by rw [sizeLine_eq]; decide)
end
end Kit
set_option Elab.async false
set_option linter.all false
set_option maxRecDepth 100000
set_option maxHeartbeats 4000000
namespace Kit
open PySem PySem.Spec PyProof.Rows L2 Evl
/-! ### data that repr shows, with long ints: at most n signs -/
structure ShN (d : PyData) (n : Nat) : Prop where
  shw : d.showable = true
  nod : d.hasDict = false
  len : d.shown.length ≤ n
  dep : d.depth ≤ 20
theorem shn_int {i : Int} (h : i.natAbs.log2 < 1920) : ShN (.int i) 1921 := ⟨decide_eq_true h, rfl, int_text_len_1921 h, Nat.zero_le _⟩
theorem shn_int2 {i : Int} (h : i.natAbs < 2 ^ 1900) : ShN (.int i) 1921 := shn_int (by
  by_cases z : i.natAbs = 0
  · rw [z]
    decide
  · exact Nat.lt_of_lt_of_le ((Nat.log2_lt z).mpr h) (by decide))
theorem shn_all {n : Nat} : ∀ {ds : List PyData}, (∀ d ∈ ds, ShN d n ∧ d.depth ≤ 19) → PyData.showableAll ds = true ∧ PyData.hasDictAll ds = false ∧ ((PyData.shownAll ds).map (·.length)).sum ≤ n * ds.length ∧ (PyData.shownAll ds).length = ds.length ∧ PyData.depthAll ds ≤ 19
  | [], _ => ⟨rfl, rfl, Nat.zero_le _, rfl, Nat.zero_le _⟩
  | d :: r, h => by
    obtain ⟨a, b, c, e, f⟩ := shn_all fun x hx => h x (List.mem_cons_of_mem _ hx)
    obtain ⟨⟨p, q, s, _⟩, t⟩ := h d List.mem_cons_self
    refine ⟨by simp [PyData.showableAll, a, p], by simp [PyData.hasDictAll, b, q], ?_, by simp [PyData.shownAll, e], by simp only [PyData.depthAll]; omega⟩
    simp only [PyData.shownAll, List.map_cons, List.sum_cons, List.length_cons, Nat.mul_succ]
    omega
theorem shn_list {ds : List PyData} {n : Nat} (h : ∀ d ∈ ds, ShN d n ∧ d.depth ≤ 19) : ShN (.list ds) ((n + 2) * ds.length + 3) := by
  obtain ⟨a, b, c, e, f⟩ := shn_all h
  refine ⟨by simpa [PyData.showable] using a, by simpa [PyData.hasDict] using b, ?_, by simp only [PyData.depth]; omega⟩
  have := listText_len_le (PyData.shownAll ds)
  show (listText (PyData.shownAll ds)).length ≤ _
  rw [e] at this
  rw [Nat.add_mul]
  omega
theorem shn_tup {ds : List PyData} {n : Nat} (h : ∀ d ∈ ds, ShN d n ∧ d.depth ≤ 19) : ShN (.tuple ds) ((n + 2) * ds.length + 3) := by
  obtain ⟨a, b, c, e, f⟩ := shn_all h
  refine ⟨by simpa [PyData.showable] using a, by simpa [PyData.hasDict] using b, ?_, by simp only [PyData.depth]; omega⟩
  have := tupleText_len_le (PyData.shownAll ds)
  show (tupleText (PyData.shownAll ds)).length ≤ _
  rw [e] at this
  rw [Nat.add_mul]
  omega
section
variable {K : PySem.W.Frag} {σ : L2.St} {H : Hp} {te : TE}
theorem ev_reprN {d : PyData} {n : Nat} (h : EvD K te σ H d) (hl : isDisplay d = true) (s : ShN d n) (hn : n ≤ 1000000) : Ev (tCB (rRepr K) (tCons te tNil)) σ H (.str d.shown) :=
  ev_repr h hl s.shw s.nod (by have := s.dep; omega) (Nat.le_trans s.len (Nat.le_trans hn (by rw [sizeLine_eq]; decide)))
end
end Kit
set_option Elab.async false
set_option linter.all false
set_option maxRecDepth 100000
set_option maxHeartbeats 4000000
namespace Kit
open PySem PySem.Spec PyProof.Rows L2 Evl
section
variable {K : PySem.W.Frag} {σ : L2.St} {H : Hp} {ta tb te : TE} {t : TT}
/-- max(xs), told by what it is -/
theorem ev_maxV {a : Addr} {ns : List Int} {m : Int} (h : Ev ta σ H (.ref a)) (ha : SqL K H a (ns.map V.int)) (hm : m ∈ ns) (hl : ∀ y ∈ ns, y ≤ m) : Ev (tCB (rMax K) (tCons ta tNil)) σ H (.int m) := fun H1 e Q q =>
  h H1 e _ fun H2 e2 => ⟨a, ns, rfl, ex_l (e.trans e2) ha, List.length_pos_of_mem hm, fun m' hm' hl' => by
    have h1 := hl m' hm'
    have h2 := hl' m hm
    have : m' = m := by omega
    rw [this]
    exact q H2 e2⟩
/-- [e for i, x in enumerate(xs) if t] -/
theorem el_en {ta : TA} {i j : Nat} {vs : List Nat} {a : Addr} {xs : List V} (f : Nat → Bool) (v : Nat → V) (h : EvA ta σ H [.ref a]) (hx : SqL K H a xs) (hz : xs.length ≤ 40000) (hw : ∀ x y, wipe (((wipe σ vs).set i (some x)).set j (some y)) vs = wipe σ vs)
    (ht : ∀ (n : Nat) x H1, Ex H H1 → xs[n]? = some x → EvT t (((wipe σ vs).set i (some (.int (n : Int)))).set j (some x)) H1 (f n))
    (he : ∀ (n : Nat) x H1, Ex H H1 → xs[n]? = some x → f n = true → Ev te (((wipe σ vs).set i (some (.int (n : Int)))).set j (some x)) H1 (v n)) :
    EvL (tLc (iEnum K ta) (gTup K 2 (gCons (gName i) (gCons (gName j) gNil))) t te vs) σ H (given xs.length f v) := fun H0 e Q q => h H0 e _ fun H1 e1 => ⟨a, xs, rfl, ex_l (e.trans e1) hx, fun Dl hD => by
  refine lc_it walk_enum (Cw H1 f v Dl) ⟨hD, Ex.new hD, upd_same⟩ (fun n H' _ p => ex_l ((e.trans e1).trans p.2.1) hx) ?_ fun H' p => q Dl H' (fresh_back e1 p.1) (e1.trans p.2.1) p.2.2
  rintro n w Hh H' hn p ⟨T, x, y, rfl, nT, rfl, g1, g2⟩
  have ex : V.int (n : Nat) = x := Option.some.inj g1
  subst ex
  have eT : Ex Hh (upd Hh T (.tup [.int (n : Nat), y])) := Ex.new nT
  refine ⟨T, [.int (n : Nat), y], rfl, st_of upd_same, rfl, _, [y], rfl, y, [], rfl, rfl, hw _ y, ?_⟩
  exact cw_turn (H := H1) ⟨p.1, p.2.1.trans eT, eT Dl _ p.2.2⟩ (by omega) (ht n y H1 (e.trans e1) g2) fun hf => he n y H1 (e.trans e1) g2 hf⟩
/-- [e for x, y in zip(xs, ys)], both new lists -/
theorem el_zipN {i j : Nat} {vs : List Nat} {xs ys : List V} (F : V → V → V) (h : EvL ta σ H xs) (h2 : EvL tb σ H ys) (hl : xs.length = ys.length) (hz : xs.length ≤ 40000) (hw : ∀ x y, wipe (((wipe σ vs).set i (some x)).set j (some y)) vs = wipe σ vs)
    (he : ∀ (n : Nat) x y H1, Ex H H1 → xs[n]? = some x → ys[n]? = some y → Ev te (((wipe σ vs).set i (some x)).set j (some y)) H1 (F x y)) :
    EvL (tLc (iZip K (tCons ta (tCons tb tNil))) (gTup K 2 (gCons (gName i) (gCons (gName j) gNil))) tYes te vs) σ H (List.zipWith F xs ys) := fun H0 e Q q =>
  h H0 e _ fun a H1 na e1 ha => h2 H1 (e.trans e1) _ fun b H2 nb e2 hb => by
    have := el_zip (K := K) (H := H2) (ta := fun _ H' R => R [.ref a, .ref b] H') (te := te) (vs := vs) F (fun H3 _ Q q => q H3 (Ex.refl _)) (sq_of (e2 a _ ha)) (sq_of hb) hl hz hw fun n x y H3 e3 g1 g2 => he n x y H3 (e.trans (e1.trans (e2.trans e3))) g1 g2
    exact this H2 (Ex.refl _) Q fun p H3 hp e3 h3 => q p H3 (fresh_back (e1.trans e2) hp) (e1.trans (e2.trans e3)) h3
/-- xs + y, y an old list; x + ys, x an old list -/
theorem el_catR {a : Addr} {xs ys : List V} (h : EvL ta σ H xs) (h2 : Ev tb σ H (.ref a)) (ha : H a = some (.lst ys)) (hz : xs.length + ys.length ≤ 1000) : EvL (tOp rCat ta tb) σ H (xs ++ ys) := fun H1 e Q q =>
  h H1 e _ fun p H2 _ e2 h3 => h2 H2 (e.trans e2) _ fun H3 e3 => ⟨p, a, xs, ys, rfl, rfl, e3 p _ h3, e3 a _ (e2 a _ (e a _ ha)), sz_of (by omega), fun l hl => q l _ (fresh_back (e2.trans e3) hl) ((e2.trans e3).trans (Ex.new hl)) upd_same⟩
theorem el_catL {a : Addr} {xs ys : List V} (h : Ev ta σ H (.ref a)) (ha : H a = some (.lst xs)) (h2 : EvL tb σ H ys) (hz : xs.length + ys.length ≤ 1000) : EvL (tOp rCat ta tb) σ H (xs ++ ys) := fun H1 e Q q =>
  h H1 e _ fun H2 e2 => h2 H2 (e.trans e2) _ fun p H3 _ e3 h3 => ⟨a, p, xs, ys, rfl, rfl, e3 a _ (e2 a _ (e a _ ha)), h3, sz_of (by omega), fun l hl => q l _ (fresh_back (e2.trans e3) hl) ((e2.trans e3).trans (Ex.new hl)) upd_same⟩
end
end Kit
set_option Elab.async false
set_option linter.all false
set_option maxRecDepth 100000
namespace Kit
open PySem PySem.Spec PyProof.Rows L2 Evl
def fac (n : Nat) : Nat := Builtin.Math.factorialNat n
theorem fac_succ (n : Nat) : fac (n + 1) = fac n * (n + 1) := PySem.W.mc_fac_succ n
theorem fac_pos (n : Nat) : 1 ≤ fac n := PySem.W.mc_fac_pos n
theorem fac_mono : ∀ {m n : Nat}, m ≤ n → fac m ≤ fac n := fun {m n} h => by
  induction h with
  | refl => exact Nat.le_refl _
  | step _ ih =>
    rw [Nat.succ_eq_add_one, fac_succ]
    exact Nat.le_trans ih (Nat.le_mul_of_pos_right _ (Nat.succ_pos _))
theorem fac20 : fac 20 < 2 ^ 64 := by decide +kernel
def rFac : List V → Hp → VK → Prop := fun vs H Q => ∃ n : Nat, vs = [.int (n : Int)] ∧ n ≤ 20000 ∧ Q (.int ((fac n : Nat) : Int)) H
section
variable {X : Cx}
theorem cr_factorial : CallR X (.builtin "math.factorial") rFac := by
  intro pins s σ H vs us Q I r h
  obtain ⟨n, rfl, hn, q⟩ := h
  cases r with
  | cons ru rt =>
    cases rt
    obtain ⟨t, rfl⟩ := ru
    refine PySem.W.mc_factorial (Int.natCast_nonneg n) (by omega) fun _ => ?_
    rw [Int.toNat_natCast]
    exact ⟨.int _, H, I.tok _, ⟨_, rfl⟩, q⟩
def rDivmod : List V → Hp → VK → Prop := fun xs H Q => ∃ i j, xs = [.int i, .int j] ∧ CDivP i j ∧ ∀ p, H p = none → Q (.ref p) (upd H p (.tup [.int (i / j), .int (i % j)]))
theorem call_divmodR : CallR X (.builtin "divmod") rDivmod := call_divmodW
end
section
variable {K : PySem.W.Frag} {σ : L2.St} {H : Hp} {ta tb te tl : TE} {D : Ends} {tu tz : TS}
theorem ev_fac {n : Nat} (h : Ev ta σ H (.int (n : Int))) (hn : n ≤ 20000) : Ev (tCB rFac (tCons ta tNil)) σ H (.int ((fac n : Nat) : Int)) := fun H1 e Q q => h H1 e _ fun H2 e2 => ⟨n, rfl, hn, q H2 e2⟩
theorem divp_small {i j : Int} (h : 0 < j) (hj : j.natAbs < 2 ^ 8000) : CDivP i j := ⟨h, PyProof.noPylong_of_log2 (by
  have h2 := (Nat.log2_lt (n := j.natAbs) (k := 8000) (by omega)).mpr hj
  omega)⟩
theorem eu_divmod {a b : Nat} (h : Ev ta σ H (.int (a : Int))) (h2 : Ev tb σ H (.int (b : Int))) (hb : 0 < b) (hb2 : b < 2 ^ 8000) : EvU (tCB rDivmod (tCons ta (tCons tb tNil))) σ H [.int ((a / b : Nat) : Int), .int ((a % b : Nat) : Int)] := fun H1 e Q q =>
  h H1 e _ fun H2 e2 => h2 H2 (e.trans e2) _ fun H3 e3 => ⟨a, b, rfl, divp_small (by omega) (by rw [Int.natAbs_natCast]; exact hb2), fun p hp => q p _ (fresh_back (e2.trans e3) hp) ((e2.trans e3).trans (Ex.new hp)) (by rw [upd_same, Int.natCast_ediv, Int.natCast_emod])⟩
end
end Kit
set_option Elab.async false
set_option linter.all false
set_option maxRecDepth 100000
namespace Kit
open PySem PySem.Spec PyProof.Rows L2 Evl
/-! ### len(set(texts)), the texts unlike -/
/-- a new empty set behind a heap -/
abbrev emptyS (led : Bool) : Obj := { cls := .type "set", dict := none, data := .set #[] 0 (.fresh 0 0 led) }
theorem nodup_step {xs : List Str} (nd : xs.Nodup) {i : Nat} (h : i < xs.length) (k' : Str) :
    ((xs.take i).any (· == k') || decide (k' = xs.getD i Str.empty)) = (xs.take (i + 1)).any (· == k') := by
  rw [List.take_add_one, List.getElem?_eq_getElem h, List.any_append]
  have e : xs.getD i Str.empty = xs[i] := by
    rw [List.getD_eq_getElem?_getD, List.getElem?_eq_getElem h]
    rfl
  rw [e]
  congr 1
  by_cases q : k' = xs[i]
  · subst q
    simp
  · have : (xs[i] == k') = false := by
      rw [beq_eq_false_iff_ne]
      exact fun z => q z.symm
    simp [q, this]
theorem nodup_no {xs : List Str} (nd : xs.Nodup) {i : Nat} (h : i < xs.length) : (xs.take i).any (· == xs.getD i Str.empty) = false := by
  have e : xs.getD i Str.empty = xs[i] := by
    rw [List.getD_eq_getElem?_getD, List.getElem?_eq_getElem h]
    rfl
  rw [e]
  cases hb : (xs.take i).any (· == xs[i]) with
  | false => rfl
  | true =>
    obtain ⟨y, hy, ey⟩ := List.any_eq_true.mp hb
    have ey2 : y = xs[i] := eq_of_beq ey
    subst ey2
    obtain ⟨j, hj⟩ := List.mem_iff_getElem?.mp hy
    rw [List.getElem?_take] at hj
    by_cases hji : j < i
    · rw [if_pos hji] at hj
      obtain ⟨hjl, ej⟩ := List.getElem?_eq_some_iff.mp hj
      exact absurd ej (List.pairwise_iff_getElem.mp nd j i hjl h hji)
    · rw [if_neg hji] at hj
      cases hj
section
variable {prog : Program} {w : World} {A : Around} {R : Result → Shared → Prop}
variable {I : Addr} {fp wr : List Addr} {G : Array GenState → Array GenState → Prop}
variable {n : Nat} {P : Nat → Value → Prop} {St : Nat → Shared → Prop}
theorem loopT (W : WalksS prog w A.in1 I fp wr G n P St) (S : Addr) (out : S ∉ fp)
    (xs : List Str) (sz : xs.length = n) (room : n + 1 < scanBound) (nd : xs.Nodup)
    (val : ∀ i v, P i v → ∃ t, v = .str (xs.getD i Str.empty) t) :
    ∀ (k i : Nat) (s : Shared), n - i = k → i ≤ n → St i s →
      s.heap.SetOf (strKind prog w) S (fun z => (xs.take i).any (· == z)) i →
      (∀ s', Moved (S :: wr) G s s' →
        s'.heap.SetOf (strKind prog w) S (fun z => (xs.take n).any (· == z)) n →
        R (.ok (.ret .none)) s') →
      codeAny (model prog w) A (.builtin "set.update.loop" ⟨[.ref S, .ref I], []⟩) R s := by
  have notw : S ∉ wr := fun q => out (W.sub _ q)
  have sub : ∀ b ∈ wr, b ∈ S :: wr := fun b q => List.mem_cons_of_mem _ q
  intro k
  induction k with
  | zero =>
    intro i s hk hi st set0 fin
    obtain rfl : i = n := by omega
    refine codeAny_builtin F.entry_set_update_loop ?_
    rw [Around.under_plainId F.plain_set_update_loop _]
    show wpAny _ A.in1 (pyNext (.ref I) >>= _) _ _ s
    refine wpAny_bind (W.done s _ _ st fun s2 mv => ?_)
    show wpAny _ A.in1 (ret Value.none) _ _ s2
    refine wpAny_pure (fin s2 (mv.mono sub) ?_)
    obtain ⟨o, es, ep, t, at0, more⟩ := set0
    exact ⟨o, es, ep, t, mv.heap S _ notw at0, more⟩
  | succ k ih =>
    intro i s hk hi st set0 fin
    have lt : i < n := by omega
    refine codeAny_builtin F.entry_set_update_loop ?_
    rw [Around.under_plainId F.plain_set_update_loop _]
    show wpAny _ A.in1 (pyNext (.ref I) >>= _) _ _ s
    refine wpAny_bind (W.item i s _ _ lt st fun v s2 pv st2 mv => ?_)
    obtain ⟨t, rfl⟩ := val i v pv
    have set1 : s2.heap.SetOf (strKind prog w) S (fun z => (xs.take i).any (· == z)) i := by
      obtain ⟨o, es, ep, tb, at0, more⟩ := set0
      exact ⟨o, es, ep, tb, mv.heap S _ notw at0, more⟩
    show wpAny _ A.in1 (holding [Value.str (xs.getD i Str.empty) t]
      (setAdd S (.str (xs.getD i Str.empty) t)) >>= _) _ _ s2
    refine wpAny_bind (wpAny_holding ?_)
    unfold setAdd
    refine wpAny_holding (wpAny_bind ((strKind prog w).pyHash (k := xs.getD i Str.empty) (strKind_is _ _ _ _) ?_))
    refine wpAny_setAddHashed_of (knd := strKind prog w) (s := { s2 with toks := s2.toks + 1 })
      (strKind_is _ _ _ _) rfl set1 (by omega) fun h2 same set2 => ?_
    have set3 : h2.SetOf (strKind prog w) S (fun z => (xs.take (i + 1)).any (· == z)) (i + 1) := by
      refine SetOf_congr set2 (fun z => nodup_step nd (by omega) z) ?_
      rw [nodup_no nd (by omega)]
      rfl
    refine wpAny_pure ⟨plainId_quiet F.plain_set_update_loop _, ih (i + 1) _ (by omega) lt ?_ set3 fun s3 mv3 set4 => ?_⟩
    · refine W.frame _ s2 _ _ st2 (Nat.le_succ _) fun b hb o e => ?_
      rw [same.2 b (fun q : b = S => out (q ▸ hb))]
      exact e
    · refine fin s3 (Moved.trans W.gtrans ((mv.mono sub).then_heap (Nat.le_succ _) fun b o hb e => ?_) mv3) set4
      rw [same.2 b (fun q : b = S => hb (q ▸ List.mem_cons_self))]
      exact e
end
section
variable {prog : Program} {w : World} {A : Around} {E : Value → Shared → Prop} {s : Shared}
set_option maxHeartbeats 3200000 in
theorem set_of_texts {l : Addr} {items : Array Value} {xs : List Str} {Q : Value → Shared → Prop}
    (hand : A.handled = none) (isl : s.heap.IsList l items)
    (are : StrsAre items.toList xs) (room : xs.length + 1 < scanBound) (nd : xs.Nodup)
    (fin : ∀ (h' : Heap) (tk : Nat),
      h'.SetOf (strKind prog w) s.heap.objs.size (fun z => (xs.take items.size).any (· == z)) items.size →
      (∀ b o, b < s.heap.objs.size → s.heap.get? b = some o → h'.get? b = some o) →
      Q (.ref s.heap.objs.size) { s with heap := h', toks := tk }) :
    wpAny (model prog w) A (call (.type "set") [.ref l]) Q E s := by
  obtain ⟨c, tl, mro⟩ := PySem.F.called_set.mro
  have made := PySem.F.called_set.made
  have subt := PySem.F.called_set.sub
  refine wpAny_call (codeAny_of_tree ?_)
  show wpAny _ _ (callAny (.type "set") _) _ _ _
  refine wpAny_pure ⟨Code.quiet_builtin _ (by decide +kernel),
    codeAny_builtin PySem.F.entry_type_call ?_⟩
  rw [Around.under_plain (weight_type_call_type "set" [.ref l] []) rfl]
  have no1 := PySem.F.called_set.notType
  have no2 := PySem.F.called_set.canCreate
  have tc := PySem.F.typeCall_set_1 (.ref l)
  repeat (any_goals (first | assumption | wp_step))
  refine codeAny_mono (code_set_new_1 (.ref l) (E := E) (Q₁ := fun obj s₁ => ∃ led : Bool,
    obj = .ref s.heap.objs.size ∧ s₁ = { s with heap := s.heap.push (emptyS led) })
    fun led => ⟨led, rfl, rfl⟩) fun r s₁ hr => ?_
  cases r with
  | error e => exact hr
  | ok fl =>
    cases fl with
    | ret obj =>
      obtain ⟨led, rfl, rfl⟩ := hr
      have atS : (s.heap.push (emptyS led)).get? s.heap.objs.size = some (emptyS led) :=
        Heap.get?_push_size _ rfl
      have tyS : Shared.TypeIs { s with heap := s.heap.push (emptyS led) } (.ref s.heap.objs.size) "set" :=
        ⟨_, atS, rfl⟩
      have lk := PySem.F.called_set.init.lookup
      have bd := PySem.F.called_set.init.bind (.ref s.heap.objs.size)
      repeat (any_goals (first | assumption | wp_step))
      refine codeAny_mono (codeAny_call_builtin (R := wants (fun r s₂ => r = .none ∧ ∃ h' tk,
          s₂ = { s with heap := h', toks := tk } ∧
          h'.SetOf (strKind prog w) s.heap.objs.size (fun z => (xs.take items.size).any (· == z)) items.size ∧
          (∀ b o, b < s.heap.objs.size → s.heap.get? b = some o → h'.get? b = some o)) E)
        PySem.F.called_set.init.plain PySem.F.entry_set_init (check_set_init_1 tyS ?_)) fun r₂ s₂ hr₂ => ?_
      · obtain ⟨ol, hol, hc, nl, hd⟩ := isl
        obtain ⟨oc, odic, odat, oslo⟩ := ol
        simp only at hc hd
        subst hc
        subst hd
        have hol2 : (s.heap.push (emptyS led)).get? l
            = some { cls := .type "list", dict := odic, data := .seq items nl, slots := oslo } :=
          Heap.get?_push_of_some _ hol
        have sl1 := PySem.F.sub_list_set
        have sl2 := PySem.F.sub_list_frozenset
        have nod : (Value.type "list" == Value.type "dict") = false := by decide
        have isl2 : (s.heap.push (emptyS led)).IsList l items := ⟨_, hol2, rfl, nl, rfl⟩
        unfold Builtin.«set.__init__» noKeywords Builtin.Frozenset.updateFrom
        generalize hgen : pyIter = PI
        wp_walk
        subst hgen
        refine wpAny_pyIter_list isl2 ?_
        refine wpAny_bind (wpAny_runValue ?_)
        have lS : l < s.heap.objs.size := Heap.lt_size hol
        have h3 : A.in1.in1.in1.handled = none := by simp [hand]
        have neI : l ≠ (s.heap.push (emptyS led)).objs.size := by
          rw [Heap.size_push]
          exact Nat.ne_of_lt (Nat.lt_succ_of_lt lS)
        have outS : s.heap.objs.size ∉ [(s.heap.push (emptyS led)).objs.size, l] := by
          rw [Heap.size_push]
          intro q
          rcases List.mem_cons.mp q with q | q
          · exact absurd q (Nat.ne_of_lt (Nat.lt_succ_self _))
          · exact absurd (List.mem_singleton.mp q) (Nat.ne_of_gt lS)
        have szx : xs.length = items.size := by rw [← StrsAre.len_eq are, Array.length_toList]
        have vals : ∀ (i : Nat) (v : Value), items[i]? = some v → ∃ t, v = .str (xs.getD i Str.empty) t :=
          fun i v hv => SS.strs_at are i v (by rw [Array.getElem?_toList]; exact hv)
        refine loopT ((Walks.list h3 _ l neI items).toS) s.heap.objs.size outS xs szx (by omega) nd vals
          (items.size - 0) 0 _ (by omega) (Nat.zero_le _)
          ⟨⟨_, Heap.get?_push_size _ rfl, rfl, rfl⟩, (isl2.push _)⟩ ?_ ?_
        · have at2 : ((s.heap.push (emptyS led)).push
              { cls := .type "list_iterator", data := .fields #[.ref l, .int 0 0] }).get? s.heap.objs.size
              = some (emptyS led) := Heap.get?_push_of_some _ atS
          exact SetOf_congr ((setObjOf_fresh (knd := strKind prog w) led).setOf at2 (by unfold scanBound; omega))
            (fun _ => rfl) rfl
        · intro s2 mv set2
          obtain ⟨h2, g2, d2, tk2, os2⟩ := s2
          obtain rfl : g2 = s.gens := mv.gens
          obtain rfl : d2 = s.drawn := mv.drawn
          obtain rfl : os2 = s.os := mv.os
          show wpAny _ _ _ _ _ _
          refine wpAny_pure ?_
          show wpAny _ _ (ret Value.none) _ _ _
          refine wpAny_pure ⟨rfl, h2, tk2, rfl, set2, fun b o hb e => ?_⟩
          refine mv.heap b o (fun q => ?_) (Heap.get?_push_of_some _ (Heap.get?_push_of_some _ e))
          rcases List.mem_cons.mp q with q | q
          · exact absurd q (Nat.ne_of_lt hb)
          · rcases List.mem_cons.mp q with q | q
            · rw [Heap.size_push] at q
              exact absurd q (Nat.ne_of_lt (Nat.lt_succ_of_lt hb))
            · cases q
      · cases r₂ with
        | error e => exact hr₂
        | ok fl₂ =>
          cases fl₂ with
          | ret r =>
            obtain ⟨rfl, h2, tk2, rfl, set2, keep2⟩ := hr₂
            repeat (any_goals (first | assumption | wp_step))
            exact fin _ _ set2 keep2
          | _ => exact hr₂.elim
    | _ => exact hr.elim
end
def tLenSetS (K : PySem.W.Frag) (ta : TE) : TE := fun σ H Q => ta σ H fun x H1 => ∃ (l : Addr) (xs : List Str), x = .ref l ∧ SqL K H1 l (xs.map V.str) ∧ xs.Nodup ∧ xs.length ≤ 4000 ∧ Q (.int (xs.length : Nat)) H1
theorem pe_lenSetS {X : Cx} {a : Expr} {ta : TE} {p p2 q pos : Pos} (calm : X.calm = true) (gl : Gl X "len") (ml : X.mg "len" = none) (gs : Gl X "set") (ms : X.mg "set" = none) (ha : PE X a ta)
    (na : starEach [a] X.env = (false, eval a X.env) :: starEach [] X.env := by rfl) : PE X (.Call (.Name "len" p) [.Call (.Name "set" p2) [a] [] q] [] pos) (tLenSetS X.K ta) := by
  refine ⟨fun pins s σ H Q J h => ?_⟩
  refine Call_ (ld_blt J gl ml boot_len (callWith_builtin1 (args_cons ?_ rfl) rfl rfl))
  refine Call_ (ld_blt J gs ms boot_set (callWith_type1 (args_cons (thn (ha.run pins s σ H _ J h) fun v s1 ⟨x, H1, J1, r1, q1⟩ => args_nil ?_) na) na rfl))
  obtain ⟨l, xs, rfl, hq, nd, hl, q1⟩ := q1
  cases r1
  obtain ⟨its, r, pl, hz⟩ := J1.list hq
  have hlen : its.toArray.size = xs.length := by rw [List.size_toArray, ← r.length, List.length_map]
  refine set_of_texts (J1.ok.hd calm) pl.isList (by simpa using L2.strsAre_of r) (by unfold scanBound; omega) nd fun h' tk set1 keep => args_nil ?_
  rw [hlen, List.take_length] at set1
  obtain ⟨o, es, ep, t, ho, hex, hd, _, _, _, hf, hn⟩ := set1
  have J2 : Inv X pins σ H1 { s1 with heap := h', toks := tk } := J1.kept fun b o e => keep b o (Heap.lt_size e) e
  exact call_len_set ho hex hd hf (by rw [hn] <;> omega) ⟨.int xs.length, H1, J2.tok _, ⟨_, by rw [hn]⟩, q1⟩
end Kit
namespace K04
open PySem PySem.Spec PyProof.Rows L2 Evl Kit
def topS (i : Nat) : Stmt := PySem.Challenge.pw_newtables_k04_coming_lists.main.body.getD i (.Pass ⟨0, 0, 0, 0⟩)
abbrev s_is_whole : Stmt := topS 7
abbrev n_is_whole : List Str := ["thing"]
theorem sc_is_whole : FnScope n_is_whole ["thing"] (defScope s_is_whole) := ⟨rfl, rfl, rfl, by decide +kernel, rfl, by decide +kernel, by decide +kernel⟩
abbrev s_is_within : Stmt := topS 8
abbrev n_is_within : List Str := ["thing", "least", "most"]
theorem sc_is_within : FnScope n_is_within ["thing", "least", "most"] (defScope s_is_within) := ⟨rfl, rfl, rfl, by decide +kernel, rfl, by decide +kernel, by decide +kernel⟩
abbrev s_is_order : Stmt := topS 9
abbrev n_is_order : List Str := ["thing", "item"]
theorem sc_is_order : FnScope n_is_order ["thing"] (defScope s_is_order) := ⟨rfl, rfl, rfl, by decide +kernel, rfl, by decide +kernel, by decide +kernel⟩
abbrev s_check_number : Stmt := topS 10
abbrev n_check_number : List Str := ["number", "least", "most"]
theorem sc_check_number : FnScope n_check_number ["number", "least", "most"] (defScope s_check_number) := ⟨rfl, rfl, rfl, by decide +kernel, rfl, by decide +kernel, by decide +kernel⟩
abbrev s_is_seating : Stmt := topS 12
abbrev n_is_seating : List Str := ["thing"]
theorem sc_is_seating : FnScope n_is_seating ["thing"] (defScope s_is_seating) := ⟨rfl, rfl, rfl, by decide +kernel, rfl, by decide +kernel, by decide +kernel⟩
abbrev s_tables_of : Stmt := topS 13
abbrev n_tables_of : List Str := ["seating"]
theorem sc_tables_of : FnScope n_tables_of ["seating"] (defScope s_tables_of) := ⟨rfl, rfl, rfl, by decide +kernel, rfl, by decide +kernel, by decide +kernel⟩
abbrev s_check_seating : Stmt := topS 14
abbrev n_check_seating : List Str := ["seating"]
theorem sc_check_seating : FnScope n_check_seating ["seating"] (defScope s_check_seating) := ⟨rfl, rfl, rfl, by decide +kernel, rfl, by decide +kernel, by decide +kernel⟩
abbrev s_walk_left : Stmt := topS 15
abbrev n_walk_left : List Str := ["lefts", "guest", "walk"]
theorem sc_walk_left : FnScope n_walk_left ["lefts", "guest"] (defScope s_walk_left) := ⟨rfl, rfl, rfl, by decide +kernel, rfl, by decide +kernel, by decide +kernel⟩
abbrev s_tables_among : Stmt := topS 16
abbrev n_tables_among : List Str := ["lefts", "guests", "guest", "walks", "walk"]
theorem sc_tables_among : FnScope n_tables_among ["lefts", "guests"] (defScope s_tables_among) := ⟨rfl, rfl, rfl, by decide +kernel, rfl, by decide +kernel, by decide +kernel⟩
abbrev s_is_coming : Stmt := topS 18
abbrev n_is_coming : List Str := ["thing", "guest", "item"]
theorem sc_is_coming : FnScope n_is_coming ["thing"] (defScope s_is_coming) := ⟨rfl, rfl, rfl, by decide +kernel, rfl, by decide +kernel, by decide +kernel⟩
abbrev s_coming_of : Stmt := topS 19
abbrev n_coming_of : List Str := ["seating", "rest", "items", "right"]
theorem sc_coming_of : FnScope n_coming_of ["seating"] (defScope s_coming_of) := ⟨rfl, rfl, rfl, by decide +kernel, rfl, by decide +kernel, by decide +kernel⟩
abbrev s_seating_by : Stmt := topS 20
abbrev n_seating_by : List Str := ["coming", "seating", "guest", "right"]
theorem sc_seating_by : FnScope n_seating_by ["coming"] (defScope s_seating_by) := ⟨rfl, rfl, rfl, by decide +kernel, rfl, by decide +kernel, by decide +kernel⟩
abbrev s_openers_of : Stmt := topS 21
abbrev n_openers_of : List Str := ["seating", "table"]
theorem sc_openers_of : FnScope n_openers_of ["seating"] (defScope s_openers_of) := ⟨rfl, rfl, rfl, by decide +kernel, rfl, by decide +kernel, by decide +kernel⟩
abbrev s_hall_of : Stmt := topS 22
abbrev n_hall_of : List Str := ["coming", "number"]
theorem sc_hall_of : FnScope n_hall_of ["coming", "number"] (defScope s_hall_of) := ⟨rfl, rfl, rfl, by decide +kernel, rfl, by decide +kernel, by decide +kernel⟩
abbrev s_check_coming : Stmt := topS 23
abbrev n_check_coming : List Str := ["coming"]
theorem sc_check_coming : FnScope n_check_coming ["coming"] (defScope s_check_coming) := ⟨rfl, rfl, rfl, by decide +kernel, rfl, by decide +kernel, by decide +kernel⟩
abbrev s_law_pouch : Stmt := topS 25
abbrev n_law_pouch : List Str := ["script", "at", "cell"]
theorem sc_law_pouch : FnScope n_law_pouch ["script", "at"] (defScope s_law_pouch) := ⟨rfl, rfl, rfl, by decide +kernel, rfl, by decide +kernel, by decide +kernel⟩
abbrev s_law_dip : Stmt := topS 26
abbrev n_law_dip : List Str := ["pouch", "wide", "taken", "mixed"]
theorem sc_law_dip : FnScope n_law_dip ["pouch", "wide"] (defScope s_law_dip) := ⟨rfl, rfl, rfl, by decide +kernel, rfl, by decide +kernel, by decide +kernel⟩
abbrev s_law_entries : Stmt := topS 27
abbrev n_law_entries : List Str := ["pouch", "many", "style", "found", "one", "some", "pick"]
theorem sc_law_entries : FnScope n_law_entries ["pouch", "many"] (defScope s_law_entries) := ⟨rfl, rfl, rfl, by decide +kernel, rfl, by decide +kernel, by decide +kernel⟩
abbrev s_law_rings : Stmt := topS 28
abbrev n_law_rings : List Str := ["entries", "rings", "one", "pal", "ring"]
theorem sc_law_rings : FnScope n_law_rings ["entries"] (defScope s_law_rings) := ⟨rfl, rfl, rfl, by decide +kernel, rfl, by decide +kernel, by decide +kernel⟩
abbrev s_law_seat : Stmt := topS 29
abbrev n_law_seat : List Str := ["rings", "near", "ring", "k", "one"]
theorem sc_law_seat : FnScope n_law_seat ["rings"] (defScope s_law_seat) := ⟨rfl, rfl, rfl, by decide +kernel, rfl, by decide +kernel, by decide +kernel⟩
abbrev s_law_is_coming : Stmt := topS 30
abbrev n_law_is_coming : List Str := ["item", "one", "k"]
theorem sc_law_is_coming : FnScope n_law_is_coming ["item"] (defScope s_law_is_coming) := ⟨rfl, rfl, rfl, by decide +kernel, rfl, by decide +kernel, by decide +kernel⟩
abbrev s_law_odd : Stmt := topS 31
abbrev n_law_odd : List Str := ["pouch", "row", "spot", "far", "odd", "one", "truths", "found"]
theorem sc_law_odd : FnScope n_law_odd ["pouch", "row"] (defScope s_law_odd) := ⟨rfl, rfl, rfl, by decide +kernel, rfl, by decide +kernel, by decide +kernel⟩
abbrev s_law_right : Stmt := topS 32
abbrev n_law_right : List Str := ["pouch", "many", "entries", "kept", "hall", "told", "k", "firsts", "found", "width", "due", "later", "some", "item"]
theorem sc_law_right : FnScope n_law_right ["pouch", "many"] (defScope s_law_right) := ⟨rfl, rfl, rfl, by decide +kernel, rfl, by decide +kernel, by decide +kernel⟩
abbrev s_law_small_right : Stmt := topS 33
abbrev n_law_small_right : List Str := ["many", "rows", "width", "longer", "row", "one", "halls", "hall"]
theorem sc_law_small_right : FnScope n_law_small_right ["many"] (defScope s_law_small_right) := ⟨rfl, rfl, rfl, by decide +kernel, rfl, by decide +kernel, by decide +kernel⟩
abbrev s_law : Stmt := topS 34
abbrev n_law : List Str := ["script", "at", "pouch", "many", "told", "due"]
theorem sc_law : FnScope n_law ["script"] (defScope s_law) := ⟨rfl, rfl, rfl, by decide +kernel, rfl, by decide +kernel, by decide +kernel⟩
def g_K04_kb_hall_of_0_number_coming : List Value → List Value → List Value := fun us ws => match us, ws with
  | [], [b0, b1] => [b1, b0]
  | _, _ => []
def v_K04_kb_hall_of_0_number_coming : List V → List V → List V := fun us ws => match us, ws with
  | [], [b0, b1] => [b1, b0]
  | _, _ => []
def g_K04_kb_openers_of_0_seating : List Value → List Value → List Value := fun us ws => match us, ws with
  | [], [b0] => [b0]
  | _, _ => []
def v_K04_kb_openers_of_0_seating : List V → List V → List V := fun us ws => match us, ws with
  | [], [b0] => [b0]
  | _, _ => []
def g_K04_kb_coming_of_0_seating : List Value → List Value → List Value := fun us ws => match us, ws with
  | [], [b0] => [b0]
  | _, _ => []
def v_K04_kb_coming_of_0_seating : List V → List V → List V := fun us ws => match us, ws with
  | [], [b0] => [b0]
  | _, _ => []
def g_K04_kb_is_coming_0_thing : List Value → List Value → List Value := fun us ws => match us, ws with
  | [], [b0] => [b0]
  | _, _ => []
def v_K04_kb_is_coming_0_thing : List V → List V → List V := fun us ws => match us, ws with
  | [], [b0] => [b0]
  | _, _ => []
def g_K04_kb_seating_by_0_coming : List Value → List Value → List Value := fun us ws => match us, ws with
  | [], [b0] => [b0]
  | _, _ => []
def v_K04_kb_seating_by_0_coming : List V → List V → List V := fun us ws => match us, ws with
  | [], [b0] => [b0]
  | _, _ => []
/-! what the top has written -/
structure Tx (K : PySem.W.Frag) (mg : Str → Option Value) where
  f_is_whole : Addr
  d_is_whole : FuncData
  F_is_whole : Fun K "is_whole" "is_whole" s_is_whole f_is_whole d_is_whole
  g_is_whole : mg "is_whole" = some (.ref f_is_whole)
  b_is_whole : Binds K d_is_whole ["thing"] []
  f_is_within : Addr
  d_is_within : FuncData
  F_is_within : Fun K "is_within" "is_within" s_is_within f_is_within d_is_within
  g_is_within : mg "is_within" = some (.ref f_is_within)
  b_is_within : Binds K d_is_within ["thing", "least", "most"] []
  f_is_order : Addr
  d_is_order : FuncData
  F_is_order : Fun K "is_order" "is_order" s_is_order f_is_order d_is_order
  g_is_order : mg "is_order" = some (.ref f_is_order)
  b_is_order : Binds K d_is_order ["thing"] []
  f_check_number : Addr
  d_check_number : FuncData
  F_check_number : Fun K "check_number" "check_number" s_check_number f_check_number d_check_number
  g_check_number : mg "check_number" = some (.ref f_check_number)
  b_check_number : Binds K d_check_number ["number", "least", "most"] []
  f_is_seating : Addr
  d_is_seating : FuncData
  F_is_seating : Fun K "is_seating" "is_seating" s_is_seating f_is_seating d_is_seating
  g_is_seating : mg "is_seating" = some (.ref f_is_seating)
  b_is_seating : Binds K d_is_seating ["thing"] []
  f_tables_of : Addr
  d_tables_of : FuncData
  F_tables_of : Fun K "tables_of" "tables_of" s_tables_of f_tables_of d_tables_of
  g_tables_of : mg "tables_of" = some (.ref f_tables_of)
  b_tables_of : Binds K d_tables_of ["seating"] []
  f_check_seating : Addr
  d_check_seating : FuncData
  F_check_seating : Fun K "check_seating" "check_seating" s_check_seating f_check_seating d_check_seating
  g_check_seating : mg "check_seating" = some (.ref f_check_seating)
  b_check_seating : Binds K d_check_seating ["seating"] []
  f_walk_left : Addr
  d_walk_left : FuncData
  F_walk_left : Fun K "walk_left" "walk_left" s_walk_left f_walk_left d_walk_left
  g_walk_left : mg "walk_left" = some (.ref f_walk_left)
  b_walk_left : Binds K d_walk_left ["lefts", "guest"] []
  f_tables_among : Addr
  d_tables_among : FuncData
  F_tables_among : Fun K "tables_among" "tables_among" s_tables_among f_tables_among d_tables_among
  g_tables_among : mg "tables_among" = some (.ref f_tables_among)
  b_tables_among : Binds K d_tables_among ["lefts", "guests"] []
  f_is_coming : Addr
  d_is_coming : FuncData
  F_is_coming : Fun K "is_coming" "is_coming" s_is_coming f_is_coming d_is_coming
  g_is_coming : mg "is_coming" = some (.ref f_is_coming)
  b_is_coming : Binds K d_is_coming ["thing"] []
  f_coming_of : Addr
  d_coming_of : FuncData
  F_coming_of : Fun K "coming_of" "coming_of" s_coming_of f_coming_of d_coming_of
  g_coming_of : mg "coming_of" = some (.ref f_coming_of)
  b_coming_of : Binds K d_coming_of ["seating"] []
  f_seating_by : Addr
  d_seating_by : FuncData
  F_seating_by : Fun K "seating_by" "seating_by" s_seating_by f_seating_by d_seating_by
  g_seating_by : mg "seating_by" = some (.ref f_seating_by)
  b_seating_by : Binds K d_seating_by ["coming"] []
  f_openers_of : Addr
  d_openers_of : FuncData
  F_openers_of : Fun K "openers_of" "openers_of" s_openers_of f_openers_of d_openers_of
  g_openers_of : mg "openers_of" = some (.ref f_openers_of)
  b_openers_of : Binds K d_openers_of ["seating"] []
  f_hall_of : Addr
  d_hall_of : FuncData
  F_hall_of : Fun K "hall_of" "hall_of" s_hall_of f_hall_of d_hall_of
  g_hall_of : mg "hall_of" = some (.ref f_hall_of)
  b_hall_of : Binds K d_hall_of ["coming", "number"] []
  f_check_coming : Addr
  d_check_coming : FuncData
  F_check_coming : Fun K "check_coming" "check_coming" s_check_coming f_check_coming d_check_coming
  g_check_coming : mg "check_coming" = some (.ref f_check_coming)
  b_check_coming : Binds K d_check_coming ["coming"] []
  f_law_pouch : Addr
  d_law_pouch : FuncData
  F_law_pouch : Fun K "_law_pouch" "_law_pouch" s_law_pouch f_law_pouch d_law_pouch
  g_law_pouch : mg "_law_pouch" = some (.ref f_law_pouch)
  b_law_pouch : Binds K d_law_pouch ["script", "at"] []
  f_law_dip : Addr
  d_law_dip : FuncData
  F_law_dip : Fun K "_law_dip" "_law_dip" s_law_dip f_law_dip d_law_dip
  g_law_dip : mg "_law_dip" = some (.ref f_law_dip)
  b_law_dip : Binds K d_law_dip ["pouch", "wide"] []
  f_law_entries : Addr
  d_law_entries : FuncData
  F_law_entries : Fun K "_law_entries" "_law_entries" s_law_entries f_law_entries d_law_entries
  g_law_entries : mg "_law_entries" = some (.ref f_law_entries)
  b_law_entries : Binds K d_law_entries ["pouch", "many"] []
  f_law_rings : Addr
  d_law_rings : FuncData
  F_law_rings : Fun K "_law_rings" "_law_rings" s_law_rings f_law_rings d_law_rings
  g_law_rings : mg "_law_rings" = some (.ref f_law_rings)
  b_law_rings : Binds K d_law_rings ["entries"] []
  f_law_seat : Addr
  d_law_seat : FuncData
  F_law_seat : Fun K "_law_seat" "_law_seat" s_law_seat f_law_seat d_law_seat
  g_law_seat : mg "_law_seat" = some (.ref f_law_seat)
  b_law_seat : Binds K d_law_seat ["rings"] []
  f_law_is_coming : Addr
  d_law_is_coming : FuncData
  F_law_is_coming : Fun K "_law_is_coming" "_law_is_coming" s_law_is_coming f_law_is_coming d_law_is_coming
  g_law_is_coming : mg "_law_is_coming" = some (.ref f_law_is_coming)
  b_law_is_coming : Binds K d_law_is_coming ["item"] []
  f_law_odd : Addr
  d_law_odd : FuncData
  F_law_odd : Fun K "_law_odd" "_law_odd" s_law_odd f_law_odd d_law_odd
  g_law_odd : mg "_law_odd" = some (.ref f_law_odd)
  b_law_odd : Binds K d_law_odd ["pouch", "row"] []
  f_law_right : Addr
  d_law_right : FuncData
  F_law_right : Fun K "_law_right" "_law_right" s_law_right f_law_right d_law_right
  g_law_right : mg "_law_right" = some (.ref f_law_right)
  b_law_right : Binds K d_law_right ["pouch", "many"] []
  f_law_small_right : Addr
  d_law_small_right : FuncData
  F_law_small_right : Fun K "_law_small_right" "_law_small_right" s_law_small_right f_law_small_right d_law_small_right
  g_law_small_right : mg "_law_small_right" = some (.ref f_law_small_right)
  b_law_small_right : Binds K d_law_small_right ["many"] []
  f_law : Addr
  d_law : FuncData
  F_law : Fun K "law" "law" s_law f_law d_law
  g_law : mg "law" = some (.ref f_law)
  b_law : Binds K d_law ["script"] []
  m_abs : mg "abs" = none
  m_all : mg "all" = none
  m_bool : mg "bool" = none
  m_enumerate : mg "enumerate" = none
  m_int : mg "int" = none
  m_isinstance : mg "isinstance" = none
  m_len : mg "len" = none
  m_list : mg "list" = none
  m_max : mg "max" = none
  m_min : mg "min" = none
  m_range : mg "range" = none
  m_repr : mg "repr" = none
  m_set : mg "set" = none
  m_sorted : mg "sorted" = none
  m_tuple : mg "tuple" = none
  m_type : mg "type" = none
  c_MOST_GUESTS : ∃ u, mg "MOST_GUESTS" = some u ∧ RelV (.int 20) u
  kb_hall_of_0_number_coming : KBinds K d_hall_of ["coming", "number"] ["number", "coming"] g_K04_kb_hall_of_0_number_coming v_K04_kb_hall_of_0_number_coming
  kb_openers_of_0_seating : KBinds K d_openers_of ["seating"] ["seating"] g_K04_kb_openers_of_0_seating v_K04_kb_openers_of_0_seating
  kb_coming_of_0_seating : KBinds K d_coming_of ["seating"] ["seating"] g_K04_kb_coming_of_0_seating v_K04_kb_coming_of_0_seating
  kb_is_coming_0_thing : KBinds K d_is_coming ["thing"] ["thing"] g_K04_kb_is_coming_0_thing v_K04_kb_is_coming_0_thing
  kb_seating_by_0_coming : KBinds K d_seating_by ["coming"] ["coming"] g_K04_kb_seating_by_0_coming v_K04_kb_seating_by_0_coming
/-! readings that go by themselves -/
local macro_rules | `(tactic| walk_at "side") => `(tactic| first | with_reducible assumption | with_reducible rfl | omega | decide | (constructor <;> first | assumption | omega | decide))
local macro_rules | `(tactic| walk_at "ev") => `(tactic| first
  | ((with_reducible refine' ev_var ?e1); (case e1 => rfl))
  | (with_reducible exact ev_c)
  | ((with_reducible refine' ev_op ?e1 ?e2 rv_I0); (case e1 => walk_at "ev"); (case e2 => walk_at "ev"))
  | ((with_reducible refine' ev_op ?e1 ?e2 (rv_I ?e3)); (case e1 => walk_at "ev"); (case e2 => walk_at "ev"); (case e3 => walk_at "side"))
  | ((with_reducible refine' ev_op ?e1 ?e2 (rv_eq ?e3)); (case e1 => walk_at "ev"); (case e2 => walk_at "ev"); (case e3 => rfl))
  | ((with_reducible refine' ev_op ?e1 ?e2 (rv_ne ?e3)); (case e1 => walk_at "ev"); (case e2 => walk_at "ev"); (case e3 => rfl))
  | ((with_reducible refine' ev_op ?e1 ?e2 (rv_ixL ?e3 ?e4)); (case e1 => walk_at "ev"); (case e2 => walk_at "ev"); (case e3 => walk_at "sq"); (case e4 => walk_at "at"))
  | ((with_reducible refine' ev_op ?e1 ?e2 (rv_ixT ?e3 ?e4)); (case e1 => walk_at "ev"); (case e2 => walk_at "ev"); (case e3 => walk_at "sq"); (case e4 => walk_at "at"))
  | ((with_reducible refine' ev_op ?e1 ?e2 rv_isN); (case e1 => walk_at "ev"); (case e2 => walk_at "ev"))
  | ((with_reducible refine' ev_op ?e1 ?e2 rv_notN); (case e1 => walk_at "ev"); (case e2 => walk_at "ev"))
  | ((with_reducible refine' ev_op ?e1 ?e2 (rv_eqTy ?e3 ?e4)); (case e1 => walk_at "ev"); (case e2 => walk_at "ev"); (case e3 => exact PySem.TypeEq.meta_int); (case e4 => exact PySem.TypeEq.meta_int))
  | ((with_reducible refine' ev_un ?e1 ru_neg); (case e1 => walk_at "ev"))
  | ((with_reducible refine' ev_intI ?e1); (case e1 => walk_at "ev"))
  | ((with_reducible refine' ev_intB ?e1); (case e1 => walk_at "ev"))
  | ((with_reducible refine' ev_typeI ?e1); (case e1 => walk_at "ev"))
  | ((with_reducible refine' ev_abs ?e1); (case e1 => walk_at "ev"))
  | ((with_reducible refine' ev_max2 ?e1 ?e2); (case e1 => walk_at "ev"); (case e2 => walk_at "ev"))
  | ((with_reducible refine' ev_min2 ?e1 ?e2); (case e1 => walk_at "ev"); (case e2 => walk_at "ev"))
  | ((with_reducible refine' ev_gcd ?e1 ?e2); (case e1 => walk_at "ev"); (case e2 => walk_at "ev"))
  | ((with_reducible refine' ev_len ?e1 ?e2); (case e1 => walk_at "ev"); (case e2 => walk_at "sq"))
  | ((with_reducible refine' ev_chainI ?e1 ?e2 ?e3); (case e1 => walk_at "ev"); (case e2 => walk_at "ev"); (case e3 => walk_at "ev"))
  | ((with_reducible refine' ev_chain3I ?e1 ?e2 ?e3 ?e4); (case e1 => walk_at "ev"); (case e2 => walk_at "ev"); (case e3 => walk_at "ev"); (case e4 => walk_at "ev"))
  | ((with_reducible refine' ev_notV ?e1); (case e1 => walk_at "ev"))
  | ((with_reducible refine' ev_andV ?e1 ?e2); (case e1 => walk_at "ev"); (case e2 => (intro _; walk_at "ev")))
  | ((with_reducible refine' ev_orV ?e1 ?e2); (case e1 => walk_at "ev"); (case e2 => (intro _; walk_at "ev")))
  | ((with_reducible refine' ev_if ?e1 ?e2 ?e3); (case e1 => walk_at "et"); (case e2 => (intro _; walk_at "ev")); (case e3 => (intro _; walk_at "ev")))
  | ((with_reducible refine' ev_call ?e1 ?e2); (case e1 => walk_at "ea"); (case e2 => walk_at "call")))
local macro_rules | `(tactic| walk_at "ea") => `(tactic| first
  | (with_reducible exact ea_nil)
  | ((with_reducible refine' ea_cons ?e1 ?e2); (case e1 => walk_at "ev"); (case e2 => walk_at "ea")))
local macro_rules | `(tactic| walk_at "et") => `(tactic| first
  | ((with_reducible refine' et_test ?e1); (case e1 => walk_at "ev"))
  | ((with_reducible refine' et_B ?e1); (case e1 => walk_at "ev"))
  | ((with_reducible refine' et_not ?e1); (case e1 => walk_at "et"))
  | ((with_reducible refine' et_and ?e1 ?e2); (case e1 => walk_at "et"); (case e2 => (intro _; walk_at "et")))
  | ((with_reducible refine' et_or ?e1 ?e2); (case e1 => walk_at "et"); (case e2 => (intro _; walk_at "et"))))
local macro_rules | `(tactic| walk_at "eu") => `(tactic| first
  | ((with_reducible refine' eu_tup ?e1 ?e2); (case e1 => walk_at "ea"); (case e2 => exact Nat.le_of_ble_eq_true rfl))
  | ((with_reducible refine' eu_call ?e1 ?e2); (case e1 => walk_at "ea"); (case e2 => walk_at "callU")))
local macro_rules | `(tactic| walk_at "el") => `(tactic| first
  | ((with_reducible refine' el_call ?e1 ?e2); (case e1 => walk_at "ea"); (case e2 => walk_at "callL"))
  | ((with_reducible refine' el_lst ?e1 ?e2); (case e1 => walk_at "ea"); (case e2 => exact Nat.le_of_ble_eq_true rfl)))
local macro_rules | `(tactic| walk_at "sq") => `(tactic| first | assumption | exact sq_of (by assumption) | exact st_of (by assumption))
local macro_rules | `(tactic| walk_at "at") => `(tactic| first | assumption | rfl | (apply atI_nat; rfl))
local macro_rules | `(tactic| walk_at "call") => `(tactic| assumption)

/-! ### the pouch -/
/-- H without p -/
def Hm (p : Addr) (H : Hp) : Hp := fun b => if b = p then none else H b
theorem hm_p {p : Addr} {H : Hp} : Hm p H p = none := if_pos rfl
theorem hm_sub {p : Addr} {H : Hp} : Ex (Hm p H) H := fun a o h => by
  unfold Hm at h
  split at h
  · cases h
  · exact h
theorem hm_mono {p : Addr} {H H' : Hp} (e : Ex H H') : Ex (Hm p H) (Hm p H') := fun a o h => by
  unfold Hm at h ⊢
  split at h
  · cases h
  · rename_i ne
    rw [if_neg ne]
    exact e a o h
theorem ex_hm {p : Addr} {H0 H : Hp} (e : Ex H0 H) (h : H0 p = none) : Ex H0 (Hm p H) := fun a o ha => by
  unfold Hm
  rw [if_neg (ne_of_none ha h)]
  exact e a o ha
/-- a pouch after at most n mixed draws -/
def Po (p : Addr) (n : Nat) (H : Hp) : Prop := ∃ a b c : Int, H p = some (.lst [.int a, .int b, .int c]) ∧ (29 ≤ b ∧ b < 2 ^ 200) ∧ 0 ≤ c ∧ c ≤ n
theorem Po.ex {p : Addr} {n : Nat} {H H' : Hp} (h : Po p n H) (e : Ex H H') : Po p n H' := by
  obtain ⟨a, b, c, h1, h2⟩ := h
  exact ⟨a, b, c, e p _ h1, h2⟩
theorem Po.mono {p : Addr} {n m : Nat} {H : Hp} (h : Po p n H) (e : n ≤ m) : Po p m H := by
  obtain ⟨a, b, c, h1, h2, h3, h4⟩ := h
  exact ⟨a, b, c, h1, h2, h3, by omega⟩
theorem pow3_ok {i : Int} (h : i.natAbs < 2 ^ 250) : CPowX i 3 := by
  have := PyProof.Rows.intBits_le h
  unfold CPowX
  omega
theorem divw_ok {i j : Int} (h : 0 < j) (hb : j < 2 ^ 200) : CDivW i j := wide_div (b := 200) h (by omega) (by decide) (by decide)
theorem mulk_ok {i j : Int} (h : i.natAbs < 2 ^ 100000) (hb : j.natAbs < 2 ^ 100000) : CMulX i j := mulx_ok h hb (by decide)
def sp_law_pouch (K : PySem.W.Frag) : Sp := fun vs H Q _ => ∃ (s : Addr) (ns : List Int) (i : Nat), vs = [.ref s, .int (i : Int)] ∧ SqL K H s (ns.map V.int) ∧ i ≤ 100 ∧ ∀ p H', H p = none → Ex H H' → Po p 0 H' → Q (.ref p) H'
def sp_law_dip : Sp := fun vs H Q _ => ∃ (p : Addr) (n : Nat) (w : Int), vs = [.ref p, .int w] ∧ Po p n H ∧ n < 1000000000 ∧ 0 < w ∧ w < 2 ^ 200 ∧
  ∀ r H', 0 ≤ r → r < w → Po p (n + 1) H' → Ex (Hm p H) H' → Q (.int r) H'
section
variable {P : Program} {w : World} {K : PySem.W.Frag} {mg : Str → Option Value} {base : Heap}
theorem ok_law_dip (T : Tx K mg) : FnOk P w K mg base CX0 1 T.f_law_dip T.d_law_dip ["pouch", "wide"] sp_law_dip := by
  refine T.F_law_dip.ok sc_law_dip (fun vs H Q E h => ?_) (fun cdv A outer s H vs Q E hr h => ?_)
  · obtain ⟨p, n, w, rfl, _⟩ := h
    rfl
  · obtain ⟨p, n, w, rfl, ⟨a, b, c, hp, ⟨hb0, hb1⟩, hc0, hc1⟩, hn, hw0, hw1, k⟩ := h
    refine ⟨_, (pss_cons (ps_if (pt_cmpR op_gt (pe_ix ix_list (pv 0) pe_int (fun _ _ => rfl)) pe_int (nomark _)) (pss_cons (ps_set (i := 2) sc_law_dip.nd rfl (Or.inl rfl) (pe_op op_mod (pe_callTy call_intI (by rfl) T.m_int (by decide +kernel) (pa_cons (pe_ix ix_list (pv 0) pe_int (fun _ _ => rfl)) pa_nil)) (pv 1)))
      (pss_cons (ps_asg (pe_op op_fdivW (pe_ix ix_list (pv 0) pe_int (fun _ _ => rfl)) (pv 1)) (pg_sub (pv 0) pe_int set_list))
      (pss_one (ps_ret (pv 2))))) pss_nil)
      (pss_cons (ps_asg (pe_op op_add (pe_ix ix_list (pv 0) pe_int (fun _ _ => rfl)) pe_int) (pg_sub (pv 0) pe_int set_list))
      (pss_cons (ps_set (i := 3) sc_law_dip.nd rfl (Or.inl rfl) (pe_op op_mod (pe_op op_powX (pe_callTy call_intI (by rfl) T.m_int (by decide +kernel) (pa_cons (pe_op op_add (pe_ix ix_list (pv 0) pe_int (fun _ _ => rfl)) (pe_op op_mulX pe_int (pe_ix ix_list (pv 0) pe_int (fun _ _ => rfl)))) pa_nil)) pe_int) (pe_op op_add (pe_op op_powX pe_int pe_int) pe_int)))
      (pss_cons (ps_set (i := 3) sc_law_dip.nd rfl (Or.inl rfl) (pe_op op_mod (pe_op op_powX (pe_callTy call_intI (by rfl) T.m_int (by decide +kernel) (pa_cons (pe_op op_add (pv 3) (pe_op op_mulX pe_int (pe_ix ix_list (pv 0) pe_int (fun _ _ => rfl)))) pa_nil)) pe_int) (pe_op op_add (pe_op op_powX pe_int pe_int) pe_int)))
      (pss_one (ps_ret (pe_op op_mod (pe_callTy call_intI (by rfl) T.m_int (by decide +kernel) (pa_cons (pe_op op_fdivW (pv 3) pe_int) pa_nil)) (pv 1)))))))), ?_⟩
    have hp0 : Hm p H p = none := hm_p
    refine q_when (by walk_at "et") (fun hb H1 e1 => ?_) (fun hb H1 e1 => ?_)
    · have hp1 := e1 p _ hp
      refine q_asg (by walk_at "ev") fun H2 e2 => ?_
      have hp2 := e2 p _ hp1
      have hd : CDivW a w := divw_ok hw0 hw1
      refine q_setL (j := 0) hp2 (by walk_at "ev") (by walk_at "ev") ev_c (by show 0 < 3; decide) fun H3 e3 => ?_
      refine s_ret (by walk_at "ev") fun H4 e4 => ?_
      refine k _ _ (Int.emod_nonneg _ (by omega)) (Int.emod_lt_of_pos _ hw0) ⟨a / w, b, c, e4 p _ upd_same, ⟨hb0, hb1⟩, hc0, by omega⟩ ?_
      exact Ex.trans (Ex.mut (hm_sub.trans (e1.trans (e2.trans e3))) hp0) e4
    · have hp1 := e1 p _ hp
      refine q_setL (j := 2) hp1 (by walk_at "ev") (by walk_at "ev") ev_c (by show 2 < 3; decide) fun H2 e2 => ?_
      have hp2 : ∀ H3, Ex (upd H2 p (.lst ([V.int a, .int b, .int c].set 2 (.int (c + 1))))) H3 → H3 p = some (.lst [.int a, .int b, .int (c + 1)]) := fun H3 e => e p _ upd_same
      have hq := hp2 _ (Ex.refl _)
      have hm1 : CMulX 870022201 (c + 1) := mulx_ok (a := 64) (b := 64) (by decide) (by omega) (by decide)
      have hw1' : CPowX (b + 870022201 * (c + 1)) 3 := pow3_ok (by omega)
      have hw2 : CPowX 10 41 := ⟨by decide, by decide +kernel⟩
      refine q_asg (by walk_at "ev") fun H3 e3 => ?_
      have hq3 := hp2 _ e3
      have hm2 : CMulX 334214467 (c + 1) := mulx_ok (a := 64) (b := 64) (by decide) (by omega) (by decide)
      generalize hz : (b + 870022201 * (c + 1)) ^ (3 : Int).toNat % ((10 : Int) ^ (41 : Int).toNat + 37) = z
      have hz0 : 0 ≤ z := by
        rw [← hz]
        exact Int.emod_nonneg _ (by decide)
      have hz1 : z < (10 : Int) ^ (41 : Int).toNat + 37 := by
        rw [← hz]
        exact Int.emod_lt_of_pos _ (by decide)
      have hz2 : z < 2 ^ 200 := Int.lt_trans hz1 (by decide)
      have hw3 : CPowX (z + 334214467 * (c + 1)) 3 := pow3_ok (by omega)
      have hw4 : CPowX 10 39 := ⟨by decide, by decide +kernel⟩
      refine q_asg (by walk_at "ev") fun H4 e4 => ?_
      generalize (z + 334214467 * (c + 1)) ^ (3 : Int).toNat % ((10 : Int) ^ (39 : Int).toNat + 3) = y
      have hd : CDivW y 1048583 := divw_ok (by decide) (by decide)
      refine s_ret (by walk_at "ev") fun H5 e5 => ?_
      refine k _ _ (Int.emod_nonneg _ (by omega)) (Int.emod_lt_of_pos _ hw0) ⟨a, b, c + 1, hp2 _ (e3.trans (e4.trans e5)), ⟨hb0, hb1⟩, by omega, by omega⟩ ?_
      exact Ex.trans (Ex.mut (hm_sub.trans (e1.trans e2)) hp0) (e3.trans (e4.trans e5))
theorem ok_law_pouch (T : Tx K mg) : FnOk P w K mg base CX0 1 T.f_law_pouch T.d_law_pouch ["script", "at"] (sp_law_pouch K) := by
  refine T.F_law_pouch.ok sc_law_pouch (fun vs H Q E h => ?_) (fun cdv A outer s H vs Q E hr h => ?_)
  · obtain ⟨a, ns, i, rfl, _⟩ := h
    rfl
  · obtain ⟨a, ns, i, rfl, hs, hi, k⟩ := h
    refine ⟨_, (pss_cons (ps_set (i := 2) sc_law_pouch.nd rfl (Or.inl rfl) (pe_ifExp (pt_cmpR op_lt (pv 1) (pe_callB call_lenR (by rfl) T.m_len (by decide +kernel) (pa_cons (pv 0) pa_nil)) (nomark _)) (pe_ix ix_list (pv 0) (pv 1) (fun _ _ => rfl)) pe_int))
      (pss_one (ps_ret (pe_lst (pa_cons (pe_callB (call_maxR rfl) (by rfl) T.m_max (by decide +kernel) (pa_cons pe_int (pa_cons (pe_op op_sub (pe_callB call_absR (by rfl) T.m_abs (by decide +kernel) (pa_cons (pv 2) pa_nil)) (pe_op op_powX pe_int pe_int)) pa_nil))) (pa_cons (pe_op op_add (pe_op op_add (pe_op op_mulX (pe_op op_mod (pe_callTy call_intI (by rfl) T.m_int (by decide +kernel) (pa_cons (pv 2) pa_nil)) (pe_op op_add (pe_op op_powX pe_int pe_int) pe_int)) pe_int) (pe_op op_mulX pe_int (pv 1))) pe_int) (pa_cons pe_int pa_nil))))))), ?_⟩
    have hlen : (ns.map V.int).length = ns.length := List.length_map ..
    refine q_asg (v := .int (ns.getD i 0)) ?_ fun H1 e1 => ?_
    · refine ev_if (b := decide ((i : Int) < ((ns.map V.int).length : Int))) (by walk_at "et") (fun hb => ?_) (fun hb => ?_)
      · have hb := of_decide_eq_true hb
        rw [hlen] at hb
        have hlt : i < ns.length := by omega
        refine ev_op (ev_var rfl) (ev_var rfl) (rv_ixL hs (atI_nat (j := i) ?_))
        rw [List.getElem?_map, List.getElem?_eq_getElem hlt]
        simp [List.getD_eq_getElem?_getD, hlt]
      · have hb := of_decide_eq_false hb
        rw [hlen] at hb
        have e0 : ns.getD i 0 = 0 := by
          rw [List.getD_eq_getElem?_getD, List.getElem?_eq_none (by omega)]
          rfl
        rw [e0]
        exact ev_c
    · generalize ns.getD i 0 = z
      have hw1 : CPowX 10 18 := ⟨by decide, by decide +kernel⟩
      have hw2 : CPowX 10 38 := ⟨by decide, by decide +kernel⟩
      have hy0 : 0 ≤ z % ((10 : Int) ^ (38 : Int).toNat + 133) := Int.emod_nonneg _ (by decide)
      have hy1 : z % ((10 : Int) ^ (38 : Int).toNat + 133) < (10 : Int) ^ (38 : Int).toNat + 133 := Int.emod_lt_of_pos _ (by decide)
      have hy2 : z % ((10 : Int) ^ (38 : Int).toNat + 133) < 2 ^ 150 := Int.lt_trans hy1 (by decide)
      have hpos : 0 < (10 : Int) ^ (38 : Int).toNat + 133 := by decide
      have hm1 : CMulX (z % ((10 : Int) ^ (38 : Int).toNat + 133)) 107 := mulx_ok (a := 150) (b := 64) (by omega) (by decide) (by decide)
      have hm2 : CMulX 71 (i : Int) := mulx_ok (a := 64) (b := 64) (by decide) (by omega) (by decide)
      refine s_retL (el_lst (ea_cons (by walk_at "ev") (ea_cons (by walk_at "ev") (ea_cons ev_c ea_nil))) (Nat.le_of_ble_eq_true rfl)) fun p H2 hp e2 hl => ?_
      refine k p H2 (fresh_back e1 hp) (e1.trans e2) ⟨_, _, _, hl, ⟨?_, ?_⟩, by omega, by omega⟩
      · generalize z % ((10 : Int) ^ (38 : Int).toNat + 133) = y at hy0 hy2 ⊢
        omega
      · generalize z % ((10 : Int) ^ (38 : Int).toNat + 133) = y at hy0 hy2 ⊢
        omega
end

/-! ### expressions that draw -/
theorem hm_trans {p : Addr} {H H1 H2 : Hp} (a : Ex (Hm p H) H1) (b : Ex (Hm p H1) H2) : Ex (Hm p H) H2 := fun x o h => by
  have ne : x ≠ p := fun z => by
    subst z
    rw [hm_p] at h
    cases h
  have h1 := a x o h
  refine b x o ?_
  unfold Hm
  rw [if_neg ne]
  exact h1
theorem hm_next {p : Addr} {H0 H H1 : Hp} (h0 : H0 p = none) (e : Ex H0 H) (s : Ex (Hm p H) H1) : Ex H0 H1 := (ex_hm e h0).trans s
theorem hm_of {p : Addr} {H H1 : Hp} (e : Ex H H1) : Ex (Hm p H) H1 := hm_sub.trans e
theorem hm_at {p a : Addr} {H H1 : Hp} {o : HO} (s : Ex (Hm p H) H1) (ne : a ≠ p) (h : H a = some o) : H1 a = some o := s a o (by
  unfold Hm
  rw [if_neg ne]
  exact h)
theorem Po.ne {p l : Addr} {n : Nat} {H : Hp} (h : Po p n H) (hl : H l = none) : l ≠ p := fun z => by
  subst z
  obtain ⟨_, _, _, h1, _⟩ := h
  rw [hl] at h1
  cases h1
def EvP (p : Addr) (k : Nat) (te : TE) (σ : L2.St) (H0 : Hp) (R : V → Hp → Prop) : Prop := ∀ n H1, Ex H0 H1 → Po p n H1 → n + k ≤ 1000000000 →
  ∀ Q : VK, (∀ v H2, R v H2 → Po p (n + k) H2 → Ex (Hm p H1) H2 → Q v H2) → te σ H1 Q
def Stb (p : Addr) (R : V → Hp → Prop) : Prop := ∀ v H H', R v H → Ex (Hm p H) H' → R v H'
section
variable {K : PySem.W.Frag} {σ : L2.St} {H0 H : Hp} {p : Addr} {k k1 k2 : Nat} {te ta tb : TE} {R Ra Rb : V → Hp → Prop}
theorem ep_ev {v : V} (h : Ev te σ H0 v) : EvP p 0 te σ H0 (fun x _ => x = v) := fun n H1 e hp _ Q q => h H1 e Q fun H2 e2 => q v H2 rfl (hp.ex e2) (hm_of e2)
theorem ep_L {xs : List V} (h : EvL te σ H0 xs) : EvP p 0 te σ H0 (fun x H => ∃ l, l ≠ p ∧ x = .ref l ∧ H l = some (.lst xs)) := fun n H1 e hp _ Q q => h H1 e Q fun l H2 hl e2 h2 => q _ H2 ⟨l, hp.ne hl, rfl, h2⟩ (hp.ex e2) (hm_of e2)
theorem stb_L {xs : List V} : Stb p (fun x H => ∃ l, l ≠ p ∧ x = .ref l ∧ H l = some (.lst xs)) := fun v H H' ⟨l, ne, e, h⟩ s => ⟨l, ne, e, hm_at s ne h⟩
theorem stb_c {C : V → Prop} : Stb p (fun x _ => C x) := fun _ _ _ h _ => h
theorem ep_op {r : R2} (h0 : H0 p = none) (ha : EvP p k1 ta σ H0 Ra) (hb : EvP p k2 tb σ H0 Rb) (s1 : Stb p Ra) (s : Stb p R) (hr : ∀ x y H, Ra x H → Rb y H → ∃ z, R z H ∧ RV r x y H z) : EvP p (k1 + k2) (tOp r ta tb) σ H0 R :=
  fun n H1 e hp hn Q q => ha n H1 e hp (by omega) _ fun x H2 hx p2 e2 => hb (n + k1) H2 (hm_next h0 e e2) p2 (by omega) _ fun y H3 hy p3 e3 => by
    obtain ⟨z, hz, hv⟩ := hr x y H3 (s1 x H2 H3 hx e3) hy
    refine hv H3 (Ex.refl H3) Q fun H4 e4 => q z H4 (s z H3 H4 hz (hm_of e4)) ?_ (hm_trans (hm_trans e2 e3) (hm_of e4))
    rw [← Nat.add_assoc]
    exact p3.ex e4
theorem ep_dip {tw : TE} {E : XK} {C : Int → Prop} (h0 : H0 p = none) (hp : Ev ta σ H0 (.ref p)) (hw : EvP p k tw σ H0 (fun v _ => ∃ w, v = .int w ∧ 0 < w ∧ w < 2 ^ 200 ∧ C w)) :
    EvP p (k + 1) (tCall sp_law_dip [] E (tCons ta (tCons tw tNil))) σ H0 (fun v _ => ∃ r w, v = .int r ∧ 0 ≤ r ∧ r < w ∧ C w) :=
  fun n H1 e hpo hn Q q => hp H1 e _ fun H2 e2 => hw n H2 (e.trans e2) (hpo.ex e2) (by omega) _ fun y H3 hy p3 e3 => by
    obtain ⟨w, rfl, w0, w1, c⟩ := hy
    exact ⟨p, n + k, w, rfl, p3, by omega, w0, w1, fun r H' r0 r1 p4 e4 => q _ H' ⟨r, w, rfl, r0, r1, c⟩ p4 (hm_trans (hm_trans (hm_of e2) e3) e4)⟩
theorem ep_is {R' : V → Hp → Prop} (h : EvP p k te σ H0 R) (e : ∀ v H, R v H → R' v H) : EvP p k te σ H0 R' := fun n H1 a b c Q q => h n H1 a b c Q fun v H2 hv => q v H2 (e v H2 hv)
/-- the width is a pure int -/
theorem ep_dipI {tw : TE} {E : XK} {w : Int} (h0 : H0 p = none) (hp : Ev ta σ H0 (.ref p)) (hw : Ev tw σ H0 (.int w)) (w0 : 0 < w) (w1 : w < 2 ^ 200) :
    EvP p 1 (tCall sp_law_dip [] E (tCons ta (tCons tw tNil))) σ H0 (fun v _ => ∃ r, v = .int r ∧ 0 ≤ r ∧ r < w) :=
  ep_is (ep_dip (k := 0) (C := fun z => z = w) h0 hp (ep_is (ep_ev hw) fun v H e => ⟨w, e, w0, w1, rfl⟩)) fun v H ⟨r, z, e, r0, r1, e2⟩ => ⟨r, e, r0, e2 ▸ r1⟩
/-- a + b, b drawn -/
theorem ep_add {a : Int} {C : Int → Prop} (h0 : H0 p = none) (ha : Ev ta σ H0 (.int a)) (hb : EvP p k tb σ H0 (fun v _ => ∃ r, v = .int r ∧ C r)) : EvP p (0 + k) (tOp (rI0 fun i j => .int (i + j)) ta tb) σ H0 (fun v _ => ∃ r, v = .int (a + r) ∧ C r) :=
  ep_op h0 (ep_ev ha) hb stb_c stb_c fun x y H e ⟨r, e2, c⟩ => ⟨.int (a + r), ⟨r, rfl, c⟩, by
    subst e
    subst e2
    exact rv_I0⟩
theorem p_asg {i n : Nat} {D : Ends} (h : EvP p k te σ H0 R) (e : Ex H0 H) (hp : Po p n H) (hn : n + k ≤ 1000000000) (q : ∀ v H2, R v H2 → Po p (n + k) H2 → Ex (Hm p H) H2 → D.nx (σ.set i (some v)) H2) : tAsg te (gName i) D σ H := h n H e hp hn _ q
theorem pq_asg {i n : Nat} {D : Ends} {tz : TS} (h : EvP p k te σ H0 R) (e : Ex H0 H) (hp : Po p n H) (hn : n + k ≤ 1000000000) (q : ∀ v H2, R v H2 → Po p (n + k) H2 → Ex (Hm p H) H2 → tz D (σ.set i (some v)) H2) : tSeq (tAsg te (gName i)) tz D σ H := h n H e hp hn _ q
/-- tests that draw -/
def EtP (p : Addr) (k : Nat) (t : TT) (σ : L2.St) (H0 : Hp) (b : Bool) : Prop := ∀ n H1, Ex H0 H1 → Po p n H1 → n + k ≤ 1000000000 →
  ∀ Q : Bool → Hp → Prop, (∀ H2, Po p (n + k) H2 → Ex (Hm p H1) H2 → Q b H2) → t σ H1 Q
variable {t u : TT} {b c : Bool}
theorem tp_B (h : EvP p k te σ H0 (fun v _ => v = .bl b)) : EtP p k (tB te) σ H0 b := fun n H1 e hp hn Q q => h n H1 e hp hn _ fun v H2 hv p2 e2 => ⟨b, hv, q H2 p2 e2⟩
theorem tp_not (h : EtP p k t σ H0 b) : EtP p k (tNot t) σ H0 (!b) := fun n H1 e hp hn Q q => h n H1 e hp hn _ fun H2 p2 e2 => q H2 p2 e2
theorem tp_is (h : EtP p k t σ H0 b) (e : b = c) : EtP p k t σ H0 c := e ▸ h
theorem tp_or (h0 : H0 p = none) (h : EtP p k1 t σ H0 false) (h' : EtP p k2 u σ H0 b) : EtP p (k1 + k2) (tOr t u) σ H0 b := fun n H1 e hp hn Q q => h n H1 e hp (by omega) _ fun H2 p2 e2 => by
  show u σ H2 Q
  refine h' (n + k1) H2 (hm_next h0 e e2) p2 (by omega) Q fun H3 p3 e3 => q H3 ?_ (hm_trans e2 e3)
  rw [← Nat.add_assoc]
  exact p3
theorem tp_et (h : EvT t σ H0 b) : EtP p 0 t σ H0 b := fun n H1 e hp _ Q q => h H1 e Q fun H2 e2 => q H2 (hp.ex e2) (hm_of e2)
/-- a test that is false: what follows -/
theorem pq_no {n : Nat} {D : Ends} {tu tz : TS} (h : EtP p k t σ H0 false) (e : Ex H0 H) (hp : Po p n H) (hn : n + k ≤ 1000000000) (q : ∀ H2, Po p (n + k) H2 → Ex (Hm p H) H2 → tz D σ H2) : tSeq (tIfS t tu tNext) tz D σ H := h n H e hp hn _ q
theorem ps_no {n : Nat} {D : Ends} {tu : TS} (h : EtP p k t σ H0 false) (e : Ex H0 H) (hp : Po p n H) (hn : n + k ≤ 1000000000) (q : ∀ H2, Po p (n + k) H2 → Ex (Hm p H) H2 → D.nx σ H2) : tIfS t tu tNext D σ H := h n H e hp hn _ q
/-- pouch = _law_pouch(script, at) -/
theorem pq_pouch {ta : TA} {E : XK} {D : Ends} {tz : TS} {j i : Nat} {s : Addr} {ns : List Int} (h : EvA ta σ H [.ref s, .int (i : Int)]) (hs : SqL K H s (ns.map V.int)) (hi : i ≤ 100) (q : ∀ p H2, H p = none → Ex H H2 → Po p 0 H2 → tz D (σ.set j (some (.ref p))) H2) :
    tSeq (tAsg (tCall (sp_law_pouch K) [] E ta) (gName j)) tz D σ H := h H (Ex.refl H) _ fun H1 e1 => ⟨s, ns, i, rfl, ex_l e1 hs, hi, fun p H2 hp e2 hpo => q p H2 (fresh_back e1 hp) (e1.trans e2) hpo⟩
end

/-! ### lists of guests -/
def iz (xs : List Nat) : List Int := xs.map fun x : Nat => (x : Int)
def nv (xs : List Nat) : List V := (iz xs).map V.int
theorem nv_len (xs : List Nat) : (nv xs).length = xs.length := by simp [nv, iz]
theorem nv_get {xs : List Nat} {i x : Nat} (h : xs[i]? = some x) : (nv xs)[i]? = some (.int x) := by simp [nv, iz, h]
theorem nv_app (xs ys : List Nat) : nv (xs ++ ys) = nv xs ++ nv ys := by simp [nv, iz]
theorem nv_eq (xs : List Nat) : nv xs = xs.map fun x : Nat => V.int (x : Int) := by simp [nv, iz]
def Ord (h : List Nat) : Prop := h.Perm (List.range h.length) ∧ 1 ≤ h.length ∧ h.length ≤ 20
theorem el_mapI {K : PySem.W.Frag} {σ : L2.St} {H : Hp} {te tl : TE} {a : Addr} {xs : List V} {j : Nat} {vs : List Nat} (f : Nat → V) (h : Ev tl σ H (.ref a)) (hx : SqL K H a xs) (hz : xs.length ≤ 40000) (hw : ∀ x, wipe ((wipe σ vs).set j (some x)) vs = wipe σ vs)
    (he : ∀ (i : Nat) (x : V) H1, Ex H H1 → xs[i]? = some x → Ev te ((wipe σ vs).set j (some x)) H1 (f i)) : EvL (tLc (iList K tl) (gName j) tYes te vs) σ H ((List.range xs.length).map f) := by
  have e : (List.range xs.length).map f = given xs.length (fun _ => true) f := by
    unfold given
    rw [List.filter_eq_self.mpr (fun _ _ => rfl)]
  rw [e]
  exact el_lcL _ _ h hx hz hw (fun _ _ _ _ _ => et_yes) fun i x H1 e hi _ => he i x H1 e hi
def sp_is_whole (K : PySem.W.Frag) : Sp := fun vs H Q _ => ∃ (v : V) (d : PyData), vs = [v] ∧ It K H v d ∧ RetV (.bl (isI d)) H Q
theorem sv_whole {K : PySem.W.Frag} {H : Hp} {x : Int} : SpV (sp_is_whole K) ([.int x] ++ []) H (.bl true) := fun H1 _ Q q E => ⟨.int x, .int x, rfl, .int x, q⟩
theorem sv_wholeD {K : PySem.W.Frag} {H : Hp} {v : V} {d : PyData} (h : It K H v d) : SpV (sp_is_whole K) ([v] ++ []) H (.bl (isI d)) := fun H1 e Q q E => ⟨v, d, rfl, h.ex e, q⟩
local macro_rules | `(tactic| walk_at "call") => `(tactic| (with_reducible exact sv_whole))
def sp_ord (v : V) : Sp := fun vs H Q _ => ∃ (a : Addr) (h : List Nat), vs = [.ref a] ∧ H a = some (.lst (nv h)) ∧ Ord h ∧ RetV v H Q
theorem sv_ord {H : Hp} {v : V} {a : Addr} {h : List Nat} (ha : H a = some (.lst (nv h))) (o : Ord h) : SpV (sp_ord v) ([.ref a] ++ []) H v := fun H1 e Q q E => ⟨a, h, rfl, e a _ ha, o, q⟩
section
variable {P : Program} {w : World} {K : PySem.W.Frag} {mg : Str → Option Value} {base : Heap}
theorem ok_is_whole (T : Tx K mg) : FnOk P w K mg base CX0 1 T.f_is_whole T.d_is_whole ["thing"] (sp_is_whole K) := by
  refine T.F_is_whole.ok sc_is_whole (fun vs H Q E h => ?_) (fun cdv A outer s H vs Q E hr h => ?_)
  · obtain ⟨v, d, rfl, _⟩ := h
    rfl
  · obtain ⟨v, d, rfl, hv, k⟩ := h
    refine ⟨_, (pss_one (ps_ret (pe_cmpR op_eqTy (pe_typeOf (by rfl) T.m_type (pv 0)) (pe_bltn (v := .ty "int") (by rfl) T.m_int (by decide +kernel) rfl) (nomark _)))), ?_⟩
    exact s_ret (ev_isWhole (ev_var rfl) hv) fun H1 e1 => k _ e1
theorem range_iz (n : Nat) : rgV 0 (n : Int) = nv (List.range n) := by
  rw [nv_eq]
  unfold rgV
  simp
/-- the ints of data -/
def intsOf (ds : List PyData) : List Int := ds.map fun
  | .int i => i
  | _ => 0
def sortI (ns : List Int) : List Int := ns.mergeSort fun a b => decide (a ≤ b)
theorem sortI_perm (ns : List Int) : (sortI ns).Perm ns := List.mergeSort_perm ns _
theorem sortI_sorted (ns : List Int) : (sortI ns).Pairwise (· ≤ ·) := by
  have := List.pairwise_mergeSort (le := fun a b : Int => decide (a ≤ b)) (fun a b c h1 h2 => by
    have h1 := of_decide_eq_true h1
    have h2 := of_decide_eq_true h2
    exact decide_eq_true (by omega)) (fun a b => by
    rw [Bool.or_eq_true, decide_eq_true_iff, decide_eq_true_iff]
    omega) ns
  exact this.imp fun h => of_decide_eq_true h
theorem ints_of {K : PySem.W.Frag} {H : Hp} : ∀ {xs : List V} {ds : List PyData}, ItAll K H xs ds → ds.all isI = true → xs = (intsOf ds).map V.int
  | _, _, .nil, _ => rfl
  | _, _, .cons h t, ha => by
    rw [List.all_cons, Bool.and_eq_true] at ha
    have := ints_of t ha.2
    cases h with
    | int i =>
      rw [this]
      rfl
    | non => exact Bool.noConfusion ha.1
    | bl b => exact Bool.noConfusion ha.1
    | str x => exact Bool.noConfusion ha.1
    | lst _ _ => exact Bool.noConfusion ha.1
theorem ita_get {K : PySem.W.Frag} {H : Hp} : ∀ {xs : List V} {ds : List PyData} {i : Nat} {x : V}, ItAll K H xs ds → xs[i]? = some x → ∃ d, ds[i]? = some d ∧ It K H x d
  | _, _, 0, x, .cons h t, e => ⟨_, rfl, (Option.some.inj (show some _ = some x from e)) ▸ h⟩
  | _, _, i + 1, x, .cons h t, e => ita_get (i := i) t e
  | _, _, 0, x, .nil, e => by simp at e
  | _, _, i + 1, x, .nil, e => by simp at e
def lenOk (n : Nat) : Bool := decide ((1 : Int) ≤ (n : Int)) && decide ((n : Int) ≤ 20)
def sorts (ds : List PyData) : Bool := PyData.eqv (.list ((sortI (intsOf ds)).map PyData.int)) (.list ((iz (List.range ds.length)).map PyData.int))
/-- whether a thing is a list with 0, 1, .. once each -/
def judge : Option (List PyData) → Bool
  | none => false
  | some ds => lenOk ds.length && (ds.all isI && sorts ds)
def sp_any (K : PySem.W.Frag) : Sp := fun vs H Q _ => ∃ (v : V) (o : Option (List PyData)), vs = [v] ∧ Th K H v o ∧ RetV (.bl (judge o)) H Q
def sp_is_order (K : PySem.W.Frag) : Sp := fun vs H Q E => sp_ord (.bl true) vs H Q E ∨ sp_any K vs H Q E
theorem sv_order {K : PySem.W.Frag} {H : Hp} {a : Addr} {h : List Nat} (ha : H a = some (.lst (nv h))) (o : Ord h) : SpV (sp_is_order K) ([.ref a] ++ []) H (.bl true) := fun H1 e Q q E => .inl (sv_ord ha o H1 e Q q E)
theorem sv_any {K : PySem.W.Frag} {H : Hp} {v : V} {o : Option (List PyData)} (hv : Th K H v o) : SpV (sp_is_order K) ([v] ++ []) H (.bl (judge o)) := fun H1 e Q q E => .inr ⟨v, o, rfl, hv.ex e, q⟩
theorem judge_ord {h : List Nat} (o : Ord h) : judge (some ((iz h).map PyData.int)) = true := by
  have e : intsOf ((iz h).map PyData.int) = iz h := by
    unfold intsOf
    rw [List.map_map]
    exact List.map_id _
  have el : ((iz h).map PyData.int).length = h.length := by simp [iz]
  have s : sortI (iz h) = iz (List.range h.length) := List.Perm.eq_of_pairwise (le := fun a b : Int => a ≤ b) (fun a b _ _ h1 h2 => by omega) (sortI_sorted _) (by
    unfold iz
    rw [List.pairwise_map]
    exact List.Pairwise.imp (fun {a b} h => by omega) List.pairwise_lt_range) ((sortI_perm _).trans (o.1.map (fun x : Nat => (x : Int))))
  unfold judge sorts lenOk
  simp only
  rw [e, el, s, eqv_same (shaped_ints _)]
  have hl := o.2
  have : ((iz h).map PyData.int).all isI = true := by
    rw [List.all_map, List.all_eq_true]
    intro x _
    rfl
  rw [this]
  simp
  omega
theorem Ord.th {K : PySem.W.Frag} {H : Hp} {a : Addr} {h : List Nat} (ha : H a = some (.lst (nv h))) : Th K H (.ref a) (some ((iz h).map PyData.int)) := .lst ha (ita_ints _) (fine_ints _)
theorem ok_is_order (T : Tx K mg) : FnOk P w K mg base CX0 2 T.f_is_order T.d_is_order ["thing"] (sp_is_order K) := by
  refine FnOk.imp (sp := sp_any K) ?_ (fun vs H Q E h => ?_)
  · refine T.F_is_order.ok sc_is_order (fun vs H Q E h => ?_) (fun cdv A outer s H vs Q E hr h => ?_)
    · obtain ⟨v, o, rfl, _⟩ := h
      rfl
    · obtain ⟨v, o, rfl, hv, k⟩ := h
      refine ⟨_, (pss_cons (ps_if (PW.pt (pw_or (pt_cmpR (op_neTyG (hu_of hr)) (pe_typeOf2 (by rfl) T.m_type (pv 0)) (pe_bltn (v := .ty "list") (by rfl) T.m_list (by decide +kernel) rfl) (nomark _)) (pw_or1 (pt_not (pt_chain op_le op_le pe_int (pe_callB call_lenR (by rfl) T.m_len (by decide +kernel) (pa_cons (pv 0) pa_nil)) (pe_gc (by rfl) T.c_MOST_GUESTS)))))) (pss_one (ps_ret pe_bl)) pss_nil)
      (pss_cons (ps_if (pt_not (pt_val (pe_callB (cr_all rfl) (by rfl) T.m_all (by decide +kernel) (pa_cons (pe_lc (own := [("item", 1)]) (g := (gName 1)) (tt := tYes) rfl sc_is_order.nd (pi_list (pv 0)) (blkOk_by (own := [("item", 1)]) (N := n_is_order) (sc := defScope s_is_order) (by decide +kernel)) (fun _ _ _ _ _ => (pg_name (i := 1) sc_is_order.nd rfl (Or.inl rfl))) (fun _ _ _ _ _ => pts_nil) (fun _ _ _ _ _ => (pe_call (ok_is_whole T) (hr.mono (by decide)) (by rfl) T.g_is_whole T.F_is_whole.kp T.b_is_whole .nil pass0 (pa_cons (pv 1) pa_nil)))) pa_nil)))) (pss_one (ps_ret pe_bl)) pss_nil)
      (pss_one (ps_ret (pe_cmpR (op_eqD hr.units) (pe_callB cr_sorted (by rfl) T.m_sorted (by decide +kernel) (pa_cons (pv 0) pa_nil)) (pe_listRg rfl (by rfl) T.m_list (prg_1 (by rfl) T.m_range (pe_callB call_lenR (by rfl) T.m_len (by decide +kernel) (pa_cons (pv 0) pa_nil)))) (nomark _)))))), ?_⟩
      cases o with
      | none =>
        refine q_when (b := true) (et_is (et_or (b := false) (et_test (ev_noList (ev_var rfl) hv)) fun z => Bool.noConfusion z) rfl) (fun _ H1 e1 => ?_) fun hb => Bool.noConfusion hb
        exact s_ret ev_c fun H2 e2 => k _ (e1.trans e2)
      | some ds =>
        have hv0 := hv
        cases hv with
        | @lst a xs _ ha hd hf =>
          have hl : xs.length = ds.length := hd.len
          refine q_when (b := !lenOk ds.length) (et_is (et_or (et_test (ev_noList (ev_var rfl) hv0)) fun _ => et_not (et_test (ev_chainI ev_c (ev_len (ev_var rfl) (sq_of ha)) ev_c))) (by rw [hl]; rfl)) (fun hb H1 e1 => ?_) fun hb H1 e1 => ?_
          · have hb : lenOk ds.length = false := by simpa using hb
            have ej : judge (some ds) = false := by
              unfold judge
              simp only
              rw [hb]
              rfl
            rw [ej] at k
            exact s_ret ev_c fun H2 e2 => k _ (e1.trans e2)
          · have hb : lenOk ds.length = true := by simpa using hb
            have hn : 1 ≤ ds.length ∧ ds.length ≤ 20 := by
              unfold lenOk at hb
              simp at hb
              omega
            have h1 := e1 a _ ha
            refine q_when (b := !(ds.all isI)) (et_is (et_not (et_B (ev_allN (bs := ds.map isI) ?_))) (by rw [List.all_map]; rfl)) (fun hb2 H2 e2 => ?_) fun hb2 H2 e2 => ?_
            · have g := el_mapI (K := K) (te := tCall (sp_is_whole K) [] E0 (tCons (tVar 1) tNil)) (j := 1) (vs := [1]) (σ := start n_is_order [.ref a]) (H := H1) (fun i => V.bl (isI (ds.getD i .none))) (ev_var (i := 0) rfl) (sq_of h1) (by omega) (fun _ => rfl) fun i x H2 e2 hx => ?_
              · have e : (List.range xs.length).map (fun i => V.bl (isI (ds.getD i .none))) = (ds.map isI).map V.bl := by
                  rw [hl]
                  conv => rhs; rw [range_get ds .none]
                  rw [List.map_map, List.map_map]
                  rfl
                rw [e] at g
                exact g
              · obtain ⟨d, hd1, hd2⟩ := ita_get hd hx
                have gd : ds.getD i .none = d := by rw [List.getD_eq_getElem?_getD, hd1] <;> rfl
                show Ev _ _ _ (V.bl (isI (ds.getD i .none)))
                rw [gd]
                exact ev_call (ea_cons (ev_var rfl) ea_nil) (sv_wholeD (hd2.ex (e1.trans e2)))
            · have hb2 : ds.all isI = false := by simpa using hb2
              have ej : judge (some ds) = false := by
                unfold judge
                simp only
                rw [hb2, Bool.false_and, Bool.and_false]
              rw [ej] at k
              exact s_ret ev_c fun H3 e3 => k _ (e1.trans (e2.trans e3))
            · have hb2 : ds.all isI = true := by simpa using hb2
              have ex := ints_of hd hb2
              have il : (intsOf ds).length = ds.length := by simp [intsOf]
              have h2 := e2 a _ h1
              have sr : EvD K (tCB (rSorted K) (tCons (tVar 0) tNil)) (start n_is_order [.ref a]) H2 (.list ((sortI (intsOf ds)).map PyData.int)) :=
                ed_sorted (ns := intsOf ds) (ev_var rfl) (sq_of (by rw [← ex]; exact h2)) (by omega) (sortI_perm _) (sortI_sorted _)
              have rg : EvD K (tLstRg (tRg1 (tCB (rLenS K) (tCons (tVar 0) tNil)))) (start n_is_order [.ref a]) H2 (.list ((iz (List.range ds.length)).map PyData.int)) :=
                ed_ofL (xs := nv (List.range ds.length)) (by
                  have g := el_rg1 (σ := start n_is_order [.ref a]) (ev_len (K := K) (ta := tVar 0) (ev_var (i := 0) (v := .ref a) rfl) (sq_of h2)) (RgOk.of_le (by decide) (by omega) (by decide) (by omega))
                  rw [hl, range_iz] at g
                  exact g) (dpa_ints _)
              have ej : judge (some ds) = sorts ds := by
                unfold judge
                simp only
                rw [hb, hb2, Bool.true_and, Bool.true_and]
              rw [ej] at k
              exact s_ret (ev_eqD sr rg (shaped_ints _) (shaped_ints _)) fun H3 e3 => k _ (e1.trans (e2.trans e3))
  · rcases h with ⟨a, g, rfl, ha, o, k⟩ | h
    · refine ⟨.ref a, _, rfl, Ord.th ha, ?_⟩
      rw [judge_ord o]
      exact k
    · exact h
local macro_rules | `(tactic| walk_at "call") => `(tactic| ((with_reducible refine' sv_order ?c1 ?c2); (case c1 => assumption); (case c2 => assumption)))
theorem ok_is_seating (T : Tx K mg) : FnOk P w K mg base CX0 3 T.f_is_seating T.d_is_seating ["thing"] (sp_is_order K) := by
  refine T.F_is_seating.ok sc_is_seating (fun vs H Q E h => ?_) (fun cdv A outer s H vs Q E hr h => ?_)
  · rcases h with ⟨a, g, rfl, _⟩ | ⟨v, o, rfl, _⟩
    · rfl
    · rfl
  · rcases h with ⟨a, g, rfl, ha, o, k⟩ | ⟨v, o, rfl, hv, k⟩
    · refine ⟨_, (pss_one (ps_ret (pe_call (ok_is_order T) (hr.mono (by decide)) (by rfl) T.g_is_order T.F_is_order.kp T.b_is_order .nil pass0 (pa_cons (pv 0) pa_nil)))), ?_⟩
      exact s_ret (by walk_at "ev") fun H1 e1 => k _ e1
    · refine ⟨_, (pss_one (ps_ret (pe_call (ok_is_order T) (hr.mono (by decide)) (by rfl) T.g_is_order T.F_is_order.kp T.b_is_order .nil pass0 (pa_cons (pv 0) pa_nil)))), ?_⟩
      exact s_ret (ev_call (ea_cons (ev_var rfl) ea_nil) (sv_any hv)) fun H1 e1 => k _ e1
theorem ok_check_seating (T : Tx K mg) : FnOk P w K mg base CX0 4 T.f_check_seating T.d_check_seating ["seating"] (sp_ord .non) := by
  refine T.F_check_seating.ok sc_check_seating (fun vs H Q E h => ?_) (fun cdv A outer s H vs Q E hr h => ?_)
  · obtain ⟨a, h, rfl, _⟩ := h
    rfl
  · obtain ⟨a, h, rfl, ha, o, k⟩ := h
    refine ⟨_, (pss_one (ps_if (pt_not (pt_val (pe_call (ok_is_seating T) (hr.mono (by decide)) (by rfl) T.g_is_seating T.F_is_seating.kp T.b_is_seating .nil pass0 (pa_cons (pv 0) pa_nil)))) (pss_one ps_never) pss_nil)), ?_⟩
    exact s_when (b := false) (et_is (by walk_at "et") (by rfl)) (fun hb => Bool.noConfusion hb) fun _ H1 e1 => k _ e1
end
local macro_rules | `(tactic| walk_at "call") => `(tactic| (with_reducible exact sv_whole))
local macro_rules | `(tactic| walk_at "call") => `(tactic| ((with_reducible refine' sv_order ?c1 ?c2); (case c1 => assumption); (case c2 => assumption)))
local macro_rules | `(tactic| walk_at "call") => `(tactic| ((with_reducible refine' sv_ord ?c1 ?c2); (case c1 => assumption); (case c2 => assumption)))

local macro_rules | `(tactic| walk_at "call") => `(tactic| (with_reducible exact sv_whole))
local macro_rules | `(tactic| walk_at "call") => `(tactic| ((with_reducible refine' sv_order ?c1 ?c2); (case c1 => assumption); (case c2 => assumption)))
local macro_rules | `(tactic| walk_at "call") => `(tactic| ((with_reducible refine' sv_ord ?c1 ?c2); (case c1 => assumption); (case c2 => assumption)))

/-! ### rings: the mathematics -/
/-- r is a whole table of the seating h, from its first guest on to the left -/
structure Rg (h r : List Nat) : Prop where
  ne : 0 < r.length
  nd : r.Nodup
  st : ∀ i, i < r.length → ∃ x y, r[i]? = some x ∧ r[(i + 1) % r.length]? = some y ∧ h[x]? = some y
def rot (r : List Nat) (k : Nat) : List Nat := r.drop k ++ r.take k
theorem rot_len {r : List Nat} {k : Nat} (hk : k ≤ r.length) : (rot r k).length = r.length := by
  unfold rot
  rw [List.length_append, List.length_drop, List.length_take]
  omega
theorem rot_get {r : List Nat} {k i : Nat} (hk : k < r.length) (hi : i < r.length) : (rot r k)[i]? = r[(i + k) % r.length]? := by
  unfold rot
  by_cases h : i < r.length - k
  · rw [List.getElem?_append_left (by rw [List.length_drop]; exact h), List.getElem?_drop, Nat.mod_eq_of_lt (by omega), Nat.add_comm]
  · rw [List.getElem?_append_right (by rw [List.length_drop]; omega), List.length_drop, List.getElem?_take_of_lt (by omega)]
    have e : (i + k) % r.length = i - (r.length - k) := by
      rw [Nat.mod_eq_sub_mod (by omega), Nat.mod_eq_of_lt (by omega)]
      omega
    rw [e]
theorem rot_perm (r : List Nat) (k : Nat) : (rot r k).Perm r := by
  unfold rot
  exact List.perm_append_comm.trans (List.Perm.of_eq (List.take_append_drop k r))
theorem Rg.rot {h r : List Nat} (R : Rg h r) {k : Nat} (hk : k < r.length) : Rg h (rot r k) := by
  have hl := rot_len (r := r) (k := k) (by omega)
  refine ⟨by have := R.ne; omega, (rot_perm r k).nodup_iff.mpr R.nd, fun i hi => ?_⟩
  rw [hl] at hi ⊢
  obtain ⟨x, y, h1, h2, h3⟩ := R.st ((i + k) % r.length) (Nat.mod_lt _ R.ne)
  refine ⟨x, y, by rw [rot_get hk hi]; exact h1, ?_, h3⟩
  rw [rot_get hk (Nat.mod_lt _ R.ne), ← h2, Nat.mod_add_mod, Nat.mod_add_mod]
  congr 2
  omega
structure Rings (h : List Nat) (rs : List (List Nat)) : Prop where
  rg : ∀ r ∈ rs, Rg h r
  low : ∀ r ∈ rs, ∀ x ∈ r, r.headD 0 ≤ x
  asc : (rs.map (·.headD 0)).Pairwise (· < ·)
  all : rs.flatten.Perm (List.range h.length)
def leads (r : List Nat) : Bool := decide (∀ x ∈ r, r.headD 0 ≤ x)
theorem Rings.turn {h : List Nat} {rs : List (List Nat)} (R : Rings h rs) {g : Nat} (hg : g < h.length) : ∃ w : List Nat, (∃ r ∈ rs, ∃ k, r[k]? = some g ∧ w = rot r k) := by
  have hm : g ∈ rs.flatten := R.all.mem_iff.mpr (List.mem_range.mpr hg)
  obtain ⟨r, hr, hgr⟩ := List.mem_flatten.mp hm
  obtain ⟨k, hk⟩ := List.mem_iff_getElem?.mp hgr
  exact ⟨rot r k, r, hr, k, hk, rfl⟩
theorem Rings.walks {h : List Nat} {rs : List (List Nat)} (R : Rings h rs) : ∃ f : Nat → List Nat, ∀ g, g < h.length → ∃ r ∈ rs, ∃ k, r[k]? = some g ∧ f g = rot r k :=
  ⟨fun g => if hg : g < h.length then Classical.choose (R.turn hg) else [], fun g hg => by
    have := Classical.choose_spec (R.turn hg)
    simp only [dif_pos hg]
    exact this⟩
theorem head_rot {r : List Nat} {k g : Nat} (hk : r[k]? = some g) : (rot r k).headD 0 = g := by
  obtain ⟨hl, e⟩ := List.getElem?_eq_some_iff.mp hk
  unfold rot
  rw [List.drop_eq_getElem_cons hl]
  exact e
theorem leads_rot {r : List Nat} {k g : Nat} (hk : r[k]? = some g) (lo : ∀ x ∈ r, r.headD 0 ≤ x) (ne : 0 < r.length) : leads (rot r k) = decide (g = r.headD 0) := by
  unfold leads
  rw [head_rot hk]
  have hmem : ∀ x, x ∈ rot r k ↔ x ∈ r := fun x => (rot_perm r k).mem_iff
  have h0 : r.headD 0 ∈ r := by
    cases r with
    | nil => simp at ne
    | cons a l => simp
  have hg : g ∈ r := List.mem_of_getElem? hk
  apply decide_eq_decide.mpr
  constructor
  · intro a
    have := a _ ((hmem _).mpr h0)
    have := lo g hg
    omega
  · intro a x hx
    rw [a]
    exact lo x ((hmem x).mp hx)
theorem rot_zero (r : List Nat) : rot r 0 = r := by
  unfold rot
  simp
theorem nodup_flat {rs : List (List Nat)} (h : rs.flatten.Nodup) {r r' : List Nat} {x : Nat} (hr : r ∈ rs) (hr' : r' ∈ rs) (hx : x ∈ r) (hx' : x ∈ r') : r = r' := by
  induction rs with
  | nil => cases hr
  | cons a l ih =>
    rw [List.flatten_cons, List.nodup_append] at h
    obtain ⟨h1, h2, h3⟩ := h
    rcases List.mem_cons.mp hr with e | q
    · rcases List.mem_cons.mp hr' with e' | q'
      · rw [e, e']
      · exact absurd rfl (h3 x (e ▸ hx) x (List.mem_flatten.mpr ⟨r', q', hx'⟩))
    · rcases List.mem_cons.mp hr' with e' | q'
      · exact absurd rfl (h3 x (e' ▸ hx') x (List.mem_flatten.mpr ⟨r, q, hx⟩))
      · exact ih h2 q q'
theorem Rings.nodup {h : List Nat} {rs : List (List Nat)} (R : Rings h rs) : rs.flatten.Nodup := R.all.nodup_iff.mpr List.nodup_range
/-- the walks that begin with their least guest are the rings -/
theorem Rings.lead {h : List Nat} {rs : List (List Nat)} (R : Rings h rs) {f : Nat → List Nat} (hf : ∀ g, g < h.length → ∃ r ∈ rs, ∃ k, r[k]? = some g ∧ f g = rot r k) : ((List.range h.length).map f).filter leads = rs := by
  rw [List.filter_map]
  have hd : ∀ g, g < h.length → leads (f g) = decide (g ∈ rs.map (·.headD 0)) := fun g hg => by
    obtain ⟨r, hr, k, hk, e⟩ := hf g hg
    rw [e, leads_rot hk (R.low r hr) (R.rg r hr).ne]
    apply decide_eq_decide.mpr
    constructor
    · intro a
      exact List.mem_map.mpr ⟨r, hr, a.symm⟩
    · intro a
      obtain ⟨r', hr', e'⟩ := List.mem_map.mp a
      have h0 : g ∈ r' := by
        have := (R.rg r' hr').ne
        cases r' with
        | nil => simp at this
        | cons b l => simp at e'; simp [e']
      have := nodup_flat R.nodup hr hr' (List.mem_of_getElem? hk) h0
      rw [this]
      exact e'.symm
  have hs : (List.range h.length).filter (leads ∘ f) = rs.map (·.headD 0) := by
    have e : (List.range h.length).filter (leads ∘ f) = (List.range h.length).filter (fun g => decide (g ∈ rs.map (·.headD 0))) := List.filter_congr fun g hg => hd g (List.mem_range.mp hg)
    rw [e]
    refine List.Perm.eq_of_pairwise (le := fun a b : Nat => a < b) (fun a b _ _ h1 h2 => by omega) (List.Pairwise.filter _ List.pairwise_lt_range) R.asc ?_
    refine (List.perm_ext_iff_of_nodup (List.Pairwise.filter _ List.nodup_range) (R.asc.imp fun h => Nat.ne_of_lt h)).mpr fun g => ?_
    rw [List.mem_filter]
    constructor
    · intro a
      exact of_decide_eq_true a.2
    · intro a
      refine ⟨?_, decide_eq_true a⟩
      obtain ⟨r', hr', e'⟩ := List.mem_map.mp a
      refine R.all.mem_iff.mp (List.mem_flatten.mpr ⟨r', hr', ?_⟩)
      have := (R.rg r' hr').ne
      cases r' with
      | nil => simp at this
      | cons b l => simp at e'; simp [e']
  rw [hs, List.map_map]
  refine (List.map_congr_left fun r hr => ?_).trans (List.map_id _)
  have ne := (R.rg r hr).ne
  have hm : r.headD 0 < h.length := List.mem_range.mp (R.all.mem_iff.mp (List.mem_flatten.mpr ⟨r, hr, by
    cases r with
    | nil => simp at ne
    | cons b l => simp⟩))
  obtain ⟨r', hr', k, hk, e⟩ := hf (r.headD 0) hm
  have e2 := nodup_flat R.nodup hr' hr (List.mem_of_getElem? hk) (by
    cases r with
    | nil => simp at ne
    | cons b l => simp)
  subst e2
  have k0 : k = 0 := by
    have h0 : r'[0]? = some (r'.headD 0) := by
      cases r' with
      | nil => simp at ne
      | cons b l => simp
    exact nd_ix (R.rg r' hr').nd hk h0
  show f (r'.headD 0) = r'
  rw [e, k0, rot_zero]

/-! ### walk_left, tables_of -/
def sp_walk_left : Sp := fun vs H Q _ => ∃ (a : Addr) (h r : List Nat) (g : Nat), vs = [.ref a, .int g] ∧ H a = some (.lst (nv h)) ∧ Rg h r ∧ r[0]? = some g ∧ r.length ≤ 20 ∧ RetU (nv r) H Q
theorem su_walk {H : Hp} {a : Addr} {h r : List Nat} {g : Nat} (ha : H a = some (.lst (nv h))) (R : Rg h r) (h0 : r[0]? = some g) (hl : r.length ≤ 20) : SpU sp_walk_left ([.ref a, .int (g : Int)] ++ []) H (nv r) := fun H1 e Q q E => ⟨a, h, r, g, rfl, e a _ ha, R, h0, hl, q⟩
theorem take_next {α : Type} {l : List α} {i : Nat} {x : α} (h : l[i]? = some x) : l.take (i + 1) = l.take i ++ [x] := by
  rw [List.take_add_one, h]
  rfl
section
variable {P : Program} {w : World} {K : PySem.W.Frag} {mg : Str → Option Value} {base : Heap}
theorem ok_walk_left (T : Tx K mg) : FnOk P w K mg base CX0 1 T.f_walk_left T.d_walk_left ["lefts", "guest"] sp_walk_left := by
  refine T.F_walk_left.ok sc_walk_left (fun vs H Q E h => ?_) (fun cdv A outer s H vs Q E hr h => ?_)
  · obtain ⟨a, h, r, g, rfl, _⟩ := h
    rfl
  · obtain ⟨a, h, r, g, rfl, ha, R, h0, hl, k⟩ := h
    refine ⟨_, (pss_cons (ps_set (i := 2) sc_walk_left.nd rfl (Or.inl rfl) (pe_lst (pa_cons (pv 1) pa_nil)))
      (pss_cons (ps_while PassesOwn.never (pt_cmpR op_ne (pe_ix ix_list (pv 0) (pe_ix ix_list (pv 2) (pe_un un_neg pe_int) (fun _ _ => rfl)) (fun _ _ => rfl)) (pv 1) (nomark _)) (pss_one (ps_expr (pe_bm PySem.F.plainAttrs_list PySem.F.slot_list_append PySem.F.type_list_append mt_append (pv 2) (pa_cons (pe_ix ix_list (pv 0) (pe_ix ix_list (pv 2) (pe_un un_neg pe_int) (fun _ _ => rfl)) (fun _ _ => rfl)) pa_nil)))))
      (pss_one (ps_ret (pe_callTy call_tupR (by rfl) T.m_tuple (by decide +kernel) (pa_cons (pv 2) pa_nil)))))), ?_⟩
    refine q_asgL (by walk_at "el") fun p H1 hp e1 h1 => ?_
    refine q_while (fun m σ' H' => ∃ i, σ' = [some (.ref a), some (.int g), some (.ref p)] ∧ i < r.length ∧ Ex H H' ∧ H' p = some (.lst (nv (r.take (i + 1)))) ∧ m = r.length - i) r.length ⟨0, rfl, R.ne, e1, ?_, by omega⟩ ?_
    · rw [h1, take_next h0]
      rfl
    · rintro m σ' H' ⟨i, rfl, hi, e, hl', rfl⟩
      obtain ⟨x, y, hx, hy, hxy⟩ := R.st i hi
      have hlast : atI (nv (r.take (i + 1))) (-1) = some (.int (x : Int)) := by
        rw [take_next hx, nv_app]
        exact atI_last _ _
      have hax := e a _ ha
      have evx : ∀ H2, Ex H' H2 → Ev (tOp (rIxL K) (tVar 0) (tOp (rIxL K) (tVar 2) (tUn (rU fun i => .int (-i)) (tC (.int 1))))) [some (.ref a), some (.int g), some (.ref p)] H2 (.int (y : Int)) := fun H2 e2 =>
        ev_op (ev_var rfl) (ev_op (ev_var rfl) (ev_un ev_c ru_neg) (rv_ixL (sq_of (e2 p _ hl')) hlast)) (rv_ixL (sq_of (e2 a _ hax)) (atI_nat (nv_get hxy)))
      refine ⟨decide (i + 1 < r.length), et_is (et_test (ev_op (evx H' (Ex.refl _)) (ev_var rfl) (rv_ne rfl))) ?_, fun hb H2 e2 => ?_, fun hb H2 e2 => ?_⟩
      · rw [dec_int]
        by_cases hn : i + 1 < r.length
        · rw [Nat.mod_eq_of_lt hn] at hy
          have ne : y ≠ g := fun z => by
            subst z
            have := nd_ix R.nd hy h0
            omega
          have : ((y : Int) == (g : Int)) = false := by
            rw [beq_eq_false_iff_ne]
            omega
          rw [this]
          simp [hn]
        · have e0 : i + 1 = r.length := by omega
          rw [e0, Nat.mod_self, h0] at hy
          have : y = g := (Option.some.inj hy).symm
          subst this
          simp [hn]
      · have hn := of_decide_eq_true hb
        rw [Nat.mod_eq_of_lt hn] at hy
        have hl2 := e2 p _ hl'
        refine ⟨fun σ2 H3 => σ2 = [some (.ref a), some (.int g), some (.ref p)] ∧ Ex H H3 ∧ H3 p = some (.lst (nv (r.take (i + 1 + 1)))), fun σ2 H3 ⟨h1, h2, h3⟩ => ⟨r.length - (i + 1), by omega, i + 1, h1, hn, h2, h3, rfl⟩, ?_⟩
        refine s_app hl2 (ev_var rfl) (evx H2 e2) (by rw [nv_len, List.length_take]; omega) fun H3 e3 => ⟨rfl, Ex.mut (e.trans (e2.trans e3)) hp, ?_⟩
        rw [upd_same, take_next hy, nv_app]
        rfl
      · have hn := of_decide_eq_false hb
        have ht : r.take (i + 1) = r := List.take_of_length_le (by omega)
        rw [ht] at hl'
        exact s_retU (eu_tupOf (ev_var rfl) (sq_of (e2 p _ hl'))) fun q H3 hq e3 h3 => k q H3 (fresh_back (e.trans e2) hq) (e.trans (e2.trans e3)) h3
def sp_tables_of : Sp := fun vs H Q _ => ∃ (a : Addr) (h : List Nat) (rs : List (List Nat)), vs = [.ref a] ∧ H a = some (.lst (nv h)) ∧ Ord h ∧ Rings h rs ∧ (∀ p ws H2, H p = none → Ex H H2 → H2 p = some (.lst ws) → TL H2 ws (rs.map nv) → Q (.ref p) H2)
theorem Rings.short {h : List Nat} {rs : List (List Nat)} (R : Rings h rs) {r : List Nat} (hr : r ∈ rs) : r.length ≤ h.length := by
  have := List.Sublist.length_le (List.sublist_flatten_of_mem hr)
  rw [R.all.length_eq, List.length_range] at this
  exact this
theorem lead_val {r : List Nat} (ne : 0 < r.length) : ∃ (x : Nat) (l : List Int), iz r = (x : Int) :: l ∧ r[0]? = some x ∧ decide (V.int (x : Int) = V.int (l.foldl min (x : Int))) = leads r := by
  cases r with
  | nil => simp at ne
  | cons x l =>
    refine ⟨x, iz l, rfl, rfl, ?_⟩
    obtain ⟨h1, h2⟩ := foldl_min_spec (iz l) (x : Int)
    rw [dec_int]
    unfold leads
    rw [Bool.eq_iff_iff]
    simp only [beq_iff_eq, decide_eq_true_eq]
    constructor
    · intro e y hy
      show x ≤ y
      have := h2 (y : Int) (by
        rcases List.mem_cons.mp hy with q | q
        · rw [q]; simp
        · exact List.mem_cons_of_mem _ (List.mem_map.mpr ⟨y, q, rfl⟩))
      omega
    · intro hle
      have a := h2 (x : Int) (by simp)
      have b : ∀ z ∈ (x : Int) :: iz l, (x : Int) ≤ z := fun z hz => by
        rcases List.mem_cons.mp hz with q | q
        · omega
        · obtain ⟨y, hy, rfl⟩ := List.mem_map.mp q
          have : x ≤ y := hle y (by simp [hy])
          omega
      have := b _ h1
      omega
/-- tables_among: of all guests of a seating -/
def sp_tables_among : Sp := fun vs H Q _ => ∃ (a b : Addr) (h : List Nat) (rs : List (List Nat)), vs = [.ref a, .ref b] ∧ H a = some (.lst (nv h)) ∧ H b = some (.lst (nv (List.range h.length))) ∧ Ord h ∧ Rings h rs ∧ (∀ p ws H2, H p = none → Ex H H2 → H2 p = some (.lst ws) → TL H2 ws (rs.map nv) → Q (.ref p) H2)
theorem ok_tables_among (T : Tx K mg) : FnOk P w K mg base CX0 2 T.f_tables_among T.d_tables_among ["lefts", "guests"] sp_tables_among := by
  refine T.F_tables_among.ok sc_tables_among (fun vs H Q E h => ?_) (fun cdv A outer s H vs Q E hr h => ?_)
  · obtain ⟨a, b, h, rs, rfl, _⟩ := h
    rfl
  · obtain ⟨a, b, h, rs, rfl, ha, hb0, o, R, k⟩ := h
    refine ⟨_, (pss_cons (ps_setLc (i := 3) (own := [("guest", 2)]) (g := (gName 2)) (tt := tYes) rfl sc_tables_among.nd rfl rfl (sw_true rfl rfl rfl (by decide +kernel)) (pi_list (pv 1)) (blkOk_by (own := [("guest", 2)]) (N := n_tables_among) (sc := defScope s_tables_among) (by decide +kernel)) (fun _ _ _ _ _ => (pg_name (i := 2) sc_tables_among.nd rfl (Or.inl rfl))) (fun _ _ _ _ _ => pts_nil) (fun _ _ _ _ _ => (pe_call (ok_walk_left T) (hr.mono (by decide)) (by rfl) T.g_walk_left T.F_walk_left.kp T.b_walk_left .nil pass0 (pa_cons (pv 0) (pa_cons (pv 2) pa_nil)))))
      (pss_one (ps_ret (pe_lc (own := [("walk", 4)]) (g := (gName 4)) rfl sc_tables_among.nd (pi_list (pv 3)) (blkOk_by (own := [("walk", 4)]) (N := n_tables_among) (sc := defScope s_tables_among) (by decide +kernel)) (fun _ _ _ _ _ => (pg_name (i := 4) sc_tables_among.nd rfl (Or.inl rfl))) (fun _ _ _ _ _ => (pts_one (pt_cmpR op_eq (pe_ix (r := rIxT K) ix_tup (pv 4) pe_int (fun _ _ => rfl)) (pe_callB (id := "min") (r := rMinT K) (cr_minT rfl (hu_of hr)) (by rfl) T.m_min (by decide +kernel) (pa_cons (pv 4) pa_nil)) (nomark _)))) (fun _ _ _ _ _ => (pv 4)))))), ?_⟩
    obtain ⟨f, hf⟩ := R.walks
    have ho := o.2
    have e1 := Ex.refl H
    have h1 := ha
    refine q_asgLT (rs := (List.range h.length).map fun g => nv (f g)) ?_ fun p ws H2 hp e2 h2 ht => ?_
    · have g := elt_map (K := K) (te := tCall sp_walk_left [] E0 (tCons (tVar 0) (tCons (tVar 2) tNil))) (tl := tVar 1) (σ := [some (.ref a), some (.ref b), none, none, none]) (H := H) (j := 2) (vs := [2]) (xs := nv (List.range h.length)) (fun g => nv (f g)) (ev_var rfl) (sq_of hb0) (by rw [nv_len, List.length_range]; omega) (fun _ => rfl) fun i x H2 e2 hi0 => ?_
      · rw [nv_len, List.length_range] at g
        exact g
      · have hi : i < h.length := by
          have := (List.getElem?_eq_some_iff.mp hi0).1
          rw [nv_len, List.length_range] at this
          exact this
        have hx : x = .int (i : Int) := by
          have := nv_get (xs := List.range h.length) (i := i) (x := i) (by rw [List.getElem?_range hi])
          rw [this] at hi0
          exact (Option.some.inj hi0).symm
        subst hx
        obtain ⟨r, hr, kk, hk, e⟩ := hf i (by omega)
        have hkl := (List.getElem?_eq_some_iff.mp hk).1
        have hrs := R.short hr
        refine eu_call (by walk_at "ea") ?_
        have := su_walk (a := a) (g := i) (e2 a _ h1) ((R.rg r hr).rot hkl) (by rw [rot_get hkl (R.rg r hr).ne, Nat.zero_add, Nat.mod_eq_of_lt hkl]; exact hk) (by rw [rot_len (by omega)]; omega)
        rw [← e] at this
        exact this
    · have hlen := ht.len
      simp at hlen
      refine s_retLT (rs := rs.map nv) ?_ fun q vs H3 hq e3 h3 ht3 => k q vs H3 (fresh_back (e1.trans e2) hq) (e1.trans (e2.trans e3)) h3 ht3
      have g := elt_filter (K := K) (σ := [some (.ref a), some (.ref b), none, some (.ref p), none]) (H := H2) (tl := tVar 3) (j := 4) (vs := [4]) (t := tTest (tOp rEq (tOp (rIxT K) (tVar 4) (tC (.int 0))) (tCB (rMinT K) (tCons (tVar 4) tNil)))) (xs := ws) (rs := (List.range h.length).map fun g => nv (f g))
        (fun r => leads (r.map fun v => match v with | .int z => z.toNat | _ => 0)) (ev_var rfl) (sq_of h2) ht (by omega) (fun _ => rfl) (fun _ => rfl) fun b r H3 e3 hr hb => ?_
      · have e : ((List.range h.length).map fun g => nv (f g)).filter (fun r => leads (r.map fun v => match v with | .int z => z.toNat | _ => 0)) = rs.map nv := by
          rw [show ((List.range h.length).map fun g => nv (f g)) = ((List.range h.length).map f).map nv by rw [List.map_map]; rfl, List.filter_map]
          congr 1
          have : ((fun r : List V => leads (r.map fun v => match v with | .int z => z.toNat | _ => 0)) ∘ nv) = leads := by
            funext r
            show leads ((nv r).map _) = leads r
            rw [nv_eq, List.map_map]
            congr 1
            refine (List.map_congr_left fun x _ => ?_).trans (List.map_id _)
            simp
          rw [this]
          exact R.lead hf
        rw [e] at g
        exact g
      · obtain ⟨g, hg, rfl⟩ := List.mem_map.mp hr
        obtain ⟨r, hr, kk, hk, e⟩ := hf g (List.mem_range.mp hg)
        have hkl := (List.getElem?_eq_some_iff.mp hk).1
        have ne : 0 < (f g).length := by rw [e, rot_len (by omega)]; exact (R.rg r hr).ne
        obtain ⟨x, l, i1, i2, i3⟩ := lead_val ne
        have e5 : leads ((nv (f g)).map fun v => match v with | .int z => z.toNat | _ => 0) = leads (f g) := by
          rw [nv_eq, List.map_map]
          congr 1
          refine (List.map_congr_left fun x _ => ?_).trans (List.map_id _)
          simp
        rw [e5, ← i3]
        have hb2 : SqT K H3 b (((x : Int) :: l).map V.int) := st_of (by rw [hb]; unfold nv; rw [i1])
        exact et_test (ev_op (ev_op (ev_var rfl) ev_c (rv_ixT (st_of hb) (atI_nat (j := 0) (nv_get i2)))) (ev_minT (ev_var rfl) hb2) (rv_eq rfl))
theorem elt_among {H : Hp} {a : Addr} {h : List Nat} {rs : List (List Nat)} {σ : L2.St} {ta tb : TE} {E : XK} (h1 : Ev ta σ H (.ref a)) (h2 : EvL tb σ H (nv (List.range h.length))) (ha : H a = some (.lst (nv h))) (o : Ord h) (R : Rings h rs) : EvLT (tCall sp_tables_among [] E (tCons ta (tCons tb tNil))) σ H (rs.map nv) := fun H1 e Q q => h1 H1 e _ fun H2 e2 => h2 H2 (e.trans e2) _ fun b H3 nb e3 hb => ⟨a, b, h, rs, rfl, (e.trans (e2.trans e3)) a _ ha, hb, o, R, fun p ws H4 hp e4 h4 t => q p ws H4 (fresh_back (e2.trans e3) hp) ((e2.trans e3).trans e4) h4 t⟩
theorem ok_tables_of (T : Tx K mg) : FnOk P w K mg base CX0 5 T.f_tables_of T.d_tables_of ["seating"] sp_tables_of := by
  refine T.F_tables_of.ok sc_tables_of (fun vs H Q E h => ?_) (fun cdv A outer s H vs Q E hr h => ?_)
  · obtain ⟨a, h, rs, rfl, _⟩ := h
    rfl
  · obtain ⟨a, h, rs, rfl, ha, o, R, k⟩ := h
    refine ⟨_, (pss_cons (ps_expr (pe_call (ok_check_seating T) (hr.mono (by decide)) (by rfl) T.g_check_seating T.F_check_seating.kp T.b_check_seating .nil pass0 (pa_cons (pv 0) pa_nil)))
      (pss_one (ps_ret (pe_call (ok_tables_among T) (hr.mono (by decide)) (by rfl) T.g_tables_among T.F_tables_among.kp T.b_tables_among .nil pass0 (pa_cons (pv 0) (pa_cons (pe_listRg rfl (by rfl) T.m_list (prg_1 (by rfl) T.m_range (pe_callB call_lenR (by rfl) T.m_len (by decide +kernel) (pa_cons (pv 0) pa_nil)))) pa_nil)))))), ?_⟩
    have ho := o.2
    refine q_drop (by walk_at "ev") fun H1 e1 => ?_
    have h1 := e1 a _ ha
    refine s_retLT (rs := rs.map nv) (elt_among (ev_var rfl) ?_ h1 o R) fun q vs H3 hq e3 h3 ht3 => k q vs H3 (fresh_back e1 hq) (e1.trans e3) h3 ht3
    have g := el_rg1 (σ := start n_tables_of [.ref a]) (ev_len (K := K) (ta := tVar 0) (ev_var (i := 0) (v := .ref a) rfl) (sq_of h1)) (RgOk.of_le (by decide) (by rw [nv_len]; omega) (by decide) (by rw [nv_len]; omega))
    rw [nv_len, range_iz] at g
    exact g
end

local macro_rules | `(tactic| walk_at "call") => `(tactic| (with_reducible exact sv_whole))
local macro_rules | `(tactic| walk_at "call") => `(tactic| ((with_reducible refine' sv_order ?c1 ?c2); (case c1 => assumption); (case c2 => assumption)))
local macro_rules | `(tactic| walk_at "call") => `(tactic| ((with_reducible refine' sv_ord ?c1 ?c2); (case c1 => assumption); (case c2 => assumption)))

/-- a table at b: a list or a tuple -/
def Tb (H : Hp) (v : V) (r : List Nat) : Prop := ∃ b, v = .ref b ∧ (H b = some (.lst (nv r)) ∨ H b = some (.tup (nv r)))
theorem Tb.ex {H H' : Hp} {v : V} {r : List Nat} (e : Ex H H') (h : Tb H v r) : Tb H' v r := by
  obtain ⟨b, rfl, h | h⟩ := h
  · exact ⟨b, rfl, .inl (e b _ h)⟩
  · exact ⟨b, rfl, .inr (e b _ h)⟩
theorem nv_set {c : List Nat} {x y : Nat} : (nv c).set x (.int y) = nv (c.set x y) := by
  rw [nv_eq, nv_eq, List.map_set]
theorem nv_rep (n : Nat) : (List.replicate n [V.int 0]).flatten = nv (List.replicate n 0) := by
  rw [nv_eq, List.map_replicate]
  induction n with
  | zero => rfl
  | succ k ih =>
    rw [List.replicate_succ, List.flatten_cons, ih, List.replicate_succ]
    rfl
theorem nv_inj {a b : List Nat} (h : a = b) : nv a = nv b := by rw [h]
def sp_seating_with : Sp := fun vs H Q _ => ∃ (a : Addr) (ws : List V) (rs : List (List Nat)) (h : List Nat), vs = [.ref a] ∧ H a = some (.lst ws) ∧ Paired (Tb H) ws rs ∧ rs.flatten.Perm (List.range h.length) ∧ (∀ r ∈ rs, Rg h r) ∧ h.length ≤ 20 ∧ RetL (nv h) H Q
theorem paired_get {α β : Type} {F : α → β → Prop} : ∀ {l : List α} {m : List β} {i : Nat} {x : α}, Paired F l m → l[i]? = some x → ∃ y, m[i]? = some y ∧ F x y
  | _, _, 0, x, .cons h t, hx => ⟨_, rfl, (Option.some.inj (by simpa using hx)) ▸ h⟩
  | _, _, i + 1, x, .cons h t, hx => by
    obtain ⟨y, h1, h2⟩ := paired_get (i := i) t (by simpa using hx)
    exact ⟨y, by simpa using h1, h2⟩
  | _, _, 0, x, .nil, hx => by simp at hx
  | _, _, i + 1, x, .nil, hx => by simp at hx
theorem sum_len : ∀ rs : List (List Nat), ((rs.map fun r => (r.length : Int))).sum = (rs.flatten.length : Int)
  | [] => rfl
  | r :: l => by
    rw [List.map_cons, List.sum_cons, sum_len l, List.flatten_cons, List.length_append]
    omega
theorem flat_next {rs : List (List Nat)} {i : Nat} {r : List Nat} (h : rs[i]? = some r) : (rs.take (i + 1)).flatten = (rs.take i).flatten ++ r := by
  rw [take_next h, List.flatten_append]
  simp

/-! ### a list of new lists -/
structure LL (H0 : Hp) (p : Addr) (H : Hp) (bs : List Addr) (rs : List (List Nat)) : Prop where
  self : H p = some (.lst (bs.map V.ref))
  nd : bs.Nodup
  np : p ∉ bs
  fp : H0 p = none
  fr : ∀ b ∈ bs, H0 b = none
  len : bs.length = rs.length
  at_ : ∀ (i : Nat) (b : Addr) (r : List Nat), bs[i]? = some b → rs[i]? = some r → H b = some (.lst (nv r))
theorem LL.ex {H0 H H' : Hp} {p : Addr} {bs : List Addr} {rs : List (List Nat)} (L : LL H0 p H bs rs) (e : Ex H H') : LL H0 p H' bs rs :=
  ⟨e p _ L.self, L.nd, L.np, L.fp, L.fr, L.len, fun i b r h1 h2 => e b _ (L.at_ i b r h1 h2)⟩
theorem LL.get {H0 H : Hp} {p : Addr} {bs : List Addr} {rs : List (List Nat)} (L : LL H0 p H bs rs) {i : Nat} {r : List Nat} (h : rs[i]? = some r) : ∃ b, bs[i]? = some b ∧ H b = some (.lst (nv r)) ∧ b ≠ p ∧ H0 b = none := by
  have hi := (List.getElem?_eq_some_iff.mp h).1
  have hb : bs[i]? = some (bs[i]'(by rw [L.len]; exact hi)) := List.getElem?_eq_getElem _
  refine ⟨_, hb, L.at_ i _ r hb h, fun z => L.np ?_, L.fr _ (List.mem_of_getElem? hb)⟩
  rw [← z]
  exact List.mem_of_getElem? hb
theorem LL.nil {H0 H : Hp} {p : Addr} (h : H p = some (.lst [])) (fp : H0 p = none) : LL H0 p H [] [] :=
  ⟨h, List.nodup_nil, by simp, fp, by simp, rfl, fun i b r h1 => by simp at h1⟩
theorem LL.push {H0 H H' : Hp} {p q : Addr} {bs : List Addr} {rs : List (List Nat)} {r : List Nat} (L : LL H0 p H bs rs) (e0 : Ex H0 H) (e : Ex H H') (hq : H q = none) (h' : H' q = some (.lst (nv r))) : LL H0 p (upd H' p (.lst (bs.map V.ref ++ [.ref q]))) (bs ++ [q]) (rs ++ [r]) := by
  have nq : q ∉ bs := fun hm => by
    obtain ⟨i, hi⟩ := List.mem_iff_getElem?.mp hm
    have hl := (List.getElem?_eq_some_iff.mp hi).1
    have := L.at_ i q _ hi (List.getElem?_eq_getElem (by rw [← L.len]; exact hl))
    rw [hq] at this
    cases this
  have qp : q ≠ p := fun z => by
    have := L.self
    rw [← z, hq] at this
    cases this
  refine ⟨by rw [upd_same]; simp, ?_, ?_, L.fp, ?_, by simp [L.len], ?_⟩
  · exact List.nodup_append.mpr ⟨L.nd, by simp, fun a ha b hb z => nq (by
      rw [List.mem_singleton] at hb
      rw [← hb, ← z]
      exact ha)⟩
  · simp [L.np, Ne.symm qp]
  · intro b hb
    rcases List.mem_append.mp hb with h | h
    · exact L.fr b h
    · rw [List.mem_singleton] at h
      rw [h]
      exact fresh_back e0 hq
  · intro i b s h1 h2
    by_cases hi : i < bs.length
    · rw [List.getElem?_append_left hi] at h1
      rw [List.getElem?_append_left (by rw [← L.len]; exact hi)] at h2
      have hb := L.at_ i b s h1 h2
      rw [upd_ne (fun z => L.np (by rw [← z]; exact List.mem_of_getElem? h1))]
      exact e b _ hb
    · rw [List.getElem?_append_right (by omega)] at h1
      rw [List.getElem?_append_right (by rw [← L.len]; omega)] at h2
      have i0 : i - bs.length = 0 := by
        have := (List.getElem?_eq_some_iff.mp h1).1
        simp at this
        omega
      rw [i0] at h1
      rw [← L.len, i0] at h2
      have b1 : q = b := Option.some.inj h1
      have r1 : r = s := Option.some.inj h2
      rw [← b1, ← r1, upd_ne qp]
      exact h'
theorem LL.put {H0 H : Hp} {p b : Addr} {bs : List Addr} {rs : List (List Nat)} {r : List Nat} {i : Nat} (L : LL H0 p H bs rs) (hb : bs[i]? = some b) : LL H0 p (upd H b (.lst (nv r))) bs (rs.set i r) := by
  have bp : p ≠ b := fun z => L.np (by rw [z]; exact List.mem_of_getElem? hb)
  refine ⟨by rw [upd_ne bp]; exact L.self, L.nd, L.np, L.fp, L.fr, by simp [L.len], fun j c s h1 h2 => ?_⟩
  by_cases hj : i = j
  · subst hj
    have hl : i < rs.length := by rw [← L.len]; exact (List.getElem?_eq_some_iff.mp hb).1
    rw [List.getElem?_set_self hl] at h2
    rw [hb] at h1
    rw [← Option.some.inj h1, ← Option.some.inj h2, upd_same]
  · rw [List.getElem?_set_ne hj] at h2
    have : c ≠ b := fun z => by
      subst z
      exact hj (nd_ix L.nd hb h1)
    rw [upd_ne this]
    exact L.at_ j c s h1 h2
theorem LL.tb {H0 H : Hp} {p : Addr} {bs : List Addr} {rs : List (List Nat)} (L : LL H0 p H bs rs) : Paired (Tb H) (bs.map V.ref) rs := by
  have : ∀ (bs : List Addr) (rs : List (List Nat)), bs.length = rs.length → (∀ (i : Nat) (b : Addr) (r : List Nat), bs[i]? = some b → rs[i]? = some r → H b = some (.lst (nv r))) → Paired (Tb H) (bs.map V.ref) rs := fun bs => by
    induction bs with
    | nil => 
      intro rs hl _
      cases rs with
      | nil => exact .nil
      | cons r l => simp at hl
    | cons b bs ih =>
      intro rs hl ha
      cases rs with
      | nil => simp at hl
      | cons r l =>
        refine .cons ⟨b, rfl, .inl (ha 0 b r rfl rfl)⟩ (ih l (by simpa using hl) fun i c s h1 h2 => ha (i + 1) c s (by simpa using h1) (by simpa using h2))
  exact this bs rs L.len L.at_
/-- xs.append of a list among others -/
theorem set_end {α : Type} (l : List α) (x y : α) : (l ++ [x]).set l.length y = l ++ [y] := by
  rw [List.set_append_right _ _ (Nat.le_refl _)]
  simp
theorem paired_imp {α β : Type} {F G : α → β → Prop} (f : ∀ a b, F a b → G a b) : ∀ {l : List α} {m : List β}, Paired F l m → Paired G l m
  | _, _, .nil => .nil
  | _, _, .cons h t => .cons (f _ _ h) (paired_imp f t)
theorem list_end {α : Type} (l : List α) : l = [] ∨ ∃ i x, l = i ++ [x] := by
  rcases List.eq_nil_or_concat l with h | ⟨i, x, h⟩
  · exact .inl h
  · exact .inr ⟨i, x, by simpa using h⟩
/-- not xs, of a list -/
theorem et_tru {K : PySem.W.Frag} {σ : L2.St} {H : Hp} {ta : TE} {a : Addr} {xs : List V} (h : Ev ta σ H (.ref a)) (hx : SqL K H a xs) : EvT (fun σ H Q => ta σ H fun x H' => ∃ k, TruV K x H' k ∧ Q k H') σ H (!xs.isEmpty) := fun H1 e Q q => h H1 e _ fun H2 e2 => ⟨_, .inl ⟨xs, ex_l (e.trans e2) hx, rfl⟩, q H2 e2⟩

/-! ### is_table, are_tables, seating_of -/
section
variable {K : PySem.W.Frag} {σ : L2.St} {H H' : Hp} {ta tb te tl : TE} {t : TT}
theorem el_lcT {a : Addr} {xs : List V} {tl : TE} {j : Nat} {vs : List Nat} (f : Nat → Bool) (v : Nat → V) (h : Ev tl σ H (.ref a)) (hx : SqT K H a xs) (hz : xs.length ≤ 40000) (hw : ∀ x, wipe ((wipe σ vs).set j (some x)) vs = wipe σ vs)
    (ht : ∀ (i : Nat) (x : V) H1, Ex H H1 → xs[i]? = some x → EvT t ((wipe σ vs).set j (some x)) H1 (f i)) (he : ∀ (i : Nat) (x : V) H1, Ex H H1 → xs[i]? = some x → f i = true → Ev te ((wipe σ vs).set j (some x)) H1 (v i)) : EvL (tLc (iTup K tl) (gName j) t te vs) σ H (given xs.length f v) := fun H0 e Q q => h H0 e _ fun H1 e1 =>
  ⟨a, rfl, ⟨xs, ex_t (e.trans e1) hx⟩, fun Dl hD => lc_tup (xs := xs) (Cw H1 f v Dl) ⟨hD, Ex.new hD, upd_same⟩ (fun i H' _ p => ex_t ((e.trans e1).trans p.2.1) hx)
    (fun i x H' hi p => ⟨hw x, cw_turn p (by have := (List.getElem?_eq_some_iff.mp hi).1; omega) (ht i x H1 (e.trans e1) hi) (fun hf => he i x H1 (e.trans e1) hi hf)⟩) (fun H' p => q Dl H' (fresh_back e1 p.1) (e1.trans p.2.1) p.2.2)⟩
theorem given_at {n : Nat} (v : Nat → V) : given n (fun _ => true) v = (List.range n).map v := by
  unfold given
  rw [List.filter_eq_self.mpr fun _ _ => rfl]
/-- a call whose argument is a new list -/
theorem ev_call1L {sp : Sp} {dvs xs : List V} {v : V} {E : XK} (h : EvL te σ H xs) (hs : ∀ p H1, Ex H H1 → H1 p = some (.lst xs) → SpV sp ([.ref p] ++ dvs) H1 v) : Ev (tCall sp dvs E (tCons te tNil)) σ H v := fun H1 e Q q =>
  h H1 e _ fun p H2 _ e2 h2 => hs p H2 (e.trans e2) h2 H2 (Ex.refl _) Q (fun H3 e3 => q H3 (e2.trans e3)) E
theorem el_call1L {sp : Sp} {dvs xs ys : List V} {E : XK} (h : EvL te σ H xs) (hs : ∀ p H1, Ex H H1 → H1 p = some (.lst xs) → SpL sp ([.ref p] ++ dvs) H1 ys) : EvL (tCall sp dvs E (tCons te tNil)) σ H ys := fun H1 e Q q =>
  h H1 e _ fun p H2 _ e2 h2 => hs p H2 (e.trans e2) h2 H2 (Ex.refl _) Q (fun l H3 hl e3 h3 => q l H3 (fresh_back e2 hl) (e2.trans e3) h3) E
end

/-! ### _law_mixed, _law_entries -/
theorem q_parLL {σ : L2.St} {H : Hp} {ta tb : TE} {tz : TS} {D : Ends} {i j : Nat} {xs ys : List V} (ha : EvL ta σ H xs) (hb : EvL tb σ H ys) (k : ∀ p q H1, H p = none → H q = none → p ≠ q → Ex H H1 → H1 p = some (.lst xs) → H1 q = some (.lst ys) → tz D ((σ.set i (some (.ref p))).set j (some (.ref q))) H1) :
    tSeq (tPar i j (tCons ta (tCons tb tNil))) tz D σ H := ha H (Ex.refl H) _ fun p H1 hp e1 h1 => hb H1 e1 _ fun q H2 hq e2 h2 => ⟨_, _, rfl, k p q H2 hp (fresh_back e1 hq) (ne_of_none h1 hq) (e1.trans e2) (e2 p _ h1) h2⟩
theorem eqv_nil (xs : List V) (ns : List Int) : PyData.eqv (.list (ns.map PyData.int)) (.list []) = ns.isEmpty := by
  cases ns with
  | nil => decide
  | cons n l => rfl
theorem nv_erase (L : List Nat) (k : Nat) : (nv L).eraseIdx k = nv (L.eraseIdx k) := by
  rw [nv_eq, nv_eq, List.eraseIdx_eq_take_drop_succ, List.eraseIdx_eq_take_drop_succ, List.map_append, List.map_take, List.map_drop]
theorem shaped_nil : SeqAt.shaped (.list []) = true := by decide
theorem s_appE {K : PySem.W.Frag} {σ : L2.St} {H : Hp} {ta te : TE} {D : Ends} {l : Addr} {xs : List V} (hl : H l = some (.lst xs)) (ha : Ev ta σ H (.ref l)) (k : ∀ H1, Ex H H1 → te σ H1 fun v H2 => rAppend (.ref l) [v] H2 fun _ H3 => D.nx σ H3) : tDrop (tBM K "list" rAppend ta (tCons te tNil)) D σ H :=
  ha H (Ex.refl H) _ fun H1 e1 => ⟨Or.inl ⟨rfl, xs, sq_of (e1 l _ hl)⟩, k H1 e1⟩
theorem t_popAt {K : PySem.W.Frag} {σ : L2.St} {H : Hp} {ta te : TE} {Q : VK} {l : Addr} {xs : List V} (hl : H l = some (.lst xs)) (ha : Ev ta σ H (.ref l)) (k : ∀ H1, Ex H H1 → te σ H1 fun v H2 => rPopAt (.ref l) [v] H2 Q) : tBM K "list" rPopAt ta (tCons te tNil) σ H Q :=
  ha H (Ex.refl H) _ fun H1 e1 => ⟨Or.inl ⟨rfl, xs, sq_of (e1 l _ hl)⟩, k H1 e1⟩
theorem seq_at {j n : Nat} (h : j < n) : seqIndex? (j : Int) n = some j := by
  unfold seqIndex?
  have h1 : ¬ ((j : Int) < 0) := by omega
  have h2 : (0 : Int) ≤ j := by omega
  have h3 : (j : Int) < n := by omega
  simp [h1, h2, h3]
theorem erase_perm {L : List Nat} {j : Nat} (hj : j < L.length) : (L[j] :: L.eraseIdx j).Perm L := by
  have e2 : L.take j ++ L[j] :: L.drop (j + 1) = L := by rw [← List.drop_eq_getElem_cons hj, List.take_append_drop]
  rw [List.eraseIdx_eq_take_drop_succ]
  exact List.perm_middle.symm.trans (List.Perm.of_eq e2)

/-! ### _law_entries -/
def EvPA (p : Addr) (k : Nat) (ta : TA) (σ : L2.St) (H0 : Hp) (C : List V → Prop) : Prop := ∀ n H1, Ex H0 H1 → Po p n H1 → n + k ≤ 1000000000 →
  ∀ Q : List V → Hp → Prop, (∀ vs H2, C vs → Po p (n + k) H2 → Ex (Hm p H1) H2 → Q vs H2) → ta σ H1 Q
section
variable {K : PySem.W.Frag} {σ : L2.St} {H0 H : Hp} {p : Addr} {k k1 k2 : Nat} {te ta tb : TE} {R Ra Rb : V → Hp → Prop} {tr : TA} {A : V → Prop} {B C : List V → Prop}
theorem epa_nil : EvPA p 0 tNil σ H0 (fun vs => vs = []) := fun n H1 e hp _ Q q => q [] H1 rfl hp (hm_of (Ex.refl _))
theorem epa_cons (h0 : H0 p = none) (h : EvP p k1 te σ H0 (fun v _ => A v)) (hr : EvPA p k2 tr σ H0 B) : EvPA p (k1 + k2) (tCons te tr) σ H0 (fun vs => ∃ v r, vs = v :: r ∧ A v ∧ B r) := fun n H1 e hp hn Q q =>
  h n H1 e hp (by omega) _ fun v H2 hv p2 e2 => hr (n + k1) H2 (hm_next h0 e e2) p2 (by omega) _ fun vs H3 hvs p3 e3 => q (v :: vs) H3 ⟨v, vs, rfl, hv, hvs⟩ (by rw [← Nat.add_assoc]; exact p3) (hm_trans e2 e3)
theorem epa_pure {v : V} (h0 : H0 p = none) (h : Ev te σ H0 v) (hr : EvPA p k2 tr σ H0 B) : EvPA p (0 + k2) (tCons te tr) σ H0 (fun vs => ∃ x r, vs = x :: r ∧ x = v ∧ B r) := epa_cons (A := fun x => x = v) h0 (ep_ev h) hr
theorem ep_lst (h : EvPA p k tr σ H0 C) (hs : ∀ vs, C vs → vs.length ≤ 100000) : EvP p k (tLst tr) σ H0 (fun x H => ∃ l vs, l ≠ p ∧ x = .ref l ∧ H l = some (.lst vs) ∧ C vs) := fun n H1 e hp hn Q q =>
  h n H1 e hp hn _ fun vs H2 c p2 e2 => ⟨sz_of (hs vs c), fun l hl => q _ _ ⟨l, vs, p2.ne hl, rfl, upd_same, c⟩ (p2.ex (Ex.new hl)) (hm_trans e2 (hm_of (Ex.new hl)))⟩
theorem stb_lst : Stb p (fun x H => ∃ l vs, l ≠ p ∧ x = .ref l ∧ H l = some (.lst vs) ∧ C vs) := fun v H H' ⟨l, vs, ne, e, h, c⟩ s => ⟨l, vs, ne, e, hm_at s ne h, c⟩
theorem ep_ix (h0 : H0 p = none) {ix : V → Prop} (ha : EvP p k1 (tLst tr) σ H0 (fun x H => ∃ l vs, l ≠ p ∧ x = .ref l ∧ H l = some (.lst vs) ∧ C vs)) (hb : EvP p k2 tb σ H0 (fun v _ => ix v)) (hat : ∀ vs v, C vs → ix v → ∃ i z, v = .int i ∧ atI vs i = some z ∧ A z) :
    EvP p (k1 + k2) (tOp (rIxL K) (tLst tr) tb) σ H0 (fun v _ => A v) := ep_op h0 ha hb stb_lst stb_c fun x y H hx hy => by
  obtain ⟨l, vs, ne, rfl, hl, c⟩ := hx
  obtain ⟨i, z, rfl, hz, az⟩ := hat vs y c hy
  exact ⟨z, az, rv_ixL (sq_of hl) hz⟩
theorem ep_isZ (h0 : H0 p = none) (h : EvP p k te σ H0 (fun v _ => ∃ r, v = .int r ∧ 0 ≤ r)) : EvP p (k + 0) (tCB rIntB (tCons (tOp rEq te (tC (.int 0))) tNil)) σ H0 (fun v _ => v = .int 0 ∨ v = .int 1) := fun n H1 e hp hn Q q =>
  (ep_op (k1 := k) (k2 := 0) (R := fun v _ => ∃ b, v = .bl b) h0 h (ep_ev (v := .int 0) ev_c) stb_c stb_c fun x y H ⟨r, e1, _⟩ e2 => ⟨.bl (decide (x = y)), ⟨_, rfl⟩, by
    subst e1
    subst e2
    exact rv_eq rfl⟩) n H1 e hp hn _ fun v H2 ⟨b, hb⟩ p2 e2 => ⟨b, by rw [hb], q _ H2 (by cases b <;> simp) p2 e2⟩
theorem pq_parL {n i j : Nat} {D : Ends} {tz : TS} {ys : List V} (h : EvP p k ta σ H0 R) (e : Ex H0 H) (hp : Po p n H) (hn : n + k ≤ 1000000000) (hb : ∀ H1, EvL tb σ H1 ys) (q : ∀ v l H2 H3, R v H2 → H2 l = none → Ex H2 H3 → H3 l = some (.lst ys) → Po p (n + k) H3 → Ex (Hm p H) H2 → tz D ((σ.set i (some v)).set j (some (.ref l))) H3) :
    tSeq (tPar i j (tCons ta (tCons tb tNil))) tz D σ H := h n H e hp hn _ fun v H2 hv p2 e2 => hb H2 H2 (Ex.refl _) _ fun l H3 hl e3 h3 => ⟨_, _, rfl, q v l H2 H3 hv hl e3 h3 (p2.ex e3) e2⟩
end
def sp_law_entries : Sp := fun vs H Q _ => ∃ (p : Addr) (n m : Nat), vs = [.ref p, .int (m : Int)] ∧ Po p n H ∧ n + 3 * m + 1 < 1000000000 ∧ m ≤ 20 ∧
  ∀ l f H', H l = none → H' l = some (.lst (nv f)) → f.length = m → (∀ (i x : Nat), f[i]? = some x → x ≤ i) → Po p (n + 3 * m + 1) H' → Ex (Hm p H) H' → Q (.ref l) H'
section
variable {P : Program} {w : World} {K : PySem.W.Frag} {mg : Str → Option Value} {base : Heap}
theorem ok_law_entries (T : Tx K mg) : FnOk P w K mg base CX0 2 T.f_law_entries T.d_law_entries ["pouch", "many"] sp_law_entries := by
  refine T.F_law_entries.ok sc_law_entries (fun vs H Q E h => ?_) (fun cdv A outer s H vs Q E hr h => ?_)
  · obtain ⟨p, n, m, rfl, _⟩ := h
    rfl
  · obtain ⟨p, n, m, rfl, hpo, hn, hm, k⟩ := h
    refine ⟨_, (pss_cons (ps_par (i := 2) (j := 3) (by rfl) sc_law_entries.nd rfl rfl (by decide) rfl rfl (pa_cons (pe_call (ok_law_dip T) (hr.mono (by decide)) (by rfl) T.g_law_dip T.F_law_dip.kp T.b_law_dip .nil pass0 (pa_cons (pv 0) (pa_cons pe_int pa_nil))) (pa_cons (pe_lst pa_nil) pa_nil)) (by rfl))
      (pss_cons (ps_for PassesOwn.never rfl (pi_range1 (by rfl) T.m_range (pa_cons (pv 1) pa_nil)) (pg_name (i := 4) sc_law_entries.nd rfl (Or.inl rfl)) (pss_cons (ps_set (i := 5) sc_law_entries.nd rfl (Or.inl rfl) (pe_lst (pa_cons (pv 4) (pa_cons pe_int (pa_cons (pe_call (ok_law_dip T) (hr.mono (by decide)) (by rfl) T.g_law_dip T.F_law_dip.kp T.b_law_dip .nil pass0 (pa_cons (pv 0) (pa_cons (pe_op op_add (pv 4) pe_int) pa_nil))) (pa_cons (pe_callB (call_maxR rfl) (by rfl) T.m_max (by decide +kernel) (pa_cons pe_int (pa_cons (pe_op op_sub (pv 4) pe_int) pa_nil))) pa_nil))))))
      (pss_cons (ps_set (i := 6) sc_law_entries.nd rfl (Or.inl rfl) (pe_ix ix_list (pe_lst (pa_cons (pe_call (ok_law_dip T) (hr.mono (by decide)) (by rfl) T.g_law_dip T.F_law_dip.kp T.b_law_dip .nil pass0 (pa_cons (pv 0) (pa_cons pe_int pa_nil))) (pa_cons pe_int (pa_cons pe_int (pa_cons pe_int (pa_cons pe_int (pa_cons (pe_ix ix_list (pe_lst (pa_cons pe_int (pa_cons pe_int pa_nil))) (pe_callTy call_intB (by rfl) T.m_int (by decide +kernel) (pa_cons (pe_cmpR op_eq (pe_call (ok_law_dip T) (hr.mono (by decide)) (by rfl) T.g_law_dip T.F_law_dip.kp T.b_law_dip .nil pass0 (pa_cons (pv 0) (pa_cons pe_int pa_nil))) pe_int (nomark _)) pa_nil)) (fun _ _ => rfl)) pa_nil))))))) (pv 2) (fun _ _ => rfl)))
      (pss_one (ps_expr (pe_bm PySem.F.plainAttrs_list PySem.F.slot_list_append PySem.F.type_list_append mt_append (pv 3) (pa_cons (pe_ix ix_list (pv 5) (pv 6) (fun _ _ => rfl)) pa_nil)))))))
      (pss_one (ps_ret (pv 3))))), ?_⟩
    have hp0 : Hm p H p = none := hm_p
    refine pq_parL (p := p) (k := 1) (H0 := Hm p H) (ys := []) (ep_dipI (w := 6) hm_p (ev_var rfl) ev_c (by decide) (by decide)) hm_sub hpo (by omega) (fun H1 => el_lst ea_nil (Nat.le_of_ble_eq_true rfl)) ?_
    rintro v b H1 H2 ⟨st, rfl, s0, s1⟩ hb1 e2 hb2 p2 e1
    have hbp : b ≠ p := fun z => by
      subst z
      obtain ⟨x, y, z, q, _⟩ := p2
      rw [hb2] at q
      cases q
    have hb : H b = none := by
      have := fresh_back e1 hb1
      unfold Hm at this
      rw [if_neg hbp] at this
      exact this
    have e02 : Ex (Hm p H) H2 := e1.trans e2
    refine q_forR1 (n := (m : Int)) (by walk_at "ea") (by omega) (fun i σ' H' => ∃ (F : List Nat) (y4 y5 y6 : Option V), σ' = [some (.ref p), some (.int m), some (.int st), some (.ref b), y4, y5, y6] ∧ H' b = some (.lst (nv F)) ∧ F.length = i ∧ (∀ (j x : Nat), F[j]? = some x → x ≤ j) ∧ Po p (n + 3 * i + 1) H' ∧ Ex (Hm p H) H')
      (fun H3 e3 => ⟨[], none, none, none, rfl, e3 b _ hb2, rfl, by simp, p2.ex e3, hm_trans e02 (hm_of e3)⟩) ?_ ?_
    · rintro i σ' H' hi ⟨F, y4, y5, y6, rfl, hF, hFl, hFx, p3, e3⟩
      have him : i < m := by omega
      refine pq_asg (p := p) (k := 0 + (0 + (1 + (0 + 0)))) (H0 := Hm p H') (R := fun x H => ∃ l vs, l ≠ p ∧ x = .ref l ∧ H l = some (.lst vs) ∧ ∃ c d : Nat, vs = [.int (i : Nat), .int 0, .int c, .int d] ∧ c ≤ i ∧ d ≤ i) (ep_is (ep_lst (epa_pure (v := .int (i : Nat)) hm_p (ev_var rfl) (epa_pure hm_p ev_c (epa_cons (A := fun v => ∃ c : Nat, v = .int c ∧ c ≤ i) hm_p (ep_is (ep_dipI (w := (i : Int) + 1) hm_p (ev_var rfl) (by walk_at "ev") (by omega) (by omega)) ?_) (epa_pure (v := .int ((i - 1 : Nat) : Int)) hm_p ?_ epa_nil)))) ?_) ?_) hm_sub p3 (by omega) ?_
      · rintro v _ ⟨r, rfl, r0, r1⟩
        exact ⟨r.toNat, by congr 1; omega, by omega⟩
      · refine ev_is (ev_max2 (i := 0) (j := (i : Int) - 1) ev_c (by walk_at "ev")) ?_
        congr 1
        split <;> omega
      · rintro vs ⟨_, _, rfl, _, _, _, rfl, _, _, _, rfl, _, _, _, rfl, _, rfl⟩
        exact Nat.le_of_ble_eq_true rfl
      · rintro v H4 ⟨l, vs, ne, rfl, hl, _, _, rfl, rfl, _, _, rfl, rfl, _, _, rfl, ⟨c, rfl, hc⟩, _, _, rfl, rfl, rfl⟩
        exact ⟨l, _, ne, rfl, hl, c, i - 1, rfl, hc, by omega⟩
      rintro v H4 ⟨l, vs, lp, rfl, hl, c, d, rfl, hc, hd⟩ p4 e4
      refine pq_asg (p := p) (k := (1 + (0 + (0 + (0 + (0 + ((0 + (0 + 0)) + (1 + 0) + 0)))))) + 0) (H0 := Hm p H4) (R := fun v _ => ∃ r : Nat, v = .int r ∧ r < 4) (ep_ix (ix := fun v => v = .int st) (C := fun vs => ∃ a b : Nat, vs = [.int a, .int 2, .int 0, .int 1, .int 3, .int b] ∧ a < 4 ∧ b < 4) hm_p (ep_is (ep_lst (epa_cons (A := fun v => ∃ c : Nat, v = .int c ∧ c < 4) hm_p (ep_is (ep_dipI (w := 4) hm_p (ev_var rfl) ev_c (by decide) (by decide)) ?_) (epa_pure hm_p ev_c (epa_pure hm_p ev_c (epa_pure hm_p ev_c (epa_pure hm_p ev_c (epa_cons (A := fun v => ∃ c : Nat, v = .int c ∧ c < 4) hm_p (ep_ix (ix := fun v => v = .int 0 ∨ v = .int 1) hm_p (ep_lst (epa_pure hm_p ev_c (epa_pure hm_p ev_c epa_nil)) ?_) (ep_isZ hm_p (ep_is (ep_dipI (w := 3) hm_p (ev_var rfl) ev_c (by decide) (by decide)) ?_)) ?_) epa_nil)))))) ?_) ?_) (ep_ev (ev_var rfl)) ?_) hm_sub p4 (by omega) ?_
      · rintro v _ ⟨r, rfl, r0, r1⟩
        exact ⟨r.toNat, by congr 1; omega, by omega⟩
      · rintro vs ⟨_, _, rfl, _, _, _, rfl, _, rfl⟩
        exact Nat.le_of_ble_eq_true rfl
      · rintro v _ ⟨r, rfl, r0, r1⟩
        exact ⟨r, rfl, r0⟩
      · rintro vs v ⟨_, _, rfl, rfl, _, _, rfl, rfl, rfl⟩ (rfl | rfl)
        · exact ⟨0, .int 2, rfl, rfl, 2, rfl, by decide⟩
        · exact ⟨1, .int 0, rfl, rfl, 0, rfl, by decide⟩
      · rintro vs ⟨_, _, rfl, _, _, _, rfl, _, _, _, rfl, _, _, _, rfl, _, _, _, rfl, _, _, _, rfl, _, rfl⟩
        exact Nat.le_of_ble_eq_true rfl
      · rintro v H5 ⟨l, vs, ne, rfl, hl, _, _, rfl, ⟨a, rfl, ha⟩, _, _, rfl, rfl, _, _, rfl, rfl, _, _, rfl, rfl, _, _, rfl, rfl, _, _, rfl, ⟨b, rfl, hb⟩, rfl⟩
        exact ⟨l, _, ne, rfl, hl, a, b, rfl, ha, hb⟩
      · rintro vs v ⟨a, b, rfl, ha, hb⟩ rfl
        have : st = 0 ∨ st = 1 ∨ st = 2 ∨ st = 3 ∨ st = 4 ∨ st = 5 := by omega
        rcases this with rfl | rfl | rfl | rfl | rfl | rfl
        · exact ⟨0, .int a, rfl, rfl, a, rfl, ha⟩
        · exact ⟨1, .int 2, rfl, rfl, 2, rfl, by decide⟩
        · exact ⟨2, .int 0, rfl, rfl, 0, rfl, by decide⟩
        · exact ⟨3, .int 1, rfl, rfl, 1, rfl, by decide⟩
        · exact ⟨4, .int 3, rfl, rfl, 3, rfl, by decide⟩
        · exact ⟨5, .int b, rfl, rfl, b, rfl, hb⟩
      rintro v H5 ⟨r, rfl, hr4⟩ p5 e5
      have hl5 := hm_at e5 lp hl
      have hF5 := hm_at e5 hbp (hm_at e4 hbp hF)
      obtain ⟨x, hx, hxi⟩ : ∃ x : Nat, atI [V.int (i : Nat), .int 0, .int c, .int d] (r : Int) = some (.int x) ∧ x ≤ i := by
        have : r = 0 ∨ r = 1 ∨ r = 2 ∨ r = 3 := by omega
        rcases this with rfl | rfl | rfl | rfl
        · exact ⟨i, rfl, Nat.le_refl _⟩
        · exact ⟨0, rfl, Nat.zero_le _⟩
        · exact ⟨c, rfl, hc⟩
        · exact ⟨d, rfl, hd⟩
      refine s_app hF5 (ev_var rfl) (ev_op (ev_var rfl) (ev_var rfl) (rv_ixL (K := K) (sq_of hl5) hx)) (by rw [nv_len]; omega) fun H6 e6 => ?_
      have e36 := hm_trans (hm_trans (hm_trans e3 e4) e5) (hm_of e6)
      refine ⟨F ++ [x], _, _, _, rfl, by rw [upd_same, nv_app]; rfl, by simp [hFl], fun j y hy => ?_, ?_, Ex.mut e36 (by unfold Hm; rw [if_neg hbp]; exact hb)⟩
      · by_cases hj : j < F.length
        · rw [List.getElem?_append_left hj] at hy
          exact hFx j y hy
        · rw [List.getElem?_append_right (by omega)] at hy
          have : j - F.length = 0 := by
            have := (List.getElem?_eq_some_iff.mp hy).1
            simp at this
            omega
          rw [this] at hy
          have : x = y := Option.some.inj hy
          omega
      · obtain ⟨x, y, z, q1, q2⟩ := (p5.ex e6).mono (m := n + 3 * (i + 1) + 1) (by omega)
        exact ⟨x, y, z, by rw [upd_ne (Ne.symm hbp)]; exact q1, q2⟩
    · rintro σ' H' ⟨F, y4, y5, y6, rfl, hF, hFl, hFx, p3, e3⟩
      have em : ((m : Int)).toNat = m := Int.toNat_natCast m
      rw [em] at hFl p3
      exact s_ret (ev_var (i := 3) rfl) fun H4 e4 => k b F H4 hb (e4 b _ hF) hFl hFx (p3.ex e4) (hm_trans e3 (hm_of e4))
end

/-! ### rings by entries: the mathematics -/
def insr (pal one : Nat) (r : List Nat) : List Nat := if pal ∈ r ∧ pal ≠ one then r.take (r.idxOf pal + 1) ++ [one] ++ r.drop (r.idxOf pal + 1) else r
def rstep (rs : List (List Nat)) (one pal : Nat) : List (List Nat) := (if one = pal then rs ++ [[one]] else rs).map (insr pal one)
def ringsTo (e : List Nat) : Nat → List (List Nat)
  | 0 => []
  | i + 1 => rstep (ringsTo e i) i (e.getD i 0)
structure RI (m : Nat) (rs : List (List Nat)) : Prop where
  all : rs.flatten.Perm (List.range m)
  ne : ∀ r ∈ rs, 0 < r.length
  low : ∀ r ∈ rs, ∀ x ∈ r, r.headD 0 ≤ x
  asc : (rs.map (·.headD 0)).Pairwise (· < ·)
theorem insr_perm {pal one : Nat} {r : List Nat} (h : pal ∈ r) (ne : pal ≠ one) : (insr pal one r).Perm (one :: r) := by
  unfold insr
  rw [if_pos ⟨h, ne⟩, List.append_assoc]
  refine (List.Perm.append_left _ List.perm_append_comm).trans ?_
  rw [← List.append_assoc, List.take_append_drop]
  exact List.perm_append_comm
theorem insr_no {pal one : Nat} {r : List Nat} (h : pal ∉ r) : insr pal one r = r := if_neg fun q => h q.1
theorem insr_same {pal one : Nat} {r : List Nat} (h : pal = one) : insr pal one r = r := if_neg fun q => q.2 h
theorem insr_head {pal one : Nat} {r : List Nat} : (insr pal one r).headD 0 = r.headD 0 := by
  by_cases h : pal ∈ r ∧ pal ≠ one
  · unfold insr
    rw [if_pos h]
    cases r with
    | nil => simp at h
    | cons x l => simp
  · unfold insr
    rw [if_neg h]
theorem insr_len {pal one : Nat} {r : List Nat} (h : 0 < r.length) : 0 < (insr pal one r).length := by
  unfold insr
  split
  · simp
    omega
  · exact h
theorem insr_mem {pal one x : Nat} {r : List Nat} (h : x ∈ insr pal one r) : x ∈ r ∨ x = one := by
  by_cases q : pal ∈ r ∧ pal ≠ one
  · have := (insr_perm q.1 q.2).mem_iff.mp h
    rcases List.mem_cons.mp this with z | z
    · exact .inr z
    · exact .inl z
  · unfold insr at h
    rw [if_neg q] at h
    exact .inl h
theorem insr_all {pal one : Nat} (ne : pal ≠ one) : ∀ {rs : List (List Nat)}, rs.flatten.Nodup → pal ∈ rs.flatten → (rs.map (insr pal one)).flatten.Perm (one :: rs.flatten)
  | [], _, h => by simp at h
  | r :: l, nd, h => by
    rw [List.flatten_cons, List.nodup_append] at nd
    rw [List.map_cons, List.flatten_cons, List.flatten_cons]
    by_cases q : pal ∈ r
    · have hn : ∀ s ∈ l, pal ∉ s := fun s hs z => absurd rfl (nd.2.2 pal q pal (List.mem_flatten.mpr ⟨s, hs, z⟩))
      have e : l.map (insr pal one) = l := (List.map_congr_left fun s hs => insr_no (hn s hs)).trans (List.map_id _)
      rw [e]
      exact (List.Perm.append_right _ (insr_perm q ne))
    · rw [insr_no q]
      have h' : pal ∈ l.flatten := by
        rw [List.flatten_cons] at h
        rcases List.mem_append.mp h with z | z
        · exact absurd z q
        · exact z
      refine (List.Perm.append_left _ (insr_all ne nd.2.1 h')).trans ?_
      exact List.perm_middle
theorem RI.nd {m : Nat} {rs : List (List Nat)} (R : RI m rs) : rs.flatten.Nodup := R.all.nodup_iff.mpr List.nodup_range
theorem RI.mem {m x : Nat} {rs : List (List Nat)} (R : RI m rs) {r : List Nat} (hr : r ∈ rs) (hx : x ∈ r) : x < m := List.mem_range.mp (R.all.mem_iff.mp (List.mem_flatten.mpr ⟨r, hr, hx⟩))
theorem head_mem {r : List Nat} (h : 0 < r.length) : r.headD 0 ∈ r := by
  cases r with
  | nil => simp at h
  | cons x l => simp
theorem RI.step {one pal : Nat} {rs : List (List Nat)} (R : RI one rs) (h : pal ≤ one) : RI (one + 1) (rstep rs one pal) := by
  unfold rstep
  by_cases q : one = pal
  · rw [if_pos q]
    have e : (rs ++ [[one]]).map (insr pal one) = rs ++ [[one]] := (List.map_congr_left fun s _ => insr_same q.symm).trans (List.map_id _)
    rw [e]
    refine ⟨?_, ?_, ?_, ?_⟩
    · rw [List.flatten_append, List.range_succ]
      exact List.Perm.append_right _ R.all
    · intro r hr
      rcases List.mem_append.mp hr with z | z
      · exact R.ne r z
      · rw [List.mem_singleton.mp z]; simp
    · intro r hr
      rcases List.mem_append.mp hr with z | z
      · exact R.low r z
      · rw [List.mem_singleton.mp z]; simp
    · rw [List.map_append, List.pairwise_append]
      refine ⟨R.asc, by simp, fun a ha b hb => ?_⟩
      obtain ⟨r, hr, rfl⟩ := List.mem_map.mp ha
      have := R.mem hr (head_mem (R.ne r hr))
      simp at hb
      omega
  · rw [if_neg q]
    have hp : pal ∈ rs.flatten := R.all.mem_iff.mpr (List.mem_range.mpr (by omega))
    have eh : (rs.map (insr pal one)).map (·.headD 0) = rs.map (·.headD 0) := by
      rw [List.map_map]
      exact List.map_congr_left fun r _ => insr_head
    refine ⟨?_, ?_, ?_, ?_⟩
    · refine (insr_all (Ne.symm q) R.nd hp).trans ?_
      rw [List.range_succ]
      exact (List.Perm.cons _ R.all).trans (List.perm_append_comm (l₁ := [one]))
    · intro r hr
      obtain ⟨s, hs, rfl⟩ := List.mem_map.mp hr
      exact insr_len (R.ne s hs)
    · intro r hr x hx
      obtain ⟨s, hs, rfl⟩ := List.mem_map.mp hr
      rw [insr_head]
      rcases insr_mem hx with z | z
      · exact R.low s hs x z
      · have := R.mem hs (head_mem (R.ne s hs))
        omega
    · rw [eh]
      exact R.asc
theorem ringsTo_ok {e : List Nat} (h : ∀ (i x : Nat), e[i]? = some x → x ≤ i) : ∀ m, m ≤ e.length → RI m (ringsTo e m)
  | 0, _ => ⟨List.Perm.refl _, by simp [ringsTo], by simp [ringsTo], by simp [ringsTo]⟩
  | m + 1, hm => by
    have ih := ringsTo_ok h m (by omega)
    refine ih.step ?_
    have : e[m]? = some (e.getD m 0) := by
      rw [List.getD_eq_getElem?_getD, List.getElem?_eq_getElem (by omega)]
      rfl
    exact h m _ this
/-! the seating of rings -/
def succ (rs : List (List Nat)) (x : Nat) : Nat := match rs.find? (fun r => decide (x ∈ r)) with
  | some r => r.getD ((r.idxOf x + 1) % r.length) 0
  | none => 0
theorem succ_at {rs : List (List Nat)} (nd : rs.flatten.Nodup) {r : List Nat} (hr : r ∈ rs) {i x : Nat} (hx : r[i]? = some x) : succ rs x = r.getD ((i + 1) % r.length) 0 := by
  have hm := List.mem_of_getElem? hx
  have hf : rs.find? (fun r => decide (x ∈ r)) = some r := by
    cases hq : rs.find? (fun r => decide (x ∈ r)) with
    | none => exact absurd (decide_eq_true hm) (by simpa using List.find?_eq_none.mp hq r hr)
    | some s =>
      have h1 := List.mem_of_find?_eq_some hq
      have h2 := List.find?_some hq
      rw [nodup_flat nd h1 hr (of_decide_eq_true h2) hm]
  have ndr : r.Nodup := List.Pairwise.sublist (List.sublist_flatten_of_mem hr) nd
  have hi : r.idxOf x = i := by
    have hl := List.idxOf_lt_length_of_mem hm
    have := List.getElem_idxOf hl
    have h1 : r[r.idxOf x]? = some x := by rw [List.getElem?_eq_getElem hl, this]
    exact nd_ix ndr h1 hx
  unfold succ
  rw [hf]
  show r.getD ((r.idxOf x + 1) % r.length) 0 = _
  rw [hi]
def seat (rs : List (List Nat)) (n : Nat) : List Nat := (List.range n).map (succ rs)
theorem seat_rg {rs : List (List Nat)} {n : Nat} (hp : rs.flatten.Perm (List.range n)) {r : List Nat} (hr : r ∈ rs) (ne : 0 < r.length) : Rg (seat rs n) r := by
  have nd : rs.flatten.Nodup := hp.nodup_iff.mpr List.nodup_range
  refine ⟨ne, List.Pairwise.sublist (List.sublist_flatten_of_mem hr) nd, fun i hi => ?_⟩
  have hx : r[i]? = some r[i] := List.getElem?_eq_getElem hi
  have hm := Nat.mod_lt (i + 1) ne
  refine ⟨r[i], r[(i + 1) % r.length], hx, List.getElem?_eq_getElem hm, ?_⟩
  have hn : r[i] < n := List.mem_range.mp (hp.mem_iff.mp (List.mem_flatten.mpr ⟨r, hr, List.getElem_mem hi⟩))
  unfold seat
  rw [List.getElem?_map, List.getElem?_range hn]
  show some (succ rs r[i]) = _
  rw [succ_at nd hr hx, List.getD_eq_getElem?_getD, List.getElem?_eq_getElem hm]
  rfl
theorem seat_len (rs : List (List Nat)) (n : Nat) : (seat rs n).length = n := by simp [seat]
theorem map_rot {rs : List (List Nat)} (nd : rs.flatten.Nodup) {r : List Nat} (hr : r ∈ rs) (ne : 0 < r.length) : r.map (succ rs) = rot r (1 % r.length) := by
  have hk := Nat.mod_lt 1 ne
  refine List.ext_getElem? fun i => ?_
  by_cases hi : i < r.length
  · have hx : r[i]? = some r[i] := List.getElem?_eq_getElem hi
    have hm := Nat.mod_lt (i + 1) ne
    rw [List.getElem?_map, hx, rot_get hk hi, Nat.add_mod_mod]
    show some (succ rs r[i]) = _
    rw [succ_at nd hr hx, List.getD_eq_getElem?_getD, List.getElem?_eq_getElem hm]
    rfl
  · rw [List.getElem?_eq_none (by simp; omega), List.getElem?_eq_none (by rw [rot_len (by omega)]; omega)]
theorem flat_map_perm {g : Nat → Nat} : ∀ {rs : List (List Nat)}, (∀ r ∈ rs, (r.map g).Perm r) → (rs.flatten.map g).Perm rs.flatten
  | [], _ => List.Perm.refl _
  | r :: l, h => by
    rw [List.flatten_cons, List.map_append]
    exact List.Perm.append (h r (by simp)) (flat_map_perm fun s hs => h s (by simp [hs]))
theorem seat_perm {rs : List (List Nat)} {n : Nat} (hp : rs.flatten.Perm (List.range n)) (hne : ∀ r ∈ rs, 0 < r.length) : (seat rs n).Perm (List.range n) := by
  have nd : rs.flatten.Nodup := hp.nodup_iff.mpr List.nodup_range
  unfold seat
  refine ((hp.symm.map (succ rs)).trans (flat_map_perm fun r hr => ?_)).trans hp
  rw [map_rot nd hr (hne r hr)]
  exact rot_perm r _
theorem RI.rings {m : Nat} {rs : List (List Nat)} (R : RI m rs) : Rings (seat rs m) rs := ⟨fun r hr => seat_rg R.all hr (R.ne r hr), R.low, R.asc, by rw [seat_len]; exact R.all⟩
theorem seat_ord {rs : List (List Nat)} {n : Nat} (hp : rs.flatten.Perm (List.range n)) (hne : ∀ r ∈ rs, 0 < r.length) (h1 : 1 ≤ n) (h2 : n ≤ 20) : Ord (seat rs n) := by
  unfold Ord
  rw [seat_len]
  exact ⟨seat_perm hp hne, h1, h2⟩

/-! ### _law_rings -/
section
variable {K : PySem.W.Frag} {σ : L2.St} {H : Hp} {ta te : TE} {tr : TA} {D : Ends}
theorem nv_flat (r : List Nat) : (nv r).all flatV = true := by
  rw [nv_eq, List.all_map, List.all_eq_true]
  intro x _
  rfl
theorem nv_in (r : List Nat) (x : Nat) : inV (.int x) (nv r) = decide (x ∈ r) := by
  unfold inV
  rw [nv_eq, List.any_map, Bool.eq_iff_iff, List.any_eq_true, decide_eq_true_iff]
  constructor
  · rintro ⟨y, hy, e⟩
    have : ((y : Int) == (x : Int)) = true := e
    have := eq_of_beq this
    have : y = x := by omega
    exact this ▸ hy
  · intro h
    exact ⟨x, h, beq_self_eq_true _⟩
theorem s_dropBM {r : V → List V → Hp → VK → Prop} {l : Addr} {xs : List V} (hl : H l = some (.lst xs)) (ha : Ev ta σ H (.ref l)) (k : ∀ H1, Ex H H1 → tr σ H1 fun vs H2 => r (.ref l) vs H2 fun _ H3 => D.nx σ H3) : tDrop (tBM K "list" r ta tr) D σ H :=
  ha H (Ex.refl H) _ fun H1 e1 => ⟨Or.inl ⟨rfl, xs, sq_of (e1 l _ hl)⟩, k H1 e1⟩
theorem ev_index {l : Addr} {r : List Nat} {x : Nat} (hl : H l = some (.lst (nv r))) (ha : Ev ta σ H (.ref l)) (he : Ev te σ H (.int (x : Int))) (hx : x ∈ r) : Ev (tBM K "list" (rIndex K) ta (tCons te tNil)) σ H (.int (r.idxOf x : Nat)) := fun H1 e Q q =>
  ha H1 e _ fun H2 e2 => ⟨Or.inl ⟨rfl, _, sq_of (e2 l _ (e l _ hl))⟩, he H2 (e.trans e2) _ fun H3 e3 => by
    have hlt := List.idxOf_lt_length_of_mem hx
    refine ⟨l, nv r, .int x, r.idxOf x, .int x, rfl, rfl, sq_of (e3 l _ (e2 l _ (e l _ hl))), rfl, nv_flat r, nv_get (by rw [List.getElem?_eq_getElem hlt, List.getElem_idxOf hlt]), beq_self_eq_true _, fun m z hm hz => ?_, q H3 (e2.trans e3)⟩
    have hml : m < r.length := by omega
    have := nv_get (List.getElem?_eq_getElem hml)
    rw [hz] at this
    have ez := Option.some.inj this
    subst ez
    show ((r[m] : Int) == (x : Int)) = false
    rw [beq_eq_false_iff_ne]
    intro ee
    have ee' : r[m] = x := by omega
    have h1 : r.idxOf x ≤ m := by
      have hh : r.findIdx (· == x) ≤ m := by
        refine Nat.le_of_not_lt fun hlt2 => ?_
        have := List.not_of_lt_findIdx hlt2
        rw [ee'] at this
        simp at this
      exact hh
    omega⟩
end

theorem mid_at {α : Type} (g : α → α) (l : List α) {j : Nat} {x : α} (h : l[j]? = some x) : ((l.take j).map g ++ l.drop j)[j]? = some x := by
  have hj := (List.getElem?_eq_some_iff.mp h).1
  rw [List.getElem?_append_right (by simp; omega)]
  simp [List.length_take, Nat.min_eq_left (Nat.le_of_lt hj), h]
theorem mid_set {α : Type} (g : α → α) (l : List α) {j : Nat} {x : α} (h : l[j]? = some x) : ((l.take j).map g ++ l.drop j).set j (g x) = (l.take (j + 1)).map g ++ l.drop (j + 1) := by
  obtain ⟨hj, e⟩ := List.getElem?_eq_some_iff.mp h
  rw [List.set_append_right _ _ (by simp; omega), take_next h, List.map_append, List.drop_eq_getElem_cons hj, e]
  simp [List.length_take, Nat.min_eq_left (Nat.le_of_lt hj)]
theorem set_same {α : Type} {l : List α} {j : Nat} {x : α} (h : l[j]? = some x) : l.set j x = l := by
  refine List.ext_getElem? fun i => ?_
  by_cases e : i = j
  · subst e
    rw [List.getElem?_set_self (List.getElem?_eq_some_iff.mp h).1, h]
  · rw [List.getElem?_set_ne (Ne.symm e)]
theorem mid_same {α : Type} (g : α → α) (l : List α) {j : Nat} {x : α} (h : l[j]? = some x) (e : g x = x) : (l.take j).map g ++ l.drop j = (l.take (j + 1)).map g ++ l.drop (j + 1) := by
  have := mid_set g l h
  rw [e] at this
  rw [← this]
  exact (set_same (mid_at g l h)).symm
def sp_law_rings : Sp := fun vs H Q _ => ∃ (a : Addr) (e : List Nat), vs = [.ref a] ∧ H a = some (.lst (nv e)) ∧ e.length ≤ 20 ∧ (∀ (i x : Nat), e[i]? = some x → x ≤ i) ∧
  ∀ l bs H', LL H l H' bs (ringsTo e e.length) → Ex H H' → Q (.ref l) H'
section
variable {P : Program} {w : World} {K : PySem.W.Frag} {mg : Str → Option Value} {base : Heap}
theorem ok_law_rings (T : Tx K mg) : FnOk P w K mg base CX0 1 T.f_law_rings T.d_law_rings ["entries"] sp_law_rings := by
  refine T.F_law_rings.ok sc_law_rings (fun vs H Q E h => ?_) (fun cdv A outer s H vs Q E hr h => ?_)
  · obtain ⟨a, e, rfl, _⟩ := h
    rfl
  · obtain ⟨a, f, rfl, ha, hn, hx, k⟩ := h
    refine ⟨_, (pss_cons (ps_set (i := 1) sc_law_rings.nd rfl (Or.inl rfl) (pe_lst pa_nil))
      (pss_cons (ps_for PassesOwn.never rfl (pi_enum (by rfl) T.m_enumerate (pa_cons (pv 0) pa_nil)) (pg_tup rfl (pgs_cons (pg_name (i := 2) sc_law_rings.nd rfl (Or.inl rfl)) (pgs_cons (pg_name (i := 3) sc_law_rings.nd rfl (Or.inl rfl)) pgs_nil))) (pss_cons (ps_if (pt_cmpR op_eq (pv 2) (pv 3) (nomark _)) (pss_one (ps_expr (pe_bm PySem.F.plainAttrs_list PySem.F.slot_list_append PySem.F.type_list_append mt_append (pv 1) (pa_cons (pe_lst (pa_cons (pv 2) pa_nil)) pa_nil)))) pss_nil)
      (pss_one (ps_for PassesOwn.never rfl (pi_list (pv 1)) (pg_name (i := 4) sc_law_rings.nd rfl (Or.inl rfl)) (pss_one (ps_if (PW.pt (pw_and (pt_cmpR op_in_seq (pv 3) (pv 4) (by rfl)) (pw_and1 (pt_cmpR op_ne (pv 3) (pv 2) (nomark _))))) (pss_one (ps_expr (pe_bm PySem.F.plainAttrs_list PySem.F.slot_list_insert PySem.F.type_list_insert mt_insert (pv 4) (pa_cons (pe_op op_add (pe_bm PySem.F.plainAttrs_list PySem.F.slot_list_index PySem.F.type_list_index mt_index (pv 4) (pa_cons (pv 3) pa_nil)) pe_int) (pa_cons (pv 2) pa_nil))))) pss_nil))))))
      (pss_one (ps_ret (pv 1))))), ?_⟩
    refine q_asgL (xs := []) (el_lst ea_nil (Nat.le_of_ble_eq_true rfl)) fun p H1 hp e1 h1 => ?_
    refine q_forEn (xs := nv f) (K := K) (by walk_at "ea") (sq_of (e1 a _ ha)) (fun m σ' H' => ∃ (bs : List Addr) (y2 y3 y4 : Option V), σ' = [some (.ref a), some (.ref p), y2, y3, y4] ∧ Ex H H' ∧ LL H p H' bs (ringsTo f m))
      (fun H2 e2 => ⟨[], none, none, none, rfl, e1.trans e2, LL.nil (e2 p _ h1) hp⟩) (fun m σ' H' _ ⟨_, _, _, _, _, e, _⟩ => sq_of (e a _ ha)) ?_ ?_
    · rintro m v σ' H' H2 hv ⟨bs, y2, y3, y4, rfl, e, L⟩ e2
      have hml : m < f.length := by
        have := (List.getElem?_eq_some_iff.mp hv).1
        rw [nv_len] at this
        exact this
      obtain ⟨x, hfx⟩ : ∃ x, f[m]? = some x := ⟨f[m], List.getElem?_eq_getElem hml⟩
      have ev : v = .int (x : Int) := by
        have := nv_get hfx
        rw [hv] at this
        exact Option.some.inj this
      subst ev
      have gx : f.getD m 0 = x := by
        rw [List.getD_eq_getElem?_getD, hfx]
        rfl
      have hxm := hx m x hfx
      have R := ringsTo_ok hx m (by omega)
      have L2 := L.ex e2
      have hz : (ringsTo f m).length ≤ m := by
        have : ∀ l : List (List Nat), (∀ r ∈ l, 0 < r.length) → l.length ≤ l.flatten.length := fun l => by
          induction l with
          | nil => intro _; simp
          | cons r l ih =>
            intro hl
            have := ih fun x hx => hl x (by simp [hx])
            have := hl r (by simp)
            rw [List.flatten_cons, List.length_append, List.length_cons]
            omega
        have h2 := this _ R.ne
        rw [R.all.length_eq, List.length_range] at h2
        exact h2
      have short : ∀ r ∈ ringsTo f m, r.length ≤ m := fun r hr => by
        have := List.Sublist.length_le (List.sublist_flatten_of_mem hr)
        rw [R.all.length_eq, List.length_range] at this
        exact this
      -- what is left: the inner loop
      have inner : ∀ (rs1 : List (List Nat)) (bs1 : List Addr) (H3 : Hp) (D : Ends), rs1 = (if m = x then ringsTo f m ++ [[m]] else ringsTo f m) → Ex H H3 → LL H p H3 bs1 rs1 → (∀ r ∈ rs1, r.length ≤ 20) → rs1.length ≤ 21 →
          (∀ σ4 H4, (∃ (bs : List Addr) (y2 y3 y4 : Option V), σ4 = [some (.ref a), some (.ref p), y2, y3, y4] ∧ Ex H H4 ∧ LL H p H4 bs (ringsTo f (m + 1))) → D.nx σ4 H4) →
          tFor (iList K (tVar 1)) (gName 4) (tIfS (tAnd (tTest (tOp (rIn K false) (tVar 3) (tVar 4))) (tTest (tOp rNe (tVar 3) (tVar 2)))) (tDrop (tBM K "list" (fun x vs H Q => ∃ (l : Addr) (xs : List V) (i : Int) (y : V), x = .ref l ∧ vs = [.int i, y] ∧ H l = some (.lst xs) ∧ xs.length < sizeLine ∧ 0 ≤ i ∧ i < 2 ^ 63 ∧
    Q .non (upd H l (.lst (xs.take i.toNat ++ [y] ++ xs.drop i.toNat)))) (tVar 4) (tCons (tOp (rI0 fun i j => .int (i + j)) (tBM K "list" (rIndex K) (tVar 4) (tCons (tVar 3) tNil)) (tC (.int 1))) (tCons (tVar 2) tNil)))) tNext) D [some (.ref a), some (.ref p), some (.int (m : Int)), some (.int (x : Int)), y4] H3 := fun rs1 bs1 H3 D hr1 e3 L3 sh1 sl1 hD => by
        have hbl : bs1.length = rs1.length := L3.len
        refine s_forLn (xs := bs1.map V.ref) (K := K) (ev_var rfl) (sq_of L3.self) (fun j σ' H' => ∃ (y4 : Option V), σ' = [some (.ref a), some (.ref p), some (.int (m : Int)), some (.int (x : Int)), y4] ∧ Ex H H' ∧ LL H p H' bs1 ((rs1.take j).map (insr x m) ++ rs1.drop j))
          (fun H4 e4 => ⟨y4, rfl, e3.trans e4, by simpa using L3.ex e4⟩) (fun j σ' H' _ ⟨_, _, _, L⟩ => sq_of L.self) ?_ ?_
        · rintro j v σ' H4 hv ⟨y4, rfl, e4, L4⟩
          rw [List.getElem?_map] at hv
          obtain ⟨b, hb, rfl⟩ := Option.map_eq_some_iff.mp hv
          have hj : j < rs1.length := by
            have := (List.getElem?_eq_some_iff.mp hb).1
            omega
          obtain ⟨r, hr⟩ : ∃ r, rs1[j]? = some r := ⟨rs1[j], List.getElem?_eq_getElem hj⟩
          have hrb := L4.at_ j b r hb (mid_at _ _ hr)
          have hb0 : H b = none := L4.fr b (List.mem_of_getElem? hb)
          have shr := sh1 r (List.mem_of_getElem? hr)
          refine s_if (b := decide (x ∈ r) && !decide (V.int (x : Int) = V.int (m : Int))) (et_and (et_test (ev_is (ev_op (ev_var rfl) (ev_var rfl) (rv_isL (K := K) (sq_of hrb) rfl (nv_flat r))) (by rw [nv_in]))) fun _ => et_test (ev_op (ev_var rfl) (ev_var rfl) (rv_ne rfl))) (fun hc H5 e5 => ?_) (fun hc H5 e5 => ?_)
          · rw [Bool.and_eq_true, decide_eq_true_iff] at hc
            have hne : x ≠ m := fun z => by
              rw [z] at hc
              simp at hc
            have hr5 := e5 b _ hrb
            refine s_dropBM hr5 (ev_var rfl) fun H6 e6 => ?_
            have hr6 := e6 b _ hr5
            refine (ea_cons (ev_op (ev_index (K := K) (ta := tVar 4) (te := tVar 3) (σ := [some (.ref a), some (.ref p), some (.int (m : Int)), some (.int (x : Int)), some (.ref b)]) hr6 (ev_var rfl) (ev_var rfl) hc.1) (ev_c (v := .int 1)) (rv_I0 (g := fun i j => .int (i + j)))) (ea_cons (ev_var (i := 2) rfl) ea_nil)) H6 (Ex.refl _) _ fun H7 e7 => ?_
            refine ⟨b, nv r, _, _, rfl, rfl, e7 b _ hr6, sz_lt (by rw [nv_len]; omega), by omega, by
              have := List.idxOf_lt_length_of_mem hc.1
              omega, ?_⟩
            have L7 := ((L4.ex e5).ex e6).ex e7
            refine ⟨_, rfl, Ex.mut (e4.trans (e5.trans (e6.trans e7))) hb0, ?_⟩
            have g := L7.put (r := insr x m r) hb
            rw [mid_set _ _ hr] at g
            have ei : nv (insr x m r) = (nv r).take ((r.idxOf x : Int) + 1).toNat ++ [.int (m : Int)] ++ (nv r).drop ((r.idxOf x : Int) + 1).toNat := by
              unfold insr
              rw [if_pos ⟨hc.1, hne⟩, nv_app, nv_app]
              have : ((r.idxOf x : Int) + 1).toNat = r.idxOf x + 1 := by omega
              rw [this]
              rw [nv_eq, nv_eq, nv_eq, nv_eq, List.map_take, List.map_drop]
              rfl
            rw [← ei]
            exact g
          · have same : insr x m r = r := by
              unfold insr
              refine if_neg fun q => ?_
              rw [decide_eq_true q.1] at hc
              have : V.int (x : Int) ≠ V.int (m : Int) := fun z => q.2 (by
                have := V.int.inj z
                omega)
              rw [decide_eq_false this] at hc
              exact Bool.noConfusion hc
            refine ⟨_, rfl, e4.trans e5, ?_⟩
            rw [← mid_same _ _ hr same]
            exact L4.ex e5
        · rintro σ' H4 ⟨y4, rfl, e4, L4⟩
          refine hD _ _ ⟨bs1, _, _, _, rfl, e4, ?_⟩
          rw [List.length_map, hbl, List.take_of_length_le (Nat.le_refl _), List.drop_of_length_le (Nat.le_refl _), List.append_nil] at L4
          show LL H p H4 bs1 (rstep (ringsTo f m) m (f.getD m 0))
          rw [gx]
          unfold rstep
          rw [← hr1]
          exact L4
      refine q_when (b := decide (V.int (m : Int) = V.int (x : Int))) (et_test (ev_op (ev_var rfl) (ev_var rfl) (rv_eq rfl))) (fun hc H3 e3 => ?_) (fun hc H3 e3 => ?_)
      · have hmx : m = x := by
          have := V.int.inj (of_decide_eq_true hc)
          omega
        refine s_appL (e3 p _ L2.self) (ev_var rfl) (by walk_at "el") (by rw [List.length_map, L2.len]; omega) fun q H4 hq e4 h4 => ?_
        refine inner (ringsTo f m ++ [[m]]) (bs ++ [q]) _ _ (by rw [if_pos hmx]) (Ex.mut ((e.trans e2).trans (e3.trans e4)) hp) ((L2.ex e3).push ((e.trans e2).trans e3) e4 hq h4) (fun r hr => ?_) (by simp; omega) (fun _ _ q => q)
        rcases List.mem_append.mp hr with z | z
        · have := short r z
          omega
        · rw [List.mem_singleton.mp z]; simp
      · have hmx : ¬ m = x := fun z => by
          rw [z] at hc
          simp at hc
        exact inner (ringsTo f m) bs _ _ (by rw [if_neg hmx]) ((e.trans e2).trans e3) (L2.ex e3) (fun r hr => by have := short r hr; omega) (by omega) (fun _ _ q => q)
    · rintro σ' H' ⟨bs, y2, y3, y4, rfl, e, L⟩
      rw [nv_len] at L
      exact s_ret (ev_var rfl) fun H2 e2 => k p bs H2 (L.ex e2) (e.trans e2)
end

/-! ### _law_seat -/
def rLenK : List V → Hp → VK → Prop := fun xs H Q => ∃ a kvs, xs = [V.ref a] ∧ H a = some (.dK kvs) ∧ Q (.int kvs.length) H
theorem call_lenK {X : Cx} : CallR X (.builtin "len") rLenK := call_lenD
section
variable {K : PySem.W.Frag} {σ : L2.St} {H : Hp} {ta tb te : TE} {D : Ends} {tz : TS}
theorem ev_lenK {a : Addr} {kvs : List (Key × V)} (h : Ev ta σ H (.ref a)) (ha : H a = some (.dK kvs)) : Ev (tCB rLenK (tCons ta tNil)) σ H (.int (kvs.length : Int)) := fun H1 e Q q => h H1 e _ fun H2 e2 => ⟨a, kvs, rfl, e2 a _ (e a _ ha), q H2 e2⟩
theorem ev_dgetI {a : Addr} {kvs : List (Key × V)} {x : Int} {v : V} (h : Ev ta σ H (.ref a)) (hx : Ev tb σ H (.int x)) (ha : H a = some (.dK kvs)) (hv : valV kvs (.inl x) = some v) : Ev (tDGet ta tb) σ H v := fun H1 e Q q =>
  h H1 e _ fun H2 e2 => hx H2 (e.trans e2) _ fun H3 e3 => ⟨a, v, rfl, by
    have := DGet.k (k := .inl x) (e3 a _ (e2 a _ (e a _ ha)))
    rw [hv] at this
    exact this, q H3 (e2.trans e3)⟩
theorem s_dputI {a : Addr} {kvs : List (Key × V)} {x : Int} {v : V} (h : Ev ta σ H (.ref a)) (hx : Ev tb σ H (.int x)) (hv : Ev te σ H v) (ha : H a = some (.dK kvs)) (hl : kvs.length < 100000) (k : ∀ H1, Ex H H1 → D.nx σ (upd H1 a (.dK (putK kvs (.inl x) v)))) : sDPut ta tb te D σ H :=
  hv H (Ex.refl _) _ fun H1 e1 => h H1 e1 _ fun H2 e2 => hx H2 (e1.trans e2) _ fun H3 e3 => ⟨a, _, rfl, DPut.k (k := .inl x) (e3 a _ (e2 a _ (e1 a _ ha))) (sz_lt hl), k H3 (e1.trans (e2.trans e3))⟩
theorem q_dnewK {i : Nat} (k : ∀ p H1, H p = none → Ex H H1 → H1 p = some (.dK []) → tz D (σ.set i (some (.ref p))) H1) : tSeq (tAsg tDNewK (gName i)) tz D σ H := fun p hp => k p _ hp (Ex.new hp) upd_same
end
/-- a list at b -/
def Lb (H : Hp) (v : V) (r : List Nat) : Prop := ∃ b, v = .ref b ∧ H b = some (.lst (nv r))
theorem Lb.ex {H H' : Hp} {v : V} {r : List Nat} (e : Ex H H') (h : Lb H v r) : Lb H' v r := by
  obtain ⟨b, rfl, h⟩ := h
  exact ⟨b, rfl, e b _ h⟩
def prev (r : List Nat) (j : Nat) : Nat := r.getD ((j + (r.length - 1)) % r.length) 0
theorem prev_at {r : List Nat} {k : Nat} (h : k < r.length) : atI (nv r) ((k : Int) - 1) = some (.int (prev r k : Nat)) ∧ prev r k ∈ r ∧ r[(k + (r.length - 1)) % r.length]? = some (prev r k) := by
  have hm := Nat.mod_lt (k + (r.length - 1)) (show r.length > 0 by omega)
  have e : r[(k + (r.length - 1)) % r.length]? = some (prev r k) := by
    unfold prev
    rw [List.getD_eq_getElem?_getD, List.getElem?_eq_getElem hm]
    rfl
  refine ⟨?_, List.mem_of_getElem? e, e⟩
  cases k with
  | zero =>
    rcases list_end r with z | ⟨i, x, z⟩
    · rw [z] at h; simp at h
    · have : (0 + (r.length - 1)) % r.length = i.length := by
        rw [Nat.zero_add, Nat.mod_eq_of_lt (by omega), z]
        simp
      rw [this, z] at e
      simp at e
      rw [z, ← e, nv_app]
      exact atI_last _ _
  | succ k =>
    have : (k + 1 + (r.length - 1)) % r.length = k := by
      rw [show k + 1 + (r.length - 1) = k + r.length by omega, Nat.add_mod_right, Nat.mod_eq_of_lt (by omega)]
    rw [this] at e
    have e2 : (((k + 1 : Nat) : Int) - 1) = (k : Int) := by omega
    rw [e2]
    exact atI_nat (nv_get e)
theorem prev_inj {r : List Nat} (nd : r.Nodup) {j k : Nat} (hj : j < r.length) (hk : k < r.length) (h : prev r j = prev r k) : j = k := by
  have h1 := (prev_at hj).2.2
  have h2 := (prev_at hk).2.2
  rw [← h] at h2
  have := nd_ix nd h1 h2
  by_cases a : j = 0
  · by_cases b : k = 0
    · omega
    · rw [show k + (r.length - 1) = (k - 1) + r.length by omega, Nat.add_mod_right, Nat.mod_eq_of_lt (show k - 1 < r.length by omega), a, Nat.zero_add, Nat.mod_eq_of_lt (show r.length - 1 < r.length by omega)] at this
      omega
  · rw [show j + (r.length - 1) = (j - 1) + r.length by omega, Nat.add_mod_right, Nat.mod_eq_of_lt (show j - 1 < r.length by omega)] at this
    by_cases b : k = 0
    · rw [b, Nat.zero_add, Nat.mod_eq_of_lt (show r.length - 1 < r.length by omega)] at this
      omega
    · rw [show k + (r.length - 1) = (k - 1) + r.length by omega, Nat.add_mod_right, Nat.mod_eq_of_lt (show k - 1 < r.length by omega)] at this
      omega
theorem prev_all {r : List Nat} {x : Nat} (h : x ∈ r) : ∃ j, j < r.length ∧ prev r j = x := by
  obtain ⟨i, hi⟩ := List.mem_iff_getElem?.mp h
  have hl := (List.getElem?_eq_some_iff.mp hi).1
  have hm := Nat.mod_lt (i + 1) (show r.length > 0 by omega)
  refine ⟨(i + 1) % r.length, hm, ?_⟩
  have e := (prev_at hm).2.2
  have : ((i + 1) % r.length + (r.length - 1)) % r.length = i := by
    rw [Nat.mod_add_mod, show i + 1 + (r.length - 1) = i + r.length by omega, Nat.add_mod_right, Nat.mod_eq_of_lt hl]
  rw [this, hi] at e
  exact (Option.some.inj e).symm
def dones (r : List Nat) (k : Nat) : List Nat := (List.range k).map (prev r)
theorem dones_next (r : List Nat) (k : Nat) : dones r (k + 1) = dones r k ++ [prev r k] := by
  unfold dones
  rw [List.range_succ, List.map_append]
  rfl
theorem dones_mem {r : List Nat} {k x : Nat} : x ∈ dones r k ↔ ∃ j, j < k ∧ prev r j = x := by
  unfold dones
  rw [List.mem_map]
  constructor
  · rintro ⟨j, hj, e⟩
    exact ⟨j, List.mem_range.mp hj, e⟩
  · rintro ⟨j, hj, e⟩
    exact ⟨j, List.mem_range.mpr hj, e⟩
theorem dones_all {r : List Nat} {x : Nat} : x ∈ dones r r.length ↔ x ∈ r := by
  rw [dones_mem]
  constructor
  · rintro ⟨j, hj, rfl⟩
    exact (prev_at hj).2.1
  · exact prev_all
theorem succ_prev {rs : List (List Nat)} (nd : rs.flatten.Nodup) {r : List Nat} (hr : r ∈ rs) {k : Nat} (hk : k < r.length) : r[k]? = some (succ rs (prev r k)) := by
  rw [succ_at nd hr (prev_at hk).2.2, Nat.mod_add_mod, show k + (r.length - 1) + 1 = k + r.length by omega, Nat.add_mod_right, Nat.mod_eq_of_lt hk, List.getD_eq_getElem?_getD, List.getElem?_eq_getElem hk]
  rfl
/-- the dict: of the guests in l their left neighbours -/
def Near (rs : List (List Nat)) (kvs : List (Key × V)) (l : List Nat) : Prop := kvs.length = l.length ∧ ∀ x : Nat, valV kvs (.inl (x : Int)) = if x ∈ l then some (.int (succ rs x : Nat)) else none
theorem Near.put {rs : List (List Nat)} {kvs : List (Key × V)} {l : List Nat} (N : Near rs kvs l) {x : Nat} (h : x ∉ l) : Near rs (putK kvs (.inl (x : Int)) (.int (succ rs x : Nat))) (l ++ [x]) := by
  have hv := N.2 x
  rw [if_neg h] at hv
  refine ⟨by rw [putK_new _ hv, List.length_append, List.length_append, N.1]; rfl, fun y => ?_⟩
  rw [valV_put]
  by_cases e : y = x
  · subst e
    rw [if_pos rfl, if_pos (by simp)]
  · rw [if_neg (fun z => e (by
      have := Sum.inl.inj z
      omega)), N.2 y]
    simp [e]
def sp_law_seat : Sp := fun vs H Q _ => ∃ (a : Addr) (ws : List V) (rs : List (List Nat)) (n : Nat), vs = [.ref a] ∧ H a = some (.lst ws) ∧ Paired (Lb H) ws rs ∧ rs.flatten.Perm (List.range n) ∧ n ≤ 20 ∧ RetL (nv (seat rs n)) H Q
theorem sl_seat {H : Hp} {a : Addr} {ws : List V} {rs : List (List Nat)} {n : Nat} (ha : H a = some (.lst ws)) (ht : Paired (Lb H) ws rs) (hp : rs.flatten.Perm (List.range n)) (hn : n ≤ 20) : SpL sp_law_seat ([.ref a] ++ []) H (nv (seat rs n)) := fun H1 e Q q E =>
  ⟨a, ws, rs, n, rfl, e a _ ha, paired_imp (fun _ _ x => Lb.ex e x) ht, hp, hn, q⟩
section
variable {P : Program} {w : World} {K : PySem.W.Frag} {mg : Str → Option Value} {base : Heap}
theorem ok_law_seat (T : Tx K mg) : FnOk P w K mg base CX0 1 T.f_law_seat T.d_law_seat ["rings"] sp_law_seat := by
  refine T.F_law_seat.ok sc_law_seat (fun vs H Q E h => ?_) (fun cdv A outer s H vs Q E hr h => ?_)
  · obtain ⟨a, ws, rs, n, rfl, _⟩ := h
    rfl
  · obtain ⟨a, ws, rs, n, rfl, ha, ht, hp, hn, k⟩ := h
    refine ⟨_, (pss_cons (ps_set (i := 1) sc_law_seat.nd rfl (Or.inr rfl) pe_dnewK)
      (pss_cons (ps_for PassesOwn.never rfl (pi_list (pv 0)) (pg_name (i := 2) sc_law_seat.nd rfl (Or.inl rfl)) (pss_one (ps_for PassesOwn.never rfl (pi_range1 (by rfl) T.m_range (pa_cons (pe_callB call_lenR (by rfl) T.m_len (by decide +kernel) (pa_cons (pv 2) pa_nil)) pa_nil)) (pg_name (i := 3) sc_law_seat.nd rfl (Or.inl rfl)) (pss_one (ps_dput (hu_of hr) (pv 1) (pe_ix ix_list (pv 2) (pe_op op_sub (pv 3) pe_int) (fun _ _ => rfl)) (pe_ix ix_list (pv 2) (pv 3) (fun _ _ => rfl)) rfl)))))
      (pss_one (ps_ret (pe_lc (own := [("one", 4)]) (g := (gName 4)) (tt := tYes) rfl sc_law_seat.nd (pi_range1 (by rfl) T.m_range (pa_cons (pe_callB (id := "len") (r := rLenK) call_lenK (by rfl) T.m_len (by decide +kernel) (pa_cons (pv 1) pa_nil)) pa_nil)) (blkOk_by (own := [("one", 4)]) (N := n_law_seat) (sc := defScope s_law_seat) (by decide +kernel)) (fun _ _ _ _ _ => (pg_name (i := 4) sc_law_seat.nd rfl (Or.inl rfl))) (fun _ _ _ _ _ => pts_nil) (fun _ _ _ _ _ => (pe_dget (hu_of hr) (pv 1) (pv 4) (fun _ _ => rfl)))))))), ?_⟩
    have nd : rs.flatten.Nodup := hp.nodup_iff.mpr List.nodup_range
    have hfl : rs.flatten.length = n := by rw [hp.length_eq, List.length_range]
    have hlen : ws.length = rs.length := Paired.length ht
    refine q_dnewK fun p H1 hp1 e1 h1 => ?_
    refine q_forLn (xs := ws) (K := K) (ev_var rfl) (sq_of (e1 a _ ha)) (fun i σ' H' => ∃ (kvs : List (Key × V)) (y2 y3 : Option V), σ' = [some (.ref a), some (.ref p), y2, y3, none] ∧ Ex H H' ∧ H' p = some (.dK kvs) ∧ Near rs kvs (rs.take i).flatten)
      (fun H2 e2 => ⟨[], none, none, rfl, e1.trans e2, e2 p _ h1, rfl, fun x => by simp [valV_nil]⟩) (fun i σ' H' _ ⟨_, _, _, _, e, _⟩ => sq_of (e a _ ha)) ?_ ?_
    · rintro i v σ' H' hv ⟨kvs, y2, y3, rfl, e, hk, N⟩
      obtain ⟨r, hr, b, rfl, hb⟩ := paired_get ht hv
      have hrm := List.mem_of_getElem? hr
      have ndr : r.Nodup := List.Pairwise.sublist (List.sublist_flatten_of_mem hrm) nd
      have hfn := flat_next hr
      have hsub : (rs.take (i + 1)).flatten.Nodup := by
        refine List.Pairwise.sublist ?_ nd
        conv => rhs; rw [← List.take_append_drop (i + 1) rs, List.flatten_append]
        exact List.sublist_append_left _ _
      rw [hfn, List.nodup_append] at hsub
      have hle : (rs.take i).flatten.length + r.length ≤ n := by
        rw [← List.length_append, ← hfn, ← hfl]
        conv => rhs; rw [← List.take_append_drop (i + 1) rs, List.flatten_append, List.length_append]
        omega
      refine s_forR1 (n := (r.length : Int)) (ea_cons (by
        have := ev_len (K := K) (ta := tVar 2) (σ := [some (V.ref a), some (.ref p), some (.ref b), y3, none]) (ev_var (i := 2) rfl) (sq_of (e b _ hb))
        rw [nv_len] at this
        exact this) ea_nil) (by omega) (fun j σ' H' => ∃ (kvs : List (Key × V)) (y3 : Option V), σ' = [some (.ref a), some (.ref p), some (.ref b), y3, none] ∧ Ex H H' ∧ H' p = some (.dK kvs) ∧ Near rs kvs ((rs.take i).flatten ++ dones r j))
        (fun H2 e2 => ⟨kvs, y3, rfl, e.trans e2, e2 p _ hk, by simpa [dones] using N⟩) ?_ ?_
      · rintro j σ' H2 hj ⟨kvs, y3, rfl, e2, hk2, N2⟩
        have hjl : j < r.length := by omega
        obtain ⟨p1, p2, p3⟩ := prev_at hjl
        have hb2 := e2 b _ hb
        have new : prev r j ∉ (rs.take i).flatten ++ dones r j := fun hm => by
          rcases List.mem_append.mp hm with z | z
          · exact hsub.2.2 _ z _ p2 rfl
          · obtain ⟨m, hm1, hm2⟩ := dones_mem.mp z
            have := prev_inj ndr (by omega) hjl hm2
            omega
        have kl := N2.1
        have kl2 : ((rs.take i).flatten ++ dones r j).length ≤ 20 := by
          rw [List.length_append]
          unfold dones
          rw [List.length_map, List.length_range]
          omega
        refine s_dputI (ev_var rfl) (ev_op (ev_var rfl) (ev_op (ev_var rfl) ev_c rv_I0) (rv_ixL (K := K) (sq_of hb2) p1)) (ev_op (ev_var rfl) (ev_var rfl) (rv_ixL (K := K) (sq_of hb2) (atI_nat (nv_get (succ_prev nd hrm hjl))))) hk2 (by omega) fun H3 e3 => ?_
        refine ⟨_, _, rfl, Ex.mut (e2.trans e3) hp1, upd_same, ?_⟩
        rw [dones_next, ← List.append_assoc]
        exact N2.put new
      · rintro σ' H2 ⟨kvs, y3, rfl, e2, hk2, N2⟩
        rw [Int.toNat_natCast] at N2
        refine ⟨kvs, _, _, rfl, e2, hk2, ?_, fun x => ?_⟩
        · rw [N2.1, hfn, List.length_append, List.length_append]
          unfold dones
          rw [List.length_map, List.length_range]
        · rw [N2.2 x, hfn]
          congr 1
          rw [List.mem_append, List.mem_append, dones_all]
    · rintro σ' H' ⟨kvs, y2, y3, rfl, e, hk, N⟩
      rw [hlen, List.take_of_length_le (Nat.le_refl _)] at N
      have kl : kvs.length = n := by rw [N.1, hfl]
      refine s_retL (xs := nv (seat rs n)) ?_ fun q H2 hq e2 h2 => k q H2 (fresh_back e hq) (e.trans e2) h2
      have el : nv (seat rs n) = given ((n : Int)).toNat (fun _ => true) (fun i => V.int (succ rs i : Nat)) := by
        rw [given_at, Int.toNat_natCast, nv_eq]
        unfold seat
        rw [List.map_map]
        rfl
      rw [el]
      refine el_lcR1 (n := (n : Int)) _ _ (ea_cons (by
        have := ev_lenK (ta := tVar 1) (σ := [some (V.ref a), some (.ref p), y2, y3, none]) (ev_var (i := 1) rfl) hk
        rw [kl] at this
        exact this) ea_nil) (by omega) (fun _ => rfl) (fun _ _ _ _ => et_yes) fun i H2 e2 hi _ => ?_
      have hx := N.2 i
      rw [if_pos (hp.mem_iff.mpr (List.mem_range.mpr (by omega)))] at hx
      exact ev_dgetI (ev_var rfl) (ev_var rfl) (e2 p _ hk) hx
end

/-! ### _law_cut -/
def EvLB (te : TE) (σ : L2.St) (H : Hp) (rs : List (List Nat)) : Prop := ∀ H1, Ex H H1 → ∀ Q : VK, (∀ p vs H2, H1 p = none → Ex H1 H2 → H2 p = some (.lst vs) → Paired (Lb H2) vs rs → Q (.ref p) H2) → te σ H1 Q
theorem s_retLB {te : TE} {σ : L2.St} {H : Hp} {D : Ends} {rs : List (List Nat)} (h : EvLB te σ H rs) (k : ∀ p vs H1, H p = none → Ex H H1 → H1 p = some (.lst vs) → Paired (Lb H1) vs rs → D.rt (.ref p) H1) : tRet te D σ H := h H (Ex.refl H) _ k
def Lc (Dl : Addr) (H : Hp) (v : V) (r : List Nat) : Prop := ∃ b, v = .ref b ∧ b ≠ Dl ∧ H b = some (.lst (nv r))
theorem Lc.ex {Dl : Addr} {H H' : Hp} {v : V} {r : List Nat} (e : Ex H H') (h : Lc Dl H v r) : Lc Dl H' v r := by
  obtain ⟨b, rfl, n, h⟩ := h
  exact ⟨b, rfl, n, e b _ h⟩
theorem Lc.upd {Dl : Addr} {H : Hp} {o : HO} {v : V} {r : List Nat} (h : Lc Dl H v r) : Lc Dl (upd H Dl o) v r := by
  obtain ⟨b, rfl, n, h⟩ := h
  exact ⟨b, rfl, n, by rw [upd_ne n]; exact h⟩
theorem Lc.lb {Dl : Addr} {H : Hp} {v : V} {r : List Nat} (h : Lc Dl H v r) : Lb H v r := by
  obtain ⟨b, rfl, n, h⟩ := h
  exact ⟨b, rfl, h⟩

/-! ### _law_right: rules -/
theorem LL.lb {H0 H : Hp} {p : Addr} {bs : List Addr} {rs : List (List Nat)} (L : LL H0 p H bs rs) : Paired (Lb H) (bs.map V.ref) rs := by
  have : ∀ (bs : List Addr) (rs : List (List Nat)), bs.length = rs.length → (∀ (i : Nat) (b : Addr) (r : List Nat), bs[i]? = some b → rs[i]? = some r → H b = some (.lst (nv r))) → Paired (Lb H) (bs.map V.ref) rs := fun bs => by
    induction bs with
    | nil =>
      intro rs hl _
      cases rs with
      | nil => exact .nil
      | cons r l => simp at hl
    | cons b bs ih =>
      intro rs hl ha
      cases rs with
      | nil => simp at hl
      | cons r l => exact .cons ⟨b, rfl, ha 0 b r rfl rfl⟩ (ih l (by simpa using hl) fun i c s h1 h2 => ha (i + 1) c s (by simpa using h1) (by simpa using h2))
  exact this bs rs L.len L.at_
theorem LL.weak {H0 H1 H : Hp} {p : Addr} {bs : List Addr} {rs : List (List Nat)} (L : LL H1 p H bs rs) (e : Ex H0 H1) : LL H0 p H bs rs := ⟨L.self, L.nd, L.np, fresh_back e L.fp, fun b hb => fresh_back e (L.fr b hb), L.len, L.at_⟩
def di (r : List Nat) : PyData := .list ((iz r).map PyData.int)
def dt (r : List Nat) : PyData := .tuple ((iz r).map PyData.int)
theorem canLay_ints : ∀ ms : List Int, PyData.canLayAll0 (ms.map PyData.int) = true
  | [] => rfl
  | m :: r => by simp [PyData.canLayAll0, PyData.canLay0, canLay_ints r]
theorem depth_ints : ∀ ms : List Int, PyData.depthAll (ms.map PyData.int) = 0
  | [] => rfl
  | m :: r => by simp [PyData.depthAll, PyData.depth, depth_ints r]
theorem canLay_dts : ∀ rs : List (List Nat), PyData.canLayAll0 (rs.map dt) = true
  | [] => rfl
  | m :: r => by simp [PyData.canLayAll0, PyData.canLay0, dt, canLay_ints, canLay_dts r]
theorem depth_dts : ∀ rs : List (List Nat), PyData.depthAll (rs.map dt) ≤ 1
  | [] => by simp [PyData.depthAll]
  | m :: r => by
    have := depth_dts r
    simp [PyData.depthAll, PyData.depth, dt, depth_ints]
    omega
theorem shaped_two (r s : List Nat) : SeqAt.shaped (.list [di r, di s]) = true := by
  simp [SeqAt.shaped, PyData.canLay0, PyData.canLayAll0, di, canLay_ints, PyData.depth, PyData.depthAll, depth_ints]
theorem shaped_kept (r : List Nat) (rs : List (List Nat)) : SeqAt.shaped (.list [di r, .list (rs.map dt)]) = true := by
  have := depth_dts rs
  simp [SeqAt.shaped, PyData.canLay0, PyData.canLayAll0, di, canLay_ints, canLay_dts, PyData.depth, PyData.depthAll, depth_ints]
  omega
theorem shaped_di (r : List Nat) : SeqAt.shaped (di r) = true := shaped_ints _
section
variable {K : PySem.W.Frag} {σ : L2.St} {H H' : Hp} {ta tb te : TE} {D : Ends} {tz : TS}
theorem dpa_nv (r : List Nat) : DpAll K H (nv r) ((iz r).map PyData.int) := dpa_ints _
theorem dpa_TL : ∀ {ws : List V} {rs : List (List Nat)}, TL H ws (rs.map nv) → DpAll K H ws (rs.map dt)
  | [], [], _ => .nil
  | _ :: _, r :: _, .cons ⟨b, e, h⟩ t => by
    subst e
    exact .cons (.tup (st_of h) (dpa_nv r)) (dpa_TL t)
theorem dp_L {a : Addr} {r : List Nat} (h : H a = some (.lst (nv r))) : Dp K H (.ref a) (di r) := .lst (sq_of h) (dpa_nv r)
theorem ed_L {r : List Nat} (h : EvL te σ H (nv r)) : EvD K te σ H (di r) := ed_ofL h (dpa_nv r)
theorem ed_two {r s : List Nat} (h : EvD K ta σ H (di r)) (h2 : EvD K tb σ H (di s)) : EvD K (tLst (tCons ta (tCons tb tNil))) σ H (.list [di r, di s]) := ed_lst (eda_cons h (eda_cons h2 eda_nil)) (Nat.le_of_ble_eq_true rfl)
theorem el_callK {sp : Sp} {gV : List V → List V → List V} {E : XK} {t tk : TA} {vs zs xs : List V} (h : EvA t σ H vs) (hk : EvA tk σ H zs) (hs : SpL sp (gV vs zs) H xs) : EvL (tCallK sp gV E t tk) σ H xs := fun H1 e Q q =>
  h H1 e _ fun H2 e2 => hk H2 (e.trans e2) _ fun H3 e3 => hs H3 ((e.trans e2).trans e3) Q (fun l H4 hl e4 h4 => q l H4 (fresh_back (e2.trans e3) hl) ((e2.trans e3).trans e4) h4) E
theorem el_catV {a b : Addr} {xs ys : List V} (h : Ev ta σ H (.ref a)) (h2 : Ev tb σ H (.ref b)) (ha : H a = some (.lst xs)) (hb : H b = some (.lst ys)) (hl : xs.length + ys.length ≤ 100000) : EvL (tOp rCat ta tb) σ H (xs ++ ys) := fun H1 e Q q =>
  h H1 e _ fun H2 e2 => h2 H2 (e.trans e2) _ fun H3 e3 => ⟨a, b, xs, ys, rfl, rfl, e3 a _ (e2 a _ (e a _ ha)), e3 b _ (e2 b _ (e b _ hb)), sz_of hl, fun l hl => q l _ (fresh_back (e2.trans e3) hl) ((e2.trans e3).trans (Ex.new hl)) upd_same⟩
theorem q_parLLT {i j : Nat} {xs : List V} {rs : List (List V)} (h : EvL ta σ H xs) (h2 : EvLT tb σ H rs) (k : ∀ p q ws H1, H p = none → H q = none → Ex H H1 → H1 p = some (.lst xs) → H1 q = some (.lst ws) → TL H1 ws rs → tz D ((σ.set i (some (.ref p))).set j (some (.ref q))) H1) :
    tSeq (tPar i j (tCons ta (tCons tb tNil))) tz D σ H := h H (Ex.refl H) _ fun p H1 hp e1 h1 => h2 H1 e1 _ fun q ws H2 hq e2 h3 ht => ⟨_, _, rfl, k p q ws H2 hp (fresh_back e1 hq) (e1.trans e2) (e2 p _ h1) h3 ht⟩
theorem q_parDL {i j : Nat} {d : PyData} {ys : List V} (h : EvD K ta σ H d) (h2 : EvL tb σ H ys) (k : ∀ v q H1, H q = none → Ex H H1 → Dp K H1 v d → H1 q = some (.lst ys) → tz D ((σ.set i (some v)).set j (some (.ref q))) H1) :
    tSeq (tPar i j (tCons ta (tCons tb tNil))) tz D σ H := h H (Ex.refl H) _ fun v H1 e1 h1 => h2 H1 e1 _ fun q H2 hq e2 h3 => ⟨_, _, rfl, k v q H2 (fresh_back e1 hq) (e1.trans e2) (Dp.ex e2 d v h1) h3⟩
theorem q_rings {i n m : Nat} {p : Addr} {E E' : XK} {t : TA} (h : EvA t σ H [.ref p, .int (m : Int)]) (hp : Po p n H) (hn : n + 3 * m + 1 < 1000000000) (hm : m ≤ 20)
    (k : ∀ l bs rs H1, RI m rs → LL (Hm p H) l H1 bs rs → l ≠ p → (∀ b ∈ bs, b ≠ p) → Po p (n + 3 * m + 1) H1 → Ex (Hm p H) H1 → tz D (σ.set i (some (.ref l))) H1) : tSeq (tAsg (tCall sp_law_rings [] E (tCons (tCall sp_law_entries [] E' t) tNil)) (gName i)) tz D σ H :=
  h H (Ex.refl H) _ fun H1 e1 => ⟨p, n, m, rfl, hp.ex e1, hn, hm, fun l f H2 hl h2 hlen hx p2 e2 => ⟨l, f, rfl, h2, by omega, hx, fun q bs H3 L e3 => by
    have R := ringsTo_ok hx f.length (Nat.le_refl _)
    have e12 := hm_trans (hm_of e1) e2
    refine k q bs _ H3 (hlen ▸ R) (L.weak e12) (p2.ne L.fp) (fun b hb => p2.ne (L.fr b hb)) (p2.ex e3) (hm_trans e12 (hm_of e3))⟩⟩
/-- a call whose argument is a new list of new lists -/
theorem el_call1LB {sp : Sp} {dvs ys : List V} {rs : List (List Nat)} {E : XK} (h : EvLB te σ H rs) (hs : ∀ p ws H1, Ex H H1 → H1 p = some (.lst ws) → Paired (Lb H1) ws rs → SpL sp ([.ref p] ++ dvs) H1 ys) : EvL (tCall sp dvs E (tCons te tNil)) σ H ys := fun H1 e Q q =>
  h H1 e _ fun p ws H2 _ e2 h2 hw => hs p ws H2 (e.trans e2) h2 hw H2 (Ex.refl _) Q (fun l H3 hl e3 h3 => q l H3 (fresh_back e2 hl) (e2.trans e3) h3) E
/-- [[..] for r in rs], rs an old list of lists -/
theorem elb_map {a : Addr} {ws : List V} {rs : List (List Nat)} {j : Nat} {vs : List Nat} (F : List Nat → List Nat) (h : Ev ta σ H (.ref a)) (ha : H a = some (.lst ws)) (hr : Paired (Lb H) ws rs) (hz : ws.length ≤ 40000) (hw : ∀ x, wipe ((wipe σ vs).set j (some x)) vs = wipe σ vs)
    (he : ∀ (b : Addr) (r : List Nat) H1, Ex H H1 → r ∈ rs → H1 b = some (.lst (nv r)) → EvL te ((wipe σ vs).set j (some (.ref b))) H1 (nv (F r))) : EvLB (tLc (iList K ta) (gName j) tYes te vs) σ H (rs.map F) := fun H0 e Q q => h H0 e _ fun H1 e1 => ⟨a, rfl, ⟨ws, sq_of (e1 a _ (e a _ ha))⟩, fun Dl hD =>
  lc_list (xs := ws) (fun i H' => Ex H1 H' ∧ ∃ us, H' Dl = some (.lst us) ∧ Paired (Lc Dl H') us ((rs.map F).take i)) ⟨Ex.new hD, [], upd_same, .nil⟩ (fun i H' _ p => sq_of (p.1 a _ (e1 a _ (e a _ ha)))) (fun i x H' hi p => by
    obtain ⟨p1, us, p2, p3⟩ := p
    obtain ⟨r, hr1, b, rfl, hb⟩ := paired_get hr hi
    have hl := Paired.length hr
    have hil := (List.getElem?_eq_some_iff.mp hi).1
    have ul : us.length = i := by
      have := Paired.length p3
      rw [List.length_take, List.length_map] at this
      omega
    show wipe ((wipe σ vs).set j (some (.ref b))) vs = wipe σ vs ∧ te ((wipe σ vs).set j (some (.ref b))) H' fun y H4 => ∃ acc, H4 Dl = some (.lst acc) ∧ acc.length < sizeLine ∧ _
    refine ⟨hw _, he b r H1 (e.trans e1) (List.mem_of_getElem? hr1) (e1 b _ (e b _ hb)) H' p1 _ fun l H4 hl4 e4 h4 => ?_⟩
    have lD : l ≠ Dl := fun z => by
      subst z
      rw [hl4] at p2
      cases p2
    refine ⟨us, e4 Dl _ p2, sz_lt (by omega), Ex.mut (p1.trans e4) hD, _, upd_same, ?_⟩
    have gz : (rs.map F)[i]? = some (F r) := by rw [List.getElem?_map, hr1]; rfl
    rw [List.take_add_one, gz]
    exact Paired.snoc (paired_imp (fun _ _ z => (z.ex e4).upd) p3) ⟨l, rfl, lD, by rw [upd_ne lD]; exact h4⟩) (fun H' p => by
      obtain ⟨p1, us, p2, p3⟩ := p
      rw [List.take_of_length_le (by rw [List.length_map]; have := Paired.length hr; omega)] at p3
      exact q Dl us H' (fresh_back e1 hD) (e1.trans p1) p2 (paired_imp (fun _ _ z => z.lb) p3))⟩
end

local macro_rules | `(tactic| walk_at "call") => `(tactic| (with_reducible exact sv_whole))
local macro_rules | `(tactic| walk_at "call") => `(tactic| ((with_reducible refine' sv_order ?c1 ?c2); (case c1 => assumption); (case c2 => assumption)))
local macro_rules | `(tactic| walk_at "call") => `(tactic| ((with_reducible refine' sv_ord ?c1 ?c2); (case c1 => assumption); (case c2 => assumption)))

/-! ### coming lists: the mathematics -/
def Cm (c : List Nat) : Prop := 1 ≤ c.length ∧ c.length ≤ 20 ∧ ∀ (i x : Nat), c[i]? = some x → x ≤ i
theorem Cm.get {c : List Nat} (h : Cm c) (k : Nat) : c.getD k 0 ≤ k := by
  rw [List.getD_eq_getElem?_getD]
  cases e : c[k]? with
  | none => exact Nat.zero_le _
  | some x => exact h.2.2 k x e
/-- one more guest at the left of x, or alone -/
def sits (h : List Nat) (k x : Nat) : List Nat := if x = k then h ++ [k] else ((h ++ [k]).set k (h.getD x 0)).set x k
def sby (c : List Nat) : Nat → List Nat
  | 0 => []
  | k + 1 => sits (sby c k) k (c.getD k 0)
theorem sits_len {h : List Nat} {k x : Nat} : (sits h k x).length = h.length + 1 := by
  unfold sits
  split <;> simp
theorem sby_len (c : List Nat) : ∀ k, (sby c k).length = k
  | 0 => rfl
  | k + 1 => by
    show (sits _ _ _).length = _
    rw [sits_len, sby_len c k]
theorem sby_take (c : List Nat) {w : Nat} (hw : w ≤ c.length) : ∀ k, k ≤ w → sby (c.take w) k = sby c k
  | 0, _ => rfl
  | k + 1, h => by
    show sits (sby (c.take w) k) k _ = sits (sby c k) k _
    rw [sby_take c hw k (by omega)]
    congr 1
    rw [List.getD_eq_getElem?_getD, List.getD_eq_getElem?_getD, List.getElem?_take]
    rw [if_pos (by omega)]
theorem insr_at {pal one : Nat} {r : List Nat} {j : Nat} (nd : r.Nodup) (hj : r[j]? = some pal) (ne : pal ≠ one) : insr pal one r = r.take (j + 1) ++ [one] ++ r.drop (j + 1) := by
  have hm := List.mem_of_getElem? hj
  have e : r.idxOf pal = j := by
    have hl := List.idxOf_lt_length_of_mem hm
    have h1 : r[r.idxOf pal]? = some pal := by rw [List.getElem?_eq_getElem hl, List.getElem_idxOf hl]
    exact nd_ix nd h1 hj
  unfold insr
  rw [if_pos ⟨hm, ne⟩, e]
theorem ins_get {r : List Nat} {j one t : Nat} (hj : j < r.length) : (r.take (j + 1) ++ [one] ++ r.drop (j + 1))[t]? = if t ≤ j then r[t]? else if t = j + 1 then some one else r[t - 1]? := by
  have l1 : (r.take (j + 1)).length = j + 1 := by rw [List.length_take]; omega
  split
  · rename_i h
    rw [List.getElem?_append_left (by simp; omega), List.getElem?_append_left (by omega), List.getElem?_take, if_pos (by omega)]
  · split
    · rename_i h1 h2
      subst h2
      rw [List.getElem?_append_left (by simp; omega), List.getElem?_append_right (by omega), l1, Nat.sub_self]
      rfl
    · rename_i h1 h2
      rw [List.getElem?_append_right (by simp; omega), List.getElem?_drop]
      congr 1
      simp
      omega
theorem ins_len {r : List Nat} {j one : Nat} (hj : j < r.length) : (r.take (j + 1) ++ [one] ++ r.drop (j + 1)).length = r.length + 1 := by
  simp
  omega
theorem mod_next {i L : Nat} (h : i < L) : (i + 1) % L = if i + 1 = L then 0 else i + 1 := by
  split
  · rename_i e
    rw [e, Nat.mod_self]
  · exact Nat.mod_eq_of_lt (by omega)
theorem getD_of {r : List Nat} {i x : Nat} (h : r[i]? = some x) : r.getD i 0 = x := by
  rw [List.getD_eq_getElem?_getD, h]
  rfl
/-- the left neighbours when one more guest has sat down -/
theorem succ_step {one pal : Nat} {rs : List (List Nat)} (R : RI one rs) (lt : pal < one) : succ (rstep rs one pal) pal = one ∧ succ (rstep rs one pal) one = succ rs pal ∧ ∀ x, x < one → x ≠ pal → succ (rstep rs one pal) x = succ rs x := by
  have ne : pal ≠ one := by omega
  have R2 := R.step (pal := pal) (by omega)
  have nd2 := R2.nd
  have nd := R.nd
  have e : rstep rs one pal = rs.map (insr pal one) := by
    unfold rstep
    rw [if_neg (by omega)]
  have hp : pal ∈ rs.flatten := R.all.mem_iff.mpr (List.mem_range.mpr lt)
  obtain ⟨r, hr, hpr⟩ := List.mem_flatten.mp hp
  obtain ⟨j, hj⟩ := List.mem_iff_getElem?.mp hpr
  have jl := (List.getElem?_eq_some_iff.mp hj).1
  have ndr : r.Nodup := List.Pairwise.sublist (List.sublist_flatten_of_mem hr) nd
  have ei := insr_at (one := one) ndr hj ne
  have mem2 : r.take (j + 1) ++ [one] ++ r.drop (j + 1) ∈ rstep rs one pal := by
    rw [e, ← ei]
    exact List.mem_map.mpr ⟨r, hr, rfl⟩
  have L := ins_len (one := one) jl
  have G := fun t => ins_get (one := one) (t := t) jl
  generalize hq : r.take (j + 1) ++ [one] ++ r.drop (j + 1) = q at *
  have atj : q[j]? = some pal := by rw [G, if_pos (Nat.le_refl _)]; exact hj
  have atj1 : q[j + 1]? = some one := by rw [G, if_neg (by omega), if_pos rfl]
  have s1 := succ_at nd2 mem2 atj
  have s2 := succ_at nd2 mem2 atj1
  have s0 := succ_at nd hr hj
  refine ⟨?_, ?_, ?_⟩
  · rw [s1, L, mod_next (by omega), if_neg (by omega)]
    exact getD_of atj1
  · rw [s2, L, s0, mod_next (by omega), mod_next jl]
    by_cases z : j + 1 = r.length
    · rw [if_pos (by omega), if_pos z, List.getD_eq_getElem?_getD, List.getD_eq_getElem?_getD, G, if_pos (by omega)]
    · rw [if_neg (by omega), if_neg z, List.getD_eq_getElem?_getD, List.getD_eq_getElem?_getD, G, if_neg (by omega), if_neg (by omega)]
      rfl
  · intro x hx nx
    have hxm : x ∈ rs.flatten := R.all.mem_iff.mpr (List.mem_range.mpr hx)
    obtain ⟨s, hs, hxs⟩ := List.mem_flatten.mp hxm
    obtain ⟨i, hi⟩ := List.mem_iff_getElem?.mp hxs
    have il := (List.getElem?_eq_some_iff.mp hi).1
    have t0 := succ_at nd hs hi
    by_cases hps : pal ∈ s
    · have : s = r := nodup_flat nd hs hr hps hpr
      subst this
      rw [t0, mod_next il]
      rcases Nat.lt_trichotomy i j with h | h | h
      · have t1 := succ_at nd2 mem2 (i := i) (x := x) (by rw [G, if_pos (by omega)]; exact hi)
        rw [t1, L, mod_next (by omega), if_neg (by omega), if_neg (by omega), List.getD_eq_getElem?_getD, List.getD_eq_getElem?_getD, G, if_pos (by omega)]
      · subst h
        rw [hj] at hi
        exact absurd (Option.some.inj hi).symm nx
      · have t1 := succ_at nd2 mem2 (i := i + 1) (x := x) (by
          rw [G, if_neg (by omega), if_neg (by omega)]
          exact hi)
        rw [t1, L, mod_next (by omega)]
        by_cases z : i + 1 = s.length
        · rw [if_pos (by omega), if_pos z, List.getD_eq_getElem?_getD, List.getD_eq_getElem?_getD, G, if_pos (by omega)]
        · rw [if_neg (by omega), if_neg z, List.getD_eq_getElem?_getD, List.getD_eq_getElem?_getD, G, if_neg (by omega), if_neg (by omega)]
          rfl
    · have mem3 : s ∈ rstep rs one pal := by
        rw [e]
        exact List.mem_map.mpr ⟨s, hs, insr_no hps⟩
      rw [succ_at nd2 mem3 hi, t0]
theorem succ_open {one : Nat} {rs : List (List Nat)} (R : RI one rs) : succ (rstep rs one one) one = one ∧ ∀ x, x < one → succ (rstep rs one one) x = succ rs x := by
  have R2 := R.step (pal := one) (Nat.le_refl _)
  have nd2 := R2.nd
  have nd := R.nd
  have e : rstep rs one one = rs ++ [[one]] := by
    unfold rstep
    rw [if_pos rfl]
    exact (List.map_congr_left fun s _ => insr_same rfl).trans (List.map_id _)
  refine ⟨?_, fun x hx => ?_⟩
  · have := succ_at nd2 (r := [one]) (by rw [e]; simp) (i := 0) (x := one) rfl
    rw [this]
    simp
  · have hxm : x ∈ rs.flatten := R.all.mem_iff.mpr (List.mem_range.mpr hx)
    obtain ⟨s, hs, hxs⟩ := List.mem_flatten.mp hxm
    obtain ⟨i, hi⟩ := List.mem_iff_getElem?.mp hxs
    rw [succ_at nd2 (r := s) (by rw [e]; simp [hs]) hi, succ_at nd hs hi]
theorem sby_seat {c : List Nat} (h : ∀ (i x : Nat), c[i]? = some x → x ≤ i) : ∀ k, k ≤ c.length → sby c k = seat (ringsTo c k) k
  | 0, _ => rfl
  | k + 1, hk => by
    have ih := sby_seat h k (by omega)
    have R := ringsTo_ok h k (by omega)
    have hx : c.getD k 0 ≤ k := by
      have : c[k]? = some (c.getD k 0) := by
        rw [List.getD_eq_getElem?_getD, List.getElem?_eq_getElem (by omega)]
        rfl
      exact h k _ this
    show sits (sby c k) k (c.getD k 0) = (List.range (k + 1)).map (succ (rstep (ringsTo c k) k (c.getD k 0)))
    rw [ih]
    generalize c.getD k 0 = x at *
    generalize ringsTo c k = rs at *
    have sl := seat_len rs k
    refine List.ext_getElem? fun i => ?_
    rw [List.getElem?_map]
    unfold sits
    by_cases hxk : x = k
    · subst hxk
      obtain ⟨s1, s2⟩ := succ_open R
      rw [if_pos rfl]
      rcases Nat.lt_trichotomy i x with q | q | q
      · rw [List.getElem?_append_left (by omega), List.getElem?_range (by omega)]
        unfold seat
        rw [List.getElem?_map, List.getElem?_range q]
        show some _ = some _
        rw [s2 i q]
      · subst q
        rw [List.getElem?_append_right (by omega), sl, Nat.sub_self, List.getElem?_range (by omega)]
        show some i = some _
        rw [s1]
      · rw [List.getElem?_eq_none (by simp [sl]; omega), List.getElem?_eq_none (by simp; omega)]
        rfl
    · have xl : x < k := by omega
      obtain ⟨s1, s2, s3⟩ := succ_step R xl
      rw [if_neg hxk]
      have hgx : (seat rs k).getD x 0 = succ rs x := by
        refine getD_of ?_
        unfold seat
        rw [List.getElem?_map, List.getElem?_range xl]
        rfl
      rw [hgx, List.getElem?_set, List.getElem?_set]
      by_cases q1 : x = i
      · subst q1
        rw [if_pos rfl, if_pos (by simp [sl]; omega), List.getElem?_range (by omega)]
        show some k = some _
        rw [s1]
      · rw [if_neg q1]
        rcases Nat.lt_trichotomy i k with q | q | q
        · rw [if_neg (by omega), List.getElem?_append_left (by omega), List.getElem?_range (by omega)]
          unfold seat
          rw [List.getElem?_map, List.getElem?_range q]
          show some _ = some _
          rw [s3 i q (fun z => q1 z.symm)]
        · subst q
          rw [if_pos rfl, if_pos (by simp [sl]), List.getElem?_range (by omega)]
          show some _ = some _
          rw [s2]
        · rw [if_neg (by omega), List.getElem?_eq_none (by simp [sl]; omega), List.getElem?_eq_none (by simp; omega)]
          rfl
theorem sby_lt {c : List Nat} (h : ∀ (i x : Nat), c[i]? = some x → x ≤ i) {k : Nat} (hk : k ≤ c.length) {y : Nat} (hy : y ∈ sby c k) : y < k := by
  rw [sby_seat h k hk] at hy
  have R := ringsTo_ok h k hk
  have := (seat_perm R.all R.ne).mem_iff.mp hy
  exact List.mem_range.mp this
/-- the last guest's right neighbour, and the others without it -/
theorem sits_last {h : List Nat} {k x : Nat} (hl : h.length = k) (hlt : ∀ y ∈ h, y < k) (hx : x ≤ k) :
    (sits h k x)[x]? = some k ∧ (∀ m, m < x → (sits h k x)[m]? ≠ some k) ∧ ((sits h k x).set x ((sits h k x).getD k 0)).dropLast = h := by
  have at' : ∀ (m y : Nat), h[m]? = some y → y < k := fun m y hy => hlt y (List.mem_of_getElem? hy)
  unfold sits
  by_cases hxk : x = k
  · subst hxk
    rw [if_pos rfl]
    have g : (h ++ [x])[x]? = some x := by
      rw [List.getElem?_append_right (by omega), hl, Nat.sub_self]
      rfl
    refine ⟨g, fun m hm z => ?_, ?_⟩
    · rw [List.getElem?_append_left (by omega)] at z
      have := at' m x z
      omega
    · rw [getD_of g, List.set_append_right _ _ (by omega), hl, Nat.sub_self]
      simp
  · have xl : x < k := by omega
    rw [if_neg hxk]
    have l1 : ((h ++ [k]).set k (h.getD x 0)).length = k + 1 := by simp [hl]
    refine ⟨by rw [List.getElem?_set, if_pos rfl, if_pos (by omega)], fun m hm z => ?_, ?_⟩
    · rw [List.getElem?_set, if_neg (by omega), List.getElem?_set, if_neg (by omega), List.getElem?_append_left (by omega)] at z
      have := at' m k z
      omega
    · have g : (((h ++ [k]).set k (h.getD x 0)).set x k).getD k 0 = h.getD x 0 := by
        refine getD_of ?_
        rw [List.getElem?_set, if_neg (by omega), List.getElem?_set, if_pos rfl, if_pos (by simp [hl])]
      rw [g, List.set_set]
      have e1 : (h ++ [k]).set k (h.getD x 0) = h ++ [h.getD x 0] := by
        rw [List.set_append_right _ _ (by omega), hl, Nat.sub_self]
        rfl
      rw [e1, List.set_append_left _ _ (by omega), List.dropLast_concat]
      refine List.ext_getElem (by simp) fun i h1 h2 => ?_
      rw [List.getElem_set]
      split
      · rename_i q
        subst q
        exact getD_of (List.getElem?_eq_getElem h2)
      · rfl
/-- who opened the tables -/
theorem rings_heads (c : List Nat) : ∀ k, (ringsTo c k).map (·.headD 0) = (List.range k).filter fun i => decide (c.getD i 0 = i)
  | 0 => rfl
  | k + 1 => by
    have ih := rings_heads c k
    rw [List.range_succ, List.filter_append, ← ih]
    show (rstep (ringsTo c k) k (c.getD k 0)).map (·.headD 0) = _
    have eh : ∀ rs : List (List Nat), (rs.map (insr (c.getD k 0) k)).map (·.headD 0) = rs.map (·.headD 0) := fun rs => by
      rw [List.map_map]
      exact List.map_congr_left fun r _ => insr_head
    unfold rstep
    rw [eh]
    by_cases h : c.getD k 0 = k
    · have q : decide (c.getD k 0 = k) = true := decide_eq_true h
      rw [if_pos h.symm, List.map_append, List.filter_cons, q]
      rfl
    · have q : decide (c.getD k 0 = k) = false := decide_eq_false h
      rw [if_neg (fun z => h z.symm), List.filter_cons, q]
      simp

local macro_rules | `(tactic| walk_at "call") => `(tactic| (with_reducible exact sv_whole))
local macro_rules | `(tactic| walk_at "call") => `(tactic| ((with_reducible refine' sv_order ?c1 ?c2); (case c1 => assumption); (case c2 => assumption)))
local macro_rules | `(tactic| walk_at "call") => `(tactic| ((with_reducible refine' sv_ord ?c1 ?c2); (case c1 => assumption); (case c2 => assumption)))

/-! ### is_within of anything, is_coming of anything -/
def inD (l m : Int) : PyData → Bool
  | .int i => decide (l ≤ i) && decide (i ≤ m)
  | _ => false
def sp_is_within (K : PySem.W.Frag) : Sp := fun vs H Q _ => ∃ (v : V) (d : PyData) (l m : Int), vs = [v, .int l, .int m] ∧ It K H v d ∧ RetV (.bl (inD l m d)) H Q
theorem sv_within {K : PySem.W.Frag} {H : Hp} {v : V} {d : PyData} {l m : Int} (h : It K H v d) : SpV (sp_is_within K) ([v, .int l, .int m] ++ []) H (.bl (inD l m d)) := fun H1 e Q q E => ⟨v, d, l, m, rfl, h.ex e, q⟩
theorem sv_between {K : PySem.W.Frag} {H : Hp} {x l m : Int} : SpV (sp_is_within K) ([.int x, .int l, .int m] ++ []) H (.bl (decide (l ≤ x) && decide (x ≤ m))) := fun H1 _ Q q E => ⟨.int x, .int x, l, m, rfl, .int x, q⟩
def allIn : Nat → List PyData → Bool
  | _, [] => true
  | k, d :: r => inD 0 (k : Int) d && allIn (k + 1) r
/-- whether a thing is a coming list -/
def judgeC : Option (List PyData) → Bool
  | none => false
  | some ds => lenOk ds.length && allIn 0 ds
theorem allIn_eq : ∀ (k : Nat) (ds : List PyData), allIn k ds = ((List.range ds.length).map fun i => inD 0 ((k + i : Nat) : Int) (ds.getD i .none)).all id
  | _, [] => rfl
  | k, d :: r => by
    rw [List.length_cons, List.range_succ_eq_map, List.map_cons, List.all_cons, List.map_map]
    show (inD 0 (k : Int) d && allIn (k + 1) r) = (inD 0 ((k + 0 : Nat) : Int) d && _)
    rw [allIn_eq (k + 1) r, Nat.add_zero]
    congr 3
    funext i
    show inD 0 ((k + 1 + i : Nat) : Int) (r.getD i .none) = inD 0 ((k + (i + 1) : Nat) : Int) (r.getD i .none)
    rw [show k + 1 + i = k + (i + 1) by omega]
theorem allIn_isI : ∀ {k : Nat} {ds : List PyData}, allIn k ds = true → ds.all isI = true
  | _, [], _ => rfl
  | k, d :: r, h => by
    have h : (inD 0 (k : Int) d && allIn (k + 1) r) = true := h
    rw [Bool.and_eq_true] at h
    rw [List.all_cons, Bool.and_eq_true]
    refine ⟨?_, allIn_isI h.2⟩
    cases d <;> first | rfl | exact Bool.noConfusion h.1
def sp_anyC (K : PySem.W.Frag) : Sp := fun vs H Q _ => ∃ (v : V) (o : Option (List PyData)), vs = [v] ∧ Th K H v o ∧ RetV (.bl (judgeC o)) H Q
theorem sv_anyC {K : PySem.W.Frag} {H : Hp} {v : V} {o : Option (List PyData)} (hv : Th K H v o) : SpV (sp_anyC K) ([v] ++ []) H (.bl (judgeC o)) := fun H1 e Q q E => ⟨v, o, rfl, hv.ex e, q⟩
theorem allIn_cm : ∀ {c : List Nat} {k : Nat}, (∀ (i x : Nat), c[i]? = some x → x ≤ k + i) → allIn k ((iz c).map PyData.int) = true
  | [], _, _ => rfl
  | x :: r, k, h => by
    show (inD 0 (k : Int) (.int (x : Int)) && allIn (k + 1) ((iz r).map PyData.int)) = true
    have h0 := h 0 x rfl
    rw [allIn_cm (c := r) (k := k + 1) fun i y hy => by have := h (i + 1) y hy; omega]
    show ((decide ((0 : Int) ≤ (x : Int)) && decide ((x : Int) ≤ (k : Int))) && true) = true
    rw [decide_eq_true (by omega), decide_eq_true (by omega)]
    rfl
theorem judgeC_cm {c : List Nat} (o : Cm c) : judgeC (some ((iz c).map PyData.int)) = true := by
  have el : ((iz c).map PyData.int).length = c.length := by simp [iz]
  have e := allIn_cm (c := c) (k := 0) fun i x hx => by have := o.2.2 i x hx; omega
  have o1 := o.1
  have o2 := o.2.1
  unfold judgeC lenOk
  simp only
  rw [el, e, decide_eq_true (by omega), decide_eq_true (by omega)]
  rfl
theorem th_row {K : PySem.W.Frag} {H : Hp} {a : Addr} {h : List Nat} (ha : H a = some (.lst (nv h))) : Th K H (.ref a) (some ((iz h).map PyData.int)) := .lst ha (ita_ints _) (fine_ints _)
theorem sv_coming {K : PySem.W.Frag} {H : Hp} {a : Addr} {c : List Nat} (ha : H a = some (.lst (nv c))) (o : Cm c) : SpV (sp_anyC K) ([.ref a] ++ []) H (.bl true) := by
  have := sv_anyC (K := K) (th_row ha)
  rw [judgeC_cm o] at this
  exact this
def sp_com (v : V) : Sp := fun vs H Q _ => ∃ (a : Addr) (c : List Nat), vs = [.ref a] ∧ H a = some (.lst (nv c)) ∧ Cm c ∧ RetV v H Q
theorem sv_com {H : Hp} {v : V} {a : Addr} {c : List Nat} (ha : H a = some (.lst (nv c))) (o : Cm c) : SpV (sp_com v) ([.ref a] ++ []) H v := fun H1 e Q q E => ⟨a, c, rfl, e a _ ha, o, q⟩
def sp_check_number : Sp := fun vs H Q _ => ∃ x lo hi : Int, vs = [.int x, .int lo, .int hi] ∧ lo ≤ x ∧ x ≤ hi ∧ RetV .non H Q
theorem sv_check_number {H : Hp} {lo hi x : Int} (h0 : lo ≤ x) (h1 : x ≤ hi) : SpV sp_check_number ([.int x, .int lo, .int hi] ++ []) H .non := fun H1 _ Q q E => ⟨x, lo, hi, rfl, h0, h1, q⟩
def sp_seating_by : Sp := fun vs H Q _ => ∃ (a : Addr) (c : List Nat), vs = [.ref a] ∧ H a = some (.lst (nv c)) ∧ Cm c ∧ RetL (nv (sby c c.length)) H Q
theorem sl_seating_by {H : Hp} {a : Addr} {c : List Nat} (ha : H a = some (.lst (nv c))) (o : Cm c) : SpL sp_seating_by ([.ref a] ++ []) H (nv (sby c c.length)) := fun H1 e Q q E => ⟨a, c, rfl, e a _ ha, o, q⟩
def sp_hall_of : Sp := fun vs H Q _ => ∃ (a : Addr) (c : List Nat) (w : Nat), vs = [.ref a, .int (w : Int)] ∧ H a = some (.lst (nv c)) ∧ Cm c ∧ 1 ≤ w ∧ w ≤ c.length ∧ RetL (nv (sby c w)) H Q
theorem sl_hall_of {H : Hp} {a : Addr} {c : List Nat} {w : Nat} (ha : H a = some (.lst (nv c))) (o : Cm c) (h1 : 1 ≤ w) (h2 : w ≤ c.length) : SpL sp_hall_of ([.ref a, .int (w : Int)] ++ []) H (nv (sby c w)) := fun H1 e Q q E => ⟨a, c, w, rfl, e a _ ha, o, h1, h2, q⟩
def sp_coming_of : Sp := fun vs H Q _ => ∃ (a : Addr) (c : List Nat), vs = [.ref a] ∧ H a = some (.lst (nv (sby c c.length))) ∧ Cm c ∧ RetL (nv c) H Q
theorem sl_coming_of {H : Hp} {a : Addr} {c : List Nat} (ha : H a = some (.lst (nv (sby c c.length)))) (o : Cm c) : SpL sp_coming_of ([.ref a] ++ []) H (nv c) := fun H1 e Q q E => ⟨a, c, rfl, e a _ ha, o, q⟩
def opens (c : List Nat) : List Nat := (List.range c.length).filter fun i => decide (c.getD i 0 = i)
def sp_openers_of : Sp := fun vs H Q _ => ∃ (a : Addr) (c : List Nat), vs = [.ref a] ∧ H a = some (.lst (nv (sby c c.length))) ∧ Cm c ∧ RetL (nv (opens c)) H Q
theorem sl_openers_of {H : Hp} {a : Addr} {c : List Nat} (ha : H a = some (.lst (nv (sby c c.length)))) (o : Cm c) : SpL sp_openers_of ([.ref a] ++ []) H (nv (opens c)) := fun H1 e Q q E => ⟨a, c, rfl, e a _ ha, o, q⟩
theorem Cm.ord {c : List Nat} (o : Cm c) : Ord (sby c c.length) := by
  rw [sby_seat o.2.2 _ (Nat.le_refl _)]
  have R := ringsTo_ok o.2.2 c.length (Nat.le_refl _)
  exact seat_ord R.all R.ne o.1 o.2.1
theorem Cm.rings {c : List Nat} (o : Cm c) : Rings (sby c c.length) (ringsTo c c.length) := by
  rw [sby_seat o.2.2 _ (Nat.le_refl _)]
  exact (ringsTo_ok o.2.2 c.length (Nat.le_refl _)).rings
theorem Cm.take {c : List Nat} (o : Cm c) {w : Nat} (h1 : 1 ≤ w) (h2 : w ≤ c.length) : Cm (c.take w) := by
  have l : (c.take w).length = w := by rw [List.length_take]; omega
  have o2 := o.2.1
  refine ⟨by omega, by omega, fun i x h => ?_⟩
  rw [List.getElem?_take] at h
  by_cases q : i < w
  · rw [if_pos q] at h
    exact o.2.2 i x h
  · rw [if_neg q] at h
    cases h
theorem cut_to {f : List Nat} {hi : Nat} (h : hi ≤ f.length) : cutV (nv f) none (some (hi : Int)) = nv (f.take hi) := by
  unfold cutV
  rw [HT.sIx_none, HT.sIx_nat, nv_len, Nat.min_eq_left h, Nat.sub_zero, List.drop_zero, nv_eq, nv_eq, List.map_take]
theorem last_some {xs : List V} {i : Nat} (h : xs.length = i + 1) : xs[xs.length - 1]? = some (xs.getD i .non) := by
  rw [h, show i + 1 - 1 = i by omega, List.getD_eq_getElem?_getD, List.getElem?_eq_getElem (by omega)]
  rfl
theorem idx_first {l : List Nat} {k x : Nat} (h1 : l[x]? = some k) (h2 : ∀ m, m < x → l[m]? ≠ some k) : l.idxOf k = x := by
  have hm := List.mem_of_getElem? h1
  have hl := List.idxOf_lt_length_of_mem hm
  have h3 : l[l.idxOf k]? = some k := by rw [List.getElem?_eq_getElem hl, List.getElem_idxOf hl]
  have le : l.idxOf k ≤ x := by
    rcases Nat.lt_or_ge x (l.idxOf k) with q | q
    · have := List.not_of_lt_findIdx (p := (· == k)) (xs := l) (i := x) (by simpa [List.idxOf] using q)
      have xl := (List.getElem?_eq_some_iff.mp h1).1
      have ex := (List.getElem?_eq_some_iff.mp h1).2
      simp [ex] at this
    · exact q
  rcases Nat.lt_or_eq_of_le le with q | q
  · exact absurd h3 (h2 _ q)
  · exact q
section
variable {K : PySem.W.Frag} {σ : L2.St} {H : Hp} {ta te tl : TE} {D : Ends} {tz : TS}
theorem el_by1 {c : List Nat} {E : XK} (h : EvL ta σ H (nv c)) (o : Cm c) : EvL (tCall sp_seating_by [] E (tCons ta tNil)) σ H (nv (sby c c.length)) := fun H1 e Q q => h H1 e _ fun b H2 nb e2 hb => ⟨b, c, rfl, hb, o, fun r H3 nr e3 hr => q r H3 (fresh_back e2 nr) (e2.trans e3) hr⟩
theorem s_pop0 {l : Addr} {xs : List V} {y : V} (hl : H l = some (.lst xs)) (hy : xs[xs.length - 1]? = some y) (ha : Ev ta σ H (.ref l)) (k : ∀ H1, Ex H H1 → D.nx σ (upd H1 l (.lst xs.dropLast))) : tDrop (tBM0 K "list" rPop ta) D σ H :=
  ha H (Ex.refl H) _ fun H1 e1 => ⟨Or.inl ⟨rfl, xs, sq_of (e1 l _ hl)⟩, ⟨l, xs, y, rfl, rfl, e1 l _ hl, hy, k H1 e1⟩⟩
/-- [e for x in a new list of tuples] -/
theorem el_mapLT {j : Nat} {vs : List Nat} {rs : List (List V)} (f : List V → V) (h : EvLT tl σ H rs) (hz : rs.length ≤ 40000) (hw : ∀ x, wipe ((wipe σ vs).set j (some x)) vs = wipe σ vs)
    (he : ∀ (b : Addr) (r : List V) H1, Ex H H1 → H1 b = some (.tup r) → r ∈ rs → Ev te ((wipe σ vs).set j (some (.ref b))) H1 (f r)) : EvL (tLc (iList K tl) (gName j) tYes te vs) σ H (rs.map f) := fun H0 e Q q =>
  h H0 e _ fun p ws H1 np e1 hp t => by
    have tl1 := t.len
    have g := el_mapI (K := K) (te := te) (tl := fun _ H' Q => Q (.ref p) H') (σ := σ) (H := H1) (a := p) (xs := ws) (j := j) (vs := vs) (fun i => f (rs.getD i [])) (fun H2 _ Q q => q H2 (Ex.refl _)) (sq_of hp) (by omega) hw fun i x H2 e2 hx => by
      obtain ⟨b, r, rfl, hb, hr⟩ := t.get hx
      have er : rs.getD i [] = r := by
        rw [List.getD_eq_getElem?_getD, hr]
        rfl
      rw [er]
      exact he b r H2 (e.trans (e1.trans e2)) (e2 b _ hb) (List.mem_of_getElem? hr)
    have em : (List.range ws.length).map (fun i => f (rs.getD i [])) = rs.map f := by
      rw [tl1]
      conv => rhs; rw [range_get rs []]
      rw [List.map_map]
      rfl
    rw [em] at g
    exact g H1 (Ex.refl _) Q fun r H2 nr e2 hr => q r H2 (fresh_back e1 nr) (e1.trans e2) hr
end
section
variable {P : Program} {w : World} {K : PySem.W.Frag} {mg : Str → Option Value} {base : Heap}
theorem ok_is_within (T : Tx K mg) : FnOk P w K mg base CX0 2 T.f_is_within T.d_is_within ["thing", "least", "most"] (sp_is_within K) := by
  refine T.F_is_within.ok sc_is_within (fun vs H Q E h => ?_) (fun cdv A outer s H vs Q E hr h => ?_)
  · obtain ⟨v, d, l, m, rfl, _⟩ := h
    rfl
  · obtain ⟨v, d, l, m, rfl, hv, k⟩ := h
    refine ⟨_, (pss_one (ps_ret (pe_and (pe_call (ok_is_whole T) (hr.mono (by decide)) (by rfl) T.g_is_whole T.F_is_whole.kp T.b_is_whole .nil pass0 (pa_cons (pv 0) pa_nil)) (pe_one (pe_chain op_le op_le (pv 1) (pv 0) (pv 2)))))), ?_⟩
    cases hd : isI d with
    | false =>
      have e : inD l m d = false := by cases d <;> first | rfl | exact Bool.noConfusion hd
      rw [e] at k
      have wh := ev_call (E := E0) (ea_cons (ev_var (i := 0) (v := v) (σ := start n_is_within [v, .int l, .int m]) (H := H) rfl) ea_nil) (sv_wholeD hv)
      rw [hd] at wh
      exact s_ret (ev_is (ev_andV (b := false) wh fun z => Bool.noConfusion z) rfl) fun H1 e1 => k _ e1
    | true =>
      cases hv with
      | int i =>
        refine s_ret (v := .bl (inD l m (.int i))) (ev_is (by walk_at "ev") (by rfl)) fun H1 e1 => k _ e1
      | non => exact Bool.noConfusion hd
      | bl b => exact Bool.noConfusion hd
      | str x => exact Bool.noConfusion hd
      | lst _ _ => exact Bool.noConfusion hd
local macro_rules | `(tactic| walk_at "call") => `(tactic| (with_reducible exact sv_between))
theorem ok_is_coming (T : Tx K mg) : FnOk P w K mg base CX0 3 T.f_is_coming T.d_is_coming ["thing"] (sp_anyC K) := by
  refine T.F_is_coming.ok sc_is_coming (fun vs H Q E h => ?_) (fun cdv A outer s H vs Q E hr h => ?_)
  · obtain ⟨v, o, rfl, _⟩ := h
    rfl
  · obtain ⟨v, o, rfl, hv, k⟩ := h
    refine ⟨_, (pss_cons (ps_if (PW.pt (pw_or (pt_cmpR (op_neTyG (hu_of hr)) (pe_typeOf2 (by rfl) T.m_type (pv 0)) (pe_bltn (v := .ty "list") (by rfl) T.m_list (by decide +kernel) rfl) (nomark _)) (pw_or1 (pt_not (pt_chain op_le op_le pe_int (pe_callB call_lenR (by rfl) T.m_len (by decide +kernel) (pa_cons (pv 0) pa_nil)) (pe_gc (by rfl) T.c_MOST_GUESTS)))))) (pss_one (ps_ret pe_bl)) pss_nil)
      (pss_one (ps_ret (pe_callB (cr_all rfl) (by rfl) T.m_all (by decide +kernel) (pa_cons (pe_lc (own := [("guest", 1), ("item", 2)]) (g := (gTup _ 2 (gCons (gName 1) (gCons (gName 2) gNil)))) (tt := tYes) rfl sc_is_coming.nd (pi_enum (by rfl) T.m_enumerate (pa_cons (pv 0) pa_nil)) (blkOk_by (own := [("guest", 1), ("item", 2)]) (N := n_is_coming) (sc := defScope s_is_coming) (by decide +kernel)) (fun _ _ _ _ _ => (pg_tup rfl (pgs_cons (pg_name (i := 1) sc_is_coming.nd rfl (Or.inl rfl)) (pgs_cons (pg_name (i := 2) sc_is_coming.nd rfl (Or.inl rfl)) pgs_nil)))) (fun _ _ _ _ _ => pts_nil) (fun _ _ _ _ _ => (pe_call (ok_is_within T) (hr.mono (by decide)) (by rfl) T.g_is_within T.F_is_within.kp T.b_is_within .nil pass0 (pa_cons (pv 2) (pa_cons pe_int (pa_cons (pv 1) pa_nil)))))) pa_nil))))), ?_⟩
    cases o with
    | none =>
      refine q_when (b := true) (et_is (et_or (b := false) (et_test (ev_noList (ev_var rfl) hv)) fun z => Bool.noConfusion z) rfl) (fun _ H1 e1 => ?_) fun hb => Bool.noConfusion hb
      exact s_ret ev_c fun H2 e2 => k _ (e1.trans e2)
    | some ds =>
      have hv0 := hv
      cases hv with
      | @lst a xs _ ha hd hf =>
        have hl : xs.length = ds.length := hd.len
        refine q_when (b := !lenOk ds.length) (et_is (et_or (et_test (ev_noList (ev_var rfl) hv0)) fun _ => et_not (et_test (ev_chainI ev_c (ev_len (ev_var rfl) (sq_of ha)) ev_c))) (by rw [hl]; rfl)) (fun hb H1 e1 => ?_) fun hb H1 e1 => ?_
        · have hb : lenOk ds.length = false := by simpa using hb
          have ej : judgeC (some ds) = false := by
            unfold judgeC
            simp only
            rw [hb]
            rfl
          rw [ej] at k
          exact s_ret ev_c fun H2 e2 => k _ (e1.trans e2)
        · have hb : lenOk ds.length = true := by simpa using hb
          have hn : 1 ≤ ds.length ∧ ds.length ≤ 20 := by
            unfold lenOk at hb
            simp at hb
            omega
          have h1 := e1 a _ ha
          have ej : judgeC (some ds) = ((List.range ds.length).map fun i : Nat => inD 0 (i : Int) (ds.getD i .none)).all id := by
            unfold judgeC
            simp only
            rw [hb, allIn_eq, Bool.true_and]
            congr 2
            funext i
            rw [Nat.zero_add]
          rw [ej] at k
          refine s_ret (ev_allN (K := K) ?_) fun H2 e2 => k _ (e1.trans e2)
          have g := el_en (K := K) (te := tCall (sp_is_within K) [] E0 (tCons (tVar 2) (tCons (tC (.int 0)) (tCons (tVar 1) tNil)))) (ta := tCons (tVar 0) tNil) (t := tYes) (i := 1) (j := 2) (vs := [1, 2]) (H := H1) (σ := start n_is_coming [.ref a]) (a := a) (xs := xs) (fun _ => true) (fun i : Nat => V.bl (inD 0 (i : Int) (ds.getD i .none))) (ea_cons (ev_var (i := 0) rfl) ea_nil) (sq_of h1) (by omega) (fun _ _ => rfl) (fun n x H2 e2 hx => et_yes) fun n x H2 e2 hx _ => ?_
          · have e : given xs.length (fun _ => true) (fun i : Nat => V.bl (inD 0 (i : Int) (ds.getD i .none))) = (((List.range ds.length).map fun i : Nat => inD 0 (i : Int) (ds.getD i .none))).map V.bl := by
              rw [given_at, hl, List.map_map]
              rfl
            rw [e] at g
            exact g
          · obtain ⟨d, hd1, hd2⟩ := ita_get hd hx
            have gd : ds.getD n .none = d := by rw [List.getD_eq_getElem?_getD, hd1] <;> rfl
            show Ev _ _ _ (V.bl (inD 0 (n : Int) (ds.getD n .none)))
            rw [gd]
            exact ev_call (ea_cons (ev_var rfl) (ea_cons ev_c (ea_cons (ev_var rfl) ea_nil))) (sv_within (hd2.ex (e1.trans e2)))
theorem ok_check_coming (T : Tx K mg) : FnOk P w K mg base CX0 4 T.f_check_coming T.d_check_coming ["coming"] (sp_com .non) := by
  refine T.F_check_coming.ok sc_check_coming (fun vs H Q E h => ?_) (fun cdv A outer s H vs Q E hr h => ?_)
  · obtain ⟨a, h, rfl, _⟩ := h
    rfl
  · obtain ⟨a, h, rfl, ha, o, k⟩ := h
    refine ⟨_, (pss_one (ps_if (pt_not (pt_val (pe_call (ok_is_coming T) (hr.mono (by decide)) (by rfl) T.g_is_coming T.F_is_coming.kp T.b_is_coming .nil pass0 (pa_cons (pv 0) pa_nil)))) (pss_one ps_never) pss_nil)), ?_⟩
    exact s_when (b := false) (et_is (et_not (et_B (ev_call (ea_cons (ev_var rfl) ea_nil) (sv_coming ha o)))) (by rfl)) (fun hb => Bool.noConfusion hb) fun _ H1 e1 => k _ e1
theorem ok_check_number (T : Tx K mg) : FnOk P w K mg base CX0 3 T.f_check_number T.d_check_number ["number", "least", "most"] sp_check_number := by
  refine T.F_check_number.ok sc_check_number (fun vs H Q E h => ?_) (fun cdv A outer s H vs Q E hr h => ?_)
  · obtain ⟨x, lo, hi, rfl, _⟩ := h
    rfl
  · obtain ⟨x, lo, hi, rfl, h0, h1, k⟩ := h
    refine ⟨_, (pss_one (ps_if (pt_not (pt_val (pe_call (ok_is_within T) (hr.mono (by decide)) (by rfl) T.g_is_within T.F_is_within.kp T.b_is_within .nil pass0 (pa_cons (pv 0) (pa_cons (pv 1) (pa_cons (pv 2) pa_nil)))))) (pss_one ps_never) pss_nil)), ?_⟩
    refine s_when (by walk_at "et") (fun hb H1 e1 => ?_) fun hb H1 e1 => k _ e1
    rw [decide_eq_true h0, decide_eq_true h1] at hb
    cases hb
theorem ok_seating_by (T : Tx K mg) : FnOk P w K mg base CX0 5 T.f_seating_by T.d_seating_by ["coming"] sp_seating_by := by
  refine T.F_seating_by.ok sc_seating_by (fun vs H Q E h => ?_) (fun cdv A outer s H vs Q E hr h => ?_)
  · obtain ⟨a, c, rfl, _⟩ := h
    rfl
  · obtain ⟨a, c, rfl, ha, o, k⟩ := h
    refine ⟨_, (pss_cons (ps_expr (pe_call (ok_check_coming T) (hr.mono (by decide)) (by rfl) T.g_check_coming T.F_check_coming.kp T.b_check_coming .nil pass0 (pa_cons (pv 0) pa_nil)))
      (pss_cons (ps_set (i := 1) sc_seating_by.nd rfl (Or.inl rfl) (pe_lst pa_nil))
      (pss_cons (ps_for PassesOwn.never rfl (pi_enum (by rfl) T.m_enumerate (pa_cons (pv 0) pa_nil)) (pg_tup rfl (pgs_cons (pg_name (i := 2) sc_seating_by.nd rfl (Or.inl rfl)) (pgs_cons (pg_name (i := 3) sc_seating_by.nd rfl (Or.inl rfl)) pgs_nil))) (pss_cons (ps_expr (pe_bm PySem.F.plainAttrs_list PySem.F.slot_list_append PySem.F.type_list_append mt_append (pv 1) (pa_cons (pv 2) pa_nil)))
      (pss_one (ps_if (pt_cmpR op_ne (pv 3) (pv 2) (nomark _)) (pss_cons (ps_asg (pe_ix ix_list (pv 1) (pv 3) (fun _ _ => rfl)) (pg_sub (pv 1) (pv 2) set_list))
      (pss_one (ps_asg (pv 2) (pg_sub (pv 1) (pv 3) set_list)))) pss_nil))))
      (pss_one (ps_ret (pv 1)))))), ?_⟩
    have o2 := o.2.1
    refine q_drop (ev_call (ea_cons (ev_var rfl) ea_nil) (sv_com ha o)) fun H1 e1 => ?_
    refine q_asgL (xs := []) (el_lst ea_nil (Nat.le_of_ble_eq_true rfl)) fun p H2 hp e2 hp2 => ?_
    have np : H p = none := fresh_back e1 hp
    have ha2 := e2 a _ (e1 a _ ha)
    have lc := nv_len c
    refine q_forEn (ea_cons (ev_var rfl) ea_nil) (sq_of ha2) (fun i σ' H' => ∃ y z, σ' = [some (.ref a), some (.ref p), y, z] ∧ Ex H H' ∧ H' p = some (.lst (nv (sby c i)))) (fun H3 e3 => ⟨none, none, rfl, e1.trans (e2.trans e3), e3 p _ hp2⟩) (fun n σ' H' _ ⟨y, z, _, e, _⟩ => sq_of (e a _ ha)) ?_ ?_
    · rintro i x σ' H' H3 hx ⟨y, z, rfl, e, hl⟩ e3
      rw [nv_eq, List.getElem?_map] at hx
      obtain ⟨q, hq, rfl⟩ := Option.map_eq_some_iff.mp hx
      have hqi := o.2.2 i q hq
      have ci : c.getD i 0 = q := getD_of hq
      have il := (List.getElem?_eq_some_iff.mp hq).1
      have hl3 := e3 p _ hl
      have sl := sby_len c i
      refine q_app (xs := nv (sby c i)) hl3 (ev_var rfl) (ev_var rfl) (by rw [nv_len]; omega) fun H4 e4 => ?_
      have es : nv (sby c i) ++ [V.int (i : Int)] = nv (sby c i ++ [i]) := by rw [nv_app]; rfl
      rw [es]
      have eX : Ex H (upd H4 p (.lst (nv (sby c i ++ [i])))) := Ex.mut (e.trans (e3.trans e4)) np
      refine s_when (b := decide (q ≠ i)) (et_is (et_test (ev_op (ev_var rfl) (ev_var rfl) (rv_ne rfl))) ?_) (fun hb H5 e5 => ?_) fun hb H5 e5 => ?_
      · rw [Bool.eq_iff_iff]
        simp only [Bool.not_eq_true', decide_eq_false_iff_not, decide_eq_true_eq]
        constructor
        · intro h1 h2
          exact h1 (by rw [h2])
        · intro h1 h2
          exact h1 (by have := V.int.inj h2; omega)
      · have nq := of_decide_eq_true hb
        have ql : q < i := by omega
        have h5 := e5 p _ upd_same
        have at1 : (sby c i ++ [i])[q]? = some ((sby c i).getD q 0) := by
          rw [List.getElem?_append_left (by omega), List.getD_eq_getElem?_getD, List.getElem?_eq_getElem (by omega)]
          rfl
        refine q_setL (j := i) h5 (ev_op (ev_var rfl) (ev_var rfl) (rv_ixL (K := K) (sq_of h5) (atI_nat (nv_get at1)))) (ev_var rfl) (ev_var rfl) (by rw [nv_len]; simp; omega) fun H6 e6 => ?_
        have es2 : (nv (sby c i ++ [i])).set i (V.int (((sby c i).getD q 0 : Nat) : Int)) = nv ((sby c i ++ [i]).set i ((sby c i).getD q 0)) := by rw [nv_eq, nv_eq, List.map_set]
        rw [es2]
        refine s_setL (j := q) upd_same (ev_var rfl) (ev_var rfl) (ev_var rfl) (by rw [nv_len]; simp; omega) fun H7 e7 => ?_
        have es3 : (nv ((sby c i ++ [i]).set i ((sby c i).getD q 0))).set q (V.int (i : Int)) = nv (sby c (i + 1)) := by
          rw [nv_eq, nv_eq, ← List.map_set]
          congr 1
          show _ = sits (sby c i) i (c.getD i 0)
          unfold sits
          rw [ci, if_neg nq]
        rw [es3]
        exact ⟨_, _, rfl, Ex.mut ((Ex.mut (eX.trans (e5.trans e6)) np).trans e7) np, upd_same⟩
      · have eq : q = i := by simpa using hb
        refine ⟨_, _, rfl, eX.trans e5, ?_⟩
        have h5 := e5 p _ (upd_same (H := H4) (a := p) (o := .lst (nv (sby c i ++ [i]))))
        rw [h5]
        congr 2
        show _ = nv (sits (sby c i) i (c.getD i 0))
        unfold sits
        rw [ci, if_pos eq]
    · rintro σ' H' ⟨y, z, rfl, e, hl⟩
      rw [lc] at hl
      exact s_ret (ev_var rfl) fun H3 e3 => k p H3 np (e.trans e3) (e3 p _ hl)
theorem ok_hall_of (T : Tx K mg) : FnOk P w K mg base CX0 6 T.f_hall_of T.d_hall_of ["coming", "number"] sp_hall_of := by
  refine T.F_hall_of.ok sc_hall_of (fun vs H Q E h => ?_) (fun cdv A outer s H vs Q E hr h => ?_)
  · obtain ⟨a, c, n, rfl, _⟩ := h
    rfl
  · obtain ⟨a, c, n, rfl, ha, o, h1, h2, k⟩ := h
    refine ⟨_, (pss_cons (ps_expr (pe_call (ok_check_coming T) (hr.mono (by decide)) (by rfl) T.g_check_coming T.F_check_coming.kp T.b_check_coming .nil pass0 (pa_cons (pv 0) pa_nil)))
      (pss_cons (ps_expr (pe_call (ok_check_number T) (hr.mono (by decide)) (by rfl) T.g_check_number T.F_check_number.kp T.b_check_number .nil pass0 (pa_cons (pv 1) (pa_cons pe_int (pa_cons (pe_callB call_lenR (by rfl) T.m_len (by decide +kernel) (pa_cons (pv 0) pa_nil)) pa_nil)))))
      (pss_one (ps_ret (pe_call (ok_seating_by T) (hr.mono (by decide)) (by rfl) T.g_seating_by T.F_seating_by.kp T.b_seating_by .nil pass0 (pa_cons (pe_slice sl_list (pv 0) po_none (po_some (pv 1))) pa_nil)))))), ?_⟩
    have lc := nv_len c
    refine q_drop (ev_call (ea_cons (ev_var rfl) ea_nil) (sv_com ha o)) fun H1 e1 => ?_
    have ha1 := e1 a _ ha
    refine q_drop (ev_call (ea_cons (ev_var rfl) (ea_cons ev_c (ea_cons (ev_len (ev_var rfl) (sq_of ha1)) ea_nil))) (sv_check_number (by omega) (by rw [lc]; omega))) fun H2 e2 => ?_
    have ha2 := e2 a _ ha1
    have sl := el_sl (K := K) (te := tVar 0) (tl := tNoPart) (th := tPart (tVar 1)) (σ := start n_hall_of [.ref a, .int (n : Int)]) (H := H2) (ev_var (i := 0) (v := .ref a) rfl) eo_none (eo_some (ev_var (i := 1) (v := .int (n : Int)) rfl)) (sq_of ha2)
    rw [cut_to h2] at sl
    have g := el_by1 (E := E0) sl (o.take h1 h2)
    have l : (c.take n).length = n := by rw [List.length_take]; omega
    rw [l, sby_take c h2 n (Nat.le_refl _)] at g
    exact s_retL g fun p H3 np e3 h3 => k p H3 (fresh_back (e1.trans e2) np) (e1.trans (e2.trans e3)) h3
theorem ok_coming_of (T : Tx K mg) : FnOk P w K mg base CX0 5 T.f_coming_of T.d_coming_of ["seating"] sp_coming_of := by
  refine T.F_coming_of.ok sc_coming_of (fun vs H Q E h => ?_) (fun cdv A outer s H vs Q E hr h => ?_)
  · obtain ⟨a, c, rfl, _⟩ := h
    rfl
  · obtain ⟨a, c, rfl, ha, o, k⟩ := h
    refine ⟨_, (pss_cons (ps_expr (pe_call (ok_check_seating T) (hr.mono (by decide)) (by rfl) T.g_check_seating T.F_check_seating.kp T.b_check_seating .nil pass0 (pa_cons (pv 0) pa_nil)))
      (pss_cons (ps_set (i := 1) sc_coming_of.nd rfl (Or.inl rfl) (pe_callTy call_listR (by rfl) T.m_list (by decide +kernel) (pa_cons (pv 0) pa_nil)))
      (pss_cons (ps_set (i := 2) sc_coming_of.nd rfl (Or.inl rfl) (pe_lst pa_nil))
      (pss_cons (ps_while PassesOwn.never (pt_truth (pv 1) (by intro _; rfl)) (pss_cons (ps_set (i := 3) sc_coming_of.nd rfl (Or.inl rfl) (pe_bm PySem.F.plainAttrs_list PySem.F.slot_list_index PySem.F.type_list_index mt_index (pv 1) (pa_cons (pe_op op_sub (pe_callB call_lenR (by rfl) T.m_len (by decide +kernel) (pa_cons (pv 1) pa_nil)) pe_int) pa_nil)))
      (pss_cons (ps_expr (pe_bm PySem.F.plainAttrs_list PySem.F.slot_list_append PySem.F.type_list_append mt_append (pv 2) (pa_cons (pv 3) pa_nil)))
      (pss_cons (ps_asg (pe_ix ix_list (pv 1) (pe_un un_neg pe_int) (fun _ _ => rfl)) (pg_sub (pv 1) (pv 3) set_list))
      (pss_one (ps_expr (pe_bm0 PySem.F.plainAttrs_list PySem.F.slot_list_pop PySem.F.type_list_pop mt_pop (pv 1))))))))
      (pss_one (ps_ret (pe_revL (pv 2)))))))), ?_⟩
    have oo := o.ord
    have o2 := o.2.1
    have sl := sby_len c c.length
    refine q_drop (ev_call (ea_cons (ev_var rfl) ea_nil) (sv_ord ha oo)) fun H1 e1 => ?_
    have ha1 := e1 a _ ha
    refine q_asgL (xs := nv (sby c c.length)) (el_list (ev_var rfl) (sq_of ha1)) fun b H2 nb e2 hb => ?_
    refine q_asgL (xs := []) (el_lst ea_nil (Nat.le_of_ble_eq_true rfl)) fun p H3 np e3 hp => ?_
    have fb : H b = none := fresh_back e1 nb
    have fp : H p = none := fresh_back (e1.trans e2) np
    have pb : p ≠ b := fun z => by
      subst z
      rw [hb] at np
      cases np
    refine q_while (fun m σ' H' => ∃ (i : Nat) (y : Option V), σ' = [some (.ref a), some (.ref b), some (.ref p), y] ∧ Ex H H' ∧ H' b = some (.lst (nv (sby c i))) ∧ H' p = some (.lst (nv (c.drop i).reverse)) ∧ i ≤ c.length ∧ m = i) c.length ⟨c.length, none, rfl, e1.trans (e2.trans e3), e3 b _ hb, by rw [hp, List.drop_length]; rfl, Nat.le_refl _, rfl⟩ ?_
    rintro m σ' H' ⟨i, y, rfl, e, hb', hp', hi, hm⟩
    subst hm
    have si := sby_len c m
    have lb := nv_len (sby c m)
    refine ⟨decide (m ≠ 0), et_is (et_tru (K := K) (ev_var rfl) (sq_of hb')) ?_, fun hz H4 e4 => ?_, fun hz H4 e4 => ?_⟩
    · have : (nv (sby c m)).length = m := by rw [lb, si]
      cases hq : nv (sby c m) with
      | nil =>
        rw [hq] at this
        have : m = 0 := this.symm
        subst this
        rfl
      | cons x l =>
        rw [hq] at this
        have : m ≠ 0 := by
          have : l.length + 1 = m := this
          omega
        rw [decide_eq_true this]
        rfl
    · have hz := of_decide_eq_true hz
      obtain ⟨i, rfl⟩ : ∃ i, m = i + 1 := ⟨m - 1, by omega⟩
      have ci := o.get i
      have hlt : ∀ y ∈ sby c i, y < i := fun y hy => sby_lt o.2.2 (by omega) hy
      obtain ⟨t1, t2, t3⟩ := sits_last (sby_len c i) hlt ci
      have es : sby c (i + 1) = sits (sby c i) i (c.getD i 0) := rfl
      rw [← es] at t1 t2 t3
      have hb4 := e4 b _ hb'
      have hp4 := e4 p _ hp'
      have ix := idx_first t1 t2
      have xl := (List.getElem?_eq_some_iff.mp t1).1
      have iv := ev_index (K := K) (ta := tVar 1) (te := tOp (rI0 fun i j => .int (i - j)) (tCB (rLenS K) (tCons (tVar 1) tNil)) (tC (.int 1))) (σ := [some (.ref a), some (.ref b), some (.ref p), y]) (x := i) hb4 (ev_var (i := 1) rfl) (ev_is (ev_op (ev_len (ev_var (i := 1) (v := .ref b) rfl) (sq_of hb4)) ev_c rv_I0) (by rw [lb, si]; congr 1; omega)) (List.mem_of_getElem? t1)
      rw [ix] at iv
      refine ⟨fun σ2 H8 => σ2 = [some (.ref a), some (.ref b), some (.ref p), some (.int ((c.getD i 0 : Nat) : Int))] ∧ Ex H H8 ∧ H8 b = some (.lst (nv (sby c i))) ∧ H8 p = some (.lst (nv (c.drop i).reverse)), fun σ2 H8 ⟨h1, h2, h3, h4⟩ => ⟨i, by omega, i, _, h1, h2, h3, h4, by omega, rfl⟩, ?_⟩
      refine q_asg iv fun H5 e5 => ?_
      have hb5 := e5 b _ hb4
      have hp5 := e5 p _ hp4
      refine q_app (xs := nv (c.drop (i + 1)).reverse) hp5 (ev_var rfl) (ev_var rfl) (by rw [nv_len]; simp; omega) fun H6 e6 => ?_
      have ep : nv (c.drop (i + 1)).reverse ++ [V.int ((c.getD i 0 : Nat) : Int)] = nv (c.drop i).reverse := by
        have hci : c[i]? = some (c.getD i 0) := by
          rw [List.getD_eq_getElem?_getD, List.getElem?_eq_getElem (by omega)]
          rfl
        obtain ⟨hk, hv⟩ := List.getElem?_eq_some_iff.mp hci
        rw [List.drop_eq_getElem_cons hk, List.reverse_cons, nv_app, hv]
        rfl
      rw [ep]
      have hb6 : (upd H6 p (.lst (nv (c.drop i).reverse))) b = some (.lst (nv (sby c (i + 1)))) := by
        rw [upd_ne (Ne.symm pb)]
        exact e6 b _ hb5
      have eX : Ex H (upd H6 p (.lst (nv (c.drop i).reverse))) := Ex.mut (e.trans (e4.trans (e5.trans e6))) fp
      have lastv : atI (nv (sby c (i + 1))) (-1) = some (.int (((sby c (i + 1)).getD i 0 : Nat) : Int)) := by
        have ne : sby c (i + 1) ≠ [] := fun z => by
          rw [z] at si
          simp at si
        obtain ⟨r, x, hr⟩ : ∃ r x, sby c (i + 1) = r ++ [x] := ⟨_, _, (List.dropLast_concat_getLast ne).symm⟩
        have rl : r.length = i := by
          rw [hr] at si
          simp at si
          exact si
        rw [hr, nv_app]
        have : (r ++ [x]).getD i 0 = x := getD_of (by rw [List.getElem?_append_right (by omega), rl, Nat.sub_self]; rfl)
        rw [this]
        exact atI_last _ _
      refine q_setL (j := c.getD i 0) hb6 (ev_op (ev_var rfl) (ev_un ev_c ru_neg) (rv_ixL (K := K) (sq_of hb6) lastv)) (ev_var rfl) (ev_var rfl) (by rw [lb]; exact xl) fun H7 e7 => ?_
      have es2 : (nv (sby c (i + 1))).set (c.getD i 0) (V.int (((sby c (i + 1)).getD i 0 : Nat) : Int)) = nv ((sby c (i + 1)).set (c.getD i 0) ((sby c (i + 1)).getD i 0)) := by rw [nv_eq, nv_eq, List.map_set]
      rw [es2]
      have l7 : (nv ((sby c (i + 1)).set (c.getD i 0) ((sby c (i + 1)).getD i 0))).length = i + 1 := by rw [nv_len, List.length_set, si]
      refine s_pop0 (xs := nv ((sby c (i + 1)).set (c.getD i 0) ((sby c (i + 1)).getD i 0))) (y := (nv ((sby c (i + 1)).set (c.getD i 0) ((sby c (i + 1)).getD i 0))).getD i .non) upd_same ?_ (ev_var rfl) fun H8 e8 => ⟨rfl, ?_, ?_, ?_⟩
      · exact last_some l7
      · exact Ex.mut ((Ex.mut (eX.trans e7) fb).trans e8) fb
      · rw [upd_same]
        congr 2
        rw [nv_eq, ← List.map_dropLast, t3, ← nv_eq]
      · rw [upd_ne pb]
        refine e8 p _ ?_
        rw [upd_ne pb]
        exact e7 p _ upd_same
    · have hz : m = 0 := by simpa using hz
      subst hz
      have hp4 := e4 p _ hp'
      refine s_retL (el_rev (K := K) (ev_var rfl) (sq_of hp4)) fun q H5 nq e5 h5 => k q H5 (fresh_back (e.trans e4) nq) (e.trans (e4.trans e5)) ?_
      rw [h5, nv_eq, ← List.map_reverse, List.reverse_reverse, List.drop_zero, nv_eq]
theorem ok_openers_of (T : Tx K mg) : FnOk P w K mg base CX0 6 T.f_openers_of T.d_openers_of ["seating"] sp_openers_of := by
  refine T.F_openers_of.ok sc_openers_of (fun vs H Q E h => ?_) (fun cdv A outer s H vs Q E hr h => ?_)
  · obtain ⟨a, c, rfl, _⟩ := h
    rfl
  · obtain ⟨a, c, rfl, ha, o, k⟩ := h
    refine ⟨_, (pss_one (ps_ret (pe_lc (own := [("table", 1)]) (g := (gName 1)) (tt := tYes) rfl sc_openers_of.nd (pi_list (pe_call (ok_tables_of T) (hr.mono (by decide)) (by rfl) T.g_tables_of T.F_tables_of.kp T.b_tables_of .nil pass0 (pa_cons (pv 0) pa_nil))) (blkOk_by (own := [("table", 1)]) (N := n_openers_of) (sc := defScope s_openers_of) (by decide +kernel)) (fun _ _ _ _ _ => (pg_name (i := 1) sc_openers_of.nd rfl (Or.inl rfl))) (fun _ _ _ _ _ => pts_nil) (fun _ _ _ _ _ => (pe_ix (r := rIxT K) ix_tup (pv 1) pe_int (fun _ _ => rfl)))))), ?_⟩
    have lt : EvLT (tCall sp_tables_of [] E0 (tCons (tVar 0) tNil)) (start n_openers_of [.ref a]) H ((ringsTo c c.length).map nv) := fun H1 e Q' q => (ea_cons (ev_var (i := 0) rfl) ea_nil) H1 e _ fun H2 e2 => ⟨a, _, _, rfl, (e.trans e2) a _ ha, o.ord, o.rings, fun p ws H3 hp e3 h3 t => q p ws H3 (fresh_back e2 hp) (e2.trans e3) h3 t⟩
    have R := ringsTo_ok o.2.2 c.length (Nat.le_refl _)
    have rn : (ringsTo c c.length).length ≤ 40000 := by
      have h1 := rings_heads c c.length
      have h2 : ((ringsTo c c.length).map (·.headD 0)).length ≤ c.length := by
        rw [h1]
        have := List.length_filter_le (fun i => decide (c.getD i 0 = i)) (List.range c.length)
        rw [List.length_range] at this
        exact this
      rw [List.length_map] at h2
      have := o.2.1
      omega
    have g := el_mapLT (K := K) (te := tOp (rIxT K) (tVar 1) (tC (.int 0))) (tl := tCall sp_tables_of [] E0 (tCons (tVar 0) tNil)) (j := 1) (vs := [1]) (fun r => r.getD 0 .non) lt (by rw [List.length_map]; exact rn) (fun _ => rfl) fun b r H1 e1 hb hr => ?_
    · have e : ((ringsTo c c.length).map nv).map (fun r => r.getD 0 .non) = nv (opens c) := by
        unfold opens
        rw [← rings_heads, nv_eq, List.map_map, List.map_map]
        refine List.map_congr_left fun r hr => ?_
        have := R.ne r hr
        cases r with
        | nil => simp at this
        | cons x l => rfl
      rw [e] at g
      exact s_retL g fun p H1 np e1 h1 => k p H1 np e1 h1
    · obtain ⟨r0, hr0, rfl⟩ := List.mem_map.mp hr
      have := R.ne r0 hr0
      cases r0 with
      | nil => simp at this
      | cons x l => exact ev_op (ev_var rfl) ev_c (rv_ixT (st_of hb) (atI_nat (j := 0) rfl))
end

local macro_rules | `(tactic| walk_at "call") => `(tactic| (with_reducible exact sv_whole))
local macro_rules | `(tactic| walk_at "call") => `(tactic| ((with_reducible refine' sv_order ?c1 ?c2); (case c1 => assumption); (case c2 => assumption)))
local macro_rules | `(tactic| walk_at "call") => `(tactic| ((with_reducible refine' sv_ord ?c1 ?c2); (case c1 => assumption); (case c2 => assumption)))

/-! ### things, drawn and not -/
def Itm (K : PySem.W.Frag) (H : Hp) (v : V) : Prop := ∃ d, It K H v d ∧ d.canLay0 = true ∧ d.depth ≤ 5
theorem Itm.ex {K : PySem.W.Frag} {H H' : Hp} {v : V} (e : Ex H H') (h : Itm K H v) : Itm K H' v := h.imp fun d x => ⟨x.1.ex e, x.2⟩
theorem itm_int {K : PySem.W.Frag} {H : Hp} (i : Int) : Itm K H (.int i) := ⟨_, .int i, rfl, Nat.zero_le _⟩
theorem itm_bl {K : PySem.W.Frag} {H : Hp} (b : Bool) : Itm K H (.bl b) := ⟨_, .bl b, rfl, Nat.zero_le _⟩
theorem itm_non {K : PySem.W.Frag} {H : Hp} : Itm K H .non := ⟨_, .non, rfl, Nat.zero_le _⟩
theorem itm_str {K : PySem.W.Frag} {H : Hp} : Itm K H (.str (Str.ofString "0")) := ⟨_, .str _, by decide +kernel, Nat.zero_le _⟩
theorem itm_nv {K : PySem.W.Frag} {H : Hp} {r : List Nat} : ∀ v ∈ nv r, Itm K H v := fun v hv => by
  rw [nv_eq] at hv
  obtain ⟨x, _, rfl⟩ := List.mem_map.mp hv
  exact itm_int _
theorem itm_row {K : PySem.W.Frag} {H : Hp} {a : Addr} {r : List Nat} (ha : H a = some (.lst (nv r))) : Itm K H (.ref a) := ⟨_, .lst ha (dpa_nv r), canLay_ints _, by
  simp [PyData.depth, depth_ints]⟩
theorem itm_one {K : PySem.W.Frag} {H : Hp} {v : V} (h : Itm K H v) : ∀ x ∈ [v], Itm K H x := fun x hx => by
  rw [List.mem_singleton.mp hx]
  exact h
theorem itm_app {K : PySem.W.Frag} {H : Hp} {xs ys : List V} (h : ∀ v ∈ xs, Itm K H v) (h2 : ∀ v ∈ ys, Itm K H v) : ∀ v ∈ xs ++ ys, Itm K H v := fun v hv => (List.mem_append.mp hv).elim (h v) (h2 v)
theorem itm_cut {K : PySem.W.Frag} {H : Hp} {xs : List V} (h : ∀ v ∈ xs, Itm K H v) (lo hi : Option Int) : ∀ v ∈ cutV xs lo hi, Itm K H v := fun v hv => h v (by
  unfold cutV at hv
  exact List.mem_of_mem_drop (List.mem_of_mem_take hv))
theorem itm_two {K : PySem.W.Frag} {H : Hp} {v u : V} (h : Itm K H v) (h2 : Itm K H u) : ∀ x ∈ [v, u], Itm K H x := fun x hx => by
  rcases List.mem_cons.mp hx with e | hx
  · rw [e]
    exact h
  · rw [List.mem_singleton.mp hx]
    exact h2
theorem itm_rg {K : PySem.W.Frag} {H : Hp} (a b : Int) : ∀ v ∈ rgV a b, Itm K H v := fun v hv => by
  unfold rgV at hv
  obtain ⟨i, _, rfl⟩ := List.mem_map.mp hv
  exact itm_int _
theorem ita_all {K : PySem.W.Frag} {H : Hp} : ∀ {xs : List V}, (∀ v ∈ xs, Itm K H v) → ∃ ds, ItAll K H xs ds ∧ Fine ds
  | [], _ => ⟨[], .nil, fine_nil⟩
  | x :: r, h => by
    obtain ⟨ds, a, b⟩ := ita_all fun v hv => h v (List.mem_cons_of_mem _ hv)
    obtain ⟨d, c, e, f⟩ := h x List.mem_cons_self
    exact ⟨d :: ds, .cons c a, fine_cons e f b⟩
theorem at_paired {K : PySem.W.Frag} {H : Hp} : ∀ {ws : List V}, (∀ v ∈ ws, AT K H v) → ∃ os, Paired (Th K H) ws os
  | [], _ => ⟨[], .nil⟩
  | x :: r, h => by
    obtain ⟨os, a⟩ := at_paired fun v hv => h v (List.mem_cons_of_mem _ hv)
    obtain ⟨o, c⟩ := h x List.mem_cons_self
    exact ⟨o :: os, .cons c a⟩
theorem at_list {K : PySem.W.Frag} {H : Hp} {a : Addr} {xs : List V} (ha : H a = some (.lst xs)) (h : ∀ v ∈ xs, Itm K H v) : AT K H (.ref a) := by
  obtain ⟨ds, d, f⟩ := ita_all h
  exact ⟨_, .lst ha d f⟩
section
variable {K : PySem.W.Frag} {σ : L2.St} {H0 H H' : Hp} {p : Addr} {k k1 k2 : Nat} {te ta tb tc : TE} {t1 t2 t3 t4 t5 t6 : TE} {D : Ends} {tz : TS}
theorem th_I {xs : List V} (h : EvL te σ H xs) (hi : ∀ v ∈ xs, Itm K H v) : EvTh K te σ H := th_L h (ita_all hi)
theorem el_repO {a : Addr} {xs : List V} {n : Nat} (ha : Ev ta σ H (.ref a)) (h : H a = some (.lst xs)) (hb : Ev tb σ H (.int (n : Int))) (hn : n ≤ 50) (hx : xs.length ≤ 50) : EvL (tOp rRep ta tb) σ H (List.replicate n xs).flatten := fun H1 e Q q =>
  ha H1 e _ fun H2 e2 => hb H2 (e.trans e2) _ fun H3 e3 => ⟨a, (n : Int), xs, rfl, rfl, e3 a _ (e2 a _ (e a _ h)), by omega, by omega, sz_of (by
    rw [Int.toNat_natCast]
    exact Nat.le_trans (Nat.mul_le_mul hx hn) (by decide)), fun l hl => q l _ (fresh_back (e2.trans e3) hl) ((e2.trans e3).trans (Ex.new hl)) (by rw [upd_same, Int.toNat_natCast])⟩
theorem itm_rep {xs : List V} (h : ∀ v ∈ xs, Itm K H v) (n : Nat) : ∀ v ∈ (List.replicate n xs).flatten, Itm K H v := fun v hv => by
  obtain ⟨l, hl, hv⟩ := List.mem_flatten.mp hv
  rw [List.eq_of_mem_replicate hl] at hv
  exact h v hv
theorem pq_par3 {n i j l : Nat} {A B : V → Prop} {xs : List V} (h0 : H0 p = none) (h1 : EvP p k1 ta σ H0 (fun v _ => A v)) (h2 : EvP p k2 tb σ H0 (fun v _ => B v)) (h3 : EvL tc σ H0 xs) (e : Ex H0 H) (hp : Po p n H) (hn : n + (k1 + k2) ≤ 1000000000)
    (q : ∀ u v b H2 H3, A u → B v → b ≠ p → H2 b = none → Ex (Hm p H) H2 → Ex H2 H3 → H3 b = some (.lst xs) → Po p (n + (k1 + k2)) H3 → tz D (((σ.set i (some u)).set j (some v)).set l (some (.ref b))) H3) : tSeq (tPar3 i j l (tCons ta (tCons tb (tCons tc tNil)))) tz D σ H :=
  h1 n H e hp (by omega) _ fun u H1 au p1 e1 => h2 (n + k1) H1 (hm_next h0 e e1) p1 (by omega) _ fun v H2 bv p2 e2 => h3 H2 (hm_next h0 (hm_next h0 e e1) e2) _ fun b H3 hb e3 v3 =>
    ⟨u, v, .ref b, rfl, q u v b H2 H3 au bv (p2.ne hb) hb (hm_trans e1 e2) e3 v3 (by rw [← Nat.add_assoc]; exact p2.ex e3)⟩
/-- [n, -1, None, '0', [0], z][a draw] -/
theorem pq_odd {n i : Nat} {x1 x2 x6 : Int} (h0 : H0 p = none) (a1 : Ev t1 σ H0 (.int x1)) (a2 : Ev t2 σ H0 (.int x2)) (a3 : Ev t3 σ H0 .non) (a4 : Ev t4 σ H0 (.str (Str.ofString "0"))) (a5 : EvL t5 σ H0 (nv [0])) (a6 : Ev t6 σ H0 (.int x6))
    (hd : EvP p 1 tb σ H0 (fun v _ => ∃ r, v = .int r ∧ 0 ≤ r ∧ r < 6)) (e : Ex H0 H) (hp : Po p n H) (hn : n + 1 ≤ 1000000000) (q : ∀ v H2, ((∀ G, Itm K G v) ∨ ∃ l, v = .ref l ∧ H l = none ∧ l ≠ p ∧ H2 l = some (.lst (nv [0]))) → Po p (n + 1) H2 → Ex (Hm p H) H2 → tz D (σ.set i (some v)) H2) :
    tSeq (tAsg (tOp (rIxL K) (tLst (tCons t1 (tCons t2 (tCons t3 (tCons t4 (tCons t5 (tCons t6 tNil))))))) tb) (gName i)) tz D σ H :=
  a1 H e _ fun H1 e1 => a2 H1 (e.trans e1) _ fun H2 e2 => a3 H2 ((e.trans e1).trans e2) _ fun H3 e3 => a4 H3 (((e.trans e1).trans e2).trans e3) _ fun H4 e4 => a5 H4 ((((e.trans e1).trans e2).trans e3).trans e4) _ fun l5 H5 hl5 e5 h5 =>
    a6 H5 (((((e.trans e1).trans e2).trans e3).trans e4).trans e5) _ fun H6 e6 => ⟨sz_of (Nat.le_of_ble_eq_true rfl), fun l hl => by
      have e16 := e1.trans (e2.trans (e3.trans (e4.trans (e5.trans e6))))
      have p6 : Po p n (upd H6 l (.lst [V.int x1, V.int x2, V.non, V.str (Str.ofString "0"), V.ref l5, V.int x6])) := (hp.ex e16).ex (Ex.new hl)
      have lp := (hp.ex e16).ne hl
      have l5p := ((hp.ex e1).ex (e2.trans (e3.trans e4))).ne hl5
      refine hd n _ ((e.trans e16).trans (Ex.new hl)) p6 hn _ fun v H7 hv p7 e7 => ?_
      obtain ⟨r, rfl, r0, r1⟩ := hv
      have h7 := hm_at e7 lp upd_same
      have h57 := hm_at e7 l5p ((Ex.new hl) l5 _ (e6 l5 _ h5))
      have fin : ∀ z, atI [V.int x1, .int x2, .non, .str (Str.ofString "0"), .ref l5, .int x6] r = some z → ((∀ G, Itm K G z) ∨ ∃ l, z = .ref l ∧ H l = none ∧ l ≠ p ∧ H7 l = some (.lst (nv [0]))) → rIxL K (.ref l) (.int r) H7 fun v H8 => tz D (σ.set i (some v)) H8 := fun z hz it => ⟨l, _, r, z, rfl, rfl, sq_of h7, hz, q z H7 it p7 (hm_trans (hm_of (e16.trans (Ex.new hl))) e7)⟩
      have : r = 0 ∨ r = 1 ∨ r = 2 ∨ r = 3 ∨ r = 4 ∨ r = 5 := by omega
      rcases this with rfl | rfl | rfl | rfl | rfl | rfl
      · exact fin _ rfl (.inl fun _ => itm_int _)
      · exact fin _ rfl (.inl fun _ => itm_int _)
      · exact fin _ rfl (.inl fun _ => itm_non)
      · exact fin _ rfl (.inl fun _ => itm_str)
      · exact fin _ rfl (.inr ⟨l5, rfl, fresh_back (e1.trans (e2.trans (e3.trans e4))) hl5, l5p, h57⟩)
      · exact fin _ rfl (.inl fun _ => itm_int _)⟩
theorem q_asgTL {i n : Nat} (h : EvTL K te σ H n) (q : ∀ b vs H1, H b = none → Ex H H1 → H1 b = some (.lst vs) → vs.length = n → (∀ v ∈ vs, AT K H1 v) → tz D (σ.set i (some (.ref b))) H1) : tSeq (tAsg te (gName i)) tz D σ H := h H (Ex.refl H) _ q
theorem s_retTL {n : Nat} (h : EvTL K te σ H n) (q : ∀ b vs H1, H b = none → Ex H H1 → H1 b = some (.lst vs) → vs.length = n → (∀ v ∈ vs, AT K H1 v) → D.rt (.ref b) H1) : tRet te D σ H := h H (Ex.refl H) _ q
end
/-- a guest as a truth -/
def tru (x : Nat) : V := if x = 0 then .bl false else if x = 1 then .bl true else .int (x : Int)

/-! ### _law_is_coming -/
theorem eqv_nilD (ds : List PyData) : PyData.eqv (.list ds) (.list []) = ds.isEmpty := by
  cases ds with
  | nil => decide
  | cons n l => rfl
theorem none_odd : ∀ ds : List PyData, (ds.filter fun d => !isI d).isEmpty = ds.all isI
  | [] => rfl
  | d :: r => by
    have ih := none_odd r
    cases hi : isI d
    · simp [List.filter_cons, hi]
    · rw [List.filter_cons, hi, List.all_cons, hi]
      exact ih
theorem ita_given {K : PySem.W.Frag} {H : Hp} {xs : List V} {ds : List PyData} (hd : ItAll K H xs ds) (f : PyData → Bool) : ItAll K H (given xs.length (fun i => f (ds.getD i .none)) (fun i => xs.getD i .non)) (ds.filter f) := by
  have hl : xs.length = ds.length := hd.len
  have e : ds.filter f = ((List.range ds.length).filter fun i => f (ds.getD i .none)).map fun i => ds.getD i .none := by
    conv => lhs; rw [range_get ds .none, List.filter_map]
    rfl
  unfold given ItAll
  rw [e, hl]
  refine paired_map _ _ _ fun i hi => ?_
  have hi := List.mem_range.mp (List.mem_filter.mp hi).1
  have hix : i < xs.length := by omega
  obtain ⟨d, h1, h2⟩ := ita_get hd (List.getElem?_eq_getElem hix)
  rw [List.getD_eq_getElem?_getD, List.getElem?_eq_getElem hix, List.getD_eq_getElem?_getD, h1]
  exact h2
theorem empty_all {α : Type} (g : α → Bool) : ∀ l : List α, (l.filter fun x => !g x).isEmpty = (l.map g).all id
  | [] => rfl
  | x :: r => by
    have ih := empty_all g r
    rw [List.filter_cons, List.map_cons, List.all_cons]
    cases h : g x
    · rfl
    · exact ih
theorem isI_in {ds : List PyData} (h : ds.all isI = true) {i : Nat} (hi : i < ds.length) : ds.getD i .none = .int ((intsOf ds).getD i 0) := by
  have hm : ds[i] ∈ ds := List.getElem_mem hi
  have := List.all_eq_true.mp h _ hm
  rw [List.getD_eq_getElem?_getD, List.getD_eq_getElem?_getD, List.getElem?_eq_getElem hi]
  unfold intsOf
  rw [List.getElem?_map, List.getElem?_eq_getElem hi]
  show ds[i] = .int (match ds[i] with | .int i => i | _ => 0)
  cases hd : ds[i] with
  | int z => rfl
  | _ => rw [hd] at this; cases this
section
variable {P : Program} {w : World} {K : PySem.W.Frag} {mg : Str → Option Value} {base : Heap}
theorem ok_law_is_coming (T : Tx K mg) : FnOk P w K mg base CX0 1 T.f_law_is_coming T.d_law_is_coming ["item"] (sp_anyC K) := by
  refine T.F_law_is_coming.ok sc_law_is_coming (fun vs H Q E h => ?_) (fun cdv A outer s H vs Q E hr h => ?_)
  · obtain ⟨v, o, rfl, _⟩ := h
    rfl
  · obtain ⟨v, o, rfl, hv, k⟩ := h
    refine ⟨_, (pss_cons (ps_if (PW.pt (pw_or (pt_not (pt_val (pe_callB call_isi (by rfl) T.m_isinstance (by decide +kernel) (pa_cons (pv 0) (pa_cons (pe_bltn (v := .ty "list") (by rfl) T.m_list (by decide +kernel) rfl) pa_nil))))) (pw_or1 (pt_not (pt_chain op_le op_le pe_int (pe_callB call_lenR (by rfl) T.m_len (by decide +kernel) (pa_cons (pv 0) pa_nil)) pe_int))))) (pss_one (ps_ret pe_bl)) pss_nil)
      (pss_cons (ps_if (pt_cmpR (op_neD hr.units) (pe_lc (own := [("one", 1)]) (g := (gName 1)) rfl sc_law_is_coming.nd (pi_list (pv 0)) (blkOk_by (own := [("one", 1)]) (N := n_law_is_coming) (sc := defScope s_law_is_coming) (by decide +kernel)) (fun _ _ _ _ _ => (pg_name (i := 1) sc_law_is_coming.nd rfl (Or.inl rfl))) (fun _ _ _ _ _ => (pts_one (PW.pt (pw_or (pt_val (pe_callB (id := "isinstance") (r := rIsi K) call_isi (by rfl) T.m_isinstance (by decide +kernel) (pa_cons (pv 1) (pa_cons (pe_bltn (v := .ty "bool") (by rfl) T.m_bool (by decide +kernel) rfl) pa_nil)))) (pw_or1 (pt_not (pt_val (pe_callB (id := "isinstance") (r := rIsi K) call_isi (by rfl) T.m_isinstance (by decide +kernel) (pa_cons (pv 1) (pa_cons (pe_bltn (v := .ty "int") (by rfl) T.m_int (by decide +kernel) rfl) pa_nil)))))))))) (fun _ _ _ _ _ => (pv 1))) (pe_lst pa_nil) (nomark _)) (pss_one (ps_ret pe_bl)) pss_nil)
      (pss_one (ps_ret (pe_cmpR (op_eqD hr.units) (pe_lc (own := [("k", 2)]) (g := (gName 2)) rfl sc_law_is_coming.nd (pi_range1 (by rfl) T.m_range (pa_cons (pe_callB (id := "len") (r := rLenS K) call_lenR (by rfl) T.m_len (by decide +kernel) (pa_cons (pv 0) pa_nil)) pa_nil)) (blkOk_by (own := [("k", 2)]) (N := n_law_is_coming) (sc := defScope s_law_is_coming) (by decide +kernel)) (fun _ _ _ _ _ => (pg_name (i := 2) sc_law_is_coming.nd rfl (Or.inl rfl))) (fun _ _ _ _ _ => (pts_one (pt_not (pt_chain op_le op_le pe_int (pe_ix (r := rIxL K) ix_list (pv 0) (pv 2) (fun _ _ => rfl)) (pv 2))))) (fun _ _ _ _ _ => (pv 2))) (pe_lst pa_nil) (nomark _)))))), ?_⟩
    cases o with
    | none =>
      refine q_when (b := true) (et_is (et_or (b := false) (et_not (et_B (ev_isList (ev_var rfl) hv))) fun z => Bool.noConfusion z) rfl) (fun _ H1 e1 => ?_) fun hb => Bool.noConfusion hb
      exact s_ret ev_c fun H2 e2 => k _ (e1.trans e2)
    | some ds =>
      have hv0 := hv
      cases hv with
      | @lst a xs _ ha hd hf =>
        have hl : xs.length = ds.length := hd.len
        refine q_when (b := !lenOk ds.length) (et_is (et_or (et_not (et_B (ev_isList (ev_var rfl) hv0))) fun _ => et_not (et_test (ev_chainI ev_c (ev_len (ev_var rfl) (sq_of ha)) ev_c))) (by rw [hl]; rfl)) (fun hb H1 e1 => ?_) fun hb H1 e1 => ?_
        · have hb : lenOk ds.length = false := by simpa using hb
          have ej : judgeC (some ds) = false := by
            unfold judgeC
            simp only
            rw [hb]
            rfl
          rw [ej] at k
          exact s_ret ev_c fun H2 e2 => k _ (e1.trans e2)
        · have hb : lenOk ds.length = true := by simpa using hb
          have hn : 1 ≤ ds.length ∧ ds.length ≤ 20 := by
            unfold lenOk at hb
            simp at hb
            omega
          have h1 := e1 a _ ha
          have odd : EvD K (tLc (iList K (tVar 0)) (gName 1) (tOr (tB (tCB (rIsi K) (tCons (tVar 1) (tCons (tC (.ty "bool")) tNil)))) (tNot (tB (tCB (rIsi K) (tCons (tVar 1) (tCons (tC (.ty "int")) tNil)))))) (tVar 1) [1]) (start n_law_is_coming [.ref a]) H1 (.list (ds.filter fun d => !isI d)) := by
            have g := el_lcL (K := K) (te := tVar 1) (j := 1) (vs := [1]) (σ := start n_law_is_coming [.ref a]) (H := H1) (t := tOr (tB (tCB (rIsi K) (tCons (tVar 1) (tCons (tC (.ty "bool")) tNil)))) (tNot (tB (tCB (rIsi K) (tCons (tVar 1) (tCons (tC (.ty "int")) tNil)))))) (fun i => !isI (ds.getD i .none)) (fun i => xs.getD i .non) (ev_var (i := 0) rfl) (sq_of h1) (by omega) (fun _ => rfl) (fun i x H2 e2 hx => ?_) (fun i x H2 e2 hx _ => ?_)
            · exact ed_ofL g (ita_given (hd.ex e1) fun d => !isI d).dp
            · obtain ⟨d, hd1, hd2⟩ := ita_get (hd.ex e1) hx
              have gd : ds.getD i .none = d := by rw [List.getD_eq_getElem?_getD, hd1] <;> rfl
              show EvT _ _ _ (!isI (ds.getD i .none))
              rw [gd]
              exact et_noInt (ev_var rfl) (hd2.ex e2)
            · have gx : xs.getD i .non = x := by rw [List.getD_eq_getElem?_getD, hx] <;> rfl
              show Ev _ _ _ (xs.getD i .non)
              rw [gx]
              exact ev_var rfl
          have fs : SeqAt.shaped (.list (ds.filter fun d => !isI d)) = true := (hf.sub fun x hx => (List.mem_filter.mp hx).1).shaped
          have em := none_odd ds
          refine q_when (b := !(ds.all isI)) (et_is (et_test (ev_neD odd (ed_lst eda_nil (by decide)) fs shaped_nil)) (by rw [eqv_nilD, em])) (fun hb2 H2 e2 => ?_) fun hb2 H2 e2 => ?_
          · have hb2 : ds.all isI = false := by simpa using hb2
            have ej : judgeC (some ds) = false := by
              unfold judgeC
              simp only
              rw [hb, Bool.true_and]
              cases hq : allIn 0 ds with
              | false => rfl
              | true =>
                have := allIn_isI hq
                rw [this] at hb2
                cases hb2
            rw [ej] at k
            exact s_ret ev_c fun H3 e3 => k _ (e1.trans (e2.trans e3))
          · have hb2 : ds.all isI = true := by simpa using hb2
            have ex := ints_of hd hb2
            have il : (intsOf ds).length = ds.length := by simp [intsOf]
            have h2 := e2 a _ h1
            rw [ex] at h2
            have ej : judgeC (some ds) = (((List.range ds.length).filter fun i : Nat => !inD 0 (i : Int) (ds.getD i .none))).isEmpty := by
              unfold judgeC
              simp only
              rw [hb, Bool.true_and, allIn_eq, empty_all (fun i : Nat => inD 0 (i : Int) (ds.getD i .none))]
              congr 2
              funext i
              rw [Nat.zero_add]
            rw [ej] at k
            have h2l : SqL K H2 a ((intsOf ds).map V.int) := sq_of h2
            have lenE : Ev (tCB (rLenS K) (tCons (tVar 0) tNil)) (start n_law_is_coming [.ref a]) H2 (.int (ds.length : Int)) := by
              have := ev_len (K := K) (ta := tVar 0) (σ := start n_law_is_coming [.ref a]) (ev_var (i := 0) (v := .ref a) rfl) h2l
              rw [List.length_map, il] at this
              exact this
            have e : given ((ds.length : Int)).toNat (fun i : Nat => !inD 0 (i : Int) (ds.getD i .none)) (fun i : Nat => V.int (i : Int)) = nv ((List.range ds.length).filter fun i : Nat => !inD 0 (i : Int) (ds.getD i .none)) := by
              unfold given
              rw [Int.toNat_natCast, nv_eq]
            refine s_ret (v := .bl (((List.range ds.length).filter fun i : Nat => !inD 0 (i : Int) (ds.getD i .none))).isEmpty) (ev_is (ev_eqD (d := di ((List.range ds.length).filter fun i : Nat => !inD 0 (i : Int) (ds.getD i .none))) (e := di []) (ed_L ?_) (ed_lst eda_nil (by decide)) (shaped_di _) (shaped_di _)) ?_) fun H3 e3 => k _ (e1.trans (e2.trans e3))
            · rw [← e]
              refine el_lcR1 _ _ (ea_cons lenE ea_nil) ⟨by omega, by omega⟩ (fun _ => rfl) (fun i H3 e3 hi => ?_) (fun i H3 e3 hi _ => ev_var rfl)
              have il2 : i < (intsOf ds).length := by omega
              have h3 : SqL K H3 a ((intsOf ds).map V.int) := ex_l e3 h2l
              have at1 : ((intsOf ds).map V.int)[i]? = some (.int ((intsOf ds).getD i 0)) := by
                rw [List.getElem?_map, List.getElem?_eq_getElem il2, List.getD_eq_getElem?_getD, List.getElem?_eq_getElem il2]
                rfl
              rw [isI_in hb2 (show i < ds.length by omega)]
              exact et_not (et_test (ev_chainI ev_c (ev_op (ev_var rfl) (ev_var rfl) (rv_ixL h3 (atI_nat at1))) (ev_var rfl)))
            · unfold di
              rw [show (iz ([] : List Nat)).map PyData.int = [] from rfl, eqv_nilD]
              congr 1
              cases ((List.range ds.length).filter fun i : Nat => !inD 0 (i : Int) (ds.getD i .none)) <;> rfl
end
section
variable {K : PySem.W.Frag} {σ : L2.St} {H0 H H' : Hp} {p : Addr} {k k1 k2 : Nat} {te ta tb tc : TE} {t1 t2 t3 t4 t5 t6 : TE} {D : Ends} {tz : TS}
theorem pq_par2 {n i j : Nat} {A B : V → Prop} (h0 : H0 p = none) (h1 : EvP p k1 ta σ H0 (fun v _ => A v)) (h2 : EvP p k2 tb σ H0 (fun v _ => B v)) (e : Ex H0 H) (hp : Po p n H) (hn : n + (k1 + k2) ≤ 1000000000)
    (q : ∀ u v H2, A u → B v → Ex (Hm p H) H2 → Po p (n + (k1 + k2)) H2 → tz D ((σ.set i (some u)).set j (some v)) H2) : tSeq (tPar i j (tCons ta (tCons tb tNil))) tz D σ H :=
  h1 n H e hp (by omega) _ fun u H1 au p1 e1 => h2 (n + k1) H1 (hm_next h0 e e1) p1 (by omega) _ fun v H2 bv p2 e2 => ⟨u, v, rfl, q u v H2 au bv (hm_trans e1 e2) (by rw [← Nat.add_assoc]; exact p2)⟩
/-- [n, -1, None, '0', [0], z][a draw] -/
theorem pq_odd7 {n i : Nat} {x1 x2 x6 x7 : Int} {t7 : TE} (h0 : H0 p = none) (a1 : Ev t1 σ H0 (.int x1)) (a2 : Ev t2 σ H0 (.int x2)) (a3 : Ev t3 σ H0 .non) (a4 : Ev t4 σ H0 (.str (Str.ofString "0"))) (a5 : EvL t5 σ H0 (nv [0])) (a6 : Ev t6 σ H0 (.int x6)) (a7 : Ev t7 σ H0 (.int x7))
    (hd : EvP p 1 tb σ H0 (fun v _ => ∃ r, v = .int r ∧ 0 ≤ r ∧ r < 7)) (e : Ex H0 H) (hp : Po p n H) (hn : n + 1 ≤ 1000000000) (q : ∀ v H2, ((∀ G, Itm K G v) ∨ ∃ l, v = .ref l ∧ H l = none ∧ l ≠ p ∧ H2 l = some (.lst (nv [0]))) → Po p (n + 1) H2 → Ex (Hm p H) H2 → tz D (σ.set i (some v)) H2) :
    tSeq (tAsg (tOp (rIxL K) (tLst (tCons t1 (tCons t2 (tCons t3 (tCons t4 (tCons t5 (tCons t6 (tCons t7 tNil)))))))) tb) (gName i)) tz D σ H :=
  a1 H e _ fun H1 e1 => a2 H1 (e.trans e1) _ fun H2 e2 => a3 H2 ((e.trans e1).trans e2) _ fun H3 e3 => a4 H3 (((e.trans e1).trans e2).trans e3) _ fun H4 e4 => a5 H4 ((((e.trans e1).trans e2).trans e3).trans e4) _ fun l5 H5 hl5 e5 h5 =>
    a6 H5 (((((e.trans e1).trans e2).trans e3).trans e4).trans e5) _ fun H6a e6a => a7 H6a ((((((e.trans e1).trans e2).trans e3).trans e4).trans e5).trans e6a) _ fun H6 e6b => ⟨sz_of (Nat.le_of_ble_eq_true rfl), fun l hl => by
      have e6 := e6a.trans e6b
      have e16 := e1.trans (e2.trans (e3.trans (e4.trans (e5.trans e6))))
      have p6 : Po p n (upd H6 l (.lst [V.int x1, V.int x2, V.non, V.str (Str.ofString "0"), V.ref l5, V.int x6, V.int x7])) := (hp.ex e16).ex (Ex.new hl)
      have lp := (hp.ex e16).ne hl
      have l5p := ((hp.ex e1).ex (e2.trans (e3.trans e4))).ne hl5
      refine hd n _ ((e.trans e16).trans (Ex.new hl)) p6 hn _ fun v H7 hv p7 e7 => ?_
      obtain ⟨r, rfl, r0, r1⟩ := hv
      have h7 := hm_at e7 lp upd_same
      have h57 := hm_at e7 l5p ((Ex.new hl) l5 _ (e6 l5 _ h5))
      have fin : ∀ z, atI [V.int x1, .int x2, .non, .str (Str.ofString "0"), .ref l5, .int x6, .int x7] r = some z → ((∀ G, Itm K G z) ∨ ∃ l, z = .ref l ∧ H l = none ∧ l ≠ p ∧ H7 l = some (.lst (nv [0]))) → rIxL K (.ref l) (.int r) H7 fun v H8 => tz D (σ.set i (some v)) H8 := fun z hz it => ⟨l, _, r, z, rfl, rfl, sq_of h7, hz, q z H7 it p7 (hm_trans (hm_of (e16.trans (Ex.new hl))) e7)⟩
      have : r = 0 ∨ r = 1 ∨ r = 2 ∨ r = 3 ∨ r = 4 ∨ r = 5 ∨ r = 6 := by omega
      rcases this with rfl | rfl | rfl | rfl | rfl | rfl | rfl
      · exact fin _ rfl (.inl fun _ => itm_int _)
      · exact fin _ rfl (.inl fun _ => itm_int _)
      · exact fin _ rfl (.inl fun _ => itm_non)
      · exact fin _ rfl (.inl fun _ => itm_str)
      · exact fin _ rfl (.inr ⟨l5, rfl, fresh_back (e1.trans (e2.trans (e3.trans e4))) hl5, l5p, h57⟩)
      · exact fin _ rfl (.inl fun _ => itm_int _)
      · exact fin _ rfl (.inl fun _ => itm_int _)⟩
theorem ev_lenH {σ : L2.St} {H : Hp} {i : Nat} {a : Addr} {h : List Nat} (e : σ[i]? = some (some (.ref a))) (ha : H a = some (.lst (nv h))) : Ev (tCB (rLenS K) (tCons (tVar i) tNil)) σ H (.int (h.length : Int)) := by
  have := ev_len (K := K) (ta := tVar i) (ev_var e) (sq_of ha)
  rw [nv_len] at this
  exact this
theorem hm_in {p a : Addr} {H : Hp} {o : HO} (ne : a ≠ p) (h : H a = some o) : Hm p H a = some o := by
  unfold Hm
  rw [if_neg ne]
  exact h
end
def sp_law_odd (K : PySem.W.Frag) : Sp := fun vs H Q _ => ∃ (p a : Addr) (n : Nat) (h : List Nat), vs = [.ref p, .ref a] ∧ Po p n H ∧ n + 3 < 1000000000 ∧ a ≠ p ∧ H a = some (.lst (nv h)) ∧ 1 ≤ h.length ∧ h.length ≤ 20 ∧
  ∀ l ws H', H l = none → H' l = some (.lst ws) → ws.length ≤ 100 → (∀ v ∈ ws, AT K H' v) → Po p (n + 3) H' → Ex (Hm p H) H' → Q (.ref l) H'
section
variable {P : Program} {w : World} {K : PySem.W.Frag} {mg : Str → Option Value} {base : Heap}
theorem ok_law_odd (T : Tx K mg) : FnOk P w K mg base CX0 2 T.f_law_odd T.d_law_odd ["pouch", "row"] (sp_law_odd K) := by
  refine T.F_law_odd.ok sc_law_odd (fun vs H Q E h => ?_) (fun cdv A outer s H vs Q E hr h => ?_)
  · obtain ⟨p, a, n, h, rfl, _⟩ := h
    rfl
  · obtain ⟨p, a, n, h, rfl, hpo, hn, ap, ha, ho1, ho2, k⟩ := h
    refine ⟨_, (pss_cons (ps_par (i := 2) (j := 3) (by rfl) sc_law_odd.nd rfl rfl (by decide) rfl rfl (pa_cons (pe_call (ok_law_dip T) (hr.mono (by decide)) (by rfl) T.g_law_dip T.F_law_dip.kp T.b_law_dip .nil pass0 (pa_cons (pv 0) (pa_cons (pe_callB call_lenR (by rfl) T.m_len (by decide +kernel) (pa_cons (pv 1) pa_nil)) pa_nil))) (pa_cons (pe_op op_add pe_int (pe_call (ok_law_dip T) (hr.mono (by decide)) (by rfl) T.g_law_dip T.F_law_dip.kp T.b_law_dip .nil pass0 (pa_cons (pv 0) (pa_cons pe_int pa_nil)))) pa_nil)) (by rfl))
      (pss_cons (ps_set (i := 4) sc_law_odd.nd rfl (Or.inl rfl) (pe_ix ix_list (pe_lst (pa_cons (pe_op op_add (pv 2) (pv 3)) (pa_cons (pe_un un_neg pe_int) (pa_cons pe_non (pa_cons pe_str (pa_cons (pe_lst (pa_cons pe_int pa_nil)) (pa_cons (pe_op op_powX pe_int pe_int) (pa_cons (pv 2) pa_nil)))))))) (pe_call (ok_law_dip T) (hr.mono (by decide)) (by rfl) T.g_law_dip T.F_law_dip.kp T.b_law_dip .nil pass0 (pa_cons (pv 0) (pa_cons pe_int pa_nil))) (fun _ _ => rfl)))
      (pss_cons (ps_setLc (i := 6) (own := [("one", 5)]) (g := (gName 5)) (tt := tYes) rfl sc_law_odd.nd rfl rfl (sw_true rfl rfl rfl (by decide +kernel)) (pi_list (pv 1)) (blkOk_by (own := [("one", 5)]) (N := n_law_odd) (sc := defScope s_law_odd) (by decide +kernel)) (fun _ _ _ _ _ => (pg_name (i := 5) sc_law_odd.nd rfl (Or.inl rfl))) (fun _ _ _ _ _ => pts_nil) (fun _ _ _ _ _ => (pe_ifExp (pt_cmpR op_lt (pv 5) pe_int (nomark _)) (pe_ix (r := rIxL K) ix_list (pe_lst (pa_cons pe_bl (pa_cons pe_bl pa_nil))) (pv 5) (fun _ _ => rfl)) (pv 5))))
      (pss_cons (ps_set (i := 7) sc_law_odd.nd rfl (Or.inl rfl) (pe_lst (pa_cons pe_non (pa_cons pe_bl (pa_cons pe_int (pa_cons pe_str (pa_cons pe_str (pa_cons pe_dnewK (pa_cons (pe_lst pa_nil) (pa_cons (pe_tup (pa_cons pe_int pa_nil)) (pa_cons (pe_callTy call_tupR (by rfl) T.m_tuple (by decide +kernel) (pa_cons (pv 1) pa_nil)) (pa_cons (pe_lst (pa_cons (pv 1) pa_nil)) (pa_cons (pe_lst (pa_cons pe_int pa_nil)) (pa_cons (pe_lst (pa_cons pe_bl pa_nil)) (pa_cons (pe_lst (pa_cons pe_bl pa_nil)) (pa_cons (pe_lst (pa_cons pe_non pa_nil)) (pa_cons (pe_lst (pa_cons (pe_lst (pa_cons pe_int pa_nil)) pa_nil)) (pa_cons (pe_lst (pa_cons pe_int (pa_cons pe_int pa_nil))) pa_nil))))))))))))))))))
      (pss_cons (ps_set (i := 7) sc_law_odd.nd rfl (Or.inl rfl) (pe_op op_cat (pv 7) (pe_lst (pa_cons (pe_lst (pa_cons pe_int (pa_cons pe_int pa_nil))) (pa_cons (pe_op op_cat (pv 1) (pe_lst (pa_cons (pe_callB call_lenR (by rfl) T.m_len (by decide +kernel) (pa_cons (pv 1) pa_nil)) pa_nil))) (pa_cons (pe_op op_cat (pv 1) (pe_lst (pa_cons (pe_op op_add (pe_callB call_lenR (by rfl) T.m_len (by decide +kernel) (pa_cons (pv 1) pa_nil)) pe_int) pa_nil))) (pa_cons (pe_slice sl_list (pv 1) po_none (po_some (pe_un un_neg pe_int))) (pa_cons (pe_slice sl_list (pv 1) (po_some pe_int) po_none) (pa_cons (pv 6) (pa_cons (pe_revL (pv 1)) (pa_cons (pe_op op_rep (pe_lst (pa_cons pe_int pa_nil)) pe_int) pa_nil)))))))))))
      (pss_cons (ps_set (i := 7) sc_law_odd.nd rfl (Or.inl rfl) (pe_op op_cat (pv 7) (pe_lst (pa_cons (pe_op op_rep (pe_lst (pa_cons pe_int pa_nil)) pe_int) (pa_cons (pe_op op_cat (pe_op op_cat (pe_slice sl_list (pv 1) po_none (po_some (pv 2))) (pe_lst (pa_cons (pv 4) pa_nil))) (pe_slice sl_list (pv 1) (po_some (pe_op op_add (pv 2) pe_int)) po_none)) (pa_cons (pe_listRg rfl (by rfl) T.m_list (prg_1 (by rfl) T.m_range pe_int)) (pa_cons (pe_listRg rfl (by rfl) T.m_list (prg_1 (by rfl) T.m_range pe_int)) pa_nil)))))))
      (pss_one (ps_ret (pe_op op_cat (pv 7) (pe_lst (pa_cons (pe_op op_cat (pv 1) (pe_lst (pa_cons pe_non pa_nil))) (pa_cons (pe_lst (pa_cons pe_int (pa_cons (pe_un un_neg pe_int) pa_nil))) (pa_cons (pe_lst (pa_cons (pe_un un_neg pe_int) pa_nil)) pa_nil))))))))))))), ?_⟩
    refine pq_par2 (p := p) (k1 := 1) (k2 := 0 + 1) (H0 := Hm p H) (A := fun v => ∃ x : Nat, v = .int (x : Int) ∧ x < h.length) (B := fun v => ∃ r : Int, v = .int (1 + r) ∧ (0 ≤ r ∧ r < 3)) hm_p
      (ep_is (ep_dipI (w := (h.length : Int)) hm_p (ev_var rfl) (ev_lenH rfl (hm_in ap ha)) (by omega) (by omega)) fun v H ⟨r, e, r0, r1⟩ => ⟨r.toNat, by rw [e]; exact congrArg V.int (by omega), by omega⟩)
      (ep_add (C := fun r => 0 ≤ r ∧ r < 3) hm_p ev_c (ep_dipI (w := 3) hm_p (ev_var rfl) ev_c (by decide) (by decide))) hm_sub hpo (by omega) ?_
    rintro u v H2 ⟨sp, rfl, hsp⟩ ⟨far, rfl, _, _⟩ e2 p2
    have ha2 : H2 a = some (.lst (nv h)) := hm_at e2 ap ha
    refine pq_odd7 (K := K) (p := p) (H0 := Hm p H2) (x1 := (sp : Int) + (1 + far)) (x2 := -1) (x6 := (10 : Int) ^ (30 : Int).toNat) (x7 := (sp : Int)) hm_p (ev_op (ev_var rfl) (ev_var rfl) rv_I0) (ev_un ev_c ru_neg) ev_c ev_c (el_lst (ea_cons ev_c ea_nil) (Nat.le_of_ble_eq_true rfl)) (ev_op ev_c ev_c (rv_I (by constructor <;> decide +kernel))) (ev_var rfl) (ep_dipI (w := 7) hm_p (ev_var rfl) ev_c (by decide) (by decide)) hm_sub p2 (by omega) ?_
    intro od G hod pG e3
    have eG : Ex (Hm p H) G := hm_trans e2 e3
    have haG := hm_at e3 ap ha2
    have odG : Itm K G od := by
      rcases hod with h | ⟨l, rfl, hl0, lp, hl⟩
      · exact h G
      · exact itm_row (r := [0]) hl
    refine q_asgL (xs := (List.range (nv h).length).map fun i => tru (h.getD i 0)) (el_mapI (K := K) (te := tIf (tTest (tOp (rI0 fun i j => .bl (decide (i < j))) (tVar 5) (tC (.int 2)))) (tOp (rIxL K) (tLst (tCons (tC (.bl false)) (tCons (tC (.bl true)) tNil))) (tVar 5)) (tVar 5)) (fun i => tru (h.getD i 0)) (ev_var rfl) (sq_of haG) (by rw [nv_len]; omega) (fun _ => rfl) fun i v H5 e5 hv => ?_) fun t7 H5 ht7 e5 h7 => ?_
    · have hil : i < h.length := by
        have := (List.getElem?_eq_some_iff.mp hv).1
        rw [nv_len] at this
        exact this
      have hi2 : h[i]? = some (h.getD i 0) := by
        rw [List.getD_eq_getElem?_getD, List.getElem?_eq_getElem hil]
        rfl
      have ev : v = .int (h.getD i 0 : Nat) := by
        have := nv_get hi2
        rw [hv] at this
        exact Option.some.inj this
      subst ev
      generalize h.getD i 0 = y
      refine ev_if (b := decide ((y : Int) < 2)) (et_test (ev_op (ev_var rfl) ev_c rv_I0)) (fun hb => ?_) fun hb => ?_
      · have hb := of_decide_eq_true hb
        refine ev_opL1 (el_lst (ea_cons ev_c (ea_cons ev_c ea_nil)) (Nat.le_of_ble_eq_true rfl)) (fun H6 e6 => ev_var rfl) fun q H6 hq e6 => rv_ixL (sq_of hq) ?_
        have : y = 0 ∨ y = 1 := by omega
        rcases this with rfl | rfl
        · rfl
        · rfl
      · have hb := of_decide_eq_false hb
        have e : tru y = .int (y : Int) := by
          unfold tru
          rw [if_neg (by omega), if_neg (by omega)]
        rw [e]
        exact ev_var rfl
    have ha5 := e5 a _ haG
    have od5 := odG.ex e5
    have i7 : ∀ H : Hp, ∀ v ∈ (List.range (nv h).length).map fun i => tru (h.getD i 0), Itm K H v := fun H v hv => by
      obtain ⟨i, _, rfl⟩ := List.mem_map.mp hv
      unfold tru
      split
      · exact itm_bl _
      · split
        · exact itm_bl _
        · exact itm_int _
    have lenR : (nv h).length ≤ 20 := by rw [nv_len]; omega
    refine q_asgTL (K := K) (n := 16) (tl_lst (tha_cons (th_non ev_c) (tha_cons (th_bl ev_c) (tha_cons (th_int ev_c) (tha_cons (th_str ev_c) (tha_cons (th_str ev_c) (tha_cons th_dnew (tha_cons (th_I (el_lst ea_nil (Nat.zero_le _)) (by simp)) (tha_cons (th_U (eu_tup (ea_cons ev_c ea_nil) (Nat.le_of_ble_eq_true rfl))) (tha_cons (th_U (eu_tupOf (K := K) (ev_var rfl) (sq_of ha5)))
      (tha_cons (th_I (el_lst (ea_cons (ev_var rfl) ea_nil) (Nat.le_of_ble_eq_true rfl)) (itm_one (itm_row ha5))) (tha_cons (th_I (el_lst (ea_cons ev_c ea_nil) (Nat.le_of_ble_eq_true rfl)) (itm_one (itm_int _))) (tha_cons (th_I (el_lst (ea_cons ev_c ea_nil) (Nat.le_of_ble_eq_true rfl)) (itm_one (itm_bl _))) (tha_cons (th_I (el_lst (ea_cons ev_c ea_nil) (Nat.le_of_ble_eq_true rfl)) (itm_one (itm_bl _))) (tha_cons (th_I (el_lst (ea_cons ev_c ea_nil) (Nat.le_of_ble_eq_true rfl)) (itm_one itm_non))
      (tha_cons (th_D (ds := [.list [.int 0]]) (ia_cons (it_D (eda_cons (ed_int ev_c) eda_nil) (Nat.le_of_ble_eq_true rfl)) ia_nil) (fine_cons rfl (by decide) fine_nil) (Nat.le_of_ble_eq_true rfl)) (tha_cons (th_I (el_lst (ea_cons ev_c (ea_cons ev_c ea_nil)) (Nat.le_of_ble_eq_true rfl)) (itm_two (itm_int _) (itm_int _))) tha_nil)))))))))))))))) (by decide)) fun f1 ws1 H6 hf1 e6 h6 l6 w6 => ?_
    have ha6 := e6 a _ ha5
    have od6 := od5.ex e6
    refine q_asgTL (K := K) (n := ws1.length + 8) (tl_cat (ev_var rfl) h6 w6 (tl_lst (tha_cons (th_I (el_lst (ea_cons ev_c (ea_cons ev_c ea_nil)) (Nat.le_of_ble_eq_true rfl)) (itm_two (itm_int _) (itm_int _))) (tha_cons (th_I (el_catO (ev_var rfl) ha6 (el_lst (ea_cons (ev_lenH rfl ha6) ea_nil) (Nat.le_of_ble_eq_true rfl)) (by simp; omega)) (itm_app itm_nv (itm_one (itm_int _)))) (tha_cons (th_I (el_catO (ev_var rfl) ha6 (el_lst (ea_cons (ev_op (ev_lenH rfl ha6) ev_c rv_I0) ea_nil) (Nat.le_of_ble_eq_true rfl)) (by simp; omega)) (itm_app itm_nv (itm_one (itm_int _))))
      (tha_cons (th_I (el_sl (K := K) (ev_var rfl) eo_none (eo_some (ev_un ev_c ru_neg)) (sq_of ha6)) (itm_cut itm_nv _ _)) (tha_cons (th_I (el_sl (K := K) (ev_var rfl) (eo_some ev_c) eo_none (sq_of ha6)) (itm_cut itm_nv _ _)) (tha_cons (th_var rfl (at_list (e6 t7 _ h7) (i7 _))) (tha_cons (th_I (el_rev (K := K) (ev_var rfl) (sq_of ha6)) fun v hv => itm_nv v (List.mem_reverse.mp hv))
      (tha_cons (th_I (el_rep (xs := [.int 0]) (k := 21) (el_lst (ea_cons ev_c ea_nil) (Nat.le_of_ble_eq_true rfl)) ev_c (by decide) (by decide) (by decide)) (itm_rep (itm_one (itm_int _)) 21)) tha_nil)))))))) (by decide)) (by omega)) fun f2 ws2 H7 hf2 e7 h7' l7 w7 => ?_
    have ha7 := e7 a _ ha6
    have od7 := od6.ex e7
    refine q_asgTL (K := K) (n := ws2.length + 4) (tl_cat (ev_var rfl) h7' w7 (tl_lst (tha_cons (th_I (el_rep (xs := [.int 0]) (k := 20) (el_lst (ea_cons ev_c ea_nil) (Nat.le_of_ble_eq_true rfl)) ev_c (by decide) (by decide) (by decide)) (itm_rep (itm_one (itm_int _)) 20))
      (tha_cons (th_I (el_cat (el_cat (el_sl (K := K) (ev_var rfl) eo_none (eo_some (ev_var rfl)) (sq_of ha7)) (el_lst (ea_cons (ev_var rfl) ea_nil) (Nat.le_of_ble_eq_true rfl)) ?_) (el_sl (K := K) (ev_var rfl) (eo_some (ev_op (ev_var rfl) ev_c rv_I0)) eo_none (sq_of ha7)) ?_) (itm_app (itm_app (itm_cut itm_nv _ _) (itm_one od7)) (itm_cut itm_nv _ _)))
      (tha_cons (th_I (el_rg1 (b := 21) ev_c (RgOk.of_le (by decide) (by decide) (by decide) (by decide))) (itm_rg 0 21)) (tha_cons (th_I (el_rg1 (b := 20) ev_c (RgOk.of_le (by decide) (by decide) (by decide) (by decide))) (itm_rg 0 20)) tha_nil)))) (by decide)) (by omega)) fun f3 ws3 H8 hf3 e8 h8 l8 w8 => ?_
    · have := cutV_length (nv h) none (some (sp : Int))
      simp at this ⊢
      omega
    · have := cutV_length (nv h) none (some (sp : Int))
      have := cutV_length (nv h) (some ((sp : Int) + 1)) none
      simp at *
      omega
    have ha8 := e8 a _ ha7
    refine s_retTL (K := K) (n := ws3.length + 3) (tl_cat (ev_var rfl) h8 w8 (tl_lst (tha_cons (th_I (el_catO (ev_var rfl) ha8 (el_lst (ea_cons ev_c ea_nil) (Nat.le_of_ble_eq_true rfl)) (by simp; omega)) (itm_app itm_nv (itm_one itm_non))) (tha_cons (th_I (el_lst (ea_cons ev_c (ea_cons (ev_un ev_c ru_neg) ea_nil)) (Nat.le_of_ble_eq_true rfl)) (itm_two (itm_int _) (itm_int _))) (tha_cons (th_I (el_lst (ea_cons (ev_un ev_c ru_neg) ea_nil) (Nat.le_of_ble_eq_true rfl)) (itm_one (itm_int _))) tha_nil))) (by decide)) (by omega)) fun l ws H9 hl e9 h9 l9 w9 => ?_
    have e59 := e5.trans (e6.trans (e7.trans (e8.trans e9)))
    have fr : H l = none := by
      have lp : l ≠ p := ((((pG.ex e5).ex e6).ex e7).ex e8).ne hl
      have := fresh_back (eG.trans (e5.trans (e6.trans (e7.trans e8)))) hl
      unfold Hm at this
      rw [if_neg lp] at this
      exact this
    exact k l ws H9 fr h9 (by omega) w9 ((pG.ex e59).mono (by omega)) (eG.trans e59)
end

local macro_rules | `(tactic| walk_at "call") => `(tactic| (with_reducible exact sv_whole))
local macro_rules | `(tactic| walk_at "call") => `(tactic| ((with_reducible refine' sv_order ?c1 ?c2); (case c1 => assumption); (case c2 => assumption)))
local macro_rules | `(tactic| walk_at "call") => `(tactic| ((with_reducible refine' sv_ord ?c1 ?c2); (case c1 => assumption); (case c2 => assumption)))

theorem canLay_dis : ∀ rs : List (List Nat), PyData.canLayAll0 (rs.map di) = true
  | [] => rfl
  | m :: r => by simp [PyData.canLayAll0, PyData.canLay0, di, canLay_ints, canLay_dis r]
theorem depth_dis : ∀ rs : List (List Nat), PyData.depthAll (rs.map di) ≤ 1
  | [] => by simp [PyData.depthAll]
  | m :: r => by
    have := depth_dis r
    simp [PyData.depthAll, PyData.depth, di, depth_ints]
    omega
theorem shaped_dis (rs : List (List Nat)) : SeqAt.shaped (.list (rs.map di)) = true := by
  have := depth_dis rs
  simp [SeqAt.shaped, PyData.canLay0, canLay_dis, PyData.depth]
  omega

/-! ### _law_right -/
theorem dpa_bls {K : PySem.W.Frag} {H : Hp} (g : Nat → Bool) : ∀ l : List Nat, DpAll K H (l.map fun i => V.bl (g i)) (l.map fun i => PyData.bool (g i))
  | [] => .nil
  | _ :: r => .cons (.bl _) (dpa_bls g r)
theorem depth_bls (g : Nat → Bool) : ∀ l : List Nat, PyData.depthAll (l.map fun i => PyData.bool (g i)) = 0
  | [] => rfl
  | _ :: r => by
    rw [List.map_cons]
    simp only [PyData.depthAll, PyData.depth, depth_bls g r]
    rfl
/-- addresses of lists -/
def LAt (H : Hp) (b : Addr) (r : List Nat) : Prop := H b = some (.lst (nv r))
theorem lat_dp {K : PySem.W.Frag} {H : Hp} : ∀ {bs : List Addr} {rs : List (List Nat)}, Paired (LAt H) bs rs → DpAll K H (bs.map V.ref) (rs.map di)
  | _, _, .nil => .nil
  | _, _, .cons h t => .cons (dp_L h) (lat_dp t)
theorem lat_ex {H H' : Hp} (e : Ex H H') {bs : List Addr} {rs : List (List Nat)} (h : Paired (LAt H) bs rs) : Paired (LAt H') bs rs := paired_imp (fun b r x => e b _ x) h
/-- new lists in a new list -/
def EvNA (ta : TA) (σ : L2.St) (H : Hp) (rs : List (List Nat)) : Prop := ∀ H1, Ex H H1 → ∀ Q : List V → Hp → Prop, (∀ bs H2, Ex H1 H2 → Paired (LAt H2) bs rs → (∀ b ∈ bs, H1 b = none) → Q (bs.map V.ref) H2) → ta σ H1 Q
def EvNL (te : TE) (σ : L2.St) (H : Hp) (rs : List (List Nat)) : Prop := ∀ H1, Ex H H1 → ∀ Q : VK, (∀ p bs H2, H1 p = none → p ∉ bs → Ex H1 H2 → H2 p = some (.lst (bs.map V.ref)) → Paired (LAt H2) bs rs → (∀ b ∈ bs, H1 b = none) → Q (.ref p) H2) → te σ H1 Q
theorem paired_len2 {α β : Type} {F : α → β → Prop} {l : List α} {m : List β} (h : Paired F l m) : l.length = m.length := Paired.length h
theorem lat_mem {H : Hp} : ∀ {bs : List Addr} {rs : List (List Nat)} {b : Addr}, Paired (LAt H) bs rs → b ∈ bs → ∃ r ∈ rs, H b = some (.lst (nv r))
  | _, _, b, .cons (a := x) (b := r) h t, hb => by
    rcases List.mem_cons.mp hb with e | hb
    · subst e
      exact ⟨r, List.mem_cons_self, h⟩
    · obtain ⟨r2, h1, h2⟩ := lat_mem t hb
      exact ⟨r2, List.mem_cons_of_mem _ h1, h2⟩
section
variable {K : PySem.W.Frag} {σ : L2.St} {H0 H : Hp} {ta tb tc te tl : TE} {tr : TA} {D : Ends} {tu tz : TS} {p : Addr} {k n : Nat} {rs : List (List Nat)} {r : List Nat}
theorem na_nil : EvNA tNil σ H [] := fun H1 _ _ q => q [] H1 (Ex.refl _) .nil (by simp)
theorem na_cons (h : EvL te σ H (nv r)) (hr : EvNA tr σ H rs) : EvNA (tCons te tr) σ H (r :: rs) := fun H1 e _ q => h H1 e _ fun b H2 nb e2 hb => hr H2 (e.trans e2) _ fun bs H3 e3 hbs fr => q (b :: bs) H3 (e2.trans e3) (.cons (e3 b _ hb) hbs) fun x hx => by
  rcases List.mem_cons.mp hx with z | z
  · rw [z]
    exact nb
  · exact fresh_back e2 (fr x z)
theorem nl_lst (h : EvNA tr σ H rs) (hl : rs.length ≤ 1000) : EvNL (tLst tr) σ H rs := fun H1 e Q q => h H1 e _ fun bs H2 e2 hbs fr => ⟨sz_of (by
  have := paired_len2 hbs
  rw [List.length_map]
  omega), fun l hl => q l bs _ (fresh_back e2 hl) (fun z => by
    obtain ⟨r, _, h⟩ := lat_mem hbs z
    rw [hl] at h
    cases h) (e2.trans (Ex.new hl)) upd_same (lat_ex (Ex.new hl) hbs) fr⟩
/-- told + [new lists] -/
theorem q_catNL {i : Nat} {a : Addr} {cs : List Addr} (ha : Ev ta σ H (.ref a)) (hc : H a = some (.lst (cs.map V.ref))) (h : EvNL tb σ H rs) (hz : cs.length + rs.length ≤ 1000)
    (q : ∀ l bs H1, H l = none → l ∉ cs ++ bs → (∀ c ∈ cs, H c ≠ none) → Ex H H1 → H1 l = some (.lst ((cs ++ bs).map V.ref)) → Paired (LAt H1) bs rs → (∀ b ∈ bs, H b = none) → tz D (σ.set i (some (.ref l))) H1) (hcs : ∀ c ∈ cs, H c ≠ none) :
    tSeq (tAsg (tOp rCat ta tb) (gName i)) tz D σ H := ha H (Ex.refl _) _ fun H1 e1 => h H1 e1 _ fun p2 bs H2 np nin e2 hp hbs fr =>
  ⟨a, p2, cs.map V.ref, bs.map V.ref, rfl, rfl, e2 a _ (e1 a _ hc), hp, sz_of (by
    have := paired_len2 hbs
    rw [List.length_map, List.length_map]
    omega), fun l hl => by
    refine q l bs _ (fresh_back (e1.trans e2) hl) (fun z => ?_) hcs ((e1.trans e2).trans (Ex.new hl)) (by rw [upd_same, List.map_append]) (lat_ex (Ex.new hl) hbs) fun b hb => fresh_back e1 (fr b hb)
    rcases List.mem_append.mp z with z | z
    · exact hcs l z (fresh_back (e1.trans e2) hl)
    · obtain ⟨r, _, h⟩ := lat_mem hbs z
      rw [hl] at h
      cases h⟩
theorem q_asgNL {i : Nat} (h : EvNL te σ H rs) (q : ∀ l bs H1, H l = none → l ∉ bs → Ex H H1 → H1 l = some (.lst (bs.map V.ref)) → Paired (LAt H1) bs rs → (∀ b ∈ bs, H b = none) → tz D (σ.set i (some (.ref l))) H1) : tSeq (tAsg te (gName i)) tz D σ H := h H (Ex.refl _) _ fun p bs H1 a b c d e f => q p bs H1 a b c d e f
/-- the seating of a new coming list's rings -/
theorem el_seatOf {f : List Nat} {E E2 : XK} (h : EvL ta σ H (nv f)) (o : Cm f) : EvL (tCall sp_law_seat [] E (tCons (tCall sp_law_rings [] E2 (tCons ta tNil)) tNil)) σ H (nv (sby f f.length)) := fun H1 e Q q =>
  h H1 e _ fun a H2 na e2 ha => ⟨a, f, rfl, ha, o.2.1, o.2.2, fun c bs H3 L e3 => by
    have R := ringsTo_ok o.2.2 f.length (Nat.le_refl _)
    refine ⟨c, bs.map V.ref, _, f.length, rfl, L.self, L.lb, R.all, o.2.1, fun g H4 hg e4 h4 => ?_⟩
    rw [← sby_seat o.2.2 f.length (Nat.le_refl _)] at h4
    exact q g H4 (fresh_back (e2.trans e3) hg) (e2.trans (e3.trans e4)) h4⟩
theorem el_seatV {f : List Nat} {a : Addr} {E E2 : XK} (h : Ev ta σ H (.ref a)) (ha : H a = some (.lst (nv f))) (o : Cm f) : EvL (tCall sp_law_seat [] E (tCons (tCall sp_law_rings [] E2 (tCons ta tNil)) tNil)) σ H (nv (sby f f.length)) := fun H1 e Q q =>
  h H1 e _ fun H2 e2 => ⟨a, f, rfl, (e.trans e2) a _ ha, o.2.1, o.2.2, fun c bs H3 L e3 => by
    have R := ringsTo_ok o.2.2 f.length (Nat.le_refl _)
    refine ⟨c, bs.map V.ref, _, f.length, rfl, L.self, L.lb, R.all, o.2.1, fun g H4 hg e4 h4 => ?_⟩
    rw [← sby_seat o.2.2 f.length (Nat.le_refl _)] at h4
    exact q g H4 (fresh_back (e2.trans e3) hg) (e2.trans (e3.trans e4)) h4⟩
theorem q_entriesN {i m : Nat} {E : XK} {t : TA} (h : EvA t σ H [.ref p, .int (m : Int)]) (hp : Po p n H) (hn : n + 100 < 1000000000) (hm : m ≤ 20)
    (q : ∀ l f H1, H l = none → H1 l = some (.lst (nv f)) → f.length = m → (∀ (i x : Nat), f[i]? = some x → x ≤ i) → Po p (n + 3 * m + 1) H1 → Ex (Hm p H) H1 → tz D (σ.set i (some (.ref l))) H1) : tSeq (tAsg (tCall sp_law_entries [] E t) (gName i)) tz D σ H :=
  h H (Ex.refl H) _ fun H1 e1 => ⟨p, n, m, rfl, hp.ex e1, by omega, hm, fun l f H2 hl h2 hlen hx p2 e2 => q l f H2 (fresh_back e1 hl) h2 hlen hx p2 (hm_trans (hm_of e1) e2)⟩
/-- for x in (a, b, a draw) -/
theorem pq_for3 {g : TG} {a b : Int} {C : Int → Prop} (h1 : Ev ta σ H0 (.int a)) (h2 : Ev tb σ H0 (.int b)) (h3 : EvP p k tc σ H0 (fun v _ => ∃ c, v = .int c ∧ C c)) (e : Ex H0 H) (hp : Po p n H) (hn : n + k ≤ 1000000000)
    (q : ∀ c H2, C c → Po p (n + k) H2 → Ex (Hm p H) H2 → tSeq (tFor (iTup K (tTup (tCons (tC (.int a)) (tCons (tC (.int b)) (tCons (tC (.int c)) tNil))))) g tu) tz D σ H2) :
    tSeq (tFor (iTup K (tTup (tCons ta (tCons tb (tCons tc tNil))))) g tu) tz D σ H := h1 H e _ fun H1 e1 => h2 H1 (e.trans e1) _ fun H2 e2 => h3 n H2 (e.trans (e1.trans e2)) (hp.ex (e1.trans e2)) hn _ fun v H3 ⟨c, ev, hc⟩ p3 e3 => by
  subst ev
  exact q c H3 hc p3 (hm_trans (hm_of (e1.trans e2)) e3)
end
/-- each of some lists gets one more item -/
theorem q_appAll {K : PySem.W.Frag} {σ : L2.St} {H : Hp} {D : Ends} {tz : TS} {B : Hp} {t : Addr} {cs : List Addr} {i j : Nat} {te : TE} (ht : σ[i]? = some (some (.ref t))) (hj : i ≠ j) (jl : j < σ.length) (ha : H t = some (.lst (cs.map V.ref))) (tc : t ∉ cs) (nt : B t = none) (fr : ∀ c ∈ cs, B c = none) (e : Ex B H) (hl : ∀ c ∈ cs, ∃ xs, H c = some (.lst xs) ∧ xs.length ≤ 100) (hc : cs.length ≤ 100)
    (hv : ∀ σ' H', Ev te σ' H' .non) (q : ∀ y H', Ex B H' → tz D (σ.set j y) H') : tSeq (tFor (iList K (tVar i)) (gName j) (tDrop (tBM K "list" rAppend (tVar j) (tCons te tNil)))) tz D σ H := by
  refine q_forL (K := K) (g := gName j) (ev_var ht) (sq_of ha) (fun m σ' H' => (∃ y, σ' = σ.set j y) ∧ Ex B H' ∧ H' t = some (.lst (cs.map V.ref)) ∧ (∀ c ∈ cs, ∃ xs, H' c = some (.lst xs) ∧ xs.length ≤ 100 + m)) (fun H1 e1 => ⟨⟨σ.getD j none, by
    refine List.ext_getElem? fun z => ?_
    rw [List.getElem?_set]
    by_cases h : j = z
    · subst h
      rw [if_pos rfl, if_pos jl, List.getD_eq_getElem?_getD, List.getElem?_eq_getElem jl]
      rfl
    · rw [if_neg h]⟩, e.trans e1, e1 t _ ha, fun c hc => by
      obtain ⟨xs, h1, h2⟩ := hl c hc
      exact ⟨xs, e1 c _ h1, by omega⟩⟩) (fun m σ' H' _ ⟨_, _, h, _⟩ => sq_of h) ?_ ?_
  · rintro m x σ' H' hx ⟨⟨y, rfl⟩, e1, h1, h2⟩
    rw [List.getElem?_map] at hx
    obtain ⟨c, hcm, rfl⟩ := Option.map_eq_some_iff.mp hx
    have mem := List.mem_of_getElem? hcm
    have ml := (List.getElem?_eq_some_iff.mp hcm).1
    obtain ⟨xs, h3, h4⟩ := h2 c mem
    have ct : c ≠ t := fun z => tc (z ▸ mem)
    refine s_app (K := K) (xs := xs) h3 (ev_var (by
      rw [List.set_set, List.getElem?_set, if_pos rfl, if_pos jl])) (hv _ _) (by omega) fun H2 e2 => ⟨⟨some (.ref c), by rw [List.set_set]⟩, Ex.mut (e1.trans e2) (fr c mem), ?_, fun d hd => ?_⟩
    · rw [upd_ne (Ne.symm ct)]
      exact e2 t _ h1
    · by_cases z : d = c
      · subst z
        exact ⟨_, upd_same, by rw [List.length_append]; simp; omega⟩
      · obtain ⟨ys, h5, h6⟩ := h2 d hd
        exact ⟨ys, by rw [upd_ne z]; exact e2 d _ h5, by omega⟩
  · rintro σ' H' ⟨⟨y, rfl⟩, e1, _, _⟩
    exact q y H' e1
theorem cut_two {xs ys : List V} (h : xs.length = 2) : cutV (xs ++ ys) (some 2) none = ys := by
  have hl : (xs ++ ys).length = 2 + ys.length := by rw [List.length_append, h]
  have hd : (xs ++ ys).drop 2 = ys := by
    rw [← h]
    exact List.drop_left
  unfold cutV
  rw [HT.sIx_none, show (2 : Int) = ((2 : Nat) : Int) from rfl, HT.sIx_nat, Nat.min_eq_left (by omega), hd]
  exact List.take_of_length_le (by omega)
theorem rv_notBl {a b : Bool} {H : Hp} : RV rNotB (.bl a) (.bl b) H (.bl (!decide (a = b))) := fun H1 _ _ q => ⟨a, b, rfl, rfl, q H1 (Ex.refl H1)⟩
theorem q_odd {K : PySem.W.Frag} {σ : L2.St} {H : Hp} {D : Ends} {tz : TS} {i n : Nat} {p a : Addr} {h : List Nat} {t : TA} {E : XK} (hE : EvA t σ H [.ref p, .ref a]) (hp : Po p n H) (hn : n + 3 < 1000000000) (ap : a ≠ p) (ha : H a = some (.lst (nv h))) (h1 : 1 ≤ h.length) (h2 : h.length ≤ 20)
    (q : ∀ l ws H1, H1 l = some (.lst ws) → ws.length ≤ 100 → (∀ v ∈ ws, AT K H1 v) → Po p (n + 3) H1 → Ex (Hm p H) H1 → tz D (σ.set i (some (.ref l))) H1) : tSeq (tAsg (tCall (sp_law_odd K) [] E t) (gName i)) tz D σ H :=
  hE H (Ex.refl H) _ fun H1 e1 => ⟨p, a, n, h, rfl, hp.ex e1, hn, ap, e1 a _ ha, h1, h2, fun l ws H2 nl hl len w p2 e2 => q l ws H2 hl len w p2 (hm_trans (hm_of e1) e2)⟩
def sp_law_right : Sp := fun vs H Q _ => ∃ (p : Addr) (n m : Nat), vs = [.ref p, .int (m : Int)] ∧ Po p n H ∧ n + 200 < 1000000000 ∧ 1 ≤ m ∧ m ≤ 20 ∧ ∀ H', Po p (n + 100) H' → Ex (Hm p H) H' → Q (.bl true) H'
section
variable {P : Program} {w : World} {K : PySem.W.Frag} {mg : Str → Option Value} {base : Heap}
theorem ok_law_right (T : Tx K mg) : FnOkG P w K mg base 7 T.f_law_right T.d_law_right ["pouch", "many"] sp_law_right := by
  refine funG T.F_law_right sc_law_right (fun vs H Q E h => ?_) (fun cdv A outer s H vs Q E hg hr h => ?_)
  · obtain ⟨p, n, m, rfl, _⟩ := h
    rfl
  · obtain ⟨p, n, m, rfl, hpo, hn, hm1, hm, k⟩ := h
    refine ⟨_, (pss_cons (ps_set (i := 2) sc_law_right.nd rfl (Or.inr rfl) (pe_call (ok_law_entries T) (hr.mono (by decide)) (by rfl) T.g_law_entries T.F_law_entries.kp T.b_law_entries .nil pass0 (pa_cons (pv 0) (pa_cons (pv 1) pa_nil))))
      (pss_cons (ps_par (i := 3) (j := 4) (by rfl) sc_law_right.nd rfl rfl (by decide) rfl rfl (pa_cons (pe_callTy call_listR (by rfl) T.m_list (by decide +kernel) (pa_cons (pv 2) pa_nil)) (pa_cons (pe_call (ok_law_seat T) (hr.mono (by decide)) (by rfl) T.g_law_seat T.F_law_seat.kp T.b_law_seat .nil pass0 (pa_cons (pe_call (ok_law_rings T) (hr.mono (by decide)) (by rfl) T.g_law_rings T.F_law_rings.kp T.b_law_rings .nil pass0 (pa_cons (pv 2) pa_nil)) pa_nil)) pa_nil)) (by rfl))
      (pss_cons (ps_set (i := 5) sc_law_right.nd rfl (Or.inl rfl) (pe_lst (pa_cons (pe_call (ok_seating_by T) (hr.mono (by decide)) (by rfl) T.g_seating_by T.F_seating_by.kp T.b_seating_by .nil pass0 (pa_cons (pv 2) pa_nil)) (pa_cons (pe_callK0 (ok_seating_by T) (hr.mono (by decide)) (by rfl) T.g_seating_by T.F_seating_by.kp T.kb_seating_by_0_coming pass0 (pk_cons (pv 2) pk_nil)) pa_nil))))
      (pss_cons (ps_if (PW.pt (pw_or (pt_cmpR (op_neD hr.units) (pv 5) (pe_lst (pa_cons (pv 4) (pa_cons (pv 4) pa_nil))) (nomark _)) (pw_or1 (pt_cmpR op_notBl (pe_callK0 (ok_is_coming T) (hr.mono (by decide)) (by rfl) T.g_is_coming T.F_is_coming.kp T.kb_is_coming_0_thing pass0 (pk_cons (pv 2) pk_nil)) pe_bl (nomark _))))) (pss_one (ps_ret pe_bl)) pss_nil)
      (pss_cons (ps_set (i := 5) sc_law_right.nd rfl (Or.inl rfl) (pe_op op_cat (pv 5) (pe_lst (pa_cons (pe_call (ok_coming_of T) (hr.mono (by decide)) (by rfl) T.g_coming_of T.F_coming_of.kp T.b_coming_of .nil pass0 (pa_cons (pv 4) pa_nil)) (pa_cons (pe_callK0 (ok_coming_of T) (hr.mono (by decide)) (by rfl) T.g_coming_of T.F_coming_of.kp T.kb_coming_of_0_seating pass0 (pk_cons (pv 4) pk_nil)) (pa_cons (pe_call (ok_openers_of T) (hr.mono (by decide)) (by rfl) T.g_openers_of T.F_openers_of.kp T.b_openers_of .nil pass0 (pa_cons (pv 4) pa_nil)) (pa_cons (pe_callK0 (ok_openers_of T) (hr.mono (by decide)) (by rfl) T.g_openers_of T.F_openers_of.kp T.kb_openers_of_0_seating pass0 (pk_cons (pv 4) pk_nil)) pa_nil)))))))
      (pss_cons (ps_setLc (i := 7) (own := [("k", 6)]) (g := (gName 6)) rfl sc_law_right.nd rfl rfl (sw_true rfl rfl rfl (by decide +kernel)) (pi_range1 (by rfl) T.m_range (pa_cons (pv 1) pa_nil)) (blkOk_by (own := [("k", 6)]) (N := n_law_right) (sc := defScope s_law_right) (by decide +kernel)) (fun _ _ _ _ _ => (pg_name (i := 6) sc_law_right.nd rfl (Or.inl rfl))) (fun _ _ _ _ _ => (pts_one (pt_cmpR op_eq (pe_ix (r := rIxL K) ix_list (pv 2) (pv 6) (fun _ _ => rfl)) (pv 6) (nomark _)))) (fun _ _ _ _ _ => (pv 6)))
      (pss_cons (ps_if (pt_cmpR (op_neD hr.units) (pe_slice sl_list (pv 5) (po_some pe_int) po_none) (pe_lst (pa_cons (pv 2) (pa_cons (pv 2) (pa_cons (pv 7) (pa_cons (pv 7) pa_nil))))) (nomark _)) (pss_one (ps_ret pe_bl)) pss_nil)
      (pss_cons (ps_for PassesOwn.never rfl (pi_list (pv 5)) (pg_name (i := 8) sc_law_right.nd rfl (Or.inl rfl)) (pss_one (ps_expr (pe_bm PySem.F.plainAttrs_list PySem.F.slot_list_append PySem.F.type_list_append mt_append (pv 8) (pa_cons pe_non pa_nil)))))
      (pss_cons (ps_for PassesOwn.never rfl (pi_tup (pe_tup (pa_cons pe_int (pa_cons (pv 1) (pa_cons (pe_op op_add pe_int (pe_call (ok_law_dip T) (hr.mono (by decide)) (by rfl) T.g_law_dip T.F_law_dip.kp T.b_law_dip .nil pass0 (pa_cons (pv 0) (pa_cons (pv 1) pa_nil)))) pa_nil))))) (pg_name (i := 9) sc_law_right.nd rfl (Or.inl rfl)) (pss_cons (ps_set (i := 10) sc_law_right.nd rfl (Or.inl rfl) (pe_call (ok_law_seat T) (hr.mono (by decide)) (by rfl) T.g_law_seat T.F_law_seat.kp T.b_law_seat .nil pass0 (pa_cons (pe_call (ok_law_rings T) (hr.mono (by decide)) (by rfl) T.g_law_rings T.F_law_rings.kp T.b_law_rings .nil pass0 (pa_cons (pe_slice sl_list (pv 2) po_none (po_some (pv 9))) pa_nil)) pa_nil)))
      (pss_cons (ps_if (PW.pt (pw_or (pt_cmpR (op_neD hr.units) (pe_call (ok_hall_of T) (hr.mono (by decide)) (by rfl) T.g_hall_of T.F_hall_of.kp T.b_hall_of .nil pass0 (pa_cons (pv 2) (pa_cons (pv 9) pa_nil))) (pv 10) (nomark _)) (pw_or1 (pt_cmpR (op_neD hr.units) (pe_callK0 (ok_hall_of T) (hr.mono (by decide)) (by rfl) T.g_hall_of T.F_hall_of.kp T.kb_hall_of_0_number_coming pass0 (pk_cons (pv 9) (pk_cons (pv 2) pk_nil))) (pv 10) (nomark _))))) (pss_one (ps_ret pe_bl)) pss_nil)
      (pss_cons (ps_set (i := 11) sc_law_right.nd rfl (Or.inl rfl) (pe_call (ok_hall_of T) (hr.mono (by decide)) (by rfl) T.g_hall_of T.F_hall_of.kp T.b_hall_of .nil pass0 (pa_cons (pv 2) (pa_cons (pv 9) pa_nil))))
      (pss_cons (ps_expr (pe_bm PySem.F.plainAttrs_list PySem.F.slot_list_append PySem.F.type_list_append mt_append (pv 11) (pa_cons pe_non pa_nil)))
      (pss_one (ps_if (pt_cmpR (op_neD hr.units) (pe_call (ok_hall_of T) (hr.mono (by decide)) (by rfl) T.g_hall_of T.F_hall_of.kp T.b_hall_of .nil pass0 (pa_cons (pv 2) (pa_cons (pv 9) pa_nil))) (pv 10) (nomark _)) (pss_one (ps_ret pe_bl)) pss_nil)))))))
      (pss_cons (ps_set (i := 12) sc_law_right.nd rfl (Or.inl rfl) (pe_call (ok_law_odd T) (hr.mono (by decide)) (by rfl) T.g_law_odd T.F_law_odd.kp T.b_law_odd .nil pass0 (pa_cons (pv 0) (pa_cons (pv 2) pa_nil))))
      (pss_cons (ps_if (pt_cmpR op_ne (pe_callB (id := "repr") (r := rRepr K) (call_reprD hg hr.units) (by rfl) T.m_repr (by decide +kernel) (pa_cons (pe_lc (own := [("item", 13)]) (g := (gName 13)) (tt := tYes) rfl sc_law_right.nd (pi_list (pv 12)) (blkOk_by (own := [("item", 13)]) (N := n_law_right) (sc := defScope s_law_right) (by decide +kernel)) (fun _ _ _ _ _ => (pg_name (i := 13) sc_law_right.nd rfl (Or.inl rfl))) (fun _ _ _ _ _ => pts_nil) (fun _ _ _ _ _ => (pe_call (ok_is_coming T) (hr.mono (by decide)) (by rfl) T.g_is_coming T.F_is_coming.kp T.b_is_coming .nil pass0 (pa_cons (pv 13) pa_nil)))) pa_nil)) (pe_callB (id := "repr") (r := rRepr K) (call_reprD hg hr.units) (by rfl) T.m_repr (by decide +kernel) (pa_cons (pe_lc (own := [("item", 13)]) (g := (gName 13)) (tt := tYes) rfl sc_law_right.nd (pi_list (pv 12)) (blkOk_by (own := [("item", 13)]) (N := n_law_right) (sc := defScope s_law_right) (by decide +kernel)) (fun _ _ _ _ _ => (pg_name (i := 13) sc_law_right.nd rfl (Or.inl rfl))) (fun _ _ _ _ _ => pts_nil) (fun _ _ _ _ _ => (pe_call (ok_law_is_coming T) (hr.mono (by decide)) (by rfl) T.g_law_is_coming T.F_law_is_coming.kp T.b_law_is_coming .nil pass0 (pa_cons (pv 13) pa_nil)))) pa_nil)) (nomark _)) (pss_one (ps_ret pe_bl)) pss_nil)
      (pss_one (ps_ret (pe_and (pe_cmpR (op_eqD hr.units) (pv 2) (pv 3) (nomark _)) (pe_one (pe_cmpR (op_eqD hr.units) (pe_call (ok_coming_of T) (hr.mono (by decide)) (by rfl) T.g_coming_of T.F_coming_of.kp T.b_coming_of .nil pass0 (pa_cons (pv 4) pa_nil)) (pv 2) (nomark _))))))))))))))))), ?_⟩
    refine q_entriesN (p := p) (n := n) (m := m) (ea_cons (ev_var rfl) (ea_cons (ev_var rfl) ea_nil)) hpo (by omega) hm fun en f H1 nen hen hlen hf p1 e1 => ?_
    subst hlen
    have o : Cm f := ⟨hm1, hm, hf⟩
    have oo := o.ord
    have lf := nv_len f
    have enp : en ≠ p := hpo.ne nen
    generalize hS : sby f f.length = S at *
    refine q_parLL (xs := nv f) (ys := nv S) (el_list (ev_var rfl) (sq_of hen)) (by
      have := el_seatV (E := E0) (E2 := E0) (ta := tVar 2) (σ := [some (.ref p), some (.int (f.length : Int)), some (.ref en), none, none, none, none, none, none, none, none, none, none, none]) (H := H1) (ev_var (i := 2) rfl) hen o
      rw [hS] at this
      exact this) fun ke ha H2 nke nha kh e2 hke hha => ?_
    have hen2 := e2 en _ hen
    have p2 := p1.ex e2
    have kep : ke ≠ p := p1.ne nke
    have hap : ha ≠ p := p1.ne nha
    have E2 : Ex (Hm p H) H2 := hm_trans e1 (hm_of e2)
    have byV : ∀ (σ : L2.St) (H' : Hp), σ[2]? = some (some (.ref en)) → Ex H2 H' → EvL (tCall sp_seating_by [] E0 (tCons (tVar 2) tNil)) σ H' (nv S) := fun σ H' hv e' => by
      have := el_call (E := E0) (ea_cons (ev_var (i := 2) hv) ea_nil) (sl_seating_by (e' en _ hen2) o)
      rw [hS] at this
      exact this
    refine q_asgNL (rs := [S, S]) (nl_lst (na_cons (byV _ _ rfl (Ex.refl _)) (na_cons ?_ na_nil)) (by simp)) fun t1 bs H3 nt1 t1b e3 ht1 hbs fbs => ?_
    · have := el_callK (E := E0) (gV := v_K04_kb_seating_by_0_coming) (vs := []) (zs := [.ref en]) ea_nil (ea_cons (ev_var (i := 2) (σ := [some (.ref p), some (.int (f.length : Int)), some (.ref en), some (.ref ke), some (.ref ha), none, none, none, none, none, none, none, none, none]) (H := H2) rfl) ea_nil) (sl_seating_by hen2 o)
      rw [hS] at this
      exact this
    have hen3 := e3 en _ hen2
    have hha3 := e3 ha _ hha
    have blen : bs.length = 2 := paired_len2 hbs
    refine q_when (b := false) (et_is (et_or (et_test (ev_neD (d := .list [di S, di S]) (e := .list [di S, di S]) (ed_of (ev_var rfl) (.lst (sq_of ht1) (lat_dp hbs))) (ed_lst (eda_cons (ed_of (ev_var rfl) (dp_L hha3)) (eda_cons (ed_of (ev_var rfl) (dp_L hha3)) eda_nil)) (Nat.le_of_ble_eq_true rfl)) (shaped_two _ _) (shaped_two _ _))) fun _ => et_test (ev_op (ev_callK (zs := [.ref en]) ea_nil (ea_cons (ev_var rfl) ea_nil) (sv_coming hen3 o)) ev_c rv_notBl)) (by rw [eqv_same (shaped_two _ _)]; rfl)) (fun hb => Bool.noConfusion hb) fun _ H4 e4 => ?_
    have hen4 := e4 en _ hen3
    have hha4 := e4 ha _ hha3
    have ht4 := e4 t1 _ ht1
    have hbs4 := lat_ex e4 hbs
    have hhaS : ∀ H', Ex H4 H' → H' ha = some (.lst (nv (sby f f.length))) := fun H' e' => by
      rw [hS]
      exact e' ha _ hha4
    refine q_catNL (rs := [f, f, opens f, opens f]) (a := t1) (cs := bs) (ev_var rfl) ht4 (nl_lst (na_cons (el_call (ea_cons (ev_var rfl) ea_nil) (sl_coming_of (hhaS H4 (Ex.refl _)) o)) (na_cons (el_callK (zs := [.ref ha]) ea_nil (ea_cons (ev_var rfl) ea_nil) (sl_coming_of (hhaS H4 (Ex.refl _)) o)) (na_cons (el_call (ea_cons (ev_var rfl) ea_nil) (sl_openers_of (hhaS H4 (Ex.refl _)) o)) (na_cons (el_callK (zs := [.ref ha]) ea_nil (ea_cons (ev_var rfl) ea_nil) (sl_openers_of (hhaS H4 (Ex.refl _)) o)) na_nil)))) (by simp)) (by rw [blen]; show 2 + 4 ≤ 1000; decide) (fun t2 ds H5 nt2 t2n _ e5 ht2 hds fds => ?_) (fun c hc => by
      obtain ⟨r, _, h⟩ := lat_mem hbs4 hc
      rw [h]
      exact fun z => by cases z)
    have hen5 := e5 en _ hen4
    have dlen : ds.length = 4 := paired_len2 hds
    refine q_asgL (xs := nv (opens f)) ?_ fun fi H6 nfi e6 hfi => ?_
    · have e : given ((f.length : Int)).toNat (fun i => decide (f.getD i 0 = i)) (fun i : Nat => V.int (i : Int)) = nv (opens f) := by
        unfold given opens
        rw [Int.toNat_natCast, nv_eq]
      rw [← e]
      refine el_lcR1 _ _ (ea_cons (ev_var rfl) ea_nil) ⟨by omega, by omega⟩ (fun _ => rfl) (fun i H6 e6 hi => ?_) fun i H6 e6 hi _ => ev_var rfl
      have il : i < f.length := by omega
      have hfi : f[i]? = some (f.getD i 0) := by
        rw [List.getD_eq_getElem?_getD, List.getElem?_eq_getElem il]
        rfl
      refine et_is (et_test (ev_op (ev_op (ev_var rfl) (ev_var rfl) (rv_ixL (K := K) (sq_of (e6 en _ hen5)) (atI_nat (nv_get hfi)))) (ev_var rfl) (rv_eq rfl))) ?_
      rw [Bool.eq_iff_iff]
      simp only [decide_eq_true_eq]
      exact ⟨fun z => by have := V.int.inj z; omega, fun z => by rw [z]⟩
    have hen6 := e6 en _ hen5
    have ht26 := e6 t2 _ ht2
    have hds6 := lat_ex e6 hds
    have cutD : cutV ((bs ++ ds).map V.ref) (some 2) none = ds.map V.ref := by
      rw [List.map_append]
      exact cut_two (by rw [List.length_map, blen])
    have slD := el_sl (K := K) (te := tVar 5) (tl := tPart (tC (.int 2))) (th := tNoPart) (σ := [some (.ref p), some (.int (f.length : Int)), some (.ref en), some (.ref ke), some (.ref ha), some (.ref t2), none, some (.ref fi), none, none, none, none, none, none]) (H := H6) (ev_var (i := 5) (v := .ref t2) rfl) (eo_some (ev_c (v := .int 2))) eo_none (sq_of ht26)
    rw [cutD] at slD
    have sh4 := shaped_dis [f, f, opens f, opens f]
    refine q_when (b := false) (et_is (et_test (ev_neD (d := .list ([f, f, opens f, opens f].map di)) (e := .list ([f, f, opens f, opens f].map di)) (ed_ofL slD (lat_dp hds6)) (ed_lst (eda_cons (ed_of (ev_var rfl) (dp_L hen6)) (eda_cons (ed_of (ev_var rfl) (dp_L hen6)) (eda_cons (ed_of (ev_var rfl) (dp_L hfi)) (eda_cons (ed_of (ev_var rfl) (dp_L hfi)) eda_nil)))) (Nat.le_of_ble_eq_true rfl)) sh4 sh4)) (by rw [eqv_same sh4]; rfl)) (fun hb => Bool.noConfusion hb) fun _ H7 e7 => ?_
    have e27 : Ex H2 H7 := e3.trans (e4.trans (e5.trans (e6.trans e7)))
    have smallOf : ∀ {bs' : List Addr} {rs' : List (List Nat)} {H' : Hp}, Paired (LAt H') bs' rs' → (∀ r ∈ rs', r.length ≤ 20) → ∀ c ∈ bs', ∃ xs, H' c = some (.lst xs) ∧ xs.length ≤ 100 := fun h1 h2 c hc => by
      obtain ⟨r, hr, h⟩ := lat_mem h1 hc
      have := h2 r hr
      exact ⟨nv r, h, by rw [nv_len]; omega⟩
    have Sl : S.length ≤ 20 := by rw [← hS, sby_len]; exact hm
    have ol : (opens f).length ≤ 20 := by
      have := List.length_filter_le (fun i => decide (f.getD i 0 = i)) (List.range f.length)
      rw [List.length_range] at this
      exact Nat.le_trans this hm
    refine q_appAll (K := K) (B := H2) (t := t2) (cs := bs ++ ds) (i := 5) (j := 8) (σ := [some (.ref p), some (.int (f.length : Int)), some (.ref en), some (.ref ke), some (.ref ha), some (.ref t2), none, some (.ref fi), none, none, none, none, none, none]) rfl (by decide) (Nat.le_of_ble_eq_true rfl) (e7 t2 _ ht26) t2n (fresh_back (e3.trans e4) nt2) (fun c hc => ?_) e27 (fun c hc => ?_) (by rw [List.length_append]; omega) (fun _ _ => ev_c) fun y8 H8 e8 => ?_
    · rcases List.mem_append.mp hc with z | z
      · exact fbs c z
      · exact fresh_back (e3.trans e4) (fds c z)
    · rcases List.mem_append.mp hc with z | z
      · exact smallOf (lat_ex (e5.trans (e6.trans e7)) hbs4) (by simp; exact Sl) c z
      · exact smallOf (lat_ex e7 hds6) (by simp; exact ⟨hm, ol⟩) c z
    have hen8 := e8 en _ hen2
    have hke8 := e8 ke _ hke
    have hha8 := e8 ha _ hha
    have p8 := p2.ex e8
    refine pq_for3 (K := K) (p := p) (k := 0 + 1) (H0 := Hm p H8) (a := 1) (b := (f.length : Int)) (C := fun c => 1 ≤ c ∧ c ≤ (f.length : Int)) ev_c (ev_var rfl) (ep_is (ep_add (C := fun r => 0 ≤ r ∧ r < (f.length : Int)) hm_p ev_c (ep_dipI hm_p (ev_var rfl) (ev_var rfl) (by omega) (by omega))) fun v H' ⟨r, e', r0, r1⟩ => ⟨1 + r, e', by omega, by omega⟩) hm_sub p8 (by omega) fun wd H9 hwd p9 e9 => ?_
    have hen9 := hm_at e9 enp hen8
    have hke9 := hm_at e9 kep hke8
    have hha9 := hm_at e9 hap hha8
    have E9 : Ex (Hm p H) H9 := hm_trans E2 (hm_trans (hm_of e8) e9)
    refine q_forNU (K := K) (g := gName 9) (xs := [.int 1, .int (f.length : Int), .int wd]) (eu_tup (ea_cons ev_c (ea_cons ev_c (ea_cons ev_c ea_nil))) (Nat.le_of_ble_eq_true rfl)) (fun q i σ' H' => (∃ y9 y10 y11, σ' = [some (.ref p), some (.int (f.length : Int)), some (.ref en), some (.ref ke), some (.ref ha), some (.ref t2), none, some (.ref fi), y8, y9, y10, y11, none, none]) ∧ Ex H9 H' ∧ H' q = some (.tup [.int 1, .int (f.length : Int), .int wd]))
      (fun q H' hq e' h' => ⟨⟨none, none, none, rfl⟩, e', h'⟩) (fun q i σ' H' _ ⟨_, _, h⟩ => st_of h) ?_ ?_
    · rintro q i x σ' H' hx ⟨⟨y9, y10, y11, rfl⟩, e10, hq⟩
      obtain ⟨wn, rfl, w1, w2⟩ : ∃ wn : Nat, x = .int (wn : Int) ∧ 1 ≤ wn ∧ wn ≤ f.length := by
        have : i < 3 := by
          have := (List.getElem?_eq_some_iff.mp hx).1
          simpa using this
        have : i = 0 ∨ i = 1 ∨ i = 2 := by omega
        rcases this with rfl | rfl | rfl
        · exact ⟨1, (Option.some.inj hx).symm, by omega, by omega⟩
        · exact ⟨f.length, (Option.some.inj hx).symm, by omega, by omega⟩
        · exact ⟨wd.toNat, by
            have : x = .int wd := (Option.some.inj hx).symm
            rw [this]
            congr 1
            omega, by omega, by omega⟩
      have hen10 := e10 en _ hen9
      have ow := o.take w1 w2
      have tl : (f.take wn).length = wn := by rw [List.length_take]; omega
      show tSeq _ _ _ _ _
      refine q_asgL (xs := nv (sby f wn)) ?_ fun du H11 ndu e11 hdu => ?_
      · have sl := el_sl (K := K) (te := tVar 2) (tl := tNoPart) (th := tPart (tVar 9)) (σ := [some (.ref p), some (.int (f.length : Int)), some (.ref en), some (.ref ke), some (.ref ha), some (.ref t2), none, some (.ref fi), y8, some (.int (wn : Int)), y10, y11, none, none]) (H := H') (ev_var (i := 2) (v := .ref en) rfl) eo_none (eo_some (ev_var (i := 9) (v := .int (wn : Int)) rfl)) (sq_of hen10)
        rw [cut_to w2] at sl
        have g := el_seatOf (E := E0) (E2 := E0) sl ow
        rw [tl, sby_take f w2 wn (Nat.le_refl _)] at g
        exact g
      have hen11 := e11 en _ hen10
      have one11 : ∀ (σ' : L2.St) (H' : Hp), σ'[2]? = some (some (.ref en)) → σ'[9]? = some (some (.int (wn : Int))) → Ex H11 H' → EvL (tCall sp_hall_of [] E0 (tCons (tVar 2) (tCons (tVar 9) tNil))) σ' H' (nv (sby f wn)) := fun σ' H' h1 h2 e' => el_call (ea_cons (ev_var (i := 2) h1) (ea_cons (ev_var (i := 9) h2) ea_nil)) (sl_hall_of (e' en _ hen11) o w1 w2)
      refine q_when (b := false) (et_is (et_or (et_test (ev_neD (d := di (sby f wn)) (e := di (sby f wn)) (ed_L (one11 _ _ rfl rfl (Ex.refl _))) (ed_of (ev_var rfl) (dp_L hdu)) (shaped_di _) (shaped_di _))) fun _ => et_test (ev_neD (d := di (sby f wn)) (e := di (sby f wn)) (ed_L (el_callK (zs := [.int (wn : Int), .ref en]) ea_nil (ea_cons (ev_var rfl) (ea_cons (ev_var rfl) ea_nil)) (sl_hall_of hen11 o w1 w2))) (ed_of (ev_var rfl) (dp_L hdu)) (shaped_di _) (shaped_di _))) (by rw [eqv_same (shaped_di _)]; rfl)) (fun hb => Bool.noConfusion hb) fun _ H12 e12 => ?_
      have hen12 := e12 en _ hen11
      refine q_asgL (xs := nv (sby f wn)) (one11 _ _ rfl rfl e12) fun la H13 nla e13 hla => ?_
      have lw := sby_len f wn
      refine q_app (xs := nv (sby f wn)) hla (ev_var rfl) ev_c (by rw [nv_len]; omega) fun H14 e14 => ?_
      have e1014 : Ex H9 H12 := e10.trans (e11.trans e12)
      have nla9 : H9 la = none := fresh_back e1014 nla
      have nla11 : H11 la = none := fresh_back e12 nla
      have eM : Ex H9 (upd H14 la (.lst (nv (sby f wn) ++ [.non]))) := Ex.mut (e1014.trans (e13.trans e14)) nla9
      have eM11 : Ex H11 (upd H14 la (.lst (nv (sby f wn) ++ [.non]))) := Ex.mut (e12.trans (e13.trans e14)) nla11
      refine s_when (b := false) (et_is (et_test (ev_neD (d := di (sby f wn)) (e := di (sby f wn)) (ed_L (one11 _ _ rfl rfl eM11)) (ed_of (ev_var rfl) (dp_L (eM11 du _ hdu))) (shaped_di _) (shaped_di _))) (by rw [eqv_same (shaped_di _)]; rfl)) (fun hb => Bool.noConfusion hb) fun _ H15 e15 => ?_
      refine ⟨⟨_, _, _, rfl⟩, eM.trans e15, e15 q _ (eM11 q _ (e11 q _ hq))⟩
    · rintro q σ' H10 ⟨⟨y9, y10, y11, rfl⟩, e10, _⟩
      have hen10 := e10 en _ hen9
      have p10 := p9.ex e10
      refine q_odd (K := K) (p := p) (a := en) (h := f) (ea_cons (ev_var rfl) (ea_cons (ev_var rfl) ea_nil)) p10 (by omega) enp hen10 hm1 hm fun so ws H9' hws hlen hw p12 e12 => ?_
      obtain ⟨os, ho⟩ := at_paired hw
      have hen12 := hm_at e12 enp hen10
      have hke12 := hm_at e12 kep (e10 ke _ hke9)
      have hha12 := hm_at e12 hap (e10 ha _ hha9)
      have E12 : Ex (Hm p H) H9' := hm_trans (hm_trans E9 (hm_of e10)) e12
      have one : ∀ (sp : Sp), (∀ (v : V) (o : Option (List PyData)) (H2 : Hp), Th K H2 v o → SpV sp ([v] ++ []) H2 (.bl (judgeC o))) → EvD K (tLc (iList K (tVar 12)) (gName 13) tYes (tCall sp [] E0 (tCons (tVar 13) tNil)) [13]) [some (.ref p), some (.int (f.length : Int)), some (.ref en), some (.ref ke), some (.ref ha), some (.ref t2), none, some (.ref fi), y8, y9, y10, y11, some (.ref so), none] H9' (.list ((List.range ws.length).map fun i => PyData.bool (judgeC (os.getD i none)))) := fun sp hs => by
        refine ed_ofL (el_mapI (K := K) (te := tCall sp [] E0 (tCons (tVar 13) tNil)) (j := 13) (vs := [13]) (fun i => V.bl (judgeC (os.getD i none))) (ev_var (i := 12) rfl) (sq_of hws) (by omega) (fun _ => rfl) fun i x H2 e2 hx => ?_) (dpa_bls _ _)
        obtain ⟨o, ho1, ho2⟩ := paired_get ho hx
        have gd : os.getD i none = o := by rw [List.getD_eq_getElem?_getD, ho1] <;> rfl
        show Ev _ _ _ (V.bl (judgeC (os.getD i none)))
        rw [gd]
        exact ev_call (ea_cons (ev_var rfl) ea_nil) (hs x o H2 (ho2.ex e2))
      have shw : Shw (.list ((List.range ws.length).map fun i => PyData.bool (judgeC (os.getD i none)))) := shw_list fun d hd => by
        obtain ⟨i, _, rfl⟩ := List.mem_map.mp hd
        exact shw_bool _
      have wgt : (PyData.list ((List.range ws.length).map fun i => PyData.bool (judgeC (os.getD i none)))).weight ≤ 2 ^ 20 := by
        have := wgt_all (C := 0) (ds := (List.range ws.length).map fun i => PyData.bool (judgeC (os.getD i none))) fun d hd => by
          obtain ⟨i, _, rfl⟩ := List.mem_map.mp hd
          exact Nat.le_refl _
        rw [List.length_map, List.length_range] at this
        show PyData.weightAll _ ≤ _
        omega
      have dep : (PyData.list ((List.range ws.length).map fun i => PyData.bool (judgeC (os.getD i none)))).depth ≤ 50 := by
        have e : (PyData.list ((List.range ws.length).map fun i => PyData.bool (judgeC (os.getD i none)))).depth = PyData.depthAll ((List.range ws.length).map fun i => PyData.bool (judgeC (os.getD i none))) + 1 := by simp only [PyData.depth]
        rw [e, depth_bls fun i => judgeC (os.getD i none)]
        decide
      refine q_when (b := false) (et_is (et_test (ev_op (ev_reprS (one (sp_anyC K) fun v o H2 hv => sv_anyC hv) rfl shw dep wgt) (ev_reprS (one (sp_anyC K) fun v o H2 hv => sv_anyC hv) rfl shw dep wgt) (rv_ne rfl))) (by simp)) (fun hb => Bool.noConfusion hb) fun _ H13 e13 => ?_
      have hen13 := e13 en _ hen12
      have hke13 := e13 ke _ hke12
      have hha13 : H13 ha = some (.lst (nv (sby f f.length))) := by
        rw [hS]
        exact e13 ha _ hha12
      refine s_ret (v := .bl true) (ev_is (ev_andV (ev_eqD (d := di f) (e := di f) (ed_of (ev_var rfl) (dp_L hen13)) (ed_of (ev_var rfl) (dp_L hke13)) (shaped_di _) (shaped_di _)) fun _ => ev_eqD (d := di f) (e := di f) (ed_L (el_call (ea_cons (ev_var rfl) ea_nil) (sl_coming_of hha13 o))) (ed_of (ev_var rfl) (dp_L hen13)) (shaped_di _) (shaped_di _)) (by rw [eqv_same (shaped_di _)]; rfl)) fun H14 e14 => k H14 ((p12.ex (e13.trans e14)).mono (by omega)) (hm_trans E12 (hm_of (e13.trans e14)))
end

local macro_rules | `(tactic| walk_at "call") => `(tactic| (with_reducible exact sv_whole))
local macro_rules | `(tactic| walk_at "call") => `(tactic| ((with_reducible refine' sv_order ?c1 ?c2); (case c1 => assumption); (case c2 => assumption)))
local macro_rules | `(tactic| walk_at "call") => `(tactic| ((with_reducible refine' sv_ord ?c1 ?c2); (case c1 => assumption); (case c2 => assumption)))

/-! ### the law: constants -/
def rgB (h r : List Nat) : Bool := decide (0 < r.length) && decide r.Nodup && (List.range r.length).all fun i => match r[i]?, r[(i + 1) % r.length]? with
  | some x, some y => h[x]? == some y
  | _, _ => false
theorem rg_of {h r : List Nat} (e : rgB h r = true) : Rg h r := by
  unfold rgB at e
  rw [Bool.and_eq_true, Bool.and_eq_true, decide_eq_true_iff, decide_eq_true_iff, List.all_eq_true] at e
  refine ⟨e.1.1, e.1.2, fun i hi => ?_⟩
  have := e.2 i (List.mem_range.mpr hi)
  cases h1 : r[i]? with
  | none => rw [h1] at this; cases this
  | some x =>
    cases h2 : r[(i + 1) % r.length]? with
    | none => rw [h1, h2] at this; cases this
    | some y =>
      rw [h1, h2] at this
      exact ⟨x, y, rfl, rfl, eq_of_beq this⟩
def ringsB (h : List Nat) (rs : List (List Nat)) : Bool := (rs.all fun r => rgB h r && leads r) && decide ((rs.map (·.headD 0)).Pairwise (· < ·)) && rs.flatten.isPerm (List.range h.length)
theorem rings_of {h : List Nat} {rs : List (List Nat)} (e : ringsB h rs = true) : Rings h rs := by
  unfold ringsB at e
  rw [Bool.and_eq_true, Bool.and_eq_true, decide_eq_true_iff, List.all_eq_true] at e
  refine ⟨fun r hr => ?_, fun r hr => ?_, e.1.2, List.isPerm_iff.mp e.2⟩
  · exact rg_of (Bool.and_eq_true_iff.mp (e.1.1 r hr)).1
  · exact of_decide_eq_true (Bool.and_eq_true_iff.mp (e.1.1 r hr)).2
def ordB (h : List Nat) : Bool := h.isPerm (List.range h.length) && decide (1 ≤ h.length) && decide (h.length ≤ 20)
theorem ord_of {h : List Nat} (e : ordB h = true) : Ord h := by
  unfold ordB at e
  rw [Bool.and_eq_true, Bool.and_eq_true, decide_eq_true_iff, decide_eq_true_iff] at e
  exact ⟨List.isPerm_iff.mp e.1.1, e.1.2, e.2⟩
def EvLBA (ta : TA) (σ : L2.St) (H : Hp) (rs : List (List Nat)) : Prop := ∀ H1, Ex H H1 → ∀ Q : List V → Hp → Prop, (∀ vs H2, Ex H1 H2 → Paired (Lb H2) vs rs → Q vs H2) → ta σ H1 Q
def EvLTA (ta : TA) (σ : L2.St) (H : Hp) (rs : List (List V)) : Prop := ∀ H1, Ex H H1 → ∀ Q : List V → Hp → Prop, (∀ vs H2, Ex H1 H2 → TL H2 vs rs → Q vs H2) → ta σ H1 Q
section
variable {K : PySem.W.Frag} {σ : L2.St} {H H' : Hp} {ta tb tc te : TE} {tr : TA} {D : Ends} {tz : TS} {r : List Nat} {rs ss : List (List Nat)}
theorem lba_nil : EvLBA tNil σ H [] := fun H1 _ _ q => q [] H1 (Ex.refl _) .nil
theorem lba_cons (h : EvL te σ H (nv r)) (hr : EvLBA tr σ H rs) : EvLBA (tCons te tr) σ H (r :: rs) := fun H1 e _ q => h H1 e _ fun p H2 _ e2 h2 => hr H2 (e.trans e2) _ fun vs H3 e3 hv => q _ H3 (e2.trans e3) (.cons ⟨p, rfl, e3 p _ h2⟩ hv)
theorem elb_lst (h : EvLBA tr σ H rs) (hl : rs.length ≤ 1000) : EvLB (tLst tr) σ H rs := fun H1 e Q q => h H1 e _ fun vs H2 e2 hv => ⟨sz_of (by have := Paired.length hv; omega), fun l hl => q l vs _ (fresh_back e2 hl) (e2.trans (Ex.new hl)) upd_same (paired_imp (fun _ _ x => Lb.ex (Ex.new hl) x) hv)⟩
theorem lta_nil : EvLTA tNil σ H [] := fun H1 _ _ q => q [] H1 (Ex.refl _) .nil
theorem lta_cons {x : List V} {xs : List (List V)} (h : EvU te σ H x) (hr : EvLTA tr σ H xs) : EvLTA (tCons te tr) σ H (x :: xs) := fun H1 e _ q => h H1 e _ fun p H2 _ e2 h2 => hr H2 (e.trans e2) _ fun vs H3 e3 hv => q _ H3 (e2.trans e3) (.cons ⟨p, rfl, e3 p _ h2⟩ hv)
theorem elt_lst {xs : List (List V)} (h : EvLTA tr σ H xs) (hl : xs.length ≤ 1000) : EvLT (tLst tr) σ H xs := fun H1 e Q q => h H1 e _ fun vs H2 e2 hv => ⟨sz_of (by have := hv.len; omega), fun l hl => q l vs _ (fresh_back e2 hl) (e2.trans (Ex.new hl)) upd_same (hv.ex (Ex.new hl))⟩
theorem dp_LB : ∀ {vs : List V} {rs : List (List Nat)}, Paired (Lb H) vs rs → DpAll K H vs (rs.map di)
  | _, _, .nil => .nil
  | _, _, .cons ⟨b, e, h⟩ t => by
    subst e
    exact .cons (dp_L h) (dp_LB t)
theorem ed_LB (h : EvLB te σ H rs) : EvD K te σ H (.list (rs.map di)) := fun H1 e Q q => h H1 e Q fun p vs H2 _ e2 h2 hv => q _ H2 e2 (.lst (sq_of h2) (dp_LB hv))
theorem elb_cat {a : Addr} {ws : List V} (h : Ev ta σ H (.ref a)) (ha : H a = some (.lst ws)) (hw : Paired (Lb H) ws rs) (h2 : EvLB tb σ H ss) (hl : rs.length + ss.length ≤ 1000) : EvLB (tOp rCat ta tb) σ H (rs ++ ss) := fun H1 e Q q =>
  h H1 e _ fun H2 e2 => h2 H2 (e.trans e2) _ fun p vs H3 _ e3 h3 hv => by
    have hw3 := paired_imp (fun _ _ x => Lb.ex (e.trans (e2.trans e3)) x) hw
    have l1 := Paired.length hw3
    have l2 := Paired.length hv
    have app : ∀ {l : List V} {m : List (List Nat)} {l' : List V} {m' : List (List Nat)} {G : Hp}, Paired (Lb G) l m → Paired (Lb G) l' m' → Paired (Lb G) (l ++ l') (m ++ m') := fun {l m l' m' G} h h' => by
      induction h with
      | nil => exact h'
      | cons a _ ih => exact .cons a ih
    exact ⟨a, p, ws, vs, rfl, rfl, e3 a _ (e2 a _ (e a _ ha)), h3, sz_of (by omega), fun l hl => q l _ _ (fresh_back (e2.trans e3) hl) ((e2.trans e3).trans (Ex.new hl)) upd_same (paired_imp (fun _ _ x => Lb.ex (Ex.new hl) x) (app hw3 hv))⟩
theorem q_asgLB {i : Nat} (h : EvLB te σ H rs) (k : ∀ p vs H1, H p = none → Ex H H1 → H1 p = some (.lst vs) → Paired (Lb H1) vs rs → tz D (σ.set i (some (.ref p))) H1) : tSeq (tAsg te (gName i)) tz D σ H := h H (Ex.refl H) _ k
theorem el_call2LL {sp : Sp} {dvs xs ys zs : List V} {E : XK} (h : EvL ta σ H xs) (h2 : EvL tb σ H ys) (hs : ∀ p q H1, Ex H H1 → H1 p = some (.lst xs) → H1 q = some (.lst ys) → SpL sp ([.ref p, .ref q] ++ dvs) H1 zs) : EvL (tCall sp dvs E (tCons ta (tCons tb tNil))) σ H zs := fun H1 e Q q =>
  h H1 e _ fun p H2 _ e2 hp => h2 H2 (e.trans e2) _ fun p' H3 _ e3 hp' => hs p p' H3 ((e.trans e2).trans e3) (e3 p _ hp) hp' H3 (Ex.refl _) Q (fun l H4 hl e4 h4 => q l H4 (fresh_back (e2.trans e3) hl) ((e2.trans e3).trans e4) h4) E
theorem el_i4 {a b c d : Nat} : EvL (tLst (tCons (tC (.int a)) (tCons (tC (.int b)) (tCons (tC (.int c)) (tCons (tC (.int d)) tNil))))) σ H (nv [a, b, c, d]) := el_lst (ea_cons ev_c (ea_cons ev_c (ea_cons ev_c (ea_cons ev_c ea_nil)))) (Nat.le_of_ble_eq_true rfl)
theorem el_i1 {a : Nat} : EvL (tLst (tCons (tC (.int a)) tNil)) σ H (nv [a]) := el_lst (ea_cons ev_c ea_nil) (Nat.le_of_ble_eq_true rfl)
end

/-! ### new lists of new lists -/
theorem lb_lc {g : Addr} {H : Hp} {us : List V} {rows : List (List Nat)} (hu : H g = some (.lst us)) (hp : Paired (Lc g H) us rows) {v : V} {r : List Nat} (h : Lb H v r) (ne : r ≠ []) : Lc g H v r := by
  obtain ⟨b, rfl, hb⟩ := h
  refine ⟨b, rfl, fun z => ?_, hb⟩
  subst z
  rw [hu] at hb
  have e : us = nv r := by
    have := Option.some.inj hb
    injection this
  cases r with
  | nil => exact ne rfl
  | cons x l =>
    cases hp with
    | nil => simp [nv, iz] at e
    | cons a _ =>
      obtain ⟨c, rfl, _⟩ := a
      have := (List.cons.inj e).1
      cases this
theorem paired_app {α β : Type} {F : α → β → Prop} : ∀ {l l' : List α} {m m' : List β}, Paired F l m → Paired F l' m' → Paired F (l ++ l') (m ++ m')
  | _, _, _, _, .nil, h => h
  | _, _, _, _, .cons a t, h => .cons a (paired_app t h)
section
variable {K : PySem.W.Frag} {σ : L2.St} {H : Hp} {ta tb te : TE} {t : TT} {D : Ends} {tz : TS}
/-- [a new list for i in range(n) if t] -/
theorem elb_R1f {tn : TA} {j : Nat} {vs : List Nat} {n : Int} (f : Nat → Bool) (F : Nat → List Nat) (h : EvA tn σ H [.int n]) (hn : 0 ≤ n ∧ n ≤ 40000) (hw : ∀ x, wipe ((wipe σ vs).set j (some x)) vs = wipe σ vs)
    (ht : ∀ (i : Nat) H1, Ex H H1 → (i : Int) < n → EvT t ((wipe σ vs).set j (some (.int (i : Int)))) H1 (f i)) (he : ∀ (i : Nat) H1, Ex H H1 → (i : Int) < n → f i = true → EvL te ((wipe σ vs).set j (some (.int (i : Int)))) H1 (nv (F i))) :
    EvLB (tLc (iRng1 tn) (gName j) t te vs) σ H (((List.range n.toNat).filter f).map F) := fun H0 e Q q => h H0 e _ fun H1 e1 => ⟨n, rfl, by omega, by omega, fun Dl hD =>
  lc_range (lo := 0) (n := n.toNat) (fun i H' => Ex H1 H' ∧ ∃ us, H' Dl = some (.lst us) ∧ Paired (Lc Dl H') us (((List.range i).filter f).map F)) ⟨Ex.new hD, [], upd_same, .nil⟩ (fun i H' hi p => by
    obtain ⟨p1, us, p2, p3⟩ := p
    have e0 : (0 : Int) + (i : Int) = (i : Int) := Int.zero_add _
    have ul : us.length ≤ i := by
      have := Paired.length p3
      rw [List.length_map] at this
      have := List.length_filter_le f (List.range i)
      rw [List.length_range] at this
      omega
    show wipe ((wipe σ vs).set j (some (.int ((0 : Int) + (i : Int))))) vs = wipe σ vs ∧ t ((wipe σ vs).set j (some (.int ((0 : Int) + (i : Int))))) H' fun b H3 => if b = true then te ((wipe σ vs).set j (some (.int ((0 : Int) + (i : Int))))) H3 fun y H4 => ∃ acc, H4 Dl = some (.lst acc) ∧ acc.length < sizeLine ∧ (Ex H1 (upd H4 Dl (.lst (acc ++ [y]))) ∧ ∃ us, (upd H4 Dl (.lst (acc ++ [y]))) Dl = some (.lst us) ∧ Paired (Lc Dl (upd H4 Dl (.lst (acc ++ [y])))) us (((List.range (i + 1)).filter f).map F)) else (Ex H1 H3 ∧ ∃ us, H3 Dl = some (.lst us) ∧ Paired (Lc Dl H3) us (((List.range (i + 1)).filter f).map F))
    rw [e0]
    refine ⟨hw _, ht i H1 (e.trans e1) (by omega) H' p1 _ fun H3 e3 => ?_⟩
    have nx : ((List.range (i + 1)).filter f).map F = ((List.range i).filter f).map F ++ (([i].filter f).map F) := by rw [List.range_succ, List.filter_append, List.map_append]
    rw [nx]
    cases hf : f i with
    | true =>
      rw [if_pos rfl]
      refine he i H1 (e.trans e1) (by omega) hf H3 (p1.trans e3) _ fun l H4 hl4 e4 h4 => ?_
      have lD : l ≠ Dl := fun z => by
        subst z
        rw [e3 l _ p2] at hl4
        cases hl4
      refine ⟨us, e4 Dl _ (e3 Dl _ p2), sz_lt (by omega), Ex.mut (p1.trans (e3.trans e4)) hD, _, upd_same, ?_⟩
      have : [i].filter f = [i] := by simp [hf]
      rw [this]
      exact Paired.snoc (paired_imp (fun _ _ z => (z.ex (e3.trans e4)).upd) p3) ⟨l, rfl, lD, by rw [upd_ne lD]; exact h4⟩
    | false =>
      rw [if_neg (by simp)]
      refine ⟨p1.trans e3, us, e3 Dl _ p2, ?_⟩
      have : [i].filter f = [] := by simp [hf]
      rw [this, List.map_nil, List.append_nil]
      exact paired_imp (fun _ _ z => z.ex e3) p3) (fun H' p => by
      obtain ⟨p1, us, p2, p3⟩ := p
      exact q Dl us H' (fresh_back e1 hD) (e1.trans p1) p2 (paired_imp (fun _ _ z => z.lb) p3))⟩
theorem el_catLL {a : Addr} {xs ys : List V} (h : Ev ta σ H (.ref a)) (ha : H a = some (.lst xs)) (h2 : EvL tb σ H ys) (hz : xs.length + ys.length ≤ 1000) : EvL (tOp rCat ta tb) σ H (xs ++ ys) := el_catL h ha h2 hz
end

/-- a list of small numbers, told -/
theorem shn_di {r : List Nat} (hl : r.length ≤ 100) (h : ∀ x ∈ r, x ≤ 1000) : ShN (di r) 200000 := by
  have := shn_list (n := 1921) (ds := (iz r).map PyData.int) fun d hd => by
    obtain ⟨i, hi, rfl⟩ := List.mem_map.mp hd
    obtain ⟨x, hx, rfl⟩ := List.mem_map.mp hi
    have := h x hx
    refine ⟨shn_int2 ?_, Nat.zero_le _⟩
    exact lt2_mono (show ((x : Int)).natAbs < 2 ^ 64 by omega) (by decide)
  refine ⟨this.shw, this.nod, ?_, this.dep⟩
  have l := this.len
  have : ((iz r).map PyData.int).length ≤ 100 := by simp [iz]; omega
  exact Nat.le_trans l (by omega)

/-! ### _law_small_right -/
def extC (n : Nat) (row : List Nat) : List (List Nat) := (List.range n).map fun one => row ++ [one]
def growC (n : Nat) (rows : List (List Nat)) : List (List Nat) := (rows.map (extC n)).flatten
def comsTo : Nat → List (List Nat)
  | 0 => [[]]
  | k + 1 => growC (k + 1) (comsTo k)
theorem coms_small : ∀ k : Nat, k < 6 → (comsTo k).length ≤ 120 ∧ ∀ r ∈ comsTo k, r.length ≤ 5 := by decide +kernel
theorem growC_next {m i : Nat} {rows : List (List Nat)} {r : List Nat} (h : rows[i]? = some r) : growC m (rows.take (i + 1)) = growC m (rows.take i) ++ extC m r := by
  unfold growC
  rw [List.take_add_one, h, List.map_append, List.flatten_append]
  simp
def cmB (c : List Nat) : Bool := decide (1 ≤ c.length) && decide (c.length ≤ 20) && (List.range c.length).all fun i => decide (c.getD i 0 ≤ i)
theorem cm_of {c : List Nat} (e : cmB c = true) : Cm c := by
  unfold cmB at e
  rw [Bool.and_eq_true, Bool.and_eq_true, decide_eq_true_iff, decide_eq_true_iff, List.all_eq_true] at e
  refine ⟨e.1.1, e.1.2, fun i x h => ?_⟩
  have hi := (List.getElem?_eq_some_iff.mp h).1
  have := of_decide_eq_true (e.2 i (List.mem_range.mpr hi))
  rw [getD_of h] at this
  exact this
def byS (r : List Nat) : List Nat := sby r r.length
/-- the coming list of a hall of few guests -/
def backTo (m : Nat) (h : List Nat) : List Nat := ((comsTo m).find? fun r => byS r == h).getD []
theorem small_all : ∀ m : Nat, m < 5 → 1 ≤ m → (comsTo m).length ≤ 24 ∧ (∀ r ∈ comsTo m, cmB r = true ∧ r.length = m ∧ backTo m (byS r) = r ∧ ∀ x ∈ byS r, x ≤ 1000) ∧ ((comsTo m).map byS).map (backTo m) = comsTo m := by decide +kernel
theorem small_texts : ∀ m : Nat, m < 5 → 1 ≤ m → ((comsTo m).map fun r => (di (byS r)).shown).Nodup := by decide +kernel
def sp_law_small : Sp := fun vs H Q _ => ∃ m : Nat, vs = [.int (m : Int)] ∧ 1 ≤ m ∧ m ≤ 4 ∧ RetV (.bl true) H Q
theorem sv_small {H : Hp} {m : Nat} (h1 : 1 ≤ m) (h2 : m ≤ 4) : SpV sp_law_small ([.int (m : Int)] ++ []) H (.bl true) := fun H1 _ Q q E => ⟨m, rfl, h1, h2, q⟩
section
variable {K : PySem.W.Frag} {σ : L2.St} {H : Hp} {ta tb : TE}
theorem ev_lenSetS {xs : List Str} (h : EvL ta σ H (xs.map V.str)) (nd : xs.Nodup) (hl : xs.length ≤ 4000) : Ev (tLenSetS K ta) σ H (.int (xs.length : Nat)) := fun H1 e Q q => h H1 e _ fun p H2 _ e2 hp => ⟨p, xs, rfl, sq_of hp, nd, hl, q H2 e2⟩
theorem el_co1 {c : List Nat} {E : XK} (h : EvL ta σ H (nv (sby c c.length))) (o : Cm c) : EvL (tCall sp_coming_of [] E (tCons ta tNil)) σ H (nv c) := fun H1 e Q q => h H1 e _ fun b H2 nb e2 hb => ⟨b, c, rfl, hb, o, fun r H3 nr e3 hr => q r H3 (fresh_back e2 nr) (e2.trans e3) hr⟩
theorem el_op1 {c : List Nat} {E : XK} (h : EvL ta σ H (nv (sby c c.length))) (o : Cm c) : EvL (tCall sp_openers_of [] E (tCons ta tNil)) σ H (nv (opens c)) := fun H1 e Q q => h H1 e _ fun b H2 nb e2 hb => ⟨b, c, rfl, hb, o, fun r H3 nr e3 hr => q r H3 (fresh_back e2 nr) (e2.trans e3) hr⟩
theorem el_ha1 {c : List Nat} {w : Nat} {E : XK} (h : EvL ta σ H (nv c)) (hw : Ev tb σ H (.int (w : Int))) (o : Cm c) (h1 : 1 ≤ w) (h2 : w ≤ c.length) : EvL (tCall sp_hall_of [] E (tCons ta (tCons tb tNil))) σ H (nv (sby c w)) := fun H1 e Q q => h H1 e _ fun b H2 nb e2 hb => hw H2 (e.trans e2) _ fun H3 e3 => ⟨b, c, w, rfl, e3 b _ hb, o, h1, h2, fun r H4 nr e4 hr => q r H4 (fresh_back (e2.trans e3) nr) (e2.trans (e3.trans e4)) hr⟩
end
section
variable {P : Program} {w : World} {K : PySem.W.Frag} {mg : Str → Option Value} {base : Heap}
theorem ok_law_small_right (T : Tx K mg) : FnOkG P w K mg base 7 T.f_law_small_right T.d_law_small_right ["many"] sp_law_small := by
  refine funG T.F_law_small_right sc_law_small_right (fun vs H Q E h => ?_) (fun cdv A outer s H vs Q E hg hr h => ?_)
  · obtain ⟨m, rfl, _⟩ := h
    rfl
  · obtain ⟨m, rfl, hm1, hm4, k⟩ := h
    have hm : m ≤ 5 := by omega
    refine ⟨_, (pss_cons (ps_set (i := 1) sc_law_small_right.nd rfl (Or.inl rfl) (pe_lst (pa_cons (pe_lst pa_nil) pa_nil)))
      (pss_cons (ps_for PassesOwn.never rfl (pi_range2 (by rfl) T.m_range (pa_cons pe_int (pa_cons (pe_op op_add (pv 0) pe_int) pa_nil))) (pg_name (i := 2) sc_law_small_right.nd rfl (Or.inl rfl)) (pss_cons (ps_set (i := 3) sc_law_small_right.nd rfl (Or.inl rfl) (pe_lst pa_nil))
      (pss_cons (ps_for PassesOwn.never rfl (pi_list (pv 1)) (pg_name (i := 4) sc_law_small_right.nd rfl (Or.inr rfl)) (pss_one (ps_expr (pe_bm PySem.F.plainAttrs_list PySem.F.slot_list_extend PySem.F.type_list_extend mt_extend (pv 3) (pa_cons (pe_lc (own := [("one", 5)]) (g := (gName 5)) (tt := tYes) rfl sc_law_small_right.nd (pi_range1 (by rfl) T.m_range (pa_cons (pv 2) pa_nil)) (blkOk_by (own := [("one", 5)]) (N := n_law_small_right) (sc := defScope s_law_small_right) (by decide +kernel)) (fun _ _ _ _ _ => (pg_name (i := 5) sc_law_small_right.nd rfl (Or.inl rfl))) (fun _ _ _ _ _ => pts_nil) (fun _ _ _ _ _ => (pe_op op_cat (pv 4) (pe_lst (pa_cons (pv 5) pa_nil))))) pa_nil)))))
      (pss_one (ps_set (i := 1) sc_law_small_right.nd rfl (Or.inl rfl) (pv 3))))))
      (pss_cons (ps_setLc (i := 6) (own := [("row", 4)]) (g := (gName 4)) (tt := tYes) rfl sc_law_small_right.nd rfl rfl (sw_true rfl rfl rfl (by decide +kernel)) (pi_list (pv 1)) (blkOk_by (own := [("row", 4)]) (N := n_law_small_right) (sc := defScope s_law_small_right) (by decide +kernel)) (fun _ _ _ _ _ => (pg_name (i := 4) sc_law_small_right.nd rfl (Or.inl rfl))) (fun _ _ _ _ _ => pts_nil) (fun _ _ _ _ _ => (pe_call (ok_seating_by T) (hr.mono (by decide)) (by rfl) T.g_seating_by T.F_seating_by.kp T.b_seating_by .nil pass0 (pa_cons (pv 4) pa_nil))))
      (pss_cons (ps_if (pt_cmpR (op_neD hr.units) (pe_lc (own := [("hall", 7)]) (g := (gName 7)) (tt := tYes) rfl sc_law_small_right.nd (pi_list (pv 6)) (blkOk_by (own := [("hall", 7)]) (N := n_law_small_right) (sc := defScope s_law_small_right) (by decide +kernel)) (fun _ _ _ _ _ => (pg_name (i := 7) sc_law_small_right.nd rfl (Or.inl rfl))) (fun _ _ _ _ _ => pts_nil) (fun _ _ _ _ _ => (pe_call (ok_coming_of T) (hr.mono (by decide)) (by rfl) T.g_coming_of T.F_coming_of.kp T.b_coming_of .nil pass0 (pa_cons (pv 7) pa_nil)))) (pv 1) (nomark _)) (pss_one (ps_ret pe_bl)) pss_nil)
      (pss_cons (ps_if (pt_cmpR (op_neD hr.units) (pe_lc (own := [("hall", 7)]) (g := (gName 7)) rfl sc_law_small_right.nd (pi_list (pv 6)) (blkOk_by (own := [("hall", 7)]) (N := n_law_small_right) (sc := defScope s_law_small_right) (by decide +kernel)) (fun _ _ _ _ _ => (pg_name (i := 7) sc_law_small_right.nd rfl (Or.inl rfl))) (fun _ _ _ _ _ => (pts_one (pt_cmpR (r := rNeD K) (op_neD hr.units) (pe_callB (id := "sorted") (r := rSorted K) cr_sorted (by rfl) T.m_sorted (by decide +kernel) (pa_cons (pv 7) pa_nil)) (pe_listRg rfl (by rfl) T.m_list (prg_1 (by rfl) T.m_range (pv 0))) (nomark _)))) (fun _ _ _ _ _ => (pv 7))) (pe_lst pa_nil) (nomark _)) (pss_one (ps_ret pe_bl)) pss_nil)
      (pss_one (ps_ret (pe_cmpR op_eq (pe_lenSetS rfl (by rfl) T.m_len (by rfl) T.m_set (pe_lc (own := [("hall", 7)]) (g := (gName 7)) (tt := tYes) rfl sc_law_small_right.nd (pi_list (pv 6)) (blkOk_by (own := [("hall", 7)]) (N := n_law_small_right) (sc := defScope s_law_small_right) (by decide +kernel)) (fun _ _ _ _ _ => (pg_name (i := 7) sc_law_small_right.nd rfl (Or.inl rfl))) (fun _ _ _ _ _ => pts_nil) (fun _ _ _ _ _ => (pe_callB (id := "repr") (r := rRepr K) (call_reprD hg hr.units) (by rfl) T.m_repr (by decide +kernel) (pa_cons (pv 7) pa_nil))))) (pe_callB call_lenR (by rfl) T.m_len (by decide +kernel) (pa_cons (pv 1) pa_nil)) (nomark _))))))))), ?_⟩
    refine q_asgLB (rs := [[]]) (elb_lst (lba_cons (r := []) (el_lst ea_nil (Nat.zero_le _)) lba_nil) (by decide)) fun f ws H1 nf e1 h1 w1 => ?_
    refine q_forR2 (lo := 1) (n := (m : Int) + 1) (by walk_at "ea") ⟨by decide, by decide, by omega, by omega⟩ (fun i σ' H' => ∃ f ws y2 y3 y4, σ' = [some (.int m), some (.ref f), y2, y3, y4, none, none, none] ∧ H f = none ∧ Ex H H' ∧ H' f = some (.lst ws) ∧ Paired (Lb H') ws (comsTo i)) (fun H2 e2 => ⟨f, ws, none, none, none, rfl, nf, e1.trans e2, e2 f _ h1, paired_imp (fun _ _ x => Lb.ex e2 x) w1⟩) ?_ ?_
    · rintro i σ' H' hi ⟨f, ws, y2, y3, y4, rfl, nf, e, hf, hw⟩
      obtain ⟨sm1, sm2⟩ := coms_small i (by omega)
      have wl := Paired.length hw
      refine q_asgL (xs := []) (el_lst ea_nil (Nat.zero_le _)) fun g H2 ng e2 hg => ?_
      refine q_forLn (xs := ws) (K := K) (ev_var rfl) (sq_of (e2 f _ hf)) (fun n σ' H3 => ∃ y4 us, σ' = [some (.int m), some (.ref f), some (.int (1 + (i : Int))), some (.ref g), y4, none, none, none] ∧ Ex H' H3 ∧ H3 g = some (.lst us) ∧ Paired (Lc g H3) us (growC (i + 1) ((comsTo i).take n))) (fun H3 e3 => ⟨y4, [], rfl, e2.trans e3, e3 g _ hg, .nil⟩) (fun n σ' H3 _ ⟨_, _, _, e3, _⟩ => sq_of (e3 f _ hf)) ?_ ?_
      · rintro n v σ' H3 hv ⟨y4, us, rfl, e3, hg3, hu⟩
        obtain ⟨r, hr, b, rfl, hb⟩ := paired_get hw hv
        have rl := sm2 r (List.mem_of_getElem? hr)
        have ul := Paired.length hu
        have gl : (growC (i + 1) ((comsTo i).take n)).length ≤ 600 := by
          have : ∀ l : List (List Nat), (growC (i + 1) l).length ≤ m * l.length := fun l => by
            induction l with
            | nil => simp [growC]
            | cons a l ih =>
              have : (extC (i + 1) a).length ≤ m := by
                unfold extC
                rw [List.length_map, List.length_range]
                omega
              unfold growC at ih ⊢
              rw [List.map_cons, List.flatten_cons, List.length_append, List.length_cons, Nat.mul_succ]
              omega
          have h1 := this ((comsTo i).take n)
          have h2 : ((comsTo i).take n).length ≤ 120 := by
            rw [List.length_take]
            omega
          have := Nat.mul_le_mul (show m ≤ 5 from hm) h2
          omega
        refine s_dropBM hg3 (ev_var rfl) fun H4 e4 => ?_
        have hb4 := e4 b _ (e3 b _ hb)
        have hg4 := e4 g _ hg3
        have comp := elb_R1f (te := tOp rCat (tVar 4) (tLst (tCons (tVar 5) tNil))) (tn := tCons (tVar 2) tNil) (t := tYes) (j := 5) (vs := [5]) (H := H4) (σ := [some (V.int m), some (.ref f), some (.int (1 + (i : Int))), some (.ref g), some (.ref b), none, none, none]) (n := 1 + (i : Int)) (fun _ => true) (fun one => r ++ [one]) (ea_cons (ev_var rfl) ea_nil) ⟨by omega, by omega⟩ (fun _ => rfl) (fun _ _ _ _ => et_yes) (fun one H5 e5 ho _ => by
          rw [nv_app]
          exact el_catL (ev_var rfl) (e5 b _ hb4) (el_lst (ea_cons (ev_var rfl) ea_nil) (Nat.le_of_ble_eq_true rfl)) (by rw [nv_len]; show r.length + 1 ≤ 1000; omega))
        rw [show (1 + (i : Int)).toNat = i + 1 by omega, List.filter_eq_self.mpr (fun _ _ => rfl)] at comp
        refine comp H4 (Ex.refl _) _ fun l vs H5 hl e5 h5 hw5 => ?_
        have hw5 : Paired (Lb H5) vs (extC (i + 1) r) := hw5
        have vl := Paired.length hw5
        have el : (extC (i + 1) r).length ≤ 5 := by
          unfold extC
          rw [List.length_map, List.length_range]
          omega
        have hg5 := e5 g _ hg4
        have hu5 : Paired (Lc g H5) us (growC (i + 1) ((comsTo i).take n)) := paired_imp (fun _ _ z => z.ex (e4.trans e5)) hu
        have vc : Paired (Lc g H5) vs (extC (i + 1) r) := by
          have ne : ∀ x ∈ extC (i + 1) r, x ≠ [] := fun x hx => by
            unfold extC at hx
            obtain ⟨o, _, rfl⟩ := List.mem_map.mp hx
            simp
          have : ∀ {l : List V} {q : List (List Nat)}, Paired (Lb H5) l q → (∀ x ∈ q, x ≠ []) → Paired (Lc g H5) l q := fun {l q} h => by
            induction h with
            | nil => intro _; exact .nil
            | cons a t ih => intro hx; exact .cons (lb_lc hg5 hu5 a (hx _ List.mem_cons_self)) (ih fun x z => hx x (List.mem_cons_of_mem _ z))
          exact this hw5 ne
        refine ⟨g, l, us, vs, rfl, rfl, hg5, h5, sz_of (by omega), ?_⟩
        refine ⟨_, us ++ vs, rfl, Ex.mut (e3.trans (e4.trans e5)) ng, upd_same, ?_⟩
        rw [growC_next hr]
        exact paired_imp (fun _ _ z => z.upd) (paired_app hu5 vc)
      · rintro σ' H3 ⟨y4, us, rfl, e3, hg3, hu⟩
        rw [wl, List.take_of_length_le (Nat.le_refl _)] at hu
        refine s_asg (ev_var rfl) fun H4 e4 => ⟨g, us, _, _, _, rfl, fresh_back e ng, e.trans (e3.trans e4), e4 g _ hg3, paired_imp (fun _ _ z => Lb.ex e4 z.lb) hu⟩
    · rintro σ' H' ⟨f, ws, y2, y3, y4, rfl, nf, e, hf, hw⟩
      rw [show ((m : Int) + 1 - 1).toNat = m by omega] at hw
      obtain ⟨a1, a2, a3⟩ := small_all m (by omega) hm1
      have nd := small_texts m (by omega) hm1
      have wl := Paired.length hw
      refine q_asgLB (rs := (comsTo m).map byS) (elb_map (K := K) byS (ev_var rfl) hf hw (by omega) (fun _ => rfl) fun b r H1 e1 hr hb => ?_) fun g us H1 ng e1 hg hu => ?_
      · exact el_call (ea_cons (ev_var rfl) ea_nil) (sl_seating_by hb (cm_of (a2 r hr).1))
      have ul := Paired.length hu
      rw [List.length_map] at ul
      have hf1 := e1 f _ hf
      have hw1 := paired_imp (fun _ _ x => Lb.ex e1 x) hw
      have shR := shaped_dis (comsTo m)
      refine q_when (b := false) (et_is (et_test (ev_neD (d := .list ((comsTo m).map di)) (e := .list ((comsTo m).map di)) ?_ (ed_of (ev_var rfl) (.lst (sq_of hf1) (dp_LB hw1))) shR shR)) (by rw [eqv_same shR]; rfl)) (fun hb => Bool.noConfusion hb) fun _ H2 e2 => ?_
      · have g := ed_LB (K := K) (elb_map (K := K) (te := tCall sp_coming_of [] E0 (tCons (tVar 7) tNil)) (j := 7) (vs := [7]) (backTo m) (ev_var (i := 6) (σ := [some (.int m), some (.ref f), y2, y3, y4, none, some (.ref g), none]) rfl) hg hu (by omega) (fun _ => rfl) fun b r H2 e2 hr hb => ?_)
        · rw [a3] at g
          exact g
        · obtain ⟨c, hc, rfl⟩ := List.mem_map.mp hr
          rw [(a2 c hc).2.2.1]
          exact el_call (ea_cons (ev_var rfl) ea_nil) (sl_coming_of hb (cm_of (a2 c hc).1))
      have hg2 := e2 g _ hg
      have hu2 := paired_imp (fun _ _ x => Lb.ex e2 x) hu
      refine q_when (b := false) (et_is (et_test (ev_neD (d := .list []) (e := .list []) ?_ (ed_lst eda_nil (by decide)) shaped_nil shaped_nil)) (by rw [eqv_same shaped_nil]; rfl)) (fun hb => Bool.noConfusion hb) fun _ H3 e3 => ?_
      · have g := el_lcL (K := K) (te := tVar 7) (j := 7) (vs := [7]) (σ := [some (.int m), some (.ref f), y2, y3, y4, none, some (.ref g), none]) (H := H2) (t := tTest (tOp (rNeD K) (tCB (rSorted K) (tCons (tVar 7) tNil)) (tLstRg (tRg1 (tVar 0))))) (fun _ => false) (fun _ => V.non) (ev_var (i := 6) rfl) (sq_of hg2) (by omega) (fun _ => rfl) (fun i x H3 e3 hx => ?_) (fun i x H3 e3 hx z => Bool.noConfusion z)
        · rw [given_none (fun _ _ => rfl)] at g
          exact ed_ofL g .nil
        · obtain ⟨r, hr, b, rfl, hb⟩ := paired_get hu2 hx
          obtain ⟨c, hc, rfl⟩ := List.mem_map.mp (List.mem_of_getElem? hr)
          have oc := cm_of (a2 c hc).1
          have oo := oc.ord
          have lc := (a2 c hc).2.1
          have hl : (byS c).length = m := by
            unfold byS
            rw [sby_len, lc]
          have hb3 := e3 b _ hb
          have op : (byS c).Perm (List.range m) := by
            have h1 := oo.1
            have h2 : (sby c c.length).length = m := by rw [sby_len, lc]
            rw [h2] at h1
            exact h1
          have sr : EvD K (tCB (rSorted K) (tCons (tVar 7) tNil)) [some (.int m), some (.ref f), y2, y3, y4, none, some (.ref g), some (.ref b)] H3 (.list ((iz (List.range m)).map PyData.int)) :=
            ed_sorted (ns := iz (byS c)) (ev_var rfl) (sq_of hb3) (by simp [iz]; omega) (op.symm.map (fun x : Nat => (x : Int))) (by
              unfold iz
              rw [List.pairwise_map]
              exact List.Pairwise.imp (fun {a b} h => by omega) List.pairwise_lt_range)
          have rg : EvD K (tLstRg (tRg1 (tVar 0))) [some (.int m), some (.ref f), y2, y3, y4, none, some (.ref g), some (.ref b)] H3 (.list ((iz (List.range m)).map PyData.int)) :=
            ed_ofL (xs := nv (List.range m)) (by
              have g := el_rg1 (σ := [some (.int m), some (.ref f), y2, y3, y4, none, some (.ref g), some (.ref b)]) (H := H3) (ev_var (i := 0) (v := .int (m : Int)) rfl) (RgOk.of_le (by decide) (by omega) (by decide) (by omega))
              rw [range_iz] at g
              exact g) (dpa_ints _)
          exact et_is (et_test (ev_neD sr rg (shaped_ints _) (shaped_ints _))) (by rw [eqv_same (shaped_ints _)]; rfl)
      have hg3 := e3 g _ hg2
      have hu3 := paired_imp (fun _ _ x => Lb.ex e3 x) hu2
      have hf3 := e3 f _ (e2 f _ hf1)
      have texts := el_mapI (K := K) (te := tCB (rRepr K) (tCons (tVar 7) tNil)) (j := 7) (vs := [7]) (σ := [some (.int m), some (.ref f), y2, y3, y4, none, some (.ref g), none]) (H := H3) (fun i => V.str ((((comsTo m).map fun r => (di (byS r)).shown)).getD i Str.empty)) (ev_var (i := 6) rfl) (sq_of hg3) (by omega) (fun _ => rfl) fun i x H4 e4 hx => ?_
      · have et : (List.range us.length).map (fun i => V.str ((((comsTo m).map fun r => (di (byS r)).shown)).getD i Str.empty)) = ((comsTo m).map fun r => (di (byS r)).shown).map V.str := by
          conv => rhs; rw [range_get ((comsTo m).map fun r => (di (byS r)).shown) Str.empty]
          rw [List.map_map, List.length_map, ul]
          rfl
        rw [et] at texts
        have ls := ev_lenSetS (K := K) texts nd (by rw [List.length_map]; omega)
        rw [List.length_map] at ls
        refine s_ret (v := .bl true) (ev_is (ev_op ls (ev_len (K := K) (ev_var rfl) (sq_of hf3)) (rv_eq rfl)) (by rw [wl]; simp)) fun H4 e4 => k H4 (e.trans (e1.trans (e2.trans (e3.trans e4))))
      · obtain ⟨r, hr, b, rfl, hb⟩ := paired_get hu3 hx
        rw [List.getElem?_map] at hr
        obtain ⟨c, hc, rfl⟩ := Option.map_eq_some_iff.mp hr
        have eg : ((comsTo m).map fun r => (di (byS r)).shown).getD i Str.empty = (di (byS c)).shown := by
          rw [List.getD_eq_getElem?_getD, List.getElem?_map, hc]
          rfl
        rw [eg]
        have ac := a2 c (List.mem_of_getElem? hc)
        exact ev_reprN (d := di (byS c)) (ed_of (ev_var rfl) (dp_L (e4 b _ hb))) rfl (shn_di (by unfold byS; rw [sby_len, ac.2.1]; omega) ac.2.2.2) (by decide)
end

local macro_rules | `(tactic| walk_at "call") => `(tactic| (with_reducible exact sv_whole))
local macro_rules | `(tactic| walk_at "call") => `(tactic| ((with_reducible refine' sv_order ?c1 ?c2); (case c1 => assumption); (case c2 => assumption)))
local macro_rules | `(tactic| walk_at "call") => `(tactic| ((with_reducible refine' sv_ord ?c1 ?c2); (case c1 => assumption); (case c2 => assumption)))

/-! ### the law -/
section
variable {K : PySem.W.Frag} {σ : L2.St} {H : Hp} {ta tb te : TE} {p : Addr} {k : Nat}
theorem ep_right {tm : TE} {E : XK} (ha : Ev ta σ H (.ref p)) (hm : EvP p k tm σ H (fun v _ => ∃ m : Nat, v = .int m ∧ 1 ≤ m ∧ m ≤ 20)) : EvP p (k + 201) (tCall sp_law_right [] E (tCons ta (tCons tm tNil))) σ H (fun v _ => v = .bl true) := fun n H1 e hp hn Q q =>
  ha H1 e _ fun H2 e2 => hm n H2 (e.trans e2) (hp.ex e2) (by omega) _ fun v H3 hv p3 e3 => by
    obtain ⟨m, rfl, m1, m2⟩ := hv
    exact ⟨p, n + k, m, rfl, p3, by omega, m1, m2, fun H4 p4 e4 => q _ H4 rfl (p4.mono (by omega)) (hm_trans (hm_trans (hm_of e2) e3) e4)⟩
theorem el_rgF {n : Nat} (h : Ev ta σ H (.int (n : Int))) (hn : n ≤ 40) : EvL (tLstRg (tRg1 ta)) σ H (nv (List.range n)) := by
  have g := el_rg1 h (RgOk.of_le (by decide) (by omega) (by decide) (by omega))
  rw [range_iz] at g
  exact g
end
theorem max_min5 {m : Int} (h0 : 0 ≤ m) : 0 ≤ (if (if m < 5 then m else 5) > 1 then (if m < 5 then m else 5) else 1) ∧ (if (if m < 5 then m else 5) > 1 then (if m < 5 then m else 5) else 1) ≤ (5 : Int) := by
  split <;> split <;> omega
def c4 : List Nat := [0, 0, 2, 1]
def z20 : List Nat := List.replicate 20 0
def d20 : List Nat := 0 :: List.range 19
def a20 : List Nat := List.range 20
def told1 : List (List Nat) := [[1, 3, 2, 0], [0, 0, 2, 1], [1, 0, 2], [0, 2]]
def told2 : List (List Nat) := [19 :: List.range 19, (List.range 19).map (· + 1) ++ [0], a20, [0]]
def due1 : List (List Nat) := [[1, 3, 2, 0], [0, 0, 2, 1], [1, 0, 2], [0, 2], 19 :: List.range 19, (List.range 19).map (· + 1) ++ [0]]
theorem cm_c4 : Cm c4 := cm_of (by decide +kernel)
theorem cm_z20 : Cm z20 := cm_of (by decide +kernel)
theorem cm_d20 : Cm d20 := cm_of (by decide +kernel)
theorem cm_a20 : Cm a20 := cm_of (by decide +kernel)
theorem cm_1 : Cm [0] := cm_of (by decide +kernel)
theorem by_c4 : sby c4 c4.length = [1, 3, 2, 0] := by decide +kernel
theorem ha_c4 : sby c4 3 = [1, 0, 2] := by decide +kernel
theorem op_c4 : opens c4 = [0, 2] := by decide +kernel
theorem by_z20 : sby z20 z20.length = 19 :: List.range 19 := by decide +kernel
theorem by_d20 : sby d20 d20.length = (List.range 19).map (· + 1) ++ [0] := by decide +kernel
theorem by_a20 : sby a20 a20.length = a20 := by decide +kernel
theorem op_a20 : opens a20 = a20 := by decide +kernel
theorem by_1 : sby [0] [0].length = [0] := by decide +kernel
def sp_law (K : PySem.W.Frag) : Sp := fun vs H Q _ => ∃ (a : Addr) (ns : List Int), vs = [.ref a] ∧ SqL K H a (ns.map V.int) ∧ ns.length ≤ 63 ∧ ∀ H', Q (.bl true) H'
section
variable {P : Program} {w : World} {K : PySem.W.Frag} {mg : Str → Option Value} {base : Heap}
theorem ok_law (T : Tx K mg) : FnOkG P w K mg base 8 T.f_law T.d_law ["script"] (sp_law K) := by
  refine funG T.F_law sc_law (fun vs H Q E h => ?_) (fun cdv A outer s H vs Q E hg hr h => ?_)
  · obtain ⟨a, ns, rfl, _⟩ := h
    rfl
  · obtain ⟨a, ns, rfl, hs, hl, k⟩ := h
    refine ⟨_, (pss_cons (ps_for PassesOwn.never rfl (pi_range1 (by rfl) T.m_range (pa_cons (pe_callB (call_maxR rfl) (by rfl) T.m_max (by decide +kernel) (pa_cons pe_int (pa_cons (pe_callB (call_minR rfl) (by rfl) T.m_min (by decide +kernel) (pa_cons pe_int (pa_cons (pe_callB call_lenR (by rfl) T.m_len (by decide +kernel) (pa_cons (pv 0) pa_nil)) pa_nil))) pa_nil))) pa_nil)) (pg_name (i := 1) sc_law.nd rfl (Or.inl rfl)) (pss_cons (ps_set (i := 2) sc_law.nd rfl (Or.inl rfl) (pe_call (ok_law_pouch T) (hr.mono (by decide)) (by rfl) T.g_law_pouch T.F_law_pouch.kp T.b_law_pouch .nil pass0 (pa_cons (pv 0) (pa_cons (pv 1) pa_nil))))
      (pss_one (ps_if (PW.pt (pw_or (pt_not (pt_val (pe_callG (ok_law_right T) hg (hr.mono (by decide)) (by rfl) T.g_law_right T.F_law_right.kp T.b_law_right (pa_cons (pv 2) (pa_cons (pe_op op_add pe_int (pe_call (ok_law_dip T) (hr.mono (by decide)) (by rfl) T.g_law_dip T.F_law_dip.kp T.b_law_dip .nil pass0 (pa_cons (pv 2) (pa_cons pe_int pa_nil)))) pa_nil))))) (pw_or1 (pt_not (pt_val (pe_callG (ok_law_right T) hg (hr.mono (by decide)) (by rfl) T.g_law_right T.F_law_right.kp T.b_law_right (pa_cons (pv 2) (pa_cons (pe_ix ix_list (pe_lst (pa_cons pe_int (pa_cons pe_int pa_nil))) (pe_call (ok_law_dip T) (hr.mono (by decide)) (by rfl) T.g_law_dip T.F_law_dip.kp T.b_law_dip .nil pass0 (pa_cons (pv 2) (pa_cons pe_int pa_nil))) (fun _ _ => rfl)) pa_nil)))))))) (pss_one (ps_ret pe_bl)) pss_nil))))
      (pss_cons (ps_if (pt_cmpR (op_neD hr.units) (pe_lc (own := [("many", 3)]) (g := (gName 3)) rfl sc_law.nd (pi_range2 (by rfl) T.m_range (pa_cons pe_int (pa_cons pe_int pa_nil))) (blkOk_by (own := [("many", 3)]) (N := n_law) (sc := defScope s_law) (by decide +kernel)) (fun _ _ _ _ _ => (pg_name (i := 3) sc_law.nd rfl (Or.inl rfl))) (fun _ _ _ _ _ => (pts_one (pt_not (pt_val (pe_callG (ok_law_small_right T) hg (hr.mono (by decide)) (by rfl) T.g_law_small_right T.F_law_small_right.kp T.b_law_small_right (pa_cons (pv 3) pa_nil)))))) (fun _ _ _ _ _ => (pv 3))) (pe_lst pa_nil) (nomark _)) (pss_one (ps_ret pe_bl)) pss_nil)
      (pss_cons (ps_set (i := 4) sc_law.nd rfl (Or.inl rfl) (pe_lst (pa_cons (pe_call (ok_seating_by T) (hr.mono (by decide)) (by rfl) T.g_seating_by T.F_seating_by.kp T.b_seating_by .nil pass0 (pa_cons (pe_lst (pa_cons pe_int (pa_cons pe_int (pa_cons pe_int (pa_cons pe_int pa_nil))))) pa_nil)) (pa_cons (pe_call (ok_coming_of T) (hr.mono (by decide)) (by rfl) T.g_coming_of T.F_coming_of.kp T.b_coming_of .nil pass0 (pa_cons (pe_lst (pa_cons pe_int (pa_cons pe_int (pa_cons pe_int (pa_cons pe_int pa_nil))))) pa_nil)) (pa_cons (pe_call (ok_hall_of T) (hr.mono (by decide)) (by rfl) T.g_hall_of T.F_hall_of.kp T.b_hall_of .nil pass0 (pa_cons (pe_lst (pa_cons pe_int (pa_cons pe_int (pa_cons pe_int (pa_cons pe_int pa_nil))))) (pa_cons pe_int pa_nil))) (pa_cons (pe_call (ok_openers_of T) (hr.mono (by decide)) (by rfl) T.g_openers_of T.F_openers_of.kp T.b_openers_of .nil pass0 (pa_cons (pe_lst (pa_cons pe_int (pa_cons pe_int (pa_cons pe_int (pa_cons pe_int pa_nil))))) pa_nil)) pa_nil))))))
      (pss_cons (ps_set (i := 4) sc_law.nd rfl (Or.inl rfl) (pe_op op_cat (pv 4) (pe_lst (pa_cons (pe_call (ok_seating_by T) (hr.mono (by decide)) (by rfl) T.g_seating_by T.F_seating_by.kp T.b_seating_by .nil pass0 (pa_cons (pe_op op_rep (pe_lst (pa_cons pe_int pa_nil)) pe_int) pa_nil)) (pa_cons (pe_call (ok_seating_by T) (hr.mono (by decide)) (by rfl) T.g_seating_by T.F_seating_by.kp T.b_seating_by .nil pass0 (pa_cons (pe_op op_cat (pe_lst (pa_cons pe_int pa_nil)) (pe_listRg rfl (by rfl) T.m_list (prg_1 (by rfl) T.m_range pe_int))) pa_nil)) (pa_cons (pe_call (ok_openers_of T) (hr.mono (by decide)) (by rfl) T.g_openers_of T.F_openers_of.kp T.b_openers_of .nil pass0 (pa_cons (pe_listRg rfl (by rfl) T.m_list (prg_1 (by rfl) T.m_range pe_int)) pa_nil)) (pa_cons (pe_call (ok_coming_of T) (hr.mono (by decide)) (by rfl) T.g_coming_of T.F_coming_of.kp T.b_coming_of .nil pass0 (pa_cons (pe_lst (pa_cons pe_int pa_nil)) pa_nil)) pa_nil)))))))
      (pss_cons (ps_set (i := 5) sc_law.nd rfl (Or.inl rfl) (pe_lst (pa_cons (pe_lst (pa_cons pe_int (pa_cons pe_int (pa_cons pe_int (pa_cons pe_int pa_nil))))) (pa_cons (pe_lst (pa_cons pe_int (pa_cons pe_int (pa_cons pe_int (pa_cons pe_int pa_nil))))) (pa_cons (pe_lst (pa_cons pe_int (pa_cons pe_int (pa_cons pe_int pa_nil)))) (pa_cons (pe_lst (pa_cons pe_int (pa_cons pe_int pa_nil))) (pa_cons (pe_op op_cat (pe_lst (pa_cons pe_int pa_nil)) (pe_listRg rfl (by rfl) T.m_list (prg_1 (by rfl) T.m_range pe_int))) (pa_cons (pe_op op_cat (pe_listRg rfl (by rfl) T.m_list (prg_2 (by rfl) T.m_range pe_int pe_int)) (pe_lst (pa_cons pe_int pa_nil))) pa_nil))))))))
      (pss_one (ps_ret (pe_cmpR (op_eqD hr.units) (pv 4) (pe_op op_cat (pv 5) (pe_lst (pa_cons (pe_listRg rfl (by rfl) T.m_list (prg_1 (by rfl) T.m_range pe_int)) (pa_cons (pe_lst (pa_cons pe_int pa_nil)) pa_nil)))) (nomark _))))))))), ?_⟩
    have mm := max_min5 (m := ((ns.map V.int).length : Int)) (by omega)
    refine q_forR1 (by walk_at "ea") ⟨mm.1, Int.le_trans mm.2 (by decide)⟩ (fun i σ' H' => ∃ y1 y2, σ' = [some (.ref a), y1, y2, none, none, none] ∧ Ex H H') (fun H1 e1 => ⟨none, none, rfl, e1⟩) ?_ ?_
    · rintro i σ' H' hi ⟨y1, y2, rfl, e⟩
      have hi3 : (i : Int) < 5 := Int.lt_of_lt_of_le hi mm.2
      refine pq_pouch (by walk_at "ea") (ex_l e hs) (by omega) fun p H1 hp e1 hpo => ?_
      refine ps_no (p := p) (k := (0 + 1 + 201) + ((0 + (0 + 0)) + 1 + 201)) (H0 := H') (tp_or (b := false) hp ?_ ?_) e1 hpo (by decide) fun H3 p3 e3 => ?_
      · refine tp_is (b := !true) (tp_not (tp_B ?_)) rfl
        refine ep_right (ev_var rfl) (ep_is (ep_add hp ev_c (ep_dipI (w := 20) hp (ev_var rfl) ev_c (by decide) (by decide))) fun v H4 ⟨r', e', r0', r1'⟩ => ⟨(1 + r').toNat, by rw [e']; exact congrArg V.int (by omega), by omega, by omega⟩)
      · refine tp_is (b := !true) (tp_not (tp_B ?_)) rfl
        refine ep_right (ev_var rfl) (ep_ix (ix := fun v => ∃ r, v = .int r ∧ 0 ≤ r ∧ r < 2) hp (ep_lst (epa_pure hp ev_c (epa_pure hp ev_c epa_nil)) ?_) (ep_dipI (w := 2) hp (ev_var rfl) ev_c (by decide) (by decide)) ?_)
        · rintro vs ⟨_, _, rfl, _, _, _, rfl, _, rfl⟩
          exact Nat.le_of_ble_eq_true rfl
        · rintro vs v ⟨_, _, rfl, rfl, _, _, rfl, rfl, rfl⟩ ⟨r, rfl, r0, r1⟩
          have : r = 0 ∨ r = 1 := by omega
          rcases this with rfl | rfl
          · exact ⟨0, .int 20, rfl, rfl, 20, rfl, by decide, by decide⟩
          · exact ⟨1, .int 1, rfl, rfl, 1, rfl, by decide, by decide⟩
      · exact ⟨_, _, rfl, e.trans (hm_next hp e1 e3)⟩
    · rintro σ' H' ⟨y1, y2, rfl, e⟩
      refine q_when (b := false) (et_is (et_test (ev_neD (d := .list []) (e := .list []) ?_ (ed_lst eda_nil (by decide)) shaped_nil shaped_nil)) (by rw [eqv_same shaped_nil]; rfl)) (fun hb => Bool.noConfusion hb) fun _ H1 e1 => ?_
      · have g := el_lcR2 (te := tVar 3) (ta := tCons (tC (.int 1)) (tCons (tC (.int 5)) tNil)) (j := 3) (vs := [3]) (σ := [some (.ref a), y1, y2, none, none, none]) (H := H') (lo := 1) (n := 5) (t := tNot (tB (tCall sp_law_small [] E0 (tCons (tVar 3) tNil)))) (fun _ => false) (fun _ => V.non) (ea_cons ev_c (ea_cons ev_c ea_nil)) (by decide) (fun _ => rfl) (fun i H1 e1 hi => ?_) (fun i H1 e1 hi z => Bool.noConfusion z)
        · rw [given_none (fun _ _ => rfl)] at g
          exact ed_ofL g .nil
        · refine et_is (et_not (et_B (b := true) (ev_call (ea_cons (ev_is (ev_var rfl) (w := V.int ((i + 1 : Nat) : Int)) (by congr 1; omega)) ea_nil) (sv_small (m := i + 1) (by omega) (by omega))))) rfl
      have elC : ∀ (σ : L2.St) (H1 : Hp), EvL (tLst (tCons (tC (.int 0)) (tCons (tC (.int 0)) (tCons (tC (.int 2)) (tCons (tC (.int 1)) tNil))))) σ H1 (nv c4) := fun σ H1 => el_i4 (a := 0) (b := 0) (c := 2) (d := 1)
      have elH : ∀ (σ : L2.St) (H1 : Hp), EvL (tLst (tCons (tC (.int 1)) (tCons (tC (.int 3)) (tCons (tC (.int 2)) (tCons (tC (.int 0)) tNil))))) σ H1 (nv (sby c4 c4.length)) := fun σ H1 => by
        rw [by_c4]
        exact el_i4 (a := 1) (b := 3) (c := 2) (d := 0)
      refine q_asgLB (rs := told1) (elb_lst (lba_cons (by
        have := el_by1 (E := E0) (elC [some (.ref a), y1, y2, none, none, none] H1) cm_c4
        rw [by_c4] at this
        exact this) (lba_cons (el_co1 (elH _ _) cm_c4) (lba_cons (by
        have := el_ha1 (E := E0) (elC [some (.ref a), y1, y2, none, none, none] H1) (ev_c (v := .int ((3 : Nat) : Int))) cm_c4 (by decide) (by decide)
        rw [ha_c4] at this
        exact this) (lba_cons (by
        have := el_op1 (E := E0) (elH [some (.ref a), y1, y2, none, none, none] H1) cm_c4
        rw [op_c4] at this
        exact this) lba_nil)))) (by decide)) fun t1 ws1 H2 nt1 e2 ht1 hw1 => ?_
      have r19 : ∀ (σ : L2.St) (H1 : Hp), EvL (tLstRg (tRg1 (tC (.int 19)))) σ H1 (nv (List.range 19)) := fun σ H1 => el_rgF (n := 19) ev_c (by decide)
      have r20 : ∀ (σ : L2.St) (H1 : Hp), EvL (tLstRg (tRg1 (tC (.int 20)))) σ H1 (nv a20) := fun σ H1 => el_rgF (n := 20) ev_c (by decide)
      refine q_asgLB (rs := told1 ++ told2) (elb_cat (ev_var rfl) ht1 hw1 (elb_lst (lba_cons (by
        have h0 := el_rep (σ := [some (.ref a), y1, y2, none, some (.ref t1), none]) (H := H2) (xs := [.int 0]) (k := 20) (el_lst (ea_cons ev_c ea_nil) (Nat.le_of_ble_eq_true rfl)) ev_c (by decide) (by decide) (by decide)
        have h1 : (List.replicate (20 : Int).toNat [V.int 0]).flatten = nv z20 := rfl
        rw [h1] at h0
        have := el_by1 (E := E0) h0 cm_z20
        rw [by_z20] at this
        exact this) (lba_cons (by
        have h0 := el_cat (σ := [some (.ref a), y1, y2, none, some (.ref t1), none]) (H := H2) (el_i1 (a := 0)) (r19 _ _) (by rw [nv_len, nv_len]; decide)
        have h1 : nv [0] ++ nv (List.range 19) = nv d20 := rfl
        rw [h1] at h0
        have := el_by1 (E := E0) h0 cm_d20
        rw [by_d20] at this
        exact this) (lba_cons (by
        have h0 := r20 [some (.ref a), y1, y2, none, some (.ref t1), none] H2
        rw [← by_a20] at h0
        have := el_op1 (E := E0) h0 cm_a20
        rw [op_a20] at this
        exact this) (lba_cons (by
        have h0 := el_i1 (a := 0) (σ := [some (.ref a), y1, y2, none, some (.ref t1), none]) (H := H2)
        rw [← by_1] at h0
        exact el_co1 (E := E0) (c := [0]) h0 cm_1) lba_nil)))) (by decide)) (by decide)) fun t2 ws2 H3 nt2 e3 ht2 hw2 => ?_
      refine q_asgLB (rs := due1) (elb_lst (lba_cons (el_i4 (a := 1) (b := 3) (c := 2) (d := 0)) (lba_cons (el_i4 (a := 0) (b := 0) (c := 2) (d := 1)) (lba_cons (r := [1, 0, 2]) (el_lst (ea_cons ev_c (ea_cons ev_c (ea_cons ev_c ea_nil))) (Nat.le_of_ble_eq_true rfl)) (lba_cons (r := [0, 2]) (el_lst (ea_cons ev_c (ea_cons ev_c ea_nil)) (Nat.le_of_ble_eq_true rfl)) (lba_cons (r := 19 :: List.range 19) (by
        have h0 := el_cat (σ := [some (.ref a), y1, y2, none, some (.ref t2), none]) (H := H3) (el_i1 (a := 19)) (r19 _ _) (by rw [nv_len, nv_len]; decide)
        have h1 : nv [19] ++ nv (List.range 19) = nv (19 :: List.range 19) := rfl
        rw [h1] at h0
        exact h0) (lba_cons (r := (List.range 19).map (· + 1) ++ [0]) (by
        have h0 := el_cat (σ := [some (.ref a), y1, y2, none, some (.ref t2), none]) (H := H3) (el_rg2 (a := 1) (b := 20) ev_c ev_c (RgOk.of_le (by decide) (by decide) (by decide) (by decide))) (el_i1 (a := 0)) (Nat.le_of_ble_eq_true rfl)
        have h1 : rgV 1 20 ++ nv [0] = nv ((List.range 19).map (· + 1) ++ [0]) := rfl
        rw [h1] at h0
        exact h0) lba_nil)))))) (by decide)) fun du ws3 H4 ndu e4 hdu hw3 => ?_
      have shT := shaped_dis (told1 ++ told2)
      have hw24 := paired_imp (fun _ _ x => Lb.ex e4 x) hw2
      refine s_ret (v := .bl true) (ev_is (ev_eqD (d := .list ((told1 ++ told2).map di)) (e := .list ((told1 ++ told2).map di)) (ed_of (ev_var rfl) (.lst (sq_of (e4 t2 _ ht2)) (dp_LB hw24))) (ed_LB (rs := told1 ++ told2) (elb_cat (rs := due1) (ss := [a20, [0]]) (ev_var rfl) hdu hw3 (elb_lst (lba_cons (r20 _ _) (lba_cons (el_i1 (a := 0)) lba_nil)) (by decide)) (by decide))) shT shT) (by rw [eqv_same shT])) fun H5 e5 => k H5
end

theorem all_mk {l : PySem.W.OpenLaw} {w : World} {K : PySem.W.Frag} {h : Heap} {mg : Str → Option Value} {fa : Addr} (X : K.In h) (G : h.Ns mainGlobals mg) (hfa : mg "law" = some (.ref fa))
    {f1 : Addr} {od1 an1 : Option Addr} {sl1 : Array (Option Value)} {oc1 kV1 dc1 pm1 cd1 ct1 : Value}
    {f2 : Addr} {od2 an2 : Option Addr} {sl2 : Array (Option Value)} {oc2 kV2 dc2 pm2 cd2 ct2 : Value}
    {f3 : Addr} {od3 an3 : Option Addr} {sl3 : Array (Option Value)} {oc3 kV3 dc3 pm3 cd3 ct3 : Value}
    {f4 : Addr} {od4 an4 : Option Addr} {sl4 : Array (Option Value)} {oc4 kV4 dc4 pm4 cd4 ct4 : Value}
    {f5 : Addr} {od5 an5 : Option Addr} {sl5 : Array (Option Value)} {oc5 kV5 dc5 pm5 cd5 ct5 : Value}
    {f6 : Addr} {od6 an6 : Option Addr} {sl6 : Array (Option Value)} {oc6 kV6 dc6 pm6 cd6 ct6 : Value}
    {f7 : Addr} {od7 an7 : Option Addr} {sl7 : Array (Option Value)} {oc7 kV7 dc7 pm7 cd7 ct7 : Value}
    {f8 : Addr} {od8 an8 : Option Addr} {sl8 : Array (Option Value)} {oc8 kV8 dc8 pm8 cd8 ct8 : Value}
    {f9 : Addr} {od9 an9 : Option Addr} {sl9 : Array (Option Value)} {oc9 kV9 dc9 pm9 cd9 ct9 : Value}
    {f10 : Addr} {od10 an10 : Option Addr} {sl10 : Array (Option Value)} {oc10 kV10 dc10 pm10 cd10 ct10 : Value}
    {f11 : Addr} {od11 an11 : Option Addr} {sl11 : Array (Option Value)} {oc11 kV11 dc11 pm11 cd11 ct11 : Value}
    {f12 : Addr} {od12 an12 : Option Addr} {sl12 : Array (Option Value)} {oc12 kV12 dc12 pm12 cd12 ct12 : Value}
    {f13 : Addr} {od13 an13 : Option Addr} {sl13 : Array (Option Value)} {oc13 kV13 dc13 pm13 cd13 ct13 : Value}
    {f14 : Addr} {od14 an14 : Option Addr} {sl14 : Array (Option Value)} {oc14 kV14 dc14 pm14 cd14 ct14 : Value}
    {f15 : Addr} {od15 an15 : Option Addr} {sl15 : Array (Option Value)} {oc15 kV15 dc15 pm15 cd15 ct15 : Value}
    {f16 : Addr} {od16 an16 : Option Addr} {sl16 : Array (Option Value)} {oc16 kV16 dc16 pm16 cd16 ct16 : Value}
    {f17 : Addr} {od17 an17 : Option Addr} {sl17 : Array (Option Value)} {oc17 kV17 dc17 pm17 cd17 ct17 : Value}
    {f18 : Addr} {od18 an18 : Option Addr} {sl18 : Array (Option Value)} {oc18 kV18 dc18 pm18 cd18 ct18 : Value}
    {f19 : Addr} {od19 an19 : Option Addr} {sl19 : Array (Option Value)} {oc19 kV19 dc19 pm19 cd19 ct19 : Value}
    {f20 : Addr} {od20 an20 : Option Addr} {sl20 : Array (Option Value)} {oc20 kV20 dc20 pm20 cd20 ct20 : Value}
    {f21 : Addr} {od21 an21 : Option Addr} {sl21 : Array (Option Value)} {oc21 kV21 dc21 pm21 cd21 ct21 : Value}
    {f22 : Addr} {od22 an22 : Option Addr} {sl22 : Array (Option Value)} {oc22 kV22 dc22 pm22 cd22 ct22 : Value}
    {f23 : Addr} {od23 an23 : Option Addr} {sl23 : Array (Option Value)} {oc23 kV23 dc23 pm23 cd23 ct23 : Value}
    {f24 : Addr} {od24 an24 : Option Addr} {sl24 : Array (Option Value)} {oc24 kV24 dc24 pm24 cd24 ct24 : Value}
    {f25 : Addr} {od25 an25 : Option Addr} {sl25 : Array (Option Value)} {oc25 kV25 dc25 pm25 cd25 ct25 : Value}
    {t_MOST_GUESTS : Tok}
    (a1 : PySem.W.nsIn K mainGlobals "is_whole" = some (some (.ref f1))) (l1 : K.lookup f1 = some ⟨oc1, od1, .func (PySem.W.fnOf "is_whole" "is_whole" (defArgs s_is_whole) (defBody s_is_whole) (defScope s_is_whole) .none kV1 dc1 pm1 an1 cd1 ct1), sl1⟩) (c1 : PySem.W.codeIn K cd1 "is_whole" = true) (k1 : PySem.W.keepIn K (.ref f1) = true)
    (a2 : PySem.W.nsIn K mainGlobals "is_within" = some (some (.ref f2))) (l2 : K.lookup f2 = some ⟨oc2, od2, .func (PySem.W.fnOf "is_within" "is_within" (defArgs s_is_within) (defBody s_is_within) (defScope s_is_within) .none kV2 dc2 pm2 an2 cd2 ct2), sl2⟩) (c2 : PySem.W.codeIn K cd2 "is_within" = true) (k2 : PySem.W.keepIn K (.ref f2) = true)
    (a3 : PySem.W.nsIn K mainGlobals "is_order" = some (some (.ref f3))) (l3 : K.lookup f3 = some ⟨oc3, od3, .func (PySem.W.fnOf "is_order" "is_order" (defArgs s_is_order) (defBody s_is_order) (defScope s_is_order) .none kV3 dc3 pm3 an3 cd3 ct3), sl3⟩) (c3 : PySem.W.codeIn K cd3 "is_order" = true) (k3 : PySem.W.keepIn K (.ref f3) = true)
    (a4 : PySem.W.nsIn K mainGlobals "check_number" = some (some (.ref f4))) (l4 : K.lookup f4 = some ⟨oc4, od4, .func (PySem.W.fnOf "check_number" "check_number" (defArgs s_check_number) (defBody s_check_number) (defScope s_check_number) .none kV4 dc4 pm4 an4 cd4 ct4), sl4⟩) (c4 : PySem.W.codeIn K cd4 "check_number" = true) (k4 : PySem.W.keepIn K (.ref f4) = true)
    (a5 : PySem.W.nsIn K mainGlobals "is_seating" = some (some (.ref f5))) (l5 : K.lookup f5 = some ⟨oc5, od5, .func (PySem.W.fnOf "is_seating" "is_seating" (defArgs s_is_seating) (defBody s_is_seating) (defScope s_is_seating) .none kV5 dc5 pm5 an5 cd5 ct5), sl5⟩) (c5 : PySem.W.codeIn K cd5 "is_seating" = true) (k5 : PySem.W.keepIn K (.ref f5) = true)
    (a6 : PySem.W.nsIn K mainGlobals "tables_of" = some (some (.ref f6))) (l6 : K.lookup f6 = some ⟨oc6, od6, .func (PySem.W.fnOf "tables_of" "tables_of" (defArgs s_tables_of) (defBody s_tables_of) (defScope s_tables_of) .none kV6 dc6 pm6 an6 cd6 ct6), sl6⟩) (c6 : PySem.W.codeIn K cd6 "tables_of" = true) (k6 : PySem.W.keepIn K (.ref f6) = true)
    (a7 : PySem.W.nsIn K mainGlobals "check_seating" = some (some (.ref f7))) (l7 : K.lookup f7 = some ⟨oc7, od7, .func (PySem.W.fnOf "check_seating" "check_seating" (defArgs s_check_seating) (defBody s_check_seating) (defScope s_check_seating) .none kV7 dc7 pm7 an7 cd7 ct7), sl7⟩) (c7 : PySem.W.codeIn K cd7 "check_seating" = true) (k7 : PySem.W.keepIn K (.ref f7) = true)
    (a8 : PySem.W.nsIn K mainGlobals "walk_left" = some (some (.ref f8))) (l8 : K.lookup f8 = some ⟨oc8, od8, .func (PySem.W.fnOf "walk_left" "walk_left" (defArgs s_walk_left) (defBody s_walk_left) (defScope s_walk_left) .none kV8 dc8 pm8 an8 cd8 ct8), sl8⟩) (c8 : PySem.W.codeIn K cd8 "walk_left" = true) (k8 : PySem.W.keepIn K (.ref f8) = true)
    (a9 : PySem.W.nsIn K mainGlobals "tables_among" = some (some (.ref f9))) (l9 : K.lookup f9 = some ⟨oc9, od9, .func (PySem.W.fnOf "tables_among" "tables_among" (defArgs s_tables_among) (defBody s_tables_among) (defScope s_tables_among) .none kV9 dc9 pm9 an9 cd9 ct9), sl9⟩) (c9 : PySem.W.codeIn K cd9 "tables_among" = true) (k9 : PySem.W.keepIn K (.ref f9) = true)
    (a10 : PySem.W.nsIn K mainGlobals "is_coming" = some (some (.ref f10))) (l10 : K.lookup f10 = some ⟨oc10, od10, .func (PySem.W.fnOf "is_coming" "is_coming" (defArgs s_is_coming) (defBody s_is_coming) (defScope s_is_coming) .none kV10 dc10 pm10 an10 cd10 ct10), sl10⟩) (c10 : PySem.W.codeIn K cd10 "is_coming" = true) (k10 : PySem.W.keepIn K (.ref f10) = true)
    (a11 : PySem.W.nsIn K mainGlobals "coming_of" = some (some (.ref f11))) (l11 : K.lookup f11 = some ⟨oc11, od11, .func (PySem.W.fnOf "coming_of" "coming_of" (defArgs s_coming_of) (defBody s_coming_of) (defScope s_coming_of) .none kV11 dc11 pm11 an11 cd11 ct11), sl11⟩) (c11 : PySem.W.codeIn K cd11 "coming_of" = true) (k11 : PySem.W.keepIn K (.ref f11) = true)
    (a12 : PySem.W.nsIn K mainGlobals "seating_by" = some (some (.ref f12))) (l12 : K.lookup f12 = some ⟨oc12, od12, .func (PySem.W.fnOf "seating_by" "seating_by" (defArgs s_seating_by) (defBody s_seating_by) (defScope s_seating_by) .none kV12 dc12 pm12 an12 cd12 ct12), sl12⟩) (c12 : PySem.W.codeIn K cd12 "seating_by" = true) (k12 : PySem.W.keepIn K (.ref f12) = true)
    (a13 : PySem.W.nsIn K mainGlobals "openers_of" = some (some (.ref f13))) (l13 : K.lookup f13 = some ⟨oc13, od13, .func (PySem.W.fnOf "openers_of" "openers_of" (defArgs s_openers_of) (defBody s_openers_of) (defScope s_openers_of) .none kV13 dc13 pm13 an13 cd13 ct13), sl13⟩) (c13 : PySem.W.codeIn K cd13 "openers_of" = true) (k13 : PySem.W.keepIn K (.ref f13) = true)
    (a14 : PySem.W.nsIn K mainGlobals "hall_of" = some (some (.ref f14))) (l14 : K.lookup f14 = some ⟨oc14, od14, .func (PySem.W.fnOf "hall_of" "hall_of" (defArgs s_hall_of) (defBody s_hall_of) (defScope s_hall_of) .none kV14 dc14 pm14 an14 cd14 ct14), sl14⟩) (c14 : PySem.W.codeIn K cd14 "hall_of" = true) (k14 : PySem.W.keepIn K (.ref f14) = true)
    (a15 : PySem.W.nsIn K mainGlobals "check_coming" = some (some (.ref f15))) (l15 : K.lookup f15 = some ⟨oc15, od15, .func (PySem.W.fnOf "check_coming" "check_coming" (defArgs s_check_coming) (defBody s_check_coming) (defScope s_check_coming) .none kV15 dc15 pm15 an15 cd15 ct15), sl15⟩) (c15 : PySem.W.codeIn K cd15 "check_coming" = true) (k15 : PySem.W.keepIn K (.ref f15) = true)
    (a16 : PySem.W.nsIn K mainGlobals "_law_pouch" = some (some (.ref f16))) (l16 : K.lookup f16 = some ⟨oc16, od16, .func (PySem.W.fnOf "_law_pouch" "_law_pouch" (defArgs s_law_pouch) (defBody s_law_pouch) (defScope s_law_pouch) .none kV16 dc16 pm16 an16 cd16 ct16), sl16⟩) (c16 : PySem.W.codeIn K cd16 "_law_pouch" = true) (k16 : PySem.W.keepIn K (.ref f16) = true)
    (a17 : PySem.W.nsIn K mainGlobals "_law_dip" = some (some (.ref f17))) (l17 : K.lookup f17 = some ⟨oc17, od17, .func (PySem.W.fnOf "_law_dip" "_law_dip" (defArgs s_law_dip) (defBody s_law_dip) (defScope s_law_dip) .none kV17 dc17 pm17 an17 cd17 ct17), sl17⟩) (c17 : PySem.W.codeIn K cd17 "_law_dip" = true) (k17 : PySem.W.keepIn K (.ref f17) = true)
    (a18 : PySem.W.nsIn K mainGlobals "_law_entries" = some (some (.ref f18))) (l18 : K.lookup f18 = some ⟨oc18, od18, .func (PySem.W.fnOf "_law_entries" "_law_entries" (defArgs s_law_entries) (defBody s_law_entries) (defScope s_law_entries) .none kV18 dc18 pm18 an18 cd18 ct18), sl18⟩) (c18 : PySem.W.codeIn K cd18 "_law_entries" = true) (k18 : PySem.W.keepIn K (.ref f18) = true)
    (a19 : PySem.W.nsIn K mainGlobals "_law_rings" = some (some (.ref f19))) (l19 : K.lookup f19 = some ⟨oc19, od19, .func (PySem.W.fnOf "_law_rings" "_law_rings" (defArgs s_law_rings) (defBody s_law_rings) (defScope s_law_rings) .none kV19 dc19 pm19 an19 cd19 ct19), sl19⟩) (c19 : PySem.W.codeIn K cd19 "_law_rings" = true) (k19 : PySem.W.keepIn K (.ref f19) = true)
    (a20 : PySem.W.nsIn K mainGlobals "_law_seat" = some (some (.ref f20))) (l20 : K.lookup f20 = some ⟨oc20, od20, .func (PySem.W.fnOf "_law_seat" "_law_seat" (defArgs s_law_seat) (defBody s_law_seat) (defScope s_law_seat) .none kV20 dc20 pm20 an20 cd20 ct20), sl20⟩) (c20 : PySem.W.codeIn K cd20 "_law_seat" = true) (k20 : PySem.W.keepIn K (.ref f20) = true)
    (a21 : PySem.W.nsIn K mainGlobals "_law_is_coming" = some (some (.ref f21))) (l21 : K.lookup f21 = some ⟨oc21, od21, .func (PySem.W.fnOf "_law_is_coming" "_law_is_coming" (defArgs s_law_is_coming) (defBody s_law_is_coming) (defScope s_law_is_coming) .none kV21 dc21 pm21 an21 cd21 ct21), sl21⟩) (c21 : PySem.W.codeIn K cd21 "_law_is_coming" = true) (k21 : PySem.W.keepIn K (.ref f21) = true)
    (a22 : PySem.W.nsIn K mainGlobals "_law_odd" = some (some (.ref f22))) (l22 : K.lookup f22 = some ⟨oc22, od22, .func (PySem.W.fnOf "_law_odd" "_law_odd" (defArgs s_law_odd) (defBody s_law_odd) (defScope s_law_odd) .none kV22 dc22 pm22 an22 cd22 ct22), sl22⟩) (c22 : PySem.W.codeIn K cd22 "_law_odd" = true) (k22 : PySem.W.keepIn K (.ref f22) = true)
    (a23 : PySem.W.nsIn K mainGlobals "_law_right" = some (some (.ref f23))) (l23 : K.lookup f23 = some ⟨oc23, od23, .func (PySem.W.fnOf "_law_right" "_law_right" (defArgs s_law_right) (defBody s_law_right) (defScope s_law_right) .none kV23 dc23 pm23 an23 cd23 ct23), sl23⟩) (c23 : PySem.W.codeIn K cd23 "_law_right" = true) (k23 : PySem.W.keepIn K (.ref f23) = true)
    (a24 : PySem.W.nsIn K mainGlobals "_law_small_right" = some (some (.ref f24))) (l24 : K.lookup f24 = some ⟨oc24, od24, .func (PySem.W.fnOf "_law_small_right" "_law_small_right" (defArgs s_law_small_right) (defBody s_law_small_right) (defScope s_law_small_right) .none kV24 dc24 pm24 an24 cd24 ct24), sl24⟩) (c24 : PySem.W.codeIn K cd24 "_law_small_right" = true) (k24 : PySem.W.keepIn K (.ref f24) = true)
    (a25 : PySem.W.nsIn K mainGlobals "law" = some (some (.ref f25))) (l25 : K.lookup f25 = some ⟨oc25, od25, .func (PySem.W.fnOf "law" "law" (defArgs s_law) (defBody s_law) (defScope s_law) .none kV25 dc25 pm25 an25 cd25 ct25), sl25⟩) (c25 : PySem.W.codeIn K cd25 "law" = true) (k25 : PySem.W.keepIn K (.ref f25) = true)
    (z_abs : PySem.W.nsIn K mainGlobals "abs" = some none)
    (z_all : PySem.W.nsIn K mainGlobals "all" = some none)
    (z_bool : PySem.W.nsIn K mainGlobals "bool" = some none)
    (z_enumerate : PySem.W.nsIn K mainGlobals "enumerate" = some none)
    (z_int : PySem.W.nsIn K mainGlobals "int" = some none)
    (z_isinstance : PySem.W.nsIn K mainGlobals "isinstance" = some none)
    (z_len : PySem.W.nsIn K mainGlobals "len" = some none)
    (z_list : PySem.W.nsIn K mainGlobals "list" = some none)
    (z_max : PySem.W.nsIn K mainGlobals "max" = some none)
    (z_min : PySem.W.nsIn K mainGlobals "min" = some none)
    (z_range : PySem.W.nsIn K mainGlobals "range" = some none)
    (z_repr : PySem.W.nsIn K mainGlobals "repr" = some none)
    (z_set : PySem.W.nsIn K mainGlobals "set" = some none)
    (z_sorted : PySem.W.nsIn K mainGlobals "sorted" = some none)
    (z_tuple : PySem.W.nsIn K mainGlobals "tuple" = some none)
    (z_type : PySem.W.nsIn K mainGlobals "type" = some none)
    (y_MOST_GUESTS : PySem.W.nsIn K mainGlobals "MOST_GUESTS" = some (some (.int 20 t_MOST_GUESTS)))
    : ∃ fd : FuncData, (∀ (s : Shared) (v : Value), BindsTo s fd ⟨[v], []⟩ [("script", v)]) ∧ ∀ base : Heap, K.In base → base.Ns mainGlobals mg → FnOkG l.prog w K mg base 8 fa fd ["script"] (sp_law K) := by
  have e := hfa.symm.trans (PySem.W.mg_of X G a25)
  cases e
  have F1 := fun_mk (st := s_is_whole) l1 c1 k1
  have F2 := fun_mk (st := s_is_within) l2 c2 k2
  have F3 := fun_mk (st := s_is_order) l3 c3 k3
  have F4 := fun_mk (st := s_check_number) l4 c4 k4
  have F5 := fun_mk (st := s_is_seating) l5 c5 k5
  have F6 := fun_mk (st := s_tables_of) l6 c6 k6
  have F7 := fun_mk (st := s_check_seating) l7 c7 k7
  have F8 := fun_mk (st := s_walk_left) l8 c8 k8
  have F9 := fun_mk (st := s_tables_among) l9 c9 k9
  have F10 := fun_mk (st := s_is_coming) l10 c10 k10
  have F11 := fun_mk (st := s_coming_of) l11 c11 k11
  have F12 := fun_mk (st := s_seating_by) l12 c12 k12
  have F13 := fun_mk (st := s_openers_of) l13 c13 k13
  have F14 := fun_mk (st := s_hall_of) l14 c14 k14
  have F15 := fun_mk (st := s_check_coming) l15 c15 k15
  have F16 := fun_mk (st := s_law_pouch) l16 c16 k16
  have F17 := fun_mk (st := s_law_dip) l17 c17 k17
  have F18 := fun_mk (st := s_law_entries) l18 c18 k18
  have F19 := fun_mk (st := s_law_rings) l19 c19 k19
  have F20 := fun_mk (st := s_law_seat) l20 c20 k20
  have F21 := fun_mk (st := s_law_is_coming) l21 c21 k21
  have F22 := fun_mk (st := s_law_odd) l22 c22 k22
  have F23 := fun_mk (st := s_law_right) l23 c23 k23
  have F24 := fun_mk (st := s_law_small_right) l24 c24 k24
  have F25 := fun_mk (st := s_law) l25 c25 k25
  let T : Tx K mg :=
    { f_is_whole := f1, d_is_whole := _, F_is_whole := F1, g_is_whole := PySem.W.mg_of X G a1, b_is_whole := F1.binds (ps := ["thing"]) fun _ _ _ _ _ _ us hl => match us, hl with | [_], _ => rfl,
      f_is_within := f2, d_is_within := _, F_is_within := F2, g_is_within := PySem.W.mg_of X G a2, b_is_within := F2.binds (ps := ["thing", "least", "most"]) fun _ _ _ _ _ _ us hl => match us, hl with | [_, _, _], _ => rfl,
      f_is_order := f3, d_is_order := _, F_is_order := F3, g_is_order := PySem.W.mg_of X G a3, b_is_order := F3.binds (ps := ["thing"]) fun _ _ _ _ _ _ us hl => match us, hl with | [_], _ => rfl,
      f_check_number := f4, d_check_number := _, F_check_number := F4, g_check_number := PySem.W.mg_of X G a4, b_check_number := F4.binds (ps := ["number", "least", "most"]) fun _ _ _ _ _ _ us hl => match us, hl with | [_, _, _], _ => rfl,
      f_is_seating := f5, d_is_seating := _, F_is_seating := F5, g_is_seating := PySem.W.mg_of X G a5, b_is_seating := F5.binds (ps := ["thing"]) fun _ _ _ _ _ _ us hl => match us, hl with | [_], _ => rfl,
      f_tables_of := f6, d_tables_of := _, F_tables_of := F6, g_tables_of := PySem.W.mg_of X G a6, b_tables_of := F6.binds (ps := ["seating"]) fun _ _ _ _ _ _ us hl => match us, hl with | [_], _ => rfl,
      f_check_seating := f7, d_check_seating := _, F_check_seating := F7, g_check_seating := PySem.W.mg_of X G a7, b_check_seating := F7.binds (ps := ["seating"]) fun _ _ _ _ _ _ us hl => match us, hl with | [_], _ => rfl,
      f_walk_left := f8, d_walk_left := _, F_walk_left := F8, g_walk_left := PySem.W.mg_of X G a8, b_walk_left := F8.binds (ps := ["lefts", "guest"]) fun _ _ _ _ _ _ us hl => match us, hl with | [_, _], _ => rfl,
      f_tables_among := f9, d_tables_among := _, F_tables_among := F9, g_tables_among := PySem.W.mg_of X G a9, b_tables_among := F9.binds (ps := ["lefts", "guests"]) fun _ _ _ _ _ _ us hl => match us, hl with | [_, _], _ => rfl,
      f_is_coming := f10, d_is_coming := _, F_is_coming := F10, g_is_coming := PySem.W.mg_of X G a10, b_is_coming := F10.binds (ps := ["thing"]) fun _ _ _ _ _ _ us hl => match us, hl with | [_], _ => rfl,
      f_coming_of := f11, d_coming_of := _, F_coming_of := F11, g_coming_of := PySem.W.mg_of X G a11, b_coming_of := F11.binds (ps := ["seating"]) fun _ _ _ _ _ _ us hl => match us, hl with | [_], _ => rfl,
      f_seating_by := f12, d_seating_by := _, F_seating_by := F12, g_seating_by := PySem.W.mg_of X G a12, b_seating_by := F12.binds (ps := ["coming"]) fun _ _ _ _ _ _ us hl => match us, hl with | [_], _ => rfl,
      f_openers_of := f13, d_openers_of := _, F_openers_of := F13, g_openers_of := PySem.W.mg_of X G a13, b_openers_of := F13.binds (ps := ["seating"]) fun _ _ _ _ _ _ us hl => match us, hl with | [_], _ => rfl,
      f_hall_of := f14, d_hall_of := _, F_hall_of := F14, g_hall_of := PySem.W.mg_of X G a14, b_hall_of := F14.binds (ps := ["coming", "number"]) fun _ _ _ _ _ _ us hl => match us, hl with | [_, _], _ => rfl,
      f_check_coming := f15, d_check_coming := _, F_check_coming := F15, g_check_coming := PySem.W.mg_of X G a15, b_check_coming := F15.binds (ps := ["coming"]) fun _ _ _ _ _ _ us hl => match us, hl with | [_], _ => rfl,
      f_law_pouch := f16, d_law_pouch := _, F_law_pouch := F16, g_law_pouch := PySem.W.mg_of X G a16, b_law_pouch := F16.binds (ps := ["script", "at"]) fun _ _ _ _ _ _ us hl => match us, hl with | [_, _], _ => rfl,
      f_law_dip := f17, d_law_dip := _, F_law_dip := F17, g_law_dip := PySem.W.mg_of X G a17, b_law_dip := F17.binds (ps := ["pouch", "wide"]) fun _ _ _ _ _ _ us hl => match us, hl with | [_, _], _ => rfl,
      f_law_entries := f18, d_law_entries := _, F_law_entries := F18, g_law_entries := PySem.W.mg_of X G a18, b_law_entries := F18.binds (ps := ["pouch", "many"]) fun _ _ _ _ _ _ us hl => match us, hl with | [_, _], _ => rfl,
      f_law_rings := f19, d_law_rings := _, F_law_rings := F19, g_law_rings := PySem.W.mg_of X G a19, b_law_rings := F19.binds (ps := ["entries"]) fun _ _ _ _ _ _ us hl => match us, hl with | [_], _ => rfl,
      f_law_seat := f20, d_law_seat := _, F_law_seat := F20, g_law_seat := PySem.W.mg_of X G a20, b_law_seat := F20.binds (ps := ["rings"]) fun _ _ _ _ _ _ us hl => match us, hl with | [_], _ => rfl,
      f_law_is_coming := f21, d_law_is_coming := _, F_law_is_coming := F21, g_law_is_coming := PySem.W.mg_of X G a21, b_law_is_coming := F21.binds (ps := ["item"]) fun _ _ _ _ _ _ us hl => match us, hl with | [_], _ => rfl,
      f_law_odd := f22, d_law_odd := _, F_law_odd := F22, g_law_odd := PySem.W.mg_of X G a22, b_law_odd := F22.binds (ps := ["pouch", "row"]) fun _ _ _ _ _ _ us hl => match us, hl with | [_, _], _ => rfl,
      f_law_right := f23, d_law_right := _, F_law_right := F23, g_law_right := PySem.W.mg_of X G a23, b_law_right := F23.binds (ps := ["pouch", "many"]) fun _ _ _ _ _ _ us hl => match us, hl with | [_, _], _ => rfl,
      f_law_small_right := f24, d_law_small_right := _, F_law_small_right := F24, g_law_small_right := PySem.W.mg_of X G a24, b_law_small_right := F24.binds (ps := ["many"]) fun _ _ _ _ _ _ us hl => match us, hl with | [_], _ => rfl,
      f_law := fa, d_law := _, F_law := F25, g_law := PySem.W.mg_of X G a25, b_law := F25.binds (ps := ["script"]) fun _ _ _ _ _ _ us hl => match us, hl with | [_], _ => rfl,
      m_abs := PySem.W.mg_none_of X G z_abs,
      m_all := PySem.W.mg_none_of X G z_all,
      m_bool := PySem.W.mg_none_of X G z_bool,
      m_enumerate := PySem.W.mg_none_of X G z_enumerate,
      m_int := PySem.W.mg_none_of X G z_int,
      m_isinstance := PySem.W.mg_none_of X G z_isinstance,
      m_len := PySem.W.mg_none_of X G z_len,
      m_list := PySem.W.mg_none_of X G z_list,
      m_max := PySem.W.mg_none_of X G z_max,
      m_min := PySem.W.mg_none_of X G z_min,
      m_range := PySem.W.mg_none_of X G z_range,
      m_repr := PySem.W.mg_none_of X G z_repr,
      m_set := PySem.W.mg_none_of X G z_set,
      m_sorted := PySem.W.mg_none_of X G z_sorted,
      m_tuple := PySem.W.mg_none_of X G z_tuple,
      m_type := PySem.W.mg_none_of X G z_type,
      c_MOST_GUESTS := ⟨_, PySem.W.mg_of X G y_MOST_GUESTS, ⟨_, rfl⟩⟩,
      kb_hall_of_0_number_coming := ⟨(fun s us ws _ hl => match us, ws, hl with | [], [_, _], _ => .of_eq rfl | (_ :: _), _, hl => absurd (show (0 : Nat) = 2 from hl) (by decide) | [], [], hl => absurd (show (0 : Nat) = 2 from hl) (by decide) | [], (_ :: []), hl => absurd (show (0 : Nat) = 2 from hl) (by decide) | [], (_ :: (_ :: (_ :: _))), hl => absurd (show (0 : Nat) = 2 from hl) (by decide)), (fun {vs us zs ws} r z => match r, z with | .nil, (.cons b0 (.cons b1 .nil)) => (.cons b1 (.cons b0 .nil)) | (.cons _ _), _ => .nil | .nil, .nil => .nil | .nil, (.cons _ .nil) => .nil | .nil, (.cons _ (.cons _ (.cons _ _))) => .nil)⟩,
      kb_openers_of_0_seating := ⟨(fun s us ws _ hl => match us, ws, hl with | [], [_], _ => .of_eq rfl | (_ :: _), _, hl => absurd (show (0 : Nat) = 1 from hl) (by decide) | [], [], hl => absurd (show (0 : Nat) = 1 from hl) (by decide) | [], (_ :: (_ :: _)), hl => absurd (show (0 : Nat) = 1 from hl) (by decide)), (fun {vs us zs ws} r z => match r, z with | .nil, (.cons b0 .nil) => (.cons b0 .nil) | (.cons _ _), _ => .nil | .nil, .nil => .nil | .nil, (.cons _ (.cons _ _)) => .nil)⟩,
      kb_coming_of_0_seating := ⟨(fun s us ws _ hl => match us, ws, hl with | [], [_], _ => .of_eq rfl | (_ :: _), _, hl => absurd (show (0 : Nat) = 1 from hl) (by decide) | [], [], hl => absurd (show (0 : Nat) = 1 from hl) (by decide) | [], (_ :: (_ :: _)), hl => absurd (show (0 : Nat) = 1 from hl) (by decide)), (fun {vs us zs ws} r z => match r, z with | .nil, (.cons b0 .nil) => (.cons b0 .nil) | (.cons _ _), _ => .nil | .nil, .nil => .nil | .nil, (.cons _ (.cons _ _)) => .nil)⟩,
      kb_is_coming_0_thing := ⟨(fun s us ws _ hl => match us, ws, hl with | [], [_], _ => .of_eq rfl | (_ :: _), _, hl => absurd (show (0 : Nat) = 1 from hl) (by decide) | [], [], hl => absurd (show (0 : Nat) = 1 from hl) (by decide) | [], (_ :: (_ :: _)), hl => absurd (show (0 : Nat) = 1 from hl) (by decide)), (fun {vs us zs ws} r z => match r, z with | .nil, (.cons b0 .nil) => (.cons b0 .nil) | (.cons _ _), _ => .nil | .nil, .nil => .nil | .nil, (.cons _ (.cons _ _)) => .nil)⟩,
      kb_seating_by_0_coming := ⟨(fun s us ws _ hl => match us, ws, hl with | [], [_], _ => .of_eq rfl | (_ :: _), _, hl => absurd (show (0 : Nat) = 1 from hl) (by decide) | [], [], hl => absurd (show (0 : Nat) = 1 from hl) (by decide) | [], (_ :: (_ :: _)), hl => absurd (show (0 : Nat) = 1 from hl) (by decide)), (fun {vs us zs ws} r z => match r, z with | .nil, (.cons b0 .nil) => (.cons b0 .nil) | (.cons _ _), _ => .nil | .nil, .nil => .nil | .nil, (.cons _ (.cons _ _)) => .nil)⟩ }
  exact ⟨PySem.W.fnOf "law" "law" (defArgs s_law) (defBody s_law) (defScope s_law) .none kV25 dc25 pm25 an25 cd25 ct25, fun s v => .of_eq rfl, fun base _ _ => ok_law T⟩
end K04
open PySem PySem.W PyProof.Rows
set_option maxRecDepth 100000 in
set_option maxHeartbeats 0 in
theorem PySem.Challenge.cw_newtables_k04_coming_lists_holds : PySem.Challenge.rw_newtables_k04_coming_lists.Holds := by
  w_on; o_law; k_head; (case hw => w_witness2)
  k_fill
  refine Kit.walk_G (l := PySem.Challenge.rw_newtables_k04_coming_lists) (m := 63) (n := 8) (x := "script") (want := fun w => K04.sp_law _) rfl (by decide) rfl ⟨rfl, by decide, by decide⟩ (fun w h Y => PySem.W.kIn_of Y) ?F (fun _ _ a ns hl _ hS => ⟨a, ns, rfl, hS, hl, fun _ => rfl⟩)
  case F =>
    intro w mg fa h KX G hmg
    refine' K04.all_mk KX G hmg ?a1 ?l1 ?c1 ?k1 ?a2 ?l2 ?c2 ?k2 ?a3 ?l3 ?c3 ?k3 ?a4 ?l4 ?c4 ?k4 ?a5 ?l5 ?c5 ?k5 ?a6 ?l6 ?c6 ?k6 ?a7 ?l7 ?c7 ?k7 ?a8 ?l8 ?c8 ?k8 ?a9 ?l9 ?c9 ?k9 ?a10 ?l10 ?c10 ?k10 ?a11 ?l11 ?c11 ?k11 ?a12 ?l12 ?c12 ?k12 ?a13 ?l13 ?c13 ?k13 ?a14 ?l14 ?c14 ?k14 ?a15 ?l15 ?c15 ?k15 ?a16 ?l16 ?c16 ?k16 ?a17 ?l17 ?c17 ?k17 ?a18 ?l18 ?c18 ?k18 ?a19 ?l19 ?c19 ?k19 ?a20 ?l20 ?c20 ?k20 ?a21 ?l21 ?c21 ?k21 ?a22 ?l22 ?c22 ?k22 ?a23 ?l23 ?c23 ?k23 ?a24 ?l24 ?c24 ?k24 ?a25 ?l25 ?c25 ?k25 ?z_abs ?z_all ?z_bool ?z_enumerate ?z_int ?z_isinstance ?z_len ?z_list ?z_max ?z_min ?z_range ?z_repr ?z_set ?z_sorted ?z_tuple ?z_type ?y_MOST_GUESTS
    (case a1 => k_is); (case l1 => k_is); (case c1 => k_is); (case k1 => k_is); (case a2 => k_is); (case l2 => k_is)
    (case c2 => k_is); (case k2 => k_is); (case a3 => k_is); (case l3 => k_is); (case c3 => k_is); (case k3 => k_is)
    (case a4 => k_is); (case l4 => k_is); (case c4 => k_is); (case k4 => k_is); (case a5 => k_is); (case l5 => k_is)
    (case c5 => k_is); (case k5 => k_is); (case a6 => k_is); (case l6 => k_is); (case c6 => k_is); (case k6 => k_is)
    (case a7 => k_is); (case l7 => k_is); (case c7 => k_is); (case k7 => k_is); (case a8 => k_is); (case l8 => k_is)
    (case c8 => k_is); (case k8 => k_is); (case a9 => k_is); (case l9 => k_is); (case c9 => k_is); (case k9 => k_is)
    (case a10 => k_is); (case l10 => k_is); (case c10 => k_is); (case k10 => k_is); (case a11 => k_is); (case l11 => k_is)
    (case c11 => k_is); (case k11 => k_is); (case a12 => k_is); (case l12 => k_is); (case c12 => k_is); (case k12 => k_is)
    (case a13 => k_is); (case l13 => k_is); (case c13 => k_is); (case k13 => k_is); (case a14 => k_is); (case l14 => k_is)
    (case c14 => k_is); (case k14 => k_is); (case a15 => k_is); (case l15 => k_is); (case c15 => k_is); (case k15 => k_is)
    (case a16 => k_is); (case l16 => k_is); (case c16 => k_is); (case k16 => k_is); (case a17 => k_is); (case l17 => k_is)
    (case c17 => k_is); (case k17 => k_is); (case a18 => k_is); (case l18 => k_is); (case c18 => k_is); (case k18 => k_is)
    (case a19 => k_is); (case l19 => k_is); (case c19 => k_is); (case k19 => k_is); (case a20 => k_is); (case l20 => k_is)
    (case c20 => k_is); (case k20 => k_is); (case a21 => k_is); (case l21 => k_is); (case c21 => k_is); (case k21 => k_is)
    (case a22 => k_is); (case l22 => k_is); (case c22 => k_is); (case k22 => k_is); (case a23 => k_is); (case l23 => k_is)
    (case c23 => k_is); (case k23 => k_is); (case a24 => k_is); (case l24 => k_is); (case c24 => k_is); (case k24 => k_is)
    (case a25 => k_is); (case l25 => k_is); (case c25 => k_is); (case k25 => k_is); (case z_abs => k_is); (case z_all => k_is)
    (case z_bool => k_is); (case z_enumerate => k_is); (case z_int => k_is); (case z_isinstance => k_is); (case z_len => k_is); (case z_list => k_is)
    (case z_max => k_is); (case z_min => k_is); (case z_range => k_is); (case z_repr => k_is); (case z_set => k_is); (case z_sorted => k_is)
    (case z_tuple => k_is); (case z_type => k_is); (case y_MOST_GUESTS => k_is)
