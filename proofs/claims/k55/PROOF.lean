import PyProof.Rows.All
import Wide.All
import OpenK.AllK
import Wide.FinOn
import PyProof.TypeEq
import HandS.ForMost
import HandS.Evl
import HandS.Wide
import HandS.WideBits
import HandS.Gcd
import HandS.Codes
import HandS.Conv
import HandS.IsInst
import HandS.More
import HandS.Walk
import HandS.Style
import PyProof.InstEq
import HandS.Sort
import KE.DataMinMax
import KE.GoesEnum
import KE.GoesMore
import HandS.Iter
import HandS.WordsDict
import PyProof.ReprLen
import PyProof.Rows.RegStrFacts
import KE.KMathGC
import HandS.RevRange
import HandS.Deep
import HandS.Text
import HandS.SetFor
import PySem.Challenge.RW_newtables_k55_texts_written_and_read
set_option Elab.async false
set_option linter.all false
set_option maxRecDepth 100000
set_option maxHeartbeats 4000000
namespace Kit
open PySem PySem.Spec PyProof.Rows L2 Evl
/-! rules that the layer lacks -/
section
variable {X : Cx} {a b c d : Expr} {ta tb tc td : TE} {pos : Pos}
def CPowX (i j : Int) : Prop := 0 ≤ j ∧ (Builtin.Int.intBits i : Int) * j ≤ 2 ^ 27
theorem op_powX : OpR X (binaryOp .Pow) (rI CPowX fun i j => .int (i ^ j.toNat)) := opI fun _ _ _ _ _ _ _ hc q => pow_int hc.1 hc.2 q
/-- the types that are compared by == -/
def Meta (n : String) : Prop := ∀ s : Shared, s.TypeIs (.type n) "type"
def rEqTy : R2 := fun x y H Q => ∃ m n, x = .ty m ∧ y = .ty n ∧ Meta m ∧ Meta n ∧ Q (.bl (decide (m = n))) H
theorem op_eqTy : OpR X (compareOp .Eq) rEqTy := by
  intro pins s σ H x y v u Q I rx ry h
  obtain ⟨m, n, rfl, rfl, hm, hn, q⟩ := h
  cases (show v = Value.type m from rx)
  cases (show u = Value.type n from ry)
  by_cases e : m = n
  · subst e
    exact PySem.TypeEq.eq_type_same hm ⟨.bl true, H, I, rfl, by simpa using q⟩
  · exact PySem.TypeEq.eq_type_other hm hn (by rw [beq_eq_false_iff_ne]; exact fun z => e (Value.type.inj z)) ⟨.bl false, H, I, rfl, by simpa [e] using q⟩
/-- a op b op c op d -/
def tChain3 (r r' r'' : R2) (ta tb tc td : TE) : TE := fun σ H Q => ta σ H fun x H1 => tb σ H1 fun y H2 => r x y H2 fun z H3 => ∃ k, z = .bl k ∧
  (if k = true then tc σ H3 fun w' H4 => r' y w' H4 fun z' H5 => ∃ k', z' = .bl k' ∧ (if k' = true then td σ H5 fun w'' H6 => r'' w' w'' H6 Q else Q (.bl false) H5) else Q (.bl false) H3)
theorem pe_chain3 {op op' op'' : CmpOp} {r r' r'' : R2} (ho : OpR X (compareOp op) r) (ho' : OpR X (compareOp op') r') (ho'' : OpR X (compareOp op'') r'') (ha : PE X a ta) (hb : PE X b tb) (hc : PE X c tc) (hd : PE X d td)
    (hm : lastMarks [op, op', op''] [b, c, d] = false := by with_unfolding_all rfl) : PE X (.Compare a [op, op', op''] [b, c, d] pos) (tChain3 r r' r'' ta tb tc td) := by
  refine ⟨fun pins s σ H Q I h => ?_⟩
  refine Compare_chain (thn (ha.run pins s σ H _ I h) fun v s1 ⟨x, H1, I1, r1, q1⟩ => chain_link (thn (hb.run pins s1 σ H1 _ I1 q1) fun u s2 ⟨y, H2, I2, r2, q2⟩ =>
    thn (ho pins s2 σ H2 x y v u _ I2 r1 r2 q2) fun d s3 ⟨z, H3, I3, r3, k, e, q3⟩ => ?_)) hm
  subst e
  cases r3
  refine wpAny_truthy_bool ?_
  cases k with
  | false => exact ite_ff ⟨.bl false, H3, I3, rfl, q3⟩
  | true =>
    refine ite_tt (chain_link (thn (hc.run pins s3 σ H3 _ I3 q3) fun w' s4 ⟨z', H4, I4, r4, q4⟩ => thn (ho' pins s4 σ H4 y z' u w' _ I4 r2 r4 q4) fun d' s5 ⟨z5, H5, I5, r5, k5, e5, q5⟩ => ?_))
    subst e5
    cases r5
    refine wpAny_truthy_bool ?_
    cases k5 with
    | false => exact ite_ff ⟨.bl false, H5, I5, rfl, q5⟩
    | true => exact ite_tt (chain_last (thn (hd.run pins s5 σ H5 _ I5 q5) fun w6 s6 ⟨z6, H6, I6, r6, q6⟩ => ho'' pins s6 σ H6 z' z6 w' w6 Q I6 r4 r6 q6))
theorem pt_chain3 {op op' op'' : CmpOp} {r r' r'' : R2} (ho : OpR X (compareOp op) r) (ho' : OpR X (compareOp op') r') (ho'' : OpR X (compareOp op'') r'') (ha : PE X a ta) (hb : PE X b tb) (hc : PE X c tc) (hd : PE X d td)
    (hm : lastMarks [op, op', op''] [b, c, d] = false := by with_unfolding_all rfl) : PT X (.Compare a [op, op', op''] [b, c, d] pos) (tTest (tChain3 r r' r'' ta tb tc td)) := by
  refine ⟨fun pins s σ H Q I h => ?_⟩
  refine isTrue_chain (thn (ha.run pins s σ H _ I h) fun v s1 ⟨x, H1, I1, r1, q1⟩ => test_link (thn (hb.run pins s1 σ H1 _ I1 q1) fun u s2 ⟨y, H2, I2, r2, q2⟩ =>
    thn (ho pins s2 σ H2 x y v u _ I2 r1 r2 q2) fun d s3 ⟨z, H3, I3, r3, k, e, q3⟩ => ?_)) hm
  subst e
  cases r3
  refine wpAny_truthy_bool ?_
  cases k with
  | false =>
    obtain ⟨k', e', q'⟩ := q3
    cases e'
    exact ite_ff ⟨H3, I3, q'⟩
  | true =>
    refine ite_tt (test_link (thn (hc.run pins s3 σ H3 _ I3 q3) fun w' s4 ⟨z', H4, I4, r4, q4⟩ => thn (ho' pins s4 σ H4 y z' u w' _ I4 r2 r4 q4) fun d' s5 ⟨z5, H5, I5, r5, k5, e5, q5⟩ => ?_))
    subst e5
    cases r5
    refine wpAny_truthy_bool ?_
    cases k5 with
    | false =>
      obtain ⟨k', e', q'⟩ := q5
      cases e'
      exact ite_ff ⟨H5, I5, q'⟩
    | true =>
      refine ite_tt (test_last (thn (hd.run pins s5 σ H5 _ I5 q5) fun w6 s6 ⟨z6, H6, I6, r6, q6⟩ => thn (ho'' pins s6 σ H6 z' z6 w' w6 _ I6 r4 r6 q6) fun d7 s7 ⟨z7, H7, I7, r7, k7, e7, q7⟩ => ?_))
      subst e7
      cases r7
      exact wpAny_truthy_bool ⟨H7, I7, q7⟩
end
/-! f(k = v, ..): keywords alone -/
section
variable {X : Cx} {CX : CXT} {k : Nat} {f C : Addr} {fd : FuncData} {ps ks : List Str} {sp : Sp} {E : XK} {x m : Str} {p pos apos kpos : Pos} {kws : List Keyword} {tk : TA}
variable {g : List Value → List Value → List Value} {gV : List V → List V → List V}
theorem pe_callK0 (F : FnOk X.prog X.w X.K X.mg X.base CX k f fd ps sp) (hr : Room k X.A) (hg : Gl X x) (hm : X.mg x = some (.ref f)) (hk : PySem.W.keepIn X.K (.ref f) = true) (hb : KBinds X.K fd ps ks g gV) (hx : Passes CX X E)
    (hkw : PK X kws tk) (hall : (backToKw pos (keywordEach kws X.env)).all (·.1.isSome) = true := by rfl) (hks : (backToKw pos (keywordEach kws X.env)).filterMap (·.1) = ks := by rfl)
    (hdb : (x == ("__debug__" : Str)) = false := by decide)
    (hpl : ((backTo pos (starEach [] X.env)).any (·.1) || (backToKw pos (keywordEach kws X.env)).any (·.1.isNone)) = false := by rfl) :
    PE X (.Call (.Name x p) [] kws pos) (tCallK sp gV E tNil tk) := by
  refine ⟨fun pins s σ H Q I h => ?_⟩
  refine wpAny_Call_Name_kw (ld_glob I hg hm ?_ hdb)
  refine PySem.W.callWith_KW0 (h₀ := X.base) I.ok.mod.kin hk hall ?_ hpl
  refine thn (hkw.run pos pins s σ H _ I h) fun ws s2 ⟨zs, H2, I2, rz, q2⟩ => ⟨I2.kIn, ?_⟩
  rw [hks]
  exact run_fnk F hr hb hx I2 (us := []) (vs := []) .nil rz q2
end
theorem pe_gc {X : Cx} {x : Str} {pos : Pos} {v : V} (hg : Gl X x) (h : ∃ u, X.mg x = some u ∧ RelV v u) (hd : (x == ("__debug__" : Str)) = false := by decide) : PE X (.Name x pos) (tC v) := by
  obtain ⟨u, hm, r⟩ := h
  exact pe_glob hg hm r hd
/-! built-ins by name, with readings that have names -/
section
variable {X : Cx}
def rAbs : List V → Hp → VK → Prop := fun xs H Q => ∃ i, xs = [.int i] ∧ Q (.int (if i < 0 then -i else i)) H
def rMin2 : List V → Hp → VK → Prop := fun xs H Q => ∃ i j, xs = [.int i, .int j] ∧ Q (.int (if j < i then j else i)) H
def rIntI : List V → Hp → VK → Prop := fun xs H Q => ∃ i, xs = [.int i] ∧ Q (.int i) H
def rIntB : List V → Hp → VK → Prop := fun xs H Q => ∃ b, xs = [.bl b] ∧ Q (.int (if b then 1 else 0)) H
theorem call_absR : CallR X (.builtin "abs") rAbs := call_abs
theorem call_maxR (hc : X.calm = true) : CallR X (.builtin "max") rMax2 := call_max2 hc
theorem call_minR (hc : X.calm = true) : CallR X (.builtin "min") rMin2 := call_min2 hc
theorem call_intI : CallR X (.type "int") rIntI := by
  intro pins s σ H xs us Q I r h
  obtain ⟨i, e, q⟩ := h
  exact call_int1 pins s σ H xs us Q I r (.inl ⟨i, e, q⟩)
theorem call_intB : CallR X (.type "int") rIntB := by
  intro pins s σ H xs us Q I r h
  obtain ⟨i, e, q⟩ := h
  exact call_int1 pins s σ H xs us Q I r (.inr ⟨i, e, q⟩)
theorem call_lenR : CallR X (.builtin "len") (rLenS X.K) := call_len_seq
theorem call_listR : CallR X (.type "list") (rListS X.K) := call_list_of
def rTupS (K : PySem.W.Frag) : List V → Hp → VK → Prop := fun xs H Q => ∃ p ys, xs = [.ref p] ∧ SqL K H p ys ∧ ∀ l, H l = none → Q (.ref l) (upd H l (.tup ys))
theorem call_tupR : CallR X (.type "tuple") (rTupS X.K) := by
  intro pins s σ H xs us Q I r h
  obtain ⟨p, ys, e, hs, q⟩ := h
  exact call_tuple_of pins s σ H xs us Q I r ⟨p, ys, e, .inl ⟨hs, q⟩⟩
def rIsN1 : R2 := fun x y H Q => y = .non ∧ Q (.bl (decide (x = .non))) H
def rNotN1 : R2 := fun x y H Q => y = .non ∧ Q (.bl (!decide (x = .non))) H
theorem op_isNR : OpR X (compareOp .Is) rIsN1 := op_isN
theorem op_notNR : OpR X (compareOp .IsNot) rNotN1 := op_notN
end
/-! evaluations of these -/
section
variable {K : PySem.W.Frag} {σ : L2.St} {H H' : Hp} {ta tb tc td te : TE} {x y z v : V} {r : R2} {i j : Int}
theorem ev_abs (h : Ev ta σ H (.int i)) : Ev (tCB rAbs (tCons ta tNil)) σ H (.int (if i < 0 then -i else i)) := fun H1 e Q q => h H1 e _ fun H2 e2 => ⟨i, rfl, q H2 e2⟩
theorem ev_min2 (ha : Ev ta σ H (.int i)) (hb : Ev tb σ H (.int j)) : Ev (tCB rMin2 (tCons ta (tCons tb tNil))) σ H (.int (if j < i then j else i)) := fun H1 e Q q =>
  ha H1 e _ fun H2 e2 => hb H2 (e.trans e2) _ fun H3 e3 => ⟨i, j, rfl, q H3 (e2.trans e3)⟩
theorem ev_intI (h : Ev ta σ H (.int i)) : Ev (tCB rIntI (tCons ta tNil)) σ H (.int i) := fun H1 e Q q => h H1 e _ fun H2 e2 => ⟨i, rfl, q H2 e2⟩
theorem ev_intB {b : Bool} (h : Ev ta σ H (.bl b)) : Ev (tCB rIntB (tCons ta tNil)) σ H (.int (if b then 1 else 0)) := fun H1 e Q q => h H1 e _ fun H2 e2 => ⟨b, rfl, q H2 e2⟩
theorem rv_isN : RV rIsN1 x .non H (.bl (decide (x = .non))) := fun H1 _ _ q => ⟨rfl, q H1 (Ex.refl H1)⟩
theorem rv_notN : RV rNotN1 x .non H (.bl (!decide (x = .non))) := fun H1 _ _ q => ⟨rfl, q H1 (Ex.refl H1)⟩
theorem ev_chain {r r' : R2} {k : Bool} {k' : Bool} (ha : Ev ta σ H x) (hb : Ev tb σ H y) (hr : RV r x y H (.bl k)) (hc : k = true → ∃ z, Ev tc σ H z ∧ RV r' y z H (.bl k')) : Ev (tChain r r' ta tb tc) σ H (.bl (k && k')) := fun H1 e Q q =>
  ha H1 e _ fun H2 e2 => hb H2 (e.trans e2) _ fun H3 e3 => hr H3 ((e.trans e2).trans e3) _ fun H4 e4 => ⟨k, rfl, by
    cases k with
    | true =>
      obtain ⟨z, h1, h2⟩ := hc rfl
      exact h1 H4 (((e.trans e2).trans e3).trans e4) _ fun H5 e5 => h2 H5 ((((e.trans e2).trans e3).trans e4).trans e5) _ fun H6 e6 => q H6 ((((e2.trans e3).trans e4).trans e5).trans e6)
    | false => exact q H4 ((e2.trans e3).trans e4)⟩
theorem ev_chainI {C C' : Int → Int → Bool} {i j l : Int} (ha : Ev ta σ H (.int i)) (hb : Ev tb σ H (.int j)) (hc : Ev tc σ H (.int l)) :
    Ev (tChain (rI0 fun i j => .bl (C i j)) (rI0 fun i j => .bl (C' i j)) ta tb tc) σ H (.bl (C i j && C' j l)) := ev_chain ha hb rv_I0 fun _ => ⟨_, hc, rv_I0⟩
theorem ev_chain3I {C C' C'' : Int → Int → Bool} {i j l m : Int} (ha : Ev ta σ H (.int i)) (hb : Ev tb σ H (.int j)) (hc : Ev tc σ H (.int l)) (hd : Ev td σ H (.int m)) :
    Ev (tChain3 (rI0 fun i j => .bl (C i j)) (rI0 fun i j => .bl (C' i j)) (rI0 fun i j => .bl (C'' i j)) ta tb tc td) σ H (.bl (C i j && (C' j l && C'' l m))) := fun H1 e Q q =>
  ha H1 e _ fun H2 e2 => hb H2 (e.trans e2) _ fun H3 e3 => ⟨i, j, rfl, rfl, C i j, rfl, by
    have e23 := e2.trans e3
    generalize C i j = k1 at q ⊢
    cases k1 with
    | false => exact q H3 e23
    | true =>
      refine hc H3 (e.trans e23) _ fun H4 e4 => ⟨j, l, rfl, rfl, C' j l, rfl, ?_⟩
      generalize C' j l = k2 at q ⊢
      cases k2 with
      | false => exact q H4 (e23.trans e4)
      | true => exact hd H4 ((e.trans e23).trans e4) _ fun H5 e5 => ⟨l, m, rfl, rfl, q H5 ((e23.trans e4).trans e5)⟩⟩
theorem rv_eqTy {m n : String} (hm : Meta m) (hn : Meta n) : RV rEqTy (.ty m) (.ty n) H (.bl (decide (m = n))) := fun H1 _ _ q => ⟨m, n, rfl, rfl, hm, hn, q H1 (Ex.refl H1)⟩
theorem ev_typeI (h : Ev ta σ H (.int i)) : Ev (tThenZ ta kTyp) σ H (.ty "int") := fun H1 e Q q => h H1 e _ fun H2 e2 => ⟨"int", rfl, q H2 e2⟩
/-- a tuple that was made is read as two names -/
theorem s_tup2 {D : Ends} {i j : Nat} {p : Addr} (ha : Ev ta σ H (.ref p)) (hp : SqT K H p [x, y]) (k : ∀ H1, Ex H H1 → D.nx ((σ.set i (some x)).set j (some y)) H1) : tAsg ta (gTup K 2 (gCons (gName i) (gCons (gName j) gNil))) D σ H :=
  ha H (Ex.refl H) _ fun H1 e => ⟨p, [x, y], rfl, ex_t e hp, rfl, x, [y], rfl, y, [], rfl, rfl, k H1 e⟩
end
/-- a new tuple that is handed back -/
def RetU (xs : List V) (H : Hp) (Q : VK) : Prop := ∀ p H2, H p = none → Ex H H2 → H2 p = some (.tup xs) → Q (.ref p) H2
def SpU (sp : Sp) (vs : List V) (H : Hp) (xs : List V) : Prop := ∀ H1, Ex H H1 → ∀ Q : VK, (∀ p H2, H1 p = none → Ex H1 H2 → H2 p = some (.tup xs) → Q (.ref p) H2) → ∀ E : XK, sp vs H1 Q E
section
variable {K : PySem.W.Frag} {σ : L2.St} {H : Hp}
theorem eu_call {sp : Sp} {dvs vs xs : List V} {E : XK} {ta : TA} (h : EvA ta σ H vs) (hs : SpU sp (vs ++ dvs) H xs) : EvU (tCall sp dvs E ta) σ H xs := fun H1 e Q q =>
  h H1 e _ fun H2 e2 => hs H2 (e.trans e2) Q (fun p H3 hp e3 h3 => q p H3 (fresh_back e2 hp) (e2.trans e3) h3) E
/-- a, b = f(..), f's answer a new tuple -/
theorem s_tup2U {te : TE} {D : Ends} {i j : Nat} {x y : V} (ha : EvU te σ H [x, y]) (k : ∀ H1, Ex H H1 → D.nx ((σ.set i (some x)).set j (some y)) H1) : tAsg te (gTup K 2 (gCons (gName i) (gCons (gName j) gNil))) D σ H :=
  ha H (Ex.refl H) _ fun p H1 _ e h1 => ⟨p, [x, y], rfl, st_of h1, rfl, x, [y], rfl, y, [], rfl, rfl, k H1 e⟩
theorem q_tup2U {te : TE} {tz : TS} {D : Ends} {i j : Nat} {x y : V} (ha : EvU te σ H [x, y]) (k : ∀ H1, Ex H H1 → tz D ((σ.set i (some x)).set j (some y)) H1) : tSeq (tAsg te (gTup K 2 (gCons (gName i) (gCons (gName j) gNil)))) tz D σ H := s_tup2U (D := { D with nx := tz D }) ha k
theorem q_tup2 {ta : TE} {tz : TS} {D : Ends} {i j : Nat} {p : Addr} {x y : V} (ha : Ev ta σ H (.ref p)) (hp : SqT K H p [x, y]) (k : ∀ H1, Ex H H1 → tz D ((σ.set i (some x)).set j (some y)) H1) : tSeq (tAsg ta (gTup K 2 (gCons (gName i) (gCons (gName j) gNil)))) tz D σ H := s_tup2 (D := { D with nx := tz D }) ha hp k
/-- a, b = x, y -/
theorem s_par {ta : TA} {D : Ends} {i j : Nat} {x y : V} (ha : EvA ta σ H [x, y]) (k : ∀ H1, Ex H H1 → D.nx ((σ.set i (some x)).set j (some y)) H1) : tPar i j ta D σ H := ha H (Ex.refl H) _ fun H1 e => ⟨x, y, rfl, k H1 e⟩
theorem q_par {ta : TA} {tz : TS} {D : Ends} {i j : Nat} {x y : V} (ha : EvA ta σ H [x, y]) (k : ∀ H1, Ex H H1 → tz D ((σ.set i (some x)).set j (some y)) H1) : tSeq (tPar i j ta) tz D σ H := s_par (D := { D with nx := tz D }) ha k
end
theorem natAbs_pow_le {b : Int} {k : Nat} (h : b.natAbs < 2 ^ k) (n : Nat) : (b ^ n).natAbs ≤ 2 ^ (k * n) := by
  rw [Int.natAbs_pow, Nat.pow_mul]
  exact Nat.pow_le_pow_left (Nat.le_of_lt h) n
theorem lt_of_le2 {x k : Nat} (h : x ≤ 2 ^ k) : x < 2 ^ (k + 1) := Nat.lt_of_le_of_lt h (Nat.pow_lt_pow_right (by decide) (Nat.lt_succ_self k))
theorem lt2_mono {x k m : Nat} (h : x < 2 ^ k) (e : k ≤ m) : x < 2 ^ m := Nat.lt_of_lt_of_le h (Nat.pow_le_pow_right (by decide) e)
theorem natAbs_mul_lt {a b : Int} {k m : Nat} (ha : a.natAbs < 2 ^ k) (hb : b.natAbs < 2 ^ m) : (a * b).natAbs < 2 ^ (k + m) := wide_lt ha hb
/-! comprehensions -/
section
variable {K : PySem.W.Frag} {σ : L2.St} {H : Hp} {te tl : TE} {t : TT}
theorem et_yes : EvT tYes σ H true := fun H1 _ _ q => q H1 (Ex.refl H1)
theorem given_map {xs : List V} {F : V → V} : given xs.length (fun _ => true) (fun i => F (xs.getD i .non)) = xs.map F := by
  unfold given
  rw [List.filter_eq_self.mpr (fun _ _ => rfl)]
  refine List.ext_getElem (by simp) fun i h1 h2 => ?_
  simp at h1
  simp [h1]
/-- [e for x in xs] -/
theorem el_map {a : Addr} {xs : List V} {j : Nat} {vs : List Nat} (F : V → V) (h : Ev tl σ H (.ref a)) (hx : SqL K H a xs) (hz : xs.length ≤ 40000) (hw : ∀ x, wipe ((wipe σ vs).set j (some x)) vs = wipe σ vs)
    (he : ∀ (i : Nat) (x : V) H1, Ex H H1 → xs[i]? = some x → Ev te ((wipe σ vs).set j (some x)) H1 (F x)) : EvL (tLc (iList K tl) (gName j) tYes te vs) σ H (xs.map F) := by
  rw [← given_map]
  refine el_lcL _ _ h hx hz hw (fun _ _ _ _ _ => et_yes) fun i x H1 e hi _ => ?_
  have q := he i x H1 e hi
  have g : xs.getD i .non = x := by rw [List.getD_eq_getElem?_getD, hi] <;> rfl
  show Ev _ _ _ (F (xs.getD i .non))
  rw [g]
  exact q
theorem el_mapN {xs : List V} {j : Nat} {vs : List Nat} (F : V → V) (h : EvL tl σ H xs) (hz : xs.length ≤ 40000) (hw : ∀ x, wipe ((wipe σ vs).set j (some x)) vs = wipe σ vs)
    (he : ∀ (i : Nat) (x : V) H1, Ex H H1 → xs[i]? = some x → Ev te ((wipe σ vs).set j (some x)) H1 (F x)) : EvL (tLc (iList K tl) (gName j) tYes te vs) σ H (xs.map F) := by
  rw [← given_map]
  refine el_lcNL _ _ h hz hw (fun _ _ _ _ _ => et_yes) fun i x H1 e hi _ => ?_
  have q := he i x H1 e hi
  have g : xs.getD i .non = x := by rw [List.getD_eq_getElem?_getD, hi] <;> rfl
  show Ev _ _ _ (F (xs.getD i .non))
  rw [g]
  exact q
/-- [e for x in range(lo, hi) if t] -/
theorem el_lcR2 {ta : TA} {j : Nat} {vs : List Nat} {lo n : Int} (f : Nat → Bool) (v : Nat → V) (h : EvA ta σ H [.int lo, .int n]) (hn : 0 ≤ lo ∧ lo ≤ 40000 ∧ -40000 ≤ n ∧ n ≤ 40000) (hw : ∀ x, wipe ((wipe σ vs).set j (some x)) vs = wipe σ vs)
    (ht : ∀ (i : Nat) H1, Ex H H1 → lo + (i : Int) < n → EvT t ((wipe σ vs).set j (some (.int (lo + (i : Int))))) H1 (f i)) (he : ∀ (i : Nat) H1, Ex H H1 → lo + (i : Int) < n → f i = true → Ev te ((wipe σ vs).set j (some (.int (lo + (i : Int))))) H1 (v i)) :
    EvL (tLc (iRng2 ta) (gName j) t te vs) σ H (given (n - lo).toNat f v) := fun H0 e Q q => h H0 e _ fun H1 e1 => ⟨lo, n, rfl, ⟨by omega, by omega, by omega, by omega⟩, fun Dl hD =>
  lc_range (lo := lo) (n := (n - lo).toNat) (Cw H1 f v Dl) ⟨hD, Ex.new hD, upd_same⟩ (fun i H' hi p =>
    ⟨hw _, cw_turn p (by omega) (ht i H1 (e.trans e1) (by omega)) (fun hf => he i H1 (e.trans e1) (by omega) hf)⟩) (fun H' p => q Dl H' (fresh_back e1 p.1) (e1.trans p.2.1) p.2.2)⟩
theorem given_none {n : Nat} {f : Nat → Bool} {v : Nat → V} (h : ∀ i, i < n → f i = false) : given n f v = [] := by
  unfold given
  rw [List.filter_eq_nil_iff.mpr (fun i hi => by simp [h i (List.mem_range.mp hi)])]
  rfl
/-- xs + ys, both new -/
theorem el_cat {ta tb : TE} {xs ys : List V} (ha : EvL ta σ H xs) (hb : EvL tb σ H ys) (hl : xs.length + ys.length ≤ 100000) : EvL (tOp rCat ta tb) σ H (xs ++ ys) := fun H1 e Q q =>
  ha H1 e _ fun p H2 hp e2 h2 => hb H2 (e.trans e2) _ fun p' H3 hp' e3 h3 =>
    ⟨p, p', xs, ys, rfl, rfl, e3 p _ h2, h3, sz_of hl, fun l hl' => q l _ (fresh_back (e2.trans e3) hl') ((e2.trans e3).trans (Ex.new hl')) upd_same⟩
/-- [e for x, y in zip(xs, ys)] -/
theorem el_zip {ta : TA} {i j : Nat} {vs : List Nat} {a b : Addr} {xs ys : List V} (F : V → V → V) (h : EvA ta σ H [.ref a, .ref b]) (hx : SqL K H a xs) (hy : SqL K H b ys) (hl : xs.length = ys.length) (hz : xs.length ≤ 40000)
    (hw : ∀ x y, wipe (((wipe σ vs).set i (some x)).set j (some y)) vs = wipe σ vs)
    (he : ∀ (n : Nat) x y H1, Ex H H1 → xs[n]? = some x → ys[n]? = some y → Ev te (((wipe σ vs).set i (some x)).set j (some y)) H1 (F x y)) :
    EvL (tLc (iZip K ta) (gTup K 2 (gCons (gName i) (gCons (gName j) gNil))) tYes te vs) σ H (List.zipWith F xs ys) := fun H0 e Q q => h H0 e _ fun H1 e1 => ⟨a, b, xs, ys, rfl, ex_l (e.trans e1) hx, ex_l (e.trans e1) hy, fun Dl hD => by
  refine lc_it (walk_zip (n := xs.length) (by omega)) (fun n H' => Ex H1 H' ∧ H' Dl = some (.lst ((List.zipWith F xs ys).take n))) ⟨Ex.new hD, upd_same⟩ (fun n H' _ p => ⟨ex_l ((e.trans e1).trans p.1) hx, ex_l ((e.trans e1).trans p.1) hy⟩) ?_ fun H' p => ?_
  · rintro n v Hh H' hn ⟨p1, p2⟩ ⟨T, x, y, rfl, nT, rfl, g1, g2⟩
    have eT : Ex Hh (upd Hh T (.tup [x, y])) := Ex.new nT
    refine ⟨T, [x, y], rfl, st_of upd_same, rfl, x, [y], rfl, y, [], rfl, rfl, hw x y, ?_⟩
    show te _ _ _
    refine he n x y H1 (e.trans e1) g1 g2 _ (p1.trans eT) _ fun H4 e4 => ?_
    have k2 := e4 Dl _ (eT Dl _ p2)
    refine ⟨_, k2, sz_lt (by rw [List.length_take]; omega), Ex.mut (p1.trans (eT.trans e4)) hD, ?_⟩
    rw [upd_same]
    have gz : (List.zipWith F xs ys)[n]? = some (F x y) := by
      rw [List.getElem?_zipWith, show xs[n]? = some x from g1, show ys[n]? = some y from g2]
    rw [List.take_add_one, gz]
    rfl
  · obtain ⟨p1, p2⟩ := p
    rw [List.take_of_length_le (by rw [List.length_zipWith]; omega)] at p2
    exact q Dl H' (fresh_back e1 hD) (e1.trans p1) p2⟩
theorem ev_gcd {ta tb : TE} {a b : Int} (ha : Ev ta σ H (.int a)) (hb : Ev tb σ H (.int b)) : Ev (tCB rGcd (tCons ta (tCons tb tNil))) σ H (.int ((Nat.gcd a.natAbs b.natAbs : Nat) : Int)) := fun H1 e Q q =>
  ha H1 e _ fun H2 e2 => hb H2 (e.trans e2) _ fun H3 e3 => ⟨a, b, rfl, q H3 (e2.trans e3)⟩
end
/-! data, compared by == -/
section
variable {K : PySem.W.Frag} {σ : L2.St} {H H' : Hp}
mutual
theorem Dp.ex (e : Ex H H') : ∀ (d : PyData) (v : V), Dp K H v d → Dp K H' v d
  | .none, _, h => by cases h; exact .non
  | .bool _, _, h => by cases h; exact .bl _
  | .int _, _, h => by cases h; exact .int _
  | .str _, _, h => by cases h; exact .str _
  | .list ds, _, h => by
    cases h with
    | lst hs ha => exact .lst (ex_l e hs) (DpAll.ex e ds _ ha)
  | .tuple ds, _, h => by
    cases h with
    | tup hs ha => exact .tup (ex_t e hs) (DpAll.ex e ds _ ha)
  | .dict _, _, h => by cases h
theorem DpAll.ex (e : Ex H H') : ∀ (ds : List PyData) (vs : List V), DpAll K H vs ds → DpAll K H' vs ds
  | [], _, h => by cases h; exact .nil
  | d :: ds, _, h => by
    cases h with
    | cons h1 h2 => exact .cons (Dp.ex e d _ h1) (DpAll.ex e ds _ h2)
end
theorem DpAll.len : ∀ {ds : List PyData} {vs : List V}, DpAll K H vs ds → vs.length = ds.length
  | [], _, h => by cases h; rfl
  | d :: ds, _, h => by
    cases h with
    | cons h1 h2 => simp [DpAll.len h2]
def EvD (K : PySem.W.Frag) (te : TE) (σ : L2.St) (H : Hp) (d : PyData) : Prop := ∀ H1, Ex H H1 → ∀ Q : VK, (∀ v H2, Ex H1 H2 → Dp K H2 v d → Q v H2) → te σ H1 Q
def EvDA (K : PySem.W.Frag) (ta : TA) (σ : L2.St) (H : Hp) (ds : List PyData) : Prop := ∀ H1, Ex H H1 → ∀ Q : List V → Hp → Prop, (∀ vs H2, Ex H1 H2 → DpAll K H2 vs ds → Q vs H2) → ta σ H1 Q
variable {te ta tb : TE} {d e : PyData} {ds : List PyData}
theorem ed_of {v : V} (h : Ev te σ H v) (k : Dp K H v d) : EvD K te σ H d := fun H1 e1 Q q => h H1 e1 Q fun H2 e2 => q v H2 e2 (Dp.ex (e1.trans e2) d v k)
theorem ed_int {i : Int} (h : Ev te σ H (.int i)) : EvD K te σ H (.int i) := ed_of h (.int i)
theorem ed_bl {i : Bool} (h : Ev te σ H (.bl i)) : EvD K te σ H (.bool i) := ed_of h (.bl i)
theorem ed_non (h : Ev te σ H .non) : EvD K te σ H .none := ed_of h .non
theorem ed_str {i : Str} (h : Ev te σ H (.str i)) : EvD K te σ H (.str i) := ed_of h (.str i)
theorem eda_nil : EvDA K tNil σ H [] := fun H1 _ _ q => q [] H1 (Ex.refl H1) .nil
theorem eda_cons {tr : TA} (h : EvD K te σ H d) (hr : EvDA K tr σ H ds) : EvDA K (tCons te tr) σ H (d :: ds) := fun H1 e _ q =>
  h H1 e _ fun v H2 e2 dv => hr H2 (e.trans e2) _ fun vs H3 e3 dvs => q (v :: vs) H3 (e2.trans e3) (.cons (Dp.ex e3 d v dv) dvs)
theorem ed_lst {t : TA} (h : EvDA K t σ H ds) (hl : ds.length ≤ 100000) : EvD K (tLst t) σ H (.list ds) := fun H1 e _ q =>
  h H1 e _ fun vs H2 e2 dv => ⟨sz_of (by rw [DpAll.len dv]; exact hl), fun p hp => q _ _ (e2.trans (Ex.new hp)) (.lst (sq_of upd_same) (DpAll.ex (Ex.new hp) ds vs dv))⟩
theorem ed_tup {t : TA} (h : EvDA K t σ H ds) (hl : ds.length ≤ 100000) : EvD K (tTup t) σ H (.tuple ds) := fun H1 e _ q =>
  h H1 e _ fun vs H2 e2 dv => ⟨sz_of (by rw [DpAll.len dv]; exact hl), fun p hp => q _ _ (e2.trans (Ex.new hp)) (.tup (st_of upd_same) (DpAll.ex (Ex.new hp) ds vs dv))⟩
theorem ed_ofL {xs : List V} (h : EvL te σ H xs) (k : DpAll K H xs ds) : EvD K te σ H (.list ds) := fun H1 e1 Q q => h H1 e1 Q fun p H2 _ e2 h2 => q _ H2 e2 (.lst (sq_of h2) (DpAll.ex (e1.trans e2) ds xs k))
theorem ed_ofU {xs : List V} (h : EvU te σ H xs) (k : DpAll K H xs ds) : EvD K te σ H (.tuple ds) := fun H1 e1 Q q => h H1 e1 Q fun p H2 _ e2 h2 => q _ H2 e2 (.tup (st_of h2) (DpAll.ex (e1.trans e2) ds xs k))
theorem dpa_ints : ∀ ns : List Int, DpAll K H (ns.map V.int) (ns.map PyData.int)
  | [] => .nil
  | n :: r => .cons (.int n) (dpa_ints r)
theorem ev_eqD (ha : EvD K ta σ H d) (hb : EvD K tb σ H e) (sd : SeqAt.shaped d = true) (se : SeqAt.shaped e = true) : Ev (tOp (rEqD K) ta tb) σ H (.bl (PyData.eqv d e)) := fun H1 e1 Q q =>
  ha H1 e1 _ fun v H2 e2 dv => hb H2 (e1.trans e2) _ fun u H3 e3 du => ⟨d, e, Dp.ex e3 d v dv, du, sd, se, q H3 (e2.trans e3)⟩
theorem ev_neD (ha : EvD K ta σ H d) (hb : EvD K tb σ H e) (sd : SeqAt.shaped d = true) (se : SeqAt.shaped e = true) : Ev (tOp (rNeD K) ta tb) σ H (.bl (!PyData.eqv d e)) := fun H1 e1 Q q =>
  ha H1 e1 _ fun v H2 e2 dv => hb H2 (e1.trans e2) _ fun u H3 e3 du => ⟨d, e, Dp.ex e3 d v dv, du, sd, se, q H3 (e2.trans e3)⟩
theorem shaped_ints : ∀ ns : List Int, SeqAt.shaped (.list (ns.map PyData.int)) = true := fun ns => by
  have h1 : ∀ ms : List Int, PyData.canLayAll0 (ms.map PyData.int) = true := fun ms => by
    induction ms with
    | nil => rfl
    | cons m r ih => simp [PyData.canLayAll0, PyData.canLay0, ih]
  have h2 : ∀ ms : List Int, PyData.depthAll (ms.map PyData.int) = 0 := fun ms => by
    induction ms with
    | nil => rfl
    | cons m r ih => simp [PyData.depthAll, PyData.depth, ih]
  simp [SeqAt.shaped, PyData.canLay0, h1, PyData.depth, h2]
theorem eqv_same {d : PyData} (h : SeqAt.shaped d = true) : PyData.eqv d d = true := by
  have h1 : PyData.canLay0 d = true := (Bool.and_eq_true_iff.mp h).1
  first
    | exact PySem.P3.eqv_refl d h1
    | exact PyData.eqv_refl d h1
    | exact PySem.SeqAt.eqv_refl d h1
/-- f(k = v): a new tuple back -/
theorem eu_callK {sp : Sp} {gV : List V → List V → List V} {E : XK} {t tk : TA} {vs zs xs : List V} (h : EvA t σ H vs) (hk : EvA tk σ H zs) (hs : SpU sp (gV vs zs) H xs) : EvU (tCallK sp gV E t tk) σ H xs := fun H1 e Q q =>
  h H1 e _ fun H2 e2 => hk H2 (e.trans e2) _ fun H3 e3 => hs H3 ((e.trans e2).trans e3) Q (fun p H4 hp e4 h4 => q p H4 (fresh_back (e2.trans e3) hp) ((e2.trans e3).trans e4) h4) E
theorem ev_callK {sp : Sp} {gV : List V → List V → List V} {E : XK} {t tk : TA} {vs zs : List V} {z : V} (h : EvA t σ H vs) (hk : EvA tk σ H zs) (hs : SpV sp (gV vs zs) H z) : Ev (tCallK sp gV E t tk) σ H z := fun H1 e Q q =>
  h H1 e _ fun H2 e2 => hk H2 (e.trans e2) _ fun H3 e3 => hs H3 ((e.trans e2).trans e3) Q (fun H4 e4 => q H4 ((e2.trans e3).trans e4)) E
/-- isinstance(x, tuple) of a tuple; len of a tuple -/
theorem ev_isT {p : Addr} {xs : List V} {n : String} {b : Bool} (h : Ev ta σ H (.ref p)) (hp : H p = some (.tup xs)) (hk : PySem.W.kitOne K (.type "tuple") (.type n) = some b) : Ev (tCB (rIsi K) (tCons ta (tCons (tC (.ty n)) tNil))) σ H (.bl b) := fun H1 e Q q =>
  h H1 e _ fun H2 e2 => ⟨.ref p, .ty n, .type "tuple", .type n, b, rfl, .ty n, .base (.tup (e2 p _ (e p _ hp))), hk, q H2 e2⟩
theorem ev_lenT {p : Addr} {xs : List V} (ha : Ev ta σ H (.ref p)) (h : SqT K H p xs) : Ev (tCB (rLenS K) (tCons ta tNil)) σ H (.int (xs.length : Int)) := fun H1 e Q q =>
  ha H1 e _ fun H2 e2 => ⟨p, xs, rfl, Or.inr (ex_t (e.trans e2) h), q H2 e2⟩
/-- list(range(a, b)) -/
theorem el_rg2 {a b : Int} (ha : Ev ta σ H (.int a)) (hb : Ev tb σ H (.int b)) (h : RgOk a b) : EvL (tLstRg (tRg2 ta tb)) σ H (rgV a b) := fun H1 e Q q =>
  ha H1 e _ fun H2 e2 => hb H2 (e.trans e2) _ fun H3 e3 => ⟨a, b, rfl, rfl, h, fun p hp => q p _ (fresh_back (e2.trans e3) hp) ((e2.trans e3).trans (Ex.new hp)) upd_same⟩
theorem el_rg1 {b : Int} (hb : Ev tb σ H (.int b)) (h : RgOk 0 b) : EvL (tLstRg (tRg1 tb)) σ H (rgV 0 b) := fun H1 e Q q =>
  hb H1 e _ fun H3 e3 => ⟨b, rfl, h, fun p hp => q p _ (fresh_back e3 hp) (e3.trans (Ex.new hp)) upd_same⟩
end
/-! more statements -/
section
variable {K : PySem.W.Frag} {σ : L2.St} {H H' : Hp} {te tl : TE} {t : TT} {D : Ends} {tu tz : TS} {g : TG}
/-- a comprehension over range(lo, n) that keeps nothing -/
theorem el_noneR2 {ta : TA} {j : Nat} {vs : List Nat} {lo n : Int} (h : EvA ta σ H [.int lo, .int n]) (hn : 0 ≤ lo ∧ lo ≤ 40000 ∧ -40000 ≤ n ∧ n ≤ 40000) (hw : ∀ x, wipe ((wipe σ vs).set j (some x)) vs = wipe σ vs)
    (ht : ∀ (i : Nat) H1, Ex H H1 → lo + (i : Int) < n → EvT t ((wipe σ vs).set j (some (.int (lo + (i : Int))))) H1 false) : EvL (tLc (iRng2 ta) (gName j) t te vs) σ H [] := by
  have q := el_lcR2 (te := te) (fun _ => false) (fun _ => .non) h hn hw ht (fun _ _ _ _ hf => Bool.noConfusion hf)
  rw [given_none (fun _ _ => rfl)] at q
  exact q
/-- a for over a new tuple -/
theorem s_forNU {xs : List V} (h : EvU tl σ H xs) (Pv : Addr → Nat → L2.St → Hp → Prop) (h0 : ∀ p H1, H p = none → Ex H H1 → H1 p = some (.tup xs) → Pv p 0 σ H1) (hl : ∀ p i σ' H', i ≤ xs.length → Pv p i σ' H' → SqT K H' p xs)
    (hs : ∀ p i x σ' H', xs[i]? = some x → Pv p i σ' H' → g x σ' H' fun σ2 H2 => tu { D with nx := Pv p (i + 1), ct := Pv p (i + 1), bk := D.nx } σ2 H2) (hd : ∀ p σ' H', Pv p xs.length σ' H' → D.nx σ' H') : tFor (iTup K tl) g tu D σ H :=
  h H (Ex.refl H) _ fun p H1 hp e h1 => ⟨p, rfl, ⟨xs, st_of h1⟩, for_tup (Pv p) (h0 p H1 hp e h1) (hl p) (hs p) (hd p)⟩
theorem q_forNU {xs : List V} (h : EvU tl σ H xs) (Pv : Addr → Nat → L2.St → Hp → Prop) (h0 : ∀ p H1, H p = none → Ex H H1 → H1 p = some (.tup xs) → Pv p 0 σ H1) (hl : ∀ p i σ' H', i ≤ xs.length → Pv p i σ' H' → SqT K H' p xs)
    (hs : ∀ p i x σ' H', xs[i]? = some x → Pv p i σ' H' → g x σ' H' fun σ2 H2 => tu { D with nx := Pv p (i + 1), ct := Pv p (i + 1), bk := tz D } σ2 H2) (hd : ∀ p σ' H', Pv p xs.length σ' H' → tz D σ' H') : tSeq (tFor (iTup K tl) g tu) tz D σ H :=
  s_forNU (D := { D with nx := tz D }) h Pv h0 hl hs hd
theorem s_asgD {i : Nat} {d : PyData} (h : EvD K te σ H d) (k : ∀ v H1, Ex H H1 → Dp K H1 v d → D.nx (σ.set i (some v)) H1) : tAsg te (gName i) D σ H := h H (Ex.refl H) _ fun v H1 e dv => k v H1 e dv
theorem q_asgD {i : Nat} {d : PyData} (h : EvD K te σ H d) (k : ∀ v H1, Ex H H1 → Dp K H1 v d → tz D (σ.set i (some v)) H1) : tSeq (tAsg te (gName i)) tz D σ H := s_asgD (D := { D with nx := tz D }) h k
end
end Kit

set_option Elab.async false
set_option linter.all false
set_option maxRecDepth 100000
set_option maxHeartbeats 4000000
namespace Kit
open PySem PySem.Spec PyProof.Rows L2 Evl
theorem slot_type_ne : Slot "type" (cmpInfo .NotEq).2.1 "object.__ne__" :=
  .of (owner := "object") (n := "__ne__") (by rw [typeLookup_type, builtinLookup_eq_fast]; kernel_rfl) (by decide +kernel) (by decide +kernel) (by decide +kernel)
    (by first | exact .inl (by decide +kernel) | exact .inr (by decide +kernel)) (by rw [isSubtype_type]; kernel_rfl)
theorem slot_type_eqN : Slot "type" "__eq__" "object.__eq__" :=
  .of (owner := "object") (n := "__eq__") (by rw [typeLookup_type, builtinLookup_eq_fast]; kernel_rfl) (by decide +kernel) (by decide +kernel) (by decide +kernel)
    (by first | exact .inl (by decide +kernel) | exact .inr (by decide +kernel)) (by rw [isSubtype_type]; kernel_rfl)
section
variable {prog : Program} {w : World} {A : Around} {E : Value → Shared → Prop} {s : Shared} {Q : Value → Shared → Prop}
theorem ne_type_same {X : String} (hX : ∀ s' : Shared, s'.TypeIs (.type X) "type") (hu : A.units + 1 < cLine) (h : Q (.bool false) s) : wpAny (model prog w) A (compareOp .NotEq (.type X) (.type X)) Q E s := by
  show wpAny _ A (richCompare .NotEq _ _) Q E s
  refine wpAny_richCompare_same (T := "type") (hX s) (hX s) slot_type_ne ?_
  refine wpAny_call_entry slot_type_ne (hX s) PySem.F.cmpEntry_ne ?_ (PySem.F.cmpArgs_ne _ _)
  unfold Builtin.«object.__ne__»
  have key : wpAny (model prog w) A.in1 (call (.builtin "object.__eq__") [.type X, .type X]) (fun v s' => v = .bool true ∧ s' = s) E s :=
    call_gives slot_type_eqN (hX s) F.entry_object_eq (F.args_object_eq_2 _ _) (PySem.TypeEq.object_eq_same rfl (by simp)) ⟨rfl, rfl⟩
  repeat (first
    | with_reducible refine wpAny_cRoomFor (by show A.units + 1 < cLine; exact hu) ?_
    | (refine wpAny_bind (m := callSpecialIfBound? (.type X) (Str.ofString "__eq__") [.type X])
        (wpAny_callSpecialIfBound?_slot (hX _) slot_type_eqN (wpAny_mono key (fun r s' hr => by
          obtain ⟨rfl, rfl⟩ := hr
          have hq : Q (.bool false) s' := h
          repeat (first | exact ⟨_, rfl, (by intro e; cases e), hq⟩ | exact wpAny_pure ⟨_, rfl, (by intro e; cases e), hq⟩ | (refine wpAny_bind (m := truthy (.bool _)) (wpAny_truthy_bool ?_)) | wp_step)) fun _ _ e => e)))
    | wp_step)
end
end Kit

set_option Elab.async false
set_option linter.all false
set_option maxRecDepth 100000
set_option maxHeartbeats 4000000
namespace Kit
open PySem PySem.Spec PyProof.Rows L2 Evl
section
variable {X : Cx}
def rNeTyS : R2 := fun x y H Q => ∃ m, x = .ty m ∧ y = .ty m ∧ Meta m ∧ Q (.bl false) H
theorem op_neTyS (hu : X.A.units + 1 < cLine) : OpR X (compareOp .NotEq) rNeTyS := by
  intro pins s σ H x y v u Q I rx ry h
  obtain ⟨m, rfl, rfl, hm, q⟩ := h
  cases (show v = Value.type m from rx)
  cases (show u = Value.type m from ry)
  exact ne_type_same hm hu ⟨.bl false, H, I, rfl, q⟩
/-- min of a tuple of ints -/
def rMinT (K : PySem.W.Frag) : List V → Hp → VK → Prop := fun vs H Q => ∃ (a : Addr) (n : Int) (ns : List Int), vs = [V.ref a] ∧ SqT K H a ((n :: ns).map V.int) ∧ Q (.int (ns.foldl min n)) H
theorem alike_ints (ns : List Int) : PySem.W.AlikeAll (ns.map PyData.int) := by
  refine ⟨fun x hx y hy => ?_, fun x hx => ?_⟩
  · obtain ⟨a, _, rfl⟩ := List.mem_map.mp hx
    obtain ⟨b, _, rfl⟩ := List.mem_map.mp hy
    rfl
  · obtain ⟨a, _, rfl⟩ := List.mem_map.mp hx
    exact fun z => by cases z
theorem depth_ints : ∀ ms : List Int, PyData.depthAll (ms.map PyData.int) = 0
  | [] => rfl
  | m :: r => by simp [PyData.depthAll, PyData.depth, depth_ints r]
theorem cr_minT (hc : X.calm = true) (hu : X.A.units + 1 < cLine) : CallR X (.builtin "min") (rMinT X.K) := by
  intro pins s σ H vs us Q I r h
  obtain ⟨a, n, ns, rfl, hs, q⟩ := h
  obtain ⟨its, rv, hl, _⟩ := I.tuple hs
  rw [Vals.ref1 r]
  obtain ⟨as, rd⟩ := Dp.readsAll I (PyData.int n :: ns.map PyData.int) _ its (dpa_ints (n :: ns)) rv
  refine PySem.W.min_tuple_data (I.ok.hd hc) (show s.heap.IsTuple a its.toArray from hl) (by simpa using rd) (alike_ints (n :: ns)) ?_ fun i v h' tk bs hv hr hk => ?_
  · have := depth_ints (n :: ns)
    rw [List.map_cons] at this
    rw [this]
    exact hu
  · rw [PySem.W.minD_ints] at hr
    cases hr with
    | int _ t => exact ⟨.int (ns.foldl min n), H, I.kept (t' := tk) hk, ⟨_, rfl⟩, q⟩
theorem foldl_min_spec : ∀ (ns : List Int) (n : Int), ns.foldl min n ∈ n :: ns ∧ ∀ y ∈ n :: ns, ns.foldl min n ≤ y
  | [], n => ⟨by simp, by simp⟩
  | k :: r, n => by
    obtain ⟨h1, h2⟩ := foldl_min_spec r (min n k)
    refine ⟨?_, fun y hy => ?_⟩
    · rcases List.mem_cons.mp h1 with e | e
      · rw [List.foldl_cons, e]
        rcases Int.le_total n k with h | h
        · rw [Int.min_eq_left h]; simp
        · rw [Int.min_eq_right h]; simp
      · simp [List.foldl_cons, e]
    · have h3 := h2 (min n k) (by simp)
      rw [List.foldl_cons]
      rcases List.mem_cons.mp hy with e | hy
      · omega
      · rcases List.mem_cons.mp hy with e | hy
        · omega
        · exact h2 y (by simp [hy])
end
/-! readings of these -/
section
variable {K : PySem.W.Frag} {σ : L2.St} {H H' : Hp} {ta tb te tl : TE} {D : Ends} {tu tz : TS} {t : TT}
theorem ev_typeL {p : Addr} {xs : List V} (h : Ev ta σ H (.ref p)) (hp : H p = some (.lst xs)) : Ev (tThenZ ta kTyp) σ H (.ty "list") := fun H1 e Q q => h H1 e _ fun H2 e2 => ⟨"list", by
  have := e2 p _ (e p _ hp)
  simp [zTyV, this], q H2 e2⟩
theorem ev_typeT {p : Addr} {xs : List V} (h : Ev ta σ H (.ref p)) (hp : H p = some (.tup xs)) : Ev (tThenZ ta kTyp) σ H (.ty "tuple") := fun H1 e Q q => h H1 e _ fun H2 e2 => ⟨"tuple", by
  have := e2 p _ (e p _ hp)
  simp [zTyV, this], q H2 e2⟩
theorem rv_neTyS {m : String} (hm : Meta m) : RV rNeTyS (.ty m) (.ty m) H (.bl false) := fun H1 _ _ q => ⟨m, rfl, rfl, hm, q H1 (Ex.refl H1)⟩
theorem ev_sumN {ns : List Int} (h : EvL ta σ H (ns.map V.int)) : Ev (tCB (rSum K) (tCons ta tNil)) σ H (.int ns.sum) := fun H1 e Q q => h H1 e _ fun p H2 _ e2 h2 => ⟨p, ns, rfl, sq_of h2, q H2 e2⟩
theorem ev_allN {bs : List Bool} (h : EvL ta σ H (bs.map V.bl)) : Ev (tCB (rAll K) (tCons ta tNil)) σ H (.bl (bs.all id)) := fun H1 e Q q => h H1 e _ fun p H2 _ e2 h2 => ⟨p, bs, rfl, sq_of h2, q H2 e2⟩
theorem ev_minT {p : Addr} {n : Int} {ns : List Int} (h : Ev ta σ H (.ref p)) (hp : SqT K H p ((n :: ns).map V.int)) : Ev (tCB (rMinT K) (tCons ta tNil)) σ H (.int (ns.foldl min n)) := fun H1 e Q q => h H1 e _ fun H2 e2 => ⟨p, n, ns, rfl, ex_t (e.trans e2) hp, q H2 e2⟩
/-- sorted(xs), told by what it is -/
theorem ed_sorted {p : Addr} {ns ms : List Int} (h : Ev ta σ H (.ref p)) (hp : SqL K H p (ns.map V.int)) (hl : ns.length < 64) (hm : ms.Perm ns) (hs : ms.Pairwise (· ≤ ·)) : EvD K (tCB (rSorted K) (tCons ta tNil)) σ H (.list (ms.map PyData.int)) := fun H1 e Q q => h H1 e _ fun H2 e2 =>
  ⟨p, ns, rfl, ex_l (e.trans e2) hp, hl, fun ns' l pm so new => by
    have eq : ns' = ms := by
      exact List.Perm.eq_of_pairwise (le := fun a b : Int => a ≤ b) (fun a b _ _ h1 h2 => Int.le_antisymm h1 h2) so hs (pm.trans hm.symm)
    subst eq
    exact q _ _ (e2.trans (Ex.new new)) (.lst (sq_of upd_same) (dpa_ints _))⟩
/-- a new tuple of a list's items -/
theorem eu_tupOf {p : Addr} {xs : List V} (h : Ev ta σ H (.ref p)) (hp : SqL K H p xs) : EvU (tCB (rTupS K) (tCons ta tNil)) σ H xs := fun H1 e Q q => h H1 e _ fun H2 e2 =>
  ⟨p, xs, rfl, ex_l (e.trans e2) hp, fun l hl => q l _ (fresh_back e2 hl) (e2.trans (Ex.new hl)) upd_same⟩
/-- [0] * n -/
theorem el_rep {xs : List V} {k : Int} (ha : EvL ta σ H xs) (hb : Ev tb σ H (.int k)) (h0 : 0 ≤ k) (h1 : k ≤ 1000) (hx : xs.length ≤ 50) : EvL (tOp rRep ta tb) σ H (List.replicate k.toNat xs).flatten := fun H1 e Q q =>
  ha H1 e _ fun p H2 hp e2 h2 => hb H2 (e.trans e2) _ fun H3 e3 => ⟨p, k, xs, rfl, rfl, e3 p _ h2, by omega, by omega, sz_of (by
    have : xs.length * k.toNat ≤ 50 * 1000 := Nat.mul_le_mul hx (by omega)
    omega), fun l hl => q l _ (fresh_back (e2.trans e3) hl) ((e2.trans e3).trans (Ex.new hl)) upd_same⟩
/-- xs[::-1] -/
theorem el_rev {p : Addr} {xs : List V} (h : Ev ta σ H (.ref p)) (hp : SqL K H p xs) : EvL (tRevL K ta) σ H xs.reverse := fun H1 e Q q => h H1 e _ fun H2 e2 =>
  ⟨p, xs, rfl, ex_l (e.trans e2) hp, fun l hl => q l _ (fresh_back e2 hl) (e2.trans (Ex.new hl)) upd_same⟩
theorem el_revN {xs : List V} (h : EvL ta σ H xs) : EvL (tRevL K ta) σ H xs.reverse := fun H1 e Q q => h H1 e _ fun p H2 _ e2 h2 =>
  ⟨p, xs, rfl, sq_of h2, fun l hl => q l _ (fresh_back e2 hl) (e2.trans (Ex.new hl)) upd_same⟩
/-- for i, x in enumerate(xs): the pair is a new tuple -/
theorem s_forEn {ta : TA} {i j : Nat} {a : Addr} {xs : List V} (h : EvA ta σ H [.ref a]) (hx : SqL K H a xs) (Pv : Nat → L2.St → Hp → Prop) (h0 : ∀ H1, Ex H H1 → Pv 0 σ H1) (hl : ∀ n σ' H', n ≤ xs.length → Pv n σ' H' → SqL K H' a xs)
    (hs : ∀ n x σ' H' H2, xs[n]? = some x → Pv n σ' H' → Ex H' H2 → tu { D with nx := Pv (n + 1), ct := Pv (n + 1), bk := D.nx } ((σ'.set i (some (.int (n : Int)))).set j (some x)) H2) (hd : ∀ σ' H', Pv xs.length σ' H' → D.nx σ' H') :
    tFor (iEnum K ta) (gTup K 2 (gCons (gName i) (gCons (gName j) gNil))) tu D σ H := h H (Ex.refl H) _ fun H1 e => ⟨a, xs, rfl, ex_l e hx, by
  refine for_it walk_enum Pv (h0 H1 e) (fun n σ' H' hn p => hl n σ' H' hn p) ?_ hd
  rintro n v σ' Hh H2 hn p ⟨T, x, y, rfl, nT, rfl, g1, g2⟩
  have ex : V.int (n : Nat) = x := Option.some.inj g1
  subst ex
  exact ⟨T, [.int (n : Nat), y], rfl, st_of upd_same, rfl, _, [y], rfl, y, [], rfl, rfl, hs n y σ' Hh _ g2 p (Ex.new nT)⟩⟩
theorem q_forEn {ta : TA} {i j : Nat} {a : Addr} {xs : List V} (h : EvA ta σ H [.ref a]) (hx : SqL K H a xs) (Pv : Nat → L2.St → Hp → Prop) (h0 : ∀ H1, Ex H H1 → Pv 0 σ H1) (hl : ∀ n σ' H', n ≤ xs.length → Pv n σ' H' → SqL K H' a xs)
    (hs : ∀ n x σ' H' H2, xs[n]? = some x → Pv n σ' H' → Ex H' H2 → tu { D with nx := Pv (n + 1), ct := Pv (n + 1), bk := tz D } ((σ'.set i (some (.int (n : Int)))).set j (some x)) H2) (hd : ∀ σ' H', Pv xs.length σ' H' → tz D σ' H') :
    tSeq (tFor (iEnum K ta) (gTup K 2 (gCons (gName i) (gCons (gName j) gNil))) tu) tz D σ H := s_forEn (D := { D with nx := tz D }) h hx Pv h0 hl hs hd
end
end Kit

set_option Elab.async false
set_option linter.all false
set_option maxRecDepth 100000
set_option maxHeartbeats 4000000
namespace Kit
open PySem PySem.Spec PyProof.Rows L2 Evl
/-! ### new lists of new tuples -/
def TL (H : Hp) (vs : List V) (rs : List (List V)) : Prop := Paired (fun v r => ∃ a, v = .ref a ∧ H a = some (.tup r)) vs rs
theorem TL.imp {H H' : Hp} (f : ∀ a r, H a = some (.tup r) → H' a = some (.tup r)) : ∀ {vs : List V} {rs : List (List V)}, TL H vs rs → TL H' vs rs
  | _, _, .nil => .nil
  | _, _, .cons ⟨a, e, h⟩ t => .cons ⟨a, e, f a _ h⟩ (TL.imp f t)
theorem TL.ex {H H' : Hp} {vs : List V} {rs : List (List V)} (e : Ex H H') (h : TL H vs rs) : TL H' vs rs := h.imp fun a r x => e a _ x
theorem TL.upd {H : Hp} {l : Addr} {xs : List V} {o : HO} {vs : List V} {rs : List (List V)} (hl : H l = some (.lst xs)) (h : TL H vs rs) : TL (upd H l o) vs rs := h.imp fun a r x => by
  rw [upd_ne (ne_of x hl (by intro z; cases z))]
  exact x
theorem TL.len {H : Hp} : ∀ {vs : List V} {rs : List (List V)}, TL H vs rs → vs.length = rs.length
  | _, _, .nil => rfl
  | _, _, .cons _ t => by rw [List.length_cons, List.length_cons, TL.len t]
theorem TL.app {H : Hp} {v : V} {r : List V} (hv : ∃ a, v = .ref a ∧ H a = some (.tup r)) : ∀ {vs : List V} {rs : List (List V)}, TL H vs rs → TL H (vs ++ [v]) (rs ++ [r])
  | _, _, .nil => .cons hv .nil
  | _, _, .cons q t => .cons q (TL.app hv t)
theorem TL.get {H : Hp} : ∀ {vs : List V} {rs : List (List V)} {i : Nat} {v : V}, TL H vs rs → vs[i]? = some v → ∃ a r, v = .ref a ∧ H a = some (.tup r) ∧ rs[i]? = some r
  | _, _, 0, v, .cons ⟨a, e, h⟩ t, hv => ⟨a, _, (Option.some.inj (by simpa using hv)).symm.trans e, h, rfl⟩
  | _, _, i + 1, v, .cons _ t, hv => by
    obtain ⟨a, r, h1, h2, h3⟩ := TL.get (i := i) t (by simpa using hv)
    exact ⟨a, r, h1, h2, by simpa using h3⟩
  | _, _, 0, v, .nil, hv => by simp at hv
  | _, _, i + 1, v, .nil, hv => by simp at hv
theorem TL.rev {H : Hp} : ∀ {vs : List V} {rs : List (List V)}, TL H vs rs → TL H vs.reverse rs.reverse
  | _, _, .nil => .nil
  | _, _, .cons q t => by
    rw [List.reverse_cons, List.reverse_cons]
    exact TL.app q (TL.rev t)
def EvLT (te : TE) (σ : L2.St) (H : Hp) (rs : List (List V)) : Prop := ∀ H1, Ex H H1 → ∀ Q : VK, (∀ p vs H2, H1 p = none → Ex H1 H2 → H2 p = some (.lst vs) → TL H2 vs rs → Q (.ref p) H2) → te σ H1 Q
section
variable {K : PySem.W.Frag} {σ : L2.St} {H H' : Hp} {te tl : TE} {D : Ends} {tz : TS} {t : TT}
/-- [a new tuple for i in range(n)] -/
theorem elt_R1 {ta : TA} {j : Nat} {vs : List Nat} {n : Int} (f : Nat → List V) (h : EvA ta σ H [.int n]) (hn : 0 ≤ n ∧ n ≤ 40000) (hw : ∀ x, wipe ((wipe σ vs).set j (some x)) vs = wipe σ vs)
    (he : ∀ (i : Nat) H1, Ex H H1 → (i : Int) < n → EvU te ((wipe σ vs).set j (some (.int (i : Int)))) H1 (f i)) : EvLT (tLc (iRng1 ta) (gName j) tYes te vs) σ H ((List.range n.toNat).map f) := fun H0 e Q q => h H0 e _ fun H1 e1 => ⟨n, rfl, by omega, by omega, fun Dl hD =>
  lc_range (lo := 0) (n := n.toNat) (fun i H' => Ex H1 H' ∧ ∃ ws, H' Dl = some (.lst ws) ∧ TL H' ws ((List.range i).map f)) ⟨Ex.new hD, [], upd_same, .nil⟩ (fun i H' hi p => by
    obtain ⟨p1, ws, p2, p3⟩ := p
    have e0 : (0 : Int) + (i : Int) = (i : Int) := Int.zero_add _
    show wipe ((wipe σ vs).set j (some (.int ((0 : Int) + (i : Int))))) vs = wipe σ vs ∧ te ((wipe σ vs).set j (some (.int ((0 : Int) + (i : Int))))) H' fun y H4 => ∃ acc, H4 Dl = some (.lst acc) ∧ acc.length < sizeLine ∧ _
    rw [e0]
    refine ⟨hw _, he i H1 (e.trans e1) (by omega) H' p1 _ fun p H4 hp e4 h4 => ⟨ws, e4 Dl _ p2, sz_lt (by
      have := p3.len
      simp at this
      omega), Ex.mut (p1.trans e4) hD, ws ++ [.ref p], upd_same, ?_⟩⟩
    rw [List.range_succ, List.map_append]
    exact ((p3.ex e4).app ⟨p, rfl, h4⟩).upd (e4 Dl _ p2)) (fun H' p => by
      obtain ⟨p1, ws, p2, p3⟩ := p
      exact q Dl ws H' (fresh_back e1 hD) (e1.trans p1) p2 p3)⟩
/-- [a new tuple for x in xs] -/
theorem elt_map {a : Addr} {xs : List V} {j : Nat} {vs : List Nat} (f : Nat → List V) (h : Ev tl σ H (.ref a)) (hx : SqL K H a xs) (hz : xs.length ≤ 40000) (hw : ∀ x, wipe ((wipe σ vs).set j (some x)) vs = wipe σ vs)
    (he : ∀ (i : Nat) (x : V) H1, Ex H H1 → xs[i]? = some x → EvU te ((wipe σ vs).set j (some x)) H1 (f i)) : EvLT (tLc (iList K tl) (gName j) tYes te vs) σ H ((List.range xs.length).map f) := fun H0 e Q q => h H0 e _ fun H1 e1 => ⟨a, rfl, ⟨xs, ex_l (e.trans e1) hx⟩, fun Dl hD =>
  lc_list (xs := xs) (fun i H' => Ex H1 H' ∧ ∃ ws, H' Dl = some (.lst ws) ∧ TL H' ws ((List.range i).map f)) ⟨Ex.new hD, [], upd_same, .nil⟩ (fun i H' _ p => ex_l ((e.trans e1).trans p.1) hx) (fun i x H' hi p => by
    obtain ⟨p1, ws, p2, p3⟩ := p
    show wipe ((wipe σ vs).set j (some x)) vs = wipe σ vs ∧ te ((wipe σ vs).set j (some x)) H' fun y H4 => ∃ acc, H4 Dl = some (.lst acc) ∧ acc.length < sizeLine ∧ _
    refine ⟨hw _, he i x H1 (e.trans e1) hi H' p1 _ fun p H4 hp e4 h4 => ⟨ws, e4 Dl _ p2, sz_lt (by
      have := p3.len
      have := (List.getElem?_eq_some_iff.mp hi).1
      simp at *
      omega), Ex.mut (p1.trans e4) hD, ws ++ [.ref p], upd_same, ?_⟩⟩
    rw [List.range_succ, List.map_append]
    exact ((p3.ex e4).app ⟨p, rfl, h4⟩).upd (e4 Dl _ p2)) (fun H' p => by
      obtain ⟨p1, ws, p2, p3⟩ := p
      exact q Dl ws H' (fresh_back e1 hD) (e1.trans p1) p2 p3)⟩
theorem range_get {α : Type} (rs : List α) (d : α) : rs = (List.range rs.length).map fun i => rs.getD i d := by
  refine List.ext_getElem (by simp) fun i h1 h2 => ?_
  simp [h1]
theorem paired_map {α β γ : Type} {F : β → γ → Prop} (f : α → β) (g : α → γ) : ∀ l : List α, (∀ x ∈ l, F (f x) (g x)) → Paired F (l.map f) (l.map g)
  | [], _ => .nil
  | x :: r, h => .cons (h x (by simp)) (paired_map f g r fun y hy => h y (by simp [hy]))
/-- [x for x in xs if test(x)], xs a list of tuples, the test P of the tuple's items -/
theorem elt_filter {a : Addr} {xs : List V} {rs : List (List V)} {j : Nat} {vs : List Nat} (P : List V → Bool) (h : Ev tl σ H (.ref a)) (hx : SqL K H a xs) (ht : TL H xs rs) (hz : xs.length ≤ 40000) (hw : ∀ x, wipe ((wipe σ vs).set j (some x)) vs = wipe σ vs) (hj : ∀ x, ((wipe σ vs).set j (some x))[j]? = some (some x))
    (he : ∀ (b : Addr) (r : List V) H1, Ex H H1 → r ∈ rs → H1 b = some (.tup r) → EvT t ((wipe σ vs).set j (some (.ref b))) H1 (P r)) : EvLT (tLc (iList K tl) (gName j) t (tVar j) vs) σ H (rs.filter P) := fun H0 e Q q => by
  refine el_lcL (K := K) (f := fun i => P (rs.getD i [])) (v := fun i => xs.getD i .non) h hx hz hw (fun i x H1 e1 hi => ?_) (fun i x H1 e1 hi hf => ?_) H0 e Q fun p H2 hp e2 h2 => ?_
  · obtain ⟨b, r, rfl, hb, hr⟩ := ht.get hi
    have g : rs.getD i [] = r := by rw [List.getD_eq_getElem?_getD, hr] <;> rfl
    show EvT _ _ _ (P (rs.getD i []))
    rw [g]
    exact he b r H1 e1 (List.mem_of_getElem? hr) (e1 b _ hb)
  · have g : xs.getD i .non = x := by rw [List.getD_eq_getElem?_getD, hi] <;> rfl
    show Ev _ _ _ (xs.getD i .non)
    rw [g]
    exact ev_var (hj x)
  · refine q p _ H2 hp e2 h2 ?_
    have e3 : rs.filter P = ((List.range rs.length).filter fun i => P (rs.getD i [])).map fun i => rs.getD i [] := by
      conv => lhs; rw [range_get rs [], List.filter_map]
      rfl
    unfold given
    rw [e3, ht.len]
    refine paired_map _ _ _ fun i hi => ?_
    have hi := List.mem_range.mp (List.mem_filter.mp hi).1
    have hlx : i < xs.length := by rw [ht.len]; exact hi
    obtain ⟨b, r, h1, h2', h3⟩ := ht.get (List.getElem?_eq_getElem hlx)
    refine ⟨b, ?_, ?_⟩
    · rw [List.getD_eq_getElem?_getD, List.getElem?_eq_getElem hlx, h1]
      rfl
    · rw [List.getD_eq_getElem?_getD, h3]
      exact (e.trans e2) b _ h2'
theorem q_asgLT {i : Nat} {rs : List (List V)} (h : EvLT te σ H rs) (k : ∀ p vs H1, H p = none → Ex H H1 → H1 p = some (.lst vs) → TL H1 vs rs → tz D (σ.set i (some (.ref p))) H1) : tSeq (tAsg te (gName i)) tz D σ H := h H (Ex.refl H) _ fun p vs H1 hp e h1 h2 => k p vs H1 hp e h1 h2
theorem s_retLT {rs : List (List V)} (h : EvLT te σ H rs) (k : ∀ p vs H1, H p = none → Ex H H1 → H1 p = some (.lst vs) → TL H1 vs rs → D.rt (.ref p) H1) : tRet te D σ H := h H (Ex.refl H) _ k
end
end Kit

set_option Elab.async false
set_option linter.all false
set_option maxRecDepth 100000
set_option maxHeartbeats 4000000
namespace Kit
open PySem PySem.Spec PyProof.Rows L2 Evl
/-! ### a promise of a def that shows data (repr): no repr may be under way around it -/
structure FnOkG (P : Program) (w : World) (K : PySem.W.Frag) (mg : Str → Option Value) (base : Heap) (n : Nat) (f : Addr) (fd : FuncData) (names : List Str) (want : Sp) : Prop where
  many : ∀ xs H Q E, want xs H Q E → xs.length = names.length
  go : ∀ (A : Around) (frames : List Env) (st : Shared) (H : Hp) (given : Args) (us : List Value) (xs : List V) (Q : VK) (E : XK), A.guards = some [] → Room n A → Env0 P w K mg base A frames st H →
    BindsTo st fd given (names.zip us) → Vals xs us → want xs H Q E → codeAny (model P w) A (.call (.ref f) given) (CR CX0 frames P w H st Q E) st
section
variable {P : Program} {w : World} {K : PySem.W.Frag} {mg : Str → Option Value} {base : Heap}
theorem FnOkG.mono {j n : Nat} {f : Addr} {fd : FuncData} {names : List Str} {want : Sp} (F : FnOkG P w K mg base j f fd names want) (h : j ≤ n) : FnOkG P w K mg base n f fd names want :=
  ⟨F.many, fun A fr st H g us xs Q E hg r => F.go A fr st H g us xs Q E hg (r.mono h)⟩
/-- the rule for such a def -/
theorem funG {x qual : Str} {d : Stmt} {f : Addr} {fd : FuncData} {N names : List Str} {n : Nat} {want : Sp} (F : Fun K x qual d f fd) (S : FnScope N names (defScope d)) (many : ∀ xs H Q E, want xs H Q E → xs.length = names.length)
    (body : ∀ (cv : Value) (A : Around) (frames : List Env) (st : Shared) (H : Hp) (xs : List V) (Q : VK) (E : XK), A.guards = some [] → Room n (A.deeper (envOfC qual (defScope d) st.heap.objs.size f cv)) → want xs H Q E →
      ∃ t, PSs (cxOf CX0 P w K mg base N qual (defScope d) f cv A frames st H E).nox (defBody d) t ∧ t { nx := fun _ H' => Q .non H', rt := Q } (start N xs) H) : FnOkG P w K mg base (n + 1) f fd names want := by
  obtain ⟨o1, o2, v1, v2, v3, an, cv, ct, sl, rfl, look, code⟩ := F.ex
  refine ⟨many, fun A frames st H given us xs Q E hg room en bind vals hw => ?_⟩
  have size := many _ _ _ _ hw
  have inK : K.In st.heap := en.mod.kin.keeps fun b o q => (en.bs b o q).1
  have noLim : st.heap.NoLimit := en.mod.nolimit.keeps fun b o q => (en.bs b o q).1
  have kinds : ∀ y ∈ names.zip us, (defScope d).names.lookup y.1 = some .local ∨ ((defScope d).names.lookup y.1 = some .cell ∧ ((cellsFrom (st.heap.objs.size + 1) (defScope d).names []).lookup y.1).isSome = true) := by
    rintro ⟨a, b⟩ hy
    exact (S.par a (List.of_mem_zip hy).1).elim .inl fun q => .inr ⟨q, PySem.W.cellsFrom_some _ _ _ (.inl q)⟩
  refine codeAny_call_function room.depth (inK _ _ look) rfl S.co S.gen rfl (PySem.W.codeRec_of inK code) (bind _ _ _ _ (wpAny_newFunctionEnv_cells S.kind kinds fun env eq st1 made => ?_))
  cases eq
  refine ⟨noLim.keeps made.toInCall.keep, codeAny_func ?_⟩
  obtain ⟨t, rule, done⟩ := body cv A frames st H xs Q E hg (room.deeper _) hw
  have J : Inv (cxOf CX0 P w K mg base N qual (defScope d) f cv A frames st H E) [] (start N xs) H st1 := inv_start S room.hd en size vals made
  have back : ∀ {σ' : L2.St} {H' : Hp} {v : V} {u : Value} {st2 : Shared}, Inv (cxOf CX0 P w K mg base N qual (defScope d) f cv A frames st H E) [] σ' H' st2 → RelV v u → Q v H' → CE frames P w H st Q u st2 := fun J2 rv q => ⟨_, _, J2.os, J2.bare, J2.base, J2.hok, rv, q⟩
  refine wpAny_mono (rule.nox.run [] st1 (start N xs) H _ J done) (fun r st2 hs => ?_) fun _ _ hs => hs
  match r, hs with
  | .ret u, ⟨v, σ2, H2, J2, rv, q⟩ => exact back J2 rv q
  | .next, ⟨σ2, H2, J2, q⟩ => exact back (v := V.non) (u := Value.none) J2 rfl q
  | .brk, ⟨_, _, _, q⟩ => exact False.elim q
  | .cont, ⟨_, _, _, q⟩ => exact False.elim q
end
/-- such a def is called -/
theorem pe_callG {X : Cx} {n : Nat} {f : Addr} {fd : FuncData} {names : List Str} {want : Sp} {x : Str} {p pos : Pos} {e : Expr} {es : List Expr} {t : TA} (F : FnOkG X.prog X.w X.K X.mg X.base n f fd names want) (hg : X.A.guards = some []) (room : Room n X.A) (gl : Gl X x)
    (at_ : X.mg x = some (.ref f)) (keep : PySem.W.keepIn X.K (.ref f) = true) (bind : Binds X.K fd names []) (ha : PA X (e :: es) t) (nd : (x == ("__debug__" : Str)) = false := by decide)
    (one : starEach (e :: es) X.env = (false, eval e X.env) :: starEach es X.env := by rfl) (plain : (backTo pos (starEach es X.env)).any (·.1) = false := by rfl) : PE X (.Call (.Name x p) (e :: es) [] pos) (tCall want [] E0 t) := by
  refine ⟨fun pins st σ H Q J h => wpAny_Call_Name_kw (ld_glob J gl at_ ?_ nd)⟩
  refine PySem.W.callWith_K (h₀ := X.base) J.ok.mod.kin keep (thn (ha.run pos pins st σ H _ J h) fun us st1 ⟨vs, H1, J1, r, q⟩ => ⟨J1.kIn, ?_⟩) one plain
  have q : want vs H1 Q E0 := by
    have q' : want (vs ++ []) H1 Q E0 := q
    rwa [List.append_nil] at q'
  have size : us.length = names.length := r.length.symm.trans (F.many _ _ _ _ q)
  have bd := bind st1 us J1.kIn (by rw [List.append_nil]; exact size)
  rw [List.append_nil] at bd
  refine wpAny_call (codeAny_mono (F.go X.A X.stack st1 H1 ⟨us, []⟩ us vs Q E0 hg room J1.env0 bd r q) fun res st2 hq => ?_)
  match res, hq with
  | .error _, hq => exact False.elim hq
  | .ok (.ret _), hq => exact J1.after hq
  | .ok .next, hq => exact False.elim hq
  | .ok .brk, hq => exact False.elim hq
  | .ok .cont, hq => exact False.elim hq
/-- the law's promise, at the heap behind the top -/
theorem headG {P : Program} {w : World} {K : PySem.W.Frag} {mg mb : Str → Option Value} {n : Nat} {fa a : Addr} {fd : FuncData} {x : Str} {want : Sp} {st : Shared} {us : List Value} {ns : List Int}
    (inK : K.In st.heap) (glob : st.heap.Ns mainGlobals mg) (blt : st.heap.Ns builtinsNs mb) (boot : ∀ x : Str, x ≠ "__name__" → mb x = bootBuiltins x) (noLim : st.heap.NoLimit) (gens : st.gens = #[])
    (obj : st.heap.get? a = some { cls := .type "list", data := .seq us.toArray }) (allInt : IntsAre us ns) (short : ns.length ≤ sizeLine) (room : Room n callerA)
    (F : ∀ base : Heap, K.In base → base.Ns mainGlobals mg → FnOkG P w K mg base n fa fd [x] want) (bind : ∀ (s : Shared) (u : Value), BindsTo s fd ⟨[u], []⟩ [(x, u)])
    (ask : ∀ H : Hp, Only H → SqL K H a (ns.map V.int) → want [.ref a] H (fun v _ => v = .bl true) fun _ _ _ => False) :
    codeAny (model P w) callerA (.call (.ref fa) ⟨[.ref a], []⟩) (fun r s' => r = .ok (.ret (.bool true)) ∧ OldK st.heap s'.heap ∧ s'.os = st.os ∧ AllBare s'.gens) st := by
  have vals := vals_ints allInt
  have size := allInt.length
  have main : ∀ H : Hp, Only H → SqL K H a (ns.map V.int) → HOk P w H st.heap → (∀ b, H b ≠ none → b = a) → (H a ≠ none → K.lookup a = none) →
      codeAny (model P w) callerA (.call (.ref fa) ⟨[.ref a], []⟩) (fun r s' => r = .ok (.ret (.bool true)) ∧ OldK st.heap s'.heap ∧ s'.os = st.os ∧ AllBare s'.gens) st := by
    intro H only sq ok one not
    have stay : ∀ {b : Addr} {o : Obj}, st.heap.get? b = some o → H b = none → (hidT st.heap H).get? b = some o := fun q z => hidT_get q z
    have free : ∀ {b : Addr}, (b = a → False) → H b = none := fun {b} ne => by
      cases q : H b with
      | none => rfl
      | some u => exact (ne (one b (by rw [q]; exact Option.some_ne_none u))).elim
    have space : ∀ {b : Addr} {m : Str → Option Value}, st.heap.Ns b m → (hidT st.heap H).Ns b m := fun {b m} ⟨o, es, ep, q, d, r⟩ => ⟨o, es, ep, stay q (free fun z => by
      subst z
      rw [obj] at q
      cases q
      exact Data.noConfusion (show Data.seq us.toArray _ = Data.dict es ep from d)), d, r⟩
    have kin : K.In (hidT st.heap H) := fun b o q => stay (inK b o q) (by
      cases z : H b with
      | none => rfl
      | some u =>
        have ne : H b ≠ none := by rw [z]; exact Option.some_ne_none u
        have ba := one b ne
        subst ba
        rw [not ne] at q
        cases q)
    obtain ⟨mc, l1, l2⟩ := noLim
    have md : Mod K mg (hidT st.heap H) := ⟨kin, space glob, ⟨mb, space blt, boot⟩, ⟨mc, space l1, l2⟩⟩
    have en : Env0 P w K mg (hidT st.heap H) callerA [] st H := ⟨rfl, md, fun b o q => of_hidT q, Nat.le_of_eq (hidT_size _ _), trivial, fun b hb => absurd (show b ∈ ([] : List Addr) from hb) (by simp), ok, .of_eq gens⟩
    refine codeAny_mono ((F _ kin (space glob)).go callerA [] st H ⟨[.ref a], []⟩ [.ref a] [.ref a] _ _ rfl room en (bind st (.ref a)) (.cons rfl .nil) (ask H only sq)) fun r s' h => ?_
    match r, h with
    | .error _, h => exact False.elim h
    | .ok .next, h => exact False.elim h
    | .ok .brk, h => exact False.elim h
    | .ok .cont, h => exact False.elim h
    | .ok (.ret u), ⟨v, H', os, bare, un, ok', rel, q⟩ =>
      have q2 : v = .bl true := q
      cases q2
      have r2 : u = Value.bool true := rel
      cases r2
      refine ⟨rfl, OldK.of_keep fun b o e => ?_, os, bare⟩
      rcases only b with z | ⟨ob, xs, z⟩
      · exact un.keep b o e z (fun t => absurd (show b ∈ ([] : List Addr) from t) (by simp)) (by simp)
      · have z2 := un.frzs b ob _ z
        obtain ⟨g1, _⟩ := ok b _ z
        obtain ⟨g2, _⟩ := ok' b _ z2
        rw [e] at g1
        cases g1
        exact g2
  cases own : K.lookup a with
  | some o =>
    have e := inK a o own
    rw [obj] at e
    cases e
    exact main (fun _ => none) (fun _ => .inl rfl) (.inr ⟨_, us.toArray, _, own, rfl, rfl, rfl, by rw [List.size_toArray, size]; exact short, by simpa using vals⟩) (fun b u z => by have y : (none : Option HO) = some u := z; cases y) (fun b z => absurd rfl z) fun z => absurd rfl z
  | none =>
    have yes : (fun b => if b = a then some (HO.frz { cls := .type "list", data := .seq us.toArray } (.lst (ns.map V.int))) else none) a = some (HO.frz { cls := .type "list", data := .seq us.toArray } (.lst (ns.map V.int))) := if_pos rfl
    have no : ∀ b, b ≠ a → (fun b => if b = a then some (HO.frz { cls := .type "list", data := .seq us.toArray } (.lst (ns.map V.int))) else none) b = none := fun b ne => if_neg ne
    generalize (fun b => if b = a then some (HO.frz { cls := .type "list", data := .seq us.toArray } (.lst (ns.map V.int))) else none) = G at yes no
    refine main G (fun b => ?_) (.inl (.inr ⟨_, yes⟩)) (fun b u z => ?_) (fun b z => ?_) fun _ => own
    · by_cases hb : b = a
      · subst hb
        exact .inr ⟨_, _, yes⟩
      · exact .inl (no b hb)
    · by_cases hb : b = a
      · subst hb
        rw [yes] at z
        cases z
        exact ⟨obj, by rw [List.length_map]; exact short, us, _, vals, obj⟩
      · rw [no b hb] at z
        cases z
    · by_cases hb : b = a
      · exact hb
      · exact absurd (no b hb) z
theorem walk_G {l : PySem.W.OpenLaw} {m n : Nat} {q : Program} {loose : List Str} {XP : (Str → Option Value) → Heap → Prop} {YP : World → Heap → Prop} {d : DefRec} {K : Params → PySem.W.Frag} {want : World → Sp} {x : Str}
    (most : l.most = some m) (most2 : m ≤ sizeLine) (noDef : d.params.defaults = []) (room : Room n callerA) (inK : ∀ (w : World) (h : Heap), YP w h → (K w.params).In h)
    (F : ∀ (w : World) (mg : Str → Option Value) (fa : Addr) (h : Heap), (K w.params).In h → h.Ns mainGlobals mg → mg d.name = some (.ref fa) →
      ∃ fd : FuncData, (∀ (s : Shared) (u : Value), BindsTo s fd ⟨[u], []⟩ [(x, u)]) ∧ ∀ base : Heap, (K w.params).In base → base.Ns mainGlobals mg → FnOkG l.prog w (K w.params) mg base n fa fd [x] (want w))
    (ask : ∀ (w : World) (H : Hp) (a : Addr) (ns : List Int), ns.length ≤ m → Only H → SqL (K w.params) H a (ns.map V.int) → want w [.ref a] H (fun v _ => v = .bl true) fun _ _ _ => False) :
    PySem.W.WalkO q loose XP YP l.row.toRowW d [] (fun f vs => PySem.call f vs) :=
  Att.attach_call most noDef fun w s₀ st mg mb fa o pm cd doc a us ns G Y ho hd hcd named obj allInt short gens => by
    have kin := inK w _ Y
    obtain ⟨fd, bind, FF⟩ := F w mg fa _ kin G.T.g named
    exact headG kin G.T.g G.T.b G.T.builtins G.T.nolimit gens obj allInt (Nat.le_trans short most2) room FF bind fun H only sq => ask w H a ns short only sq
/-! ### repr of data -/
def rRepr (K : PySem.W.Frag) : List V → Hp → VK → Prop := fun xs H Q => ∃ p d, xs = [.ref p] ∧ Dp K H (.ref p) d ∧ d.showable = true ∧ d.hasDict = false ∧ d.depth ≤ 50 ∧ d.shown.length ≤ sizeLine ∧ Q (.str d.shown) H
theorem call_reprD {X : Cx} (hg : X.A.guards = some []) (hu : X.A.units + 64 < cLine) : CallR X (.builtin "repr") (rRepr X.K) := by
  intro pins st σ H xs us Q J r h
  obtain ⟨p, d, rfl, dp, hs, hd, hdp, hz, q⟩ := h
  obtain ⟨u, rfl, hu2⟩ : ∃ u, us = [u] ∧ RelV (.ref p) u := by
    cases r with
    | cons a b =>
      cases b
      exact ⟨_, rfl, a⟩
  have e : u = Value.ref p := hu2
  subst e
  obtain ⟨as, rd⟩ := Dp.reads J d _ _ dp hu2
  refine repr_of_reads' rd hs (fun z => by rw [hd] at z; cases z) hg (by omega) (fun _ _ e => e) (fun h' u tk keep => ?_) hz
  exact ⟨.str d.shown, H, J.turnedL (ch := []) (fun b o _ e => keep b o e) (fun b hb => absurd hb (by simp)), ⟨_, rfl⟩, q⟩
section
variable {K : PySem.W.Frag} {σ : L2.St} {H : Hp} {te : TE}
theorem ev_repr {d : PyData} (h : EvD K te σ H d) (hl : isDisplay d = true) (hs : d.showable = true) (hd : d.hasDict = false) (hdp : d.depth ≤ 50) (hz : d.shown.length ≤ sizeLine) : Ev (tCB (rRepr K) (tCons te tNil)) σ H (.str d.shown) := fun H1 e Q q =>
  h H1 e _ fun v H2 e2 dv => by
    have hp : ∃ p, v = .ref p := by
      cases dv with
      | lst _ _ => exact ⟨_, rfl⟩
      | tup _ _ => exact ⟨_, rfl⟩
      | non => cases hl
      | bl _ => cases hl
      | int _ => cases hl
      | str _ => cases hl
    obtain ⟨p, rfl⟩ := hp
    exact ⟨p, d, rfl, dv, hs, hd, hdp, hz, q H2 e2⟩
end
end Kit

set_option Elab.async false
set_option linter.all false
set_option maxRecDepth 100000
set_option maxHeartbeats 4000000
namespace Kit
open PySem PySem.Spec PyProof.Rows L2 Evl
theorem slot_type_neR : Slot "type" (cmpInfo .NotEq).2.2 "object.__ne__" :=
  .of (owner := "object") (n := "__ne__") (by rw [typeLookup_type, builtinLookup_eq_fast]; kernel_rfl) (by decide +kernel) (by decide +kernel) (by decide +kernel)
    (by first | exact .inl (by decide +kernel) | exact .inr (by decide +kernel)) (by rw [isSubtype_type]; kernel_rfl)
section
variable {M : Model} {A : Around} {E : Value → Shared → Prop} {s : Shared}
theorem ne_decline {a b : Value} {T id : String} {k : Bool} {Q : Value → Shared → Prop} (ta : ∀ s' : Shared, s'.TypeIs a T) (tb : ∀ s' : Shared, s'.TypeIs b T) (l1 : Slot T (cmpInfo .NotEq).2.1 id) (l2 : Slot T (cmpInfo .NotEq).2.2 id)
    (nh : [a, b].any Value.onHeap = false) (same : isSame a b = pure k) (go : wpAny M A (call (.builtin id) [a, b]) (fun v t => v = .notImplemented ∧ wpAny M A (call (.builtin id) [b, a]) (fun v t2 => v = .notImplemented ∧ Q (.bool (!k)) t2) E t) E s) :
    wpAny M A (richCompare .NotEq a b) Q E s := by
  rcases eq : cmpInfo CmpOp.NotEq with ⟨n1, n2, n3⟩
  rw [eq] at l1 l2
  simp only [richCompare, eq, (ta s).oneThing_none]
  try with_reducible refine wpAny_holding ?_
  refine wpAny_bind (wpAny_cRoomFor_or (.inl nh) (wpAny_bind (wpAny_typeOf (ta s) (wpAny_bind (wpAny_typeOf (tb s) ?_)))))
  simp only [bne_self_eq_false, Bool.false_eq_true, if_false, pure_bind, Bool.not_false, if_true]
  refine wpAny_bind (m := tryCompare a _ b) (wpAny_tryCompare_declines (ta s) l1 (wpAny_mono go (fun v t z => ⟨z.1, ?_⟩) fun _ _ x => x))
  refine wpAny_bind (m := tryCompare b _ a) (wpAny_tryCompare_declines (tb t) l2 (wpAny_mono z.2 (fun v t2 z2 => ⟨z2.1, ?_⟩) fun _ _ x => x))
  refine wpAny_bind (wpAny_rule (wpAny_bind (wpAny_of_eq same (wpAny_pure z2.2))))
end
section
variable {prog : Program} {w : World} {A : Around} {E : Value → Shared → Prop} {s : Shared} {Q : Value → Shared → Prop}
theorem obj_ne_other {X Y : String} (hX : ∀ s' : Shared, s'.TypeIs (.type X) "type") (ne : (Value.type X == Value.type Y) = false) (hu : A.units + 1 < cLine) (h : Q .notImplemented s) : wpAny (model prog w) A (call (.builtin "object.__ne__") [.type X, .type Y]) Q E s := by
  refine wpAny_call_entry slot_type_ne (hX s) PySem.F.cmpEntry_ne ?_ (PySem.F.cmpArgs_ne _ _)
  unfold Builtin.«object.__ne__»
  have key : wpAny (model prog w) A.in1 (call (.builtin "object.__eq__") [.type X, .type Y]) (fun v s' => v = .notImplemented ∧ s' = s) E s :=
    call_gives slot_type_eqN (hX s) F.entry_object_eq (F.args_object_eq_2 _ _) (PySem.TypeEq.object_eq_other rfl ne) ⟨rfl, rfl⟩
  repeat (first
    | with_reducible refine wpAny_cRoomFor (by show A.units + 1 < cLine; exact hu) ?_
    | (refine wpAny_bind (m := callSpecialIfBound? (.type X) (Str.ofString "__eq__") [.type Y])
        (wpAny_callSpecialIfBound?_slot (hX _) slot_type_eqN (wpAny_mono key (fun r s' hr => by
          obtain ⟨rfl, rfl⟩ := hr
          have hq : Q .notImplemented s' := h
          repeat (first | exact hq | exact ⟨_, rfl, hq⟩ | exact wpAny_pure hq | wp_step)) fun _ _ e => e)))
    | wp_step)
theorem ne_type_other {X Y : String} (hX : ∀ s' : Shared, s'.TypeIs (.type X) "type") (hY : ∀ s' : Shared, s'.TypeIs (.type Y) "type") (ne : (Value.type X == Value.type Y) = false) (hu : A.units + 1 < cLine) (h : Q (.bool true) s) : wpAny (model prog w) A (compareOp .NotEq (.type X) (.type Y)) Q E s := by
  have ne' : (Value.type Y == Value.type X) = false := by
    rw [beq_eq_false_iff_ne] at ne ⊢
    exact fun z => ne z.symm
  show wpAny _ A (richCompare .NotEq _ _) Q E s
  exact ne_decline (T := "type") (k := false) hX hY slot_type_ne slot_type_neR rfl (by rw [isSame_plain rfl, ne]) (obj_ne_other hX ne hu ⟨rfl, obj_ne_other hY ne' hu ⟨rfl, h⟩⟩)
end
end Kit

set_option Elab.async false
set_option linter.all false
set_option maxRecDepth 100000
set_option maxHeartbeats 4000000
namespace Kit
open PySem PySem.Spec PyProof.Rows L2 Evl
theorem meets_enum_new1 {v : Value} {o : Obj} {H : Heap → Prop} (B : Begins v o H) :
    Meets (Builtin.«enumerate.__new__» ⟨[.type "enumerate", v], []⟩) (fun _ R s => H s.heap ∧
      R (.ok (.ret (.ref (s.heap.push o).objs.size))) { s with heap := (s.heap.push o).push { cls := .type "enumerate", data := .fields #[.none, .bool false, .ref s.heap.objs.size, rawInt 0, .none, .none] } }) :=
  .of_wp fun prog w A R s h => by
    obtain ⟨hp, g, d, tk, os⟩ := s; obtain ⟨h1, h⟩ := h
    have hsub := sub_enumerate
    have q1 : ∀ {A' : Around} {E : Value → Shared → Prop} {Q : Value → Shared → Prop}, Q (.ref hp.objs.size) ⟨hp.push o, g, d, tk, os⟩ → wpAny (model prog w) A' (pyIter v) Q E ⟨hp, g, d, tk, os⟩ :=
      fun q => B.iter prog w _ _ ⟨hp, g, d, tk, os⟩ _ h1 q
    wp_walk using q1
    refine wpAny_stack_any fun st => wpAny_pure ?_
    split
    · rename_i c _ _ _ _ _
      cases (c == Value.type "enumerate")
      · wp_walk using q1
        exact ⟨_, rfl, h⟩
      · wp_walk using q1
        exact ⟨_, rfl, h⟩
    · wp_walk using q1
      exact ⟨_, rfl, h⟩
section
variable {prog : Program} {w : World} {A : Around} {E : Value → Shared → Prop} {s : Shared}
theorem enum_begins1 {v : Value} {o : Obj} {H : Heap → Prop} {Q : Value → Shared → Prop} (B : Begins v o H) (h1 : H s.heap)
    (h : ∀ h', IsEnum h' (s.heap.objs.size + 1) s.heap.objs.size 0 .none → h'.get? s.heap.objs.size = some o → h'.objs.size = s.heap.objs.size + 2 →
      (∀ b o, s.heap.get? b = some o → h'.get? b = some o) → Q (.ref (s.heap.objs.size + 1)) { s with heap := h' }) :
    wpAny (model prog w) A (call (.type "enumerate") [v]) Q E s := by
  refine callType_new F.called_enumerate (by decide) (F.typeCall_enumerate_1 _) (F.newCall_enumerate_1 _) (fun obj => F.args_object_init_2 obj _) F.entry_enumerate_new
    (meets_enum_new1 B) ⟨h1, ?_⟩
  have hz : (s.heap.push o).objs.size = s.heap.objs.size + 1 := Heap.size_push ..
  show _ ∧ _
  rw [hz]
  have he : IsEnum ((s.heap.push o).push { cls := .type "enumerate", data := .fields #[.none, .bool false, .ref s.heap.objs.size, rawInt 0, .none, .none] }) (s.heap.objs.size + 1) s.heap.objs.size 0 .none := by
    have := Heap.get?_push_size (s.heap.push o) (o := { cls := .type "enumerate", data := .fields #[.none, .bool false, .ref s.heap.objs.size, rawInt 0, .none, .none] }) rfl
    rw [hz] at this; exact this
  refine ⟨⟨_, he, rfl⟩, h _ he (Heap.get?_push_of_some _ (Heap.get?_push_size _ B.free)) (by rw [Heap.size_push, hz]) fun b o x => Heap.get?_push_of_some _ (Heap.get?_push_of_some _ x)⟩
end
end Kit

set_option Elab.async false
set_option linter.all false
set_option maxRecDepth 100000
set_option maxHeartbeats 4000000
namespace Kit
open PySem PySem.Spec PyProof.Rows L2 Evl
/-- the tuple at a, each item in a new pair -/
def IteT (K : PySem.W.Frag) (a : Addr) : It :=
  ⟨fun i H => ∃ (xs : List V) (x : V), SqT K H a xs ∧ xs[i]? = some x, fun i H v H' => ∃ T x, v = .ref T ∧ H T = none ∧ H' = upd H T (.tup [.int (i : Nat), x]) ∧ ∀ xs, SqT K H a xs → xs[i]? = some x, fun i H => ∃ xs : List V, SqT K H a xs ∧ xs.length = i⟩
theorem enum_ne {h : Heap} {e it t : Addr} {i : Int} {old : Value} {vs : Array Value} (he : IsEnum h e it i old) (ht : h.IsTuple t vs) : e ≠ t := fun z => by
  subst z
  obtain ⟨o, ho, hc, _⟩ := ht
  have he' : h.get? e = _ := he
  rw [he'] at ho
  cases ho
  exact absurd hc (by show ¬ (Value.type "enumerate" = Value.type "tuple"); decide +kernel)
theorem turn_enumT {P : Program} {w : World} {K : PySem.W.Frag} {elts : List Expr} {kk : Nat} {tpos : Pos} (a e it : Addr) :
    Turn P w K (.Tuple elts kk tpos) (IteT K a) [e, it] e (fun i h => (∃ old, IsEnum h e it ((i : Nat) : Int) old) ∧ h.IsTupleIter it a i ∧ e ≠ it) where
  mem := by simp
  obj := fun i h st b hb => by
    obtain ⟨⟨old, he⟩, ⟨o, ho, hc, hd⟩, _⟩ := st
    have e' : b = e ∨ b = it := by simpa using hb
    rcases e' with z | z
    · rw [z]; exact ⟨_, he, fun v q => nomatch q⟩
    · rw [z]; exact ⟨o, ho, fun v q => by rw [hd] at q; cases q⟩
  keep := fun i h h' st k => by
    obtain ⟨⟨old, he⟩, ⟨o, ho, hr⟩, hne⟩ := st
    exact ⟨⟨old, k e (by simp) _ he⟩, ⟨o, k it (by simp) o ho, hr⟩, hne⟩
  item := by
    intro X hP hw hK hc i pins s σ H E I hf st hg
    subst hP hw hK
    obtain ⟨⟨old, he⟩, hit, hne⟩ := st
    obtain ⟨xs, x, hq, hx⟩ := hg
    obtain ⟨its, rv, p, hz⟩ := I.tuple hq
    obtain ⟨u, hu, ru⟩ := rv.get hx
    have hel : e < s.heap.objs.size := Heap.lt_size he
    have hil : it < s.heap.objs.size := by obtain ⟨_, q, _⟩ := hit; exact Heap.lt_size q
    have pT : s.heap.IsTuple a its.toArray := p
    have nea : e ≠ a := enum_ne he pT
    have nit : a ≠ it := fun z => by
      subst z
      obtain ⟨o, ho, hc', _⟩ := pT
      obtain ⟨o', ho', hc'', _⟩ := hit
      rw [ho] at ho'
      cases ho'
      rw [hc'] at hc''
      exact absurd hc'' (by decide +kernel)
    have hlt : i < its.toArray.size := by
      have := (List.getElem?_eq_some_iff.mp hu).1
      simpa using this
    refine wpAny_pyNext_enum_itemD (Draws.tuple (by exact I.ok.hd hc) it a nit its.toArray) he ⟨hit, pT⟩ hlt hne (by simp [hne, nea]) fun x' h' tk hx' ho hst' hT hsz hk => ?_
    have eu : u = x' := by
      have : its[i]? = some x' := by simpa using hx'
      rw [hu] at this
      exact Option.some.inj this
    subst eu
    refine ⟨_, rfl, wpAny_letOwnedTupleGo_enum (s := { s with heap := h', toks := tk + 1 }) ho fun h'' he' sb => ?_⟩
    have hT2 : h''.get? s.heap.objs.size = some { cls := .type "tuple", data := .seq #[.int i tk, u] } := (sb.2 _ (Nat.ne_of_gt hel)).trans hT
    have new : ObjOk X.prog X.w (upd H s.heap.objs.size (.tup [.int (i : Nat), x])) h'' s.heap.objs.size (.tup [.int (i : Nat), x]) :=
      ⟨by show 2 ≤ sizeLine; decide, [.int i tk, u], .cons ⟨_, rfl⟩ (.cons ru .nil), ⟨_, hT2, rfl, _, rfl⟩⟩
    have I1 : Inv X pins σ (upd H s.heap.objs.size (.tup [.int (i : Nat), x])) { s with heap := h'', toks := tk + 1 } :=
      I.turnedNew (ch := [e, it]) (fun b ob hb q => (sb.2 b (fun z => hb (by simp [z]))).trans (hk b ob (fun z => hb (by simp [z])) (fun z => hb (by simp [z])) q)) hf (Nat.le_refl _) new
    refine ⟨.ref s.heap.objs.size, _, I1, rfl, ⟨_, x, rfl, I.hok.fresh (Nat.le_refl _), rfl, fun ys hy => by rw [I.tuple_inj hy hq]; exact hx⟩, ⟨⟨u, ?_⟩, ?_, hne⟩, fun b hb => ?_⟩
    · have e1 : ((i + 1 : Nat) : Int) = (i : Int) + 1 := by omega
      rw [e1]; exact he'
    · obtain ⟨o, q, r⟩ := hst'.1
      exact ⟨o, (sb.2 it (Ne.symm hne)).trans q, r⟩
    · have hb' : b < s.heap.objs.size := by
        have e' : b = e ∨ b = it := by simpa using hb
        rcases e' with z | z
        · rw [z]; exact hel
        · rw [z]; exact hil
      rw [upd_ne (Nat.ne_of_lt hb')]
      exact (hf b hb).1
  done := by
    intro X hP hw hK hc i pins s σ H E I hf st hg
    subst hP hw hK
    obtain ⟨⟨old, he⟩, hit, hne⟩ := st
    obtain ⟨xs, hq, hx⟩ := hg
    obtain ⟨its, rv, p, hz⟩ := I.tuple hq
    obtain ⟨f0, f1, f2, f3, f4, f5⟩ := hf it (by simp)
    have hl := rv.length
    have pT : s.heap.IsTuple a its.toArray := p
    have nit : a ≠ it := fun z => by
      subst z
      obtain ⟨o, ho, hc', _⟩ := pT
      obtain ⟨o', ho', hc'', _⟩ := hit
      rw [ho] at ho'
      cases ho'
      rw [hc'] at hc''
      exact absurd hc'' (by decide +kernel)
    have hn : its.toArray.size = i := by
      rw [← hx, hl]
      simp
    subst hn
    exact wpAny_pyNext_enum_endD (Draws.tuple (by exact I.ok.hd hc) it a nit its.toArray) he ⟨hit, pT⟩ fun h' eb => ⟨rfl, I.turned (t' := s.toks) (fun b o hb q => eb b o hb q) f0 f1 f3 f4 f5⟩
  self := fun A i s Q E st h => let ⟨⟨_, he⟩, _⟩ := st; wpAny_pyIter_enum he h
def iEnumS (K : PySem.W.Frag) (ta : TA) : TI := fun σ H R => ta σ H fun vs H1 => ∃ a xs, vs = [.ref a] ∧ ((SqL K H1 a xs ∧ R (Ite K a) H1) ∨ (SqT K H1 a xs ∧ R (IteT K a) H1))
theorem pi_enumS {X : Cx} {e : Expr} {ta : TA} {p pos tpos : Pos} {elts : List Expr} {kk : Nat} (hg : Gl X "enumerate") (hm : X.mg "enumerate" = none) (ha : PA X [e] ta) (hs : starEach [e] X.env = [(false, eval e X.env)] := by rfl) :
    PI X (.Tuple elts kk tpos) (.Call (.Name "enumerate" p) [e] [] pos) (iEnumS X.K ta) := by
  refine ⟨fun pins s σ H R I h => ?_⟩
  refine Call_ (ld_blt I hg hm boot_enumerate (PyProof.Rows.callWith_type1 (thn (ha.run pos pins s σ H _ I h) fun us s1 ⟨vs, H1, I1, r1, q1⟩ => ?_) hs rfl))
  obtain ⟨a, xs, ex, q1⟩ := q1
  subst ex
  cases r1 with
  | cons r rr =>
    cases rr
    cases r
    have fin : ∀ (h' : Heap) (itx : Addr), itx = s1.heap.objs.size → (∀ b o, s1.heap.get? b = some o → h'.get? b = some o) → ∀ b ∈ [s1.heap.objs.size + 1, itx], FpOk X pins H1 b := fun h' itx ei hk b hb => by
      have hle : s1.heap.objs.size ≤ b := by
        have e' : b = s1.heap.objs.size + 1 ∨ b = itx := by simpa using hb
        rcases e' with z | z
        · rw [z]; exact Nat.le_add_right _ _
        · rw [z, ei]; exact Nat.le_refl _
      exact I1.fpOk hle (I1.hok.fresh hle)
    rcases q1 with ⟨hq, q⟩ | ⟨hq, q⟩
    · obtain ⟨its, rv, p', hz⟩ := I1.list hq
      refine call_enumerate_list p'.isList fun h' he hit hsz hk => wpAny_pyIter_enum he ?_
      have I2 : Inv X pins σ H1 { s1 with heap := h' } := I1.kept (t' := s1.toks) hk
      exact ⟨s1.heap.objs.size + 1, [s1.heap.objs.size + 1, s1.heap.objs.size], _, _, H1, rfl, I2, turn_enum a (s1.heap.objs.size + 1) s1.heap.objs.size, ⟨⟨.none, he⟩, hit, Nat.succ_ne_self _⟩, fin h' _ rfl hk, q⟩
    · obtain ⟨its, rv, p', hz⟩ := I1.tuple hq
      refine enum_begins1 (begins_tuple a its.toArray) (show s1.heap.IsTuple a its.toArray from p') fun h' he hit hsz hk => wpAny_pyIter_enum he ?_
      have I2 : Inv X pins σ H1 { s1 with heap := h' } := I1.kept (t' := s1.toks) hk
      exact ⟨s1.heap.objs.size + 1, [s1.heap.objs.size + 1, s1.heap.objs.size], _, _, H1, rfl, I2, turn_enumT a (s1.heap.objs.size + 1) s1.heap.objs.size, ⟨⟨.none, he⟩, ⟨_, hit, rfl, rfl⟩, Nat.succ_ne_self _⟩, fin h' _ rfl hk, q⟩
theorem walk_enumT {K : PySem.W.Frag} {a : Addr} {xs : List V} : Walk (IteT K a) xs.length (fun H => SqT K H a xs) (YPair (fun i => some (.int (i : Nat))) (fun i => xs[i]?)) := by
  refine ⟨fun i _ hi q => ⟨xs, xs[i], q, by simp [hi]⟩, fun _ q => ⟨xs, q, rfl⟩, fun i H v H' _ q y => ?_⟩
  obtain ⟨T, x, h1, h2, h3, h4⟩ := y
  exact ⟨T, .int (i : Nat), x, h1, h2, h3, rfl, h4 xs q⟩
section
variable {K : PySem.W.Frag} {σ : L2.St} {H H' : Hp} {D : Ends} {tu tz : TS}
/-- for i, x in enumerate(xs), xs a list or a tuple -/
theorem s_forEnS {ta : TA} {i j : Nat} {a : Addr} {xs : List V} (h : EvA ta σ H [.ref a]) (G : Hp → Prop) (hG : (∀ H, G H → SqL K H a xs) ∨ (∀ H, G H → SqT K H a xs)) (hx : ∀ H1, Ex H H1 → G H1) (Pv : Nat → L2.St → Hp → Prop) (h0 : ∀ H1, Ex H H1 → Pv 0 σ H1) (hl : ∀ n σ' H', n ≤ xs.length → Pv n σ' H' → G H')
    (hs : ∀ n x σ' H' H2, xs[n]? = some x → Pv n σ' H' → Ex H' H2 → tu { D with nx := Pv (n + 1), ct := Pv (n + 1), bk := D.nx } ((σ'.set i (some (.int (n : Int)))).set j (some x)) H2) (hd : ∀ σ' H', Pv xs.length σ' H' → D.nx σ' H') :
    tFor (iEnumS K ta) (gTup K 2 (gCons (gName i) (gCons (gName j) gNil))) tu D σ H := h H (Ex.refl H) _ fun H1 e => by
  have turn : ∀ n v σ' Hh H2, n < xs.length → Pv n σ' Hh → YPair (fun i => some (.int (i : Nat))) (fun i => xs[i]?) n Hh v H2 → gTup K 2 (gCons (gName i) (gCons (gName j) gNil)) v σ' H2 fun σ2 H3 => tu { D with nx := Pv (n + 1), ct := Pv (n + 1), bk := D.nx } σ2 H3 := by
    rintro n v σ' Hh H2 hn p ⟨T, x, y, rfl, nT, rfl, g1, g2⟩
    have ex : V.int (n : Nat) = x := Option.some.inj g1
    subst ex
    exact ⟨T, [.int (n : Nat), y], rfl, st_of upd_same, rfl, _, [y], rfl, y, [], rfl, rfl, hs n y σ' Hh _ g2 p (Ex.new nT)⟩
  rcases hG with hG | hG
  · exact ⟨a, xs, rfl, .inl ⟨hG _ (hx H1 e), for_it walk_enum Pv (h0 H1 e) (fun n σ' H' hn p => hG _ (hl n σ' H' hn p)) (fun n v σ' Hh H2 => turn n v σ' Hh H2) hd⟩⟩
  · exact ⟨a, xs, rfl, .inr ⟨hG _ (hx H1 e), for_it walk_enumT Pv (h0 H1 e) (fun n σ' H' hn p => hG _ (hl n σ' H' hn p)) (fun n v σ' Hh H2 => turn n v σ' Hh H2) hd⟩⟩
end
end Kit

set_option Elab.async false
set_option linter.all false
set_option maxRecDepth 100000
set_option maxHeartbeats 4000000
namespace Kit
open PySem PySem.Spec PyProof.Rows L2 Evl
/-! list(range(a, b, c)) -/
def rgC (i c : Int) (n : Nat) : List V := (List.range n).map fun k => V.int (i + (k : Nat) * c)
def PRgC (X : Cx) (e : Expr) (t : L2.St → Hp → (Int → Int → Int → Hp → Prop) → Prop) : Prop :=
  ∀ (pins : List (Addr × Obj)) (s : Shared) (σ : L2.St) (H : Hp) (Q : Int → Int → Int → Hp → Prop), Inv X pins σ H s → t σ H Q →
    wpAny (model X.prog X.w) X.A (eval e X.env) (fun x s' => ∃ r a b c t u v H', x = .ref r ∧ IsRange s'.heap r a b c t u v ∧ Inv X pins σ H' s' ∧ Q a b c H') X.xe s
def tRg3 (ta : TA) : L2.St → Hp → (Int → Int → Int → Hp → Prop) → Prop := fun σ H Q => ta σ H fun vs H1 => ∃ i j c, vs = [.int i, .int j, .int c] ∧ (c ≠ 0 ∧ c.natAbs < 1073741824) ∧ Q i j c H1
section
variable {X : Cx}
theorem prg_3 {a b c : Expr} {ta : TA} {p pos : Pos} (hg : Gl X "range") (hm : X.mg "range" = none) (ha : PA X [a, b, c] ta)
    (hs : starEach [a, b, c] X.env = (false, eval a X.env) :: starEach [b, c] X.env := by rfl) (hpl : (backTo pos (starEach [b, c] X.env)).any (·.1) = false := by rfl) : PRgC X (.Call (.Name "range" p) [a, b, c] [] pos) (tRg3 ta) := by
  intro pins s σ H Q I h
  refine Call_ (ld_blt I hg hm boot_range (PyProof.Rows.callWith_type1 (thn (ha.run pos pins s σ H _ I h) fun us s1 ⟨vs, H1, I1, r1, q1⟩ => ?_) hs hpl))
  obtain ⟨i, j, k, e, ⟨c0, c1⟩, q⟩ := q1
  subst e
  cases r1 with
  | cons r rr =>
    cases rr with
    | cons r' rr =>
      cases rr with
      | cons r'' rr =>
        cases rr
        obtain ⟨t, rfl⟩ := r
        obtain ⟨t', rfl⟩ := r'
        obtain ⟨t'', rfl⟩ := r''
        exact call_range_3 c0 ⟨_, i, j, k, _, _, _, H1, rfl, IsRange.new _ _ _ _ _ _ _, I1.kept fun b u e => Heap.get?_push_of_some _ e, q⟩ (.inl (PyProof.noPylong_small c1))
theorem vals_rgC {a c : Int} {n : Nat} {acc : Array Value} (h : ItemsOf (fun i v => ∃ t, v = .int (a + i * c) t) acc n) : Vals (rgC a c n) acc.toList := by
  have e : acc.toList.length = n := by rw [Array.length_toList]; exact h.1
  unfold rgC
  rw [← e]
  refine vals_of_get acc.toList _ fun j u hj => ?_
  obtain ⟨t, rfl⟩ := h.2 j u (by rw [← hj, Array.getElem?_toList])
  exact ⟨t, rfl⟩
def tLstRgC (te : L2.St → Hp → (Int → Int → Int → Hp → Prop) → Prop) : TE := fun σ H Q => te σ H fun a b c H1 => ∃ n : Nat, (Builtin.Range.small a b c = true ∧ Builtin.Range.rangeSize a b c = n ∧ n ≤ 2 ^ 24) ∧ ∀ q, H1 q = none → Q (.ref q) (upd H1 q (.lst (rgC a c n)))
theorem pe_listRgC {e : Expr} {te : L2.St → Hp → (Int → Int → Int → Hp → Prop) → Prop} {p pos : Pos} (hc : X.calm = true) (hg : Gl X "list") (hm : X.mg "list" = none) (he : PRgC X e te) (na : starEach [e] X.env = (false, eval e X.env) :: starEach [] X.env := by rfl) : PE X (.Call (.Name "list" p) [e] [] pos) (tLstRgC te) := by
  refine ⟨fun pins s σ H Q I h => ?_⟩
  refine Call_ (ld_blt I hg hm boot_list (PyProof.Rows.callWith_type1 (args_cons (thn (he pins s σ H _ I h) fun x s1 ⟨r, a, b, c, t, u, v, H1, ex, hr, I1, n, ⟨ok1, ok2, ok3⟩, q⟩ => args_nil ?_) na) na))
  subst ex
  refine call_list_range (n := n) (I1.ok.hd hc) hr ok1 ok2 ok3 fun h' tk acc c' hk e' hi => ?_
  refine ⟨.ref s1.heap.objs.size, upd H1 s1.heap.objs.size (.lst (rgC a c n)), I1.laid hk (Nat.le_refl _) (show ObjOk X.prog X.w _ _ _ (.lst (rgC a c n)) from ⟨?_, acc.toList, c', vals_rgC hi, ?_⟩), rfl, q _ (I1.hok.fresh (Nat.le_refl _))⟩
  · unfold rgC
    rw [List.length_map, List.length_range, sizeLine_eq]
    omega
  · rw [Array.toArray_toList]; exact e'
end
theorem el_down {σ : L2.St} {H : Hp} {ta : TA} {i j : Int} (h : EvA ta σ H [.int i, .int j, .int (-1)]) (hi : 0 ≤ i ∧ i ≤ 1000) (hj : -1 ≤ j ∧ j ≤ 1000) : EvL (tLstRgC (tRg3 ta)) σ H (rgC i (-1) (i - j).toNat) := fun H1 e Q q =>
  h H1 e _ fun H2 e2 => ⟨i, j, -1, rfl, ⟨by decide, by decide⟩, (i - j).toNat, ⟨(RgC.neg (by omega) (by omega) (by omega) (by omega)).2.2.1, (RgC.neg (by omega) (by omega) (by omega) (by omega)).2.2.2, by omega⟩, fun l hl => q l _ (fresh_back e2 hl) (e2.trans (Ex.new hl)) upd_same⟩
end Kit

set_option Elab.async false
set_option linter.all false
set_option maxRecDepth 100000
set_option maxHeartbeats 4000000
namespace Kit
open PySem PySem.Spec PyProof.Rows L2 Evl
/-! ### any thing: none, bools, ints, texts, tuples, dicts, lists of data -/
inductive It (K : PySem.W.Frag) (H : Hp) : V → PyData → Prop
  | non : It K H .non .none
  | bl (b : Bool) : It K H (.bl b) (.bool b)
  | int (i : Int) : It K H (.int i) (.int i)
  | str (x : Str) : It K H (.str x) (.str x)
  | lst {a : Addr} {xs : List V} {ds : List PyData} (h : H a = some (.lst xs)) (hd : DpAll K H xs ds) : It K H (.ref a) (.list ds)
theorem It.ex {K : PySem.W.Frag} {H H' : Hp} {v : V} {d : PyData} (e : Ex H H') (h : It K H v d) : It K H' v d := by
  cases h with
  | non => exact .non
  | bl b => exact .bl b
  | int i => exact .int i
  | str x => exact .str x
  | lst h hd => exact .lst (e _ _ h) (DpAll.ex e _ _ hd)
theorem It.dp {K : PySem.W.Frag} {H : Hp} {v : V} {d : PyData} (h : It K H v d) : Dp K H v d := by
  cases h with
  | non => exact .non
  | bl b => exact .bl b
  | int i => exact .int i
  | str x => exact .str x
  | lst h hd => exact .lst (sq_of h) hd
def ItAll (K : PySem.W.Frag) (H : Hp) (vs : List V) (ds : List PyData) : Prop := Paired (It K H) vs ds
theorem ItAll.ex {K : PySem.W.Frag} {H H' : Hp} (e : Ex H H') : ∀ {vs : List V} {ds : List PyData}, ItAll K H vs ds → ItAll K H' vs ds
  | _, _, .nil => .nil
  | _, _, .cons h t => .cons (h.ex e) (ItAll.ex e t)
theorem ItAll.dp {K : PySem.W.Frag} {H : Hp} : ∀ {vs : List V} {ds : List PyData}, ItAll K H vs ds → DpAll K H vs ds
  | _, _, .nil => .nil
  | _, _, .cons h t => .cons h.dp (ItAll.dp t)
theorem ItAll.app {K : PySem.W.Frag} {H : Hp} : ∀ {vs ws : List V} {ds es : List PyData}, ItAll K H vs ds → ItAll K H ws es → ItAll K H (vs ++ ws) (ds ++ es)
  | _, _, _, _, .nil, q => q
  | _, _, _, _, .cons h t, q => .cons h (ItAll.app t q)
theorem ItAll.len {K : PySem.W.Frag} {H : Hp} {vs : List V} {ds : List PyData} (h : ItAll K H vs ds) : vs.length = ds.length := Paired.length h
theorem ita_ints {K : PySem.W.Frag} {H : Hp} : ∀ ns : List Int, ItAll K H (ns.map V.int) (ns.map PyData.int)
  | [] => .nil
  | n :: r => .cons (.int n) (ita_ints r)
def Fine (ds : List PyData) : Prop := ∀ d ∈ ds, d.canLay0 = true ∧ d.depth ≤ 5
theorem fine_nil : Fine [] := fun d h => by cases h
theorem fine_cons {d : PyData} {ds : List PyData} (h : d.canLay0 = true) (h2 : d.depth ≤ 5) (t : Fine ds) : Fine (d :: ds) := fun x hx => by
  rcases List.mem_cons.mp hx with e | e
  · rw [e]
    exact ⟨h, h2⟩
  · exact t x e
theorem fine_app {ds es : List PyData} (h : Fine ds) (h2 : Fine es) : Fine (ds ++ es) := fun x hx => (List.mem_append.mp hx).elim (h x) (h2 x)
theorem fine_ints : ∀ ns : List Int, Fine (ns.map PyData.int)
  | [] => fine_nil
  | n :: r => fine_cons rfl (Nat.zero_le _) (fine_ints r)
theorem Fine.sub {ds es : List PyData} (h : Fine ds) (s : ∀ x ∈ es, x ∈ ds) : Fine es := fun x hx => h x (s x hx)
theorem Fine.shaped {ds : List PyData} (h : Fine ds) : SeqAt.shaped (.list ds) = true := by
  have : PyData.canLayAll0 ds = true ∧ PyData.depthAll ds ≤ 5 := by
    induction ds with
    | nil => exact ⟨rfl, Nat.zero_le _⟩
    | cons d r ih =>
      obtain ⟨a, b⟩ := ih fun x hx => h x (List.mem_cons_of_mem _ hx)
      obtain ⟨c, e⟩ := h d List.mem_cons_self
      refine ⟨by simp [PyData.canLayAll0, a, c], ?_⟩
      simp [PyData.depthAll]
      omega
  simp [SeqAt.shaped, PyData.canLay0, this.1, PyData.depth]
  omega
inductive Th (K : PySem.W.Frag) (H : Hp) : V → Option (List PyData) → Prop
  | non : Th K H .non none
  | bl (b : Bool) : Th K H (.bl b) none
  | int (i : Int) : Th K H (.int i) none
  | str (x : Str) : Th K H (.str x) none
  | tup {a : Addr} {xs : List V} (h : H a = some (.tup xs)) : Th K H (.ref a) none
  | dct {a : Addr} {kvs : List (Key × V)} (h : H a = some (.dK kvs)) : Th K H (.ref a) none
  | lst {a : Addr} {xs : List V} {ds : List PyData} (h : H a = some (.lst xs)) (hd : ItAll K H xs ds) (hf : Fine ds) : Th K H (.ref a) (some ds)
def AT (K : PySem.W.Frag) (H : Hp) (v : V) : Prop := ∃ o, Th K H v o
section
variable {K : PySem.W.Frag} {σ : L2.St} {H H' : Hp} {te ta tb : TE} {t tr : TA}
theorem Th.ex {v : V} {o : Option (List PyData)} (e : Ex H H') (h : Th K H v o) : Th K H' v o := by
  cases h with
  | non => exact .non
  | bl b => exact .bl b
  | int i => exact .int i
  | str x => exact .str x
  | tup h => exact .tup (e _ _ h)
  | dct h => exact .dct (e _ _ h)
  | lst h hd hf => exact .lst (e _ _ h) (hd.ex e) hf
theorem AT.ex {v : V} (e : Ex H H') (h : AT K H v) : AT K H' v := h.imp fun _ x => x.ex e
def EvTh (K : PySem.W.Frag) (te : TE) (σ : L2.St) (H : Hp) : Prop := ∀ H1, Ex H H1 → ∀ Q : VK, (∀ v H2, Ex H1 H2 → AT K H2 v → Q v H2) → te σ H1 Q
def EvThA (K : PySem.W.Frag) (ta : TA) (σ : L2.St) (H : Hp) (n : Nat) : Prop := ∀ H1, Ex H H1 → ∀ Q : List V → Hp → Prop, (∀ vs H2, Ex H1 H2 → vs.length = n → (∀ v ∈ vs, AT K H2 v) → Q vs H2) → ta σ H1 Q
theorem tha_nil : EvThA K tNil σ H 0 := fun H1 _ _ q => q [] H1 (Ex.refl H1) rfl (by simp)
theorem tha_cons {n : Nat} (h : EvTh K te σ H) (hr : EvThA K tr σ H n) : EvThA K (tCons te tr) σ H (n + 1) := fun H1 e _ q =>
  h H1 e _ fun v H2 e2 hv => hr H2 (e.trans e2) _ fun vs H3 e3 hl hvs => q (v :: vs) H3 (e2.trans e3) (by simp [hl]) fun x hx => by
    rcases List.mem_cons.mp hx with z | z
    · rw [z]
      exact hv.ex e3
    · exact hvs x z
theorem th_non (h : Ev te σ H .non) : EvTh K te σ H := fun H1 e Q q => h H1 e Q fun H2 e2 => q _ H2 e2 ⟨_, .non⟩
theorem th_bl {b : Bool} (h : Ev te σ H (.bl b)) : EvTh K te σ H := fun H1 e Q q => h H1 e Q fun H2 e2 => q _ H2 e2 ⟨_, .bl b⟩
theorem th_int {i : Int} (h : Ev te σ H (.int i)) : EvTh K te σ H := fun H1 e Q q => h H1 e Q fun H2 e2 => q _ H2 e2 ⟨_, .int i⟩
theorem th_str {x : Str} (h : Ev te σ H (.str x)) : EvTh K te σ H := fun H1 e Q q => h H1 e Q fun H2 e2 => q _ H2 e2 ⟨_, .str x⟩
theorem th_U {xs : List V} (h : EvU te σ H xs) : EvTh K te σ H := fun H1 e Q q => h H1 e Q fun p H2 _ e2 h2 => q _ H2 e2 ⟨_, .tup h2⟩
theorem th_L {xs : List V} (h : EvL te σ H xs) (hd : ∃ ds, ItAll K H xs ds ∧ Fine ds) : EvTh K te σ H := fun H1 e Q q => h H1 e Q fun p H2 _ e2 h2 => q _ H2 e2 (by
  obtain ⟨ds, d, f⟩ := hd
  exact ⟨_, .lst h2 (d.ex (e.trans e2)) f⟩)
def EvIA (K : PySem.W.Frag) (ta : TA) (σ : L2.St) (H : Hp) (ds : List PyData) : Prop := ∀ H1, Ex H H1 → ∀ Q : List V → Hp → Prop, (∀ vs H2, Ex H1 H2 → ItAll K H2 vs ds → Q vs H2) → ta σ H1 Q
def EvI (K : PySem.W.Frag) (te : TE) (σ : L2.St) (H : Hp) (d : PyData) : Prop := ∀ H1, Ex H H1 → ∀ Q : VK, (∀ v H2, Ex H1 H2 → It K H2 v d → Q v H2) → te σ H1 Q
theorem ia_nil : EvIA K tNil σ H [] := fun H1 _ _ q => q [] H1 (Ex.refl H1) .nil
theorem ia_cons {d : PyData} {ds : List PyData} (h : EvI K te σ H d) (hr : EvIA K tr σ H ds) : EvIA K (tCons te tr) σ H (d :: ds) := fun H1 e _ q =>
  h H1 e _ fun v H2 e2 dv => hr H2 (e.trans e2) _ fun vs H3 e3 dvs => q (v :: vs) H3 (e2.trans e3) (.cons (dv.ex e3) dvs)
theorem it_of {v : V} {d : PyData} (h : Ev te σ H v) (k : It K H v d) : EvI K te σ H d := fun H1 e Q q => h H1 e Q fun H2 e2 => q v H2 e2 (k.ex (e.trans e2))
theorem it_D {ds : List PyData} (h : EvDA K t σ H ds) (hl : ds.length ≤ 100000) : EvI K (tLst t) σ H (.list ds) := fun H1 e Q q =>
  h H1 e _ fun vs H2 e2 dv => ⟨sz_of (by rw [DpAll.len dv]; exact hl), fun p hp => q _ _ (e2.trans (Ex.new hp)) (.lst upd_same (DpAll.ex (Ex.new hp) ds vs dv))⟩
theorem th_D {ds : List PyData} (h : EvIA K t σ H ds) (hf : Fine ds) (hl : ds.length ≤ 100000) : EvTh K (tLst t) σ H := fun H1 e Q q =>
  h H1 e _ fun vs H2 e2 dv => ⟨sz_of (by rw [dv.len]; exact hl), fun p hp => q _ _ (e2.trans (Ex.new hp)) ⟨_, .lst upd_same (dv.ex (Ex.new hp)) hf⟩⟩
theorem th_var {i : Nat} {v : V} (h : σ[i]? = some (some v)) (hv : AT K H v) : EvTh K (tVar i) σ H := fun H1 e Q q => ⟨v, h, q v H1 (Ex.refl _) (hv.ex e)⟩
theorem th_dnew : EvTh K tDNewK σ H := fun H1 e Q q p hp => q _ _ (Ex.new hp) ⟨_, .dct upd_same⟩
theorem th_disp {x : Str} {i : Int} : EvTh K (tDisp [(tC (.str x), tC (.int i))]) σ H := fun H1 e Q q p hp =>
  ⟨upd_same, [(.inr x, .int i)], rfl, Nat.le_of_ble_eq_true rfl, q _ _ (Ex.mut (Ex.new hp) hp) ⟨_, .dct upd_same⟩⟩
/-- [.., ..] of things: a new list -/
def EvTL (K : PySem.W.Frag) (te : TE) (σ : L2.St) (H : Hp) (n : Nat) : Prop := ∀ H1, Ex H H1 → ∀ Q : VK, (∀ p vs H2, H1 p = none → Ex H1 H2 → H2 p = some (.lst vs) → vs.length = n → (∀ v ∈ vs, AT K H2 v) → Q (.ref p) H2) → te σ H1 Q
theorem tl_lst {n : Nat} (h : EvThA K t σ H n) (hn : n ≤ 100000) : EvTL K (tLst t) σ H n := fun H1 e Q q =>
  h H1 e _ fun vs H2 e2 hl hv => ⟨sz_of (by omega), fun p hp => q p vs _ (fresh_back e2 hp) (e2.trans (Ex.new hp)) upd_same hl fun v z => (hv v z).ex (Ex.new hp)⟩
theorem tl_cat {a : Addr} {xs : List V} {n : Nat} (h : Ev ta σ H (.ref a)) (ha : H a = some (.lst xs)) (hx : ∀ v ∈ xs, AT K H v) (h2 : EvTL K tb σ H n) (hz : xs.length + n ≤ 1000) : EvTL K (tOp rCat ta tb) σ H (xs.length + n) := fun H1 e Q q =>
  h H1 e _ fun H2 e2 => h2 H2 (e.trans e2) _ fun p vs H3 _ e3 h3 hl hv =>
    ⟨a, p, xs, vs, rfl, rfl, e3 a _ (e2 a _ (e a _ ha)), h3, sz_of (by omega), fun l hl' => q l _ _ (fresh_back (e2.trans e3) hl') ((e2.trans e3).trans (Ex.new hl')) upd_same (by rw [List.length_append, hl]) fun v z => by
      rcases List.mem_append.mp z with z | z
      · exact (hx v z).ex (e.trans (e2.trans (e3.trans (Ex.new hl'))))
      · exact (hv v z).ex (Ex.new hl')⟩
/-- x + ys, x an old list -/
theorem el_catO {a : Addr} {xs ys : List V} (h : Ev ta σ H (.ref a)) (ha : H a = some (.lst xs)) (h2 : EvL tb σ H ys) (hz : xs.length + ys.length ≤ 1000) : EvL (tOp rCat ta tb) σ H (xs ++ ys) := fun H1 e Q q =>
  h H1 e _ fun H2 e2 => h2 H2 (e.trans e2) _ fun p H3 _ e3 h3 =>
    ⟨a, p, xs, ys, rfl, rfl, e3 a _ (e2 a _ (e a _ ha)), h3, sz_of (by omega), fun l hl' => q l _ (fresh_back (e2.trans e3) hl') ((e2.trans e3).trans (Ex.new hl')) upd_same⟩
end
/-! ### the type of any thing -/
def kTyp2 (x : V) (H : Hp) (Q : VK) : Prop := ∃ n, (zTyV x H = some n ∨ (n = "dict" ∧ ∃ a kvs, x = .ref a ∧ H a = some (.dK kvs))) ∧ Q (.ty n) H
def rNeTyG : R2 := fun x y H Q => ∃ m n, x = .ty m ∧ y = .ty n ∧ Meta m ∧ Meta n ∧ Q (.bl (!decide (m = n))) H
section
variable {X : Cx} {ta : TE} {a : Expr}
theorem rl_type2 (pins : List (Addr × Obj)) (st : Shared) (σ : L2.St) (H : Hp) (x : V) (u : Value) (Q : VK) (J : Inv X pins σ H st) (r : RelV x u) (h : kTyp2 x H Q) :
    wpAny (model X.prog X.w) X.A (call (.type "type") [u]) (EP X pins σ Q) X.xe st := by
  obtain ⟨n, e | ⟨rfl, a, kvs, rfl, ha⟩, q⟩ := h
  · exact rl_type pins st σ H x u Q J r ⟨n, e, q⟩
  · cases (show u = Value.ref a from r)
    obtain ⟨_, _, vs, _, o, es, ep, h1, h2, _⟩ := (show ObjOk X.prog X.w H st.heap a (.dK kvs) from J.hok a _ ha)
    exact call_type_of (Tx := "dict") ⟨o, h1, h2.1⟩ (by decide +kernel) ⟨.ty "dict", H, J, rfl, q⟩
theorem pe_typeOf2 {p pos : Pos} (hg : Gl X "type") (hm : X.mg "type" = none) (ha : PE X a ta) (na : starEach [a] X.env = (false, eval a X.env) :: starEach [] X.env := by rfl) :
    PE X (.Call (.Name "type" p) [a] [] pos) (tThenZ ta kTyp2) := pe_callTy (call_r1 rl_type2) hg hm (by decide +kernel) (pa_cons ha pa_nil na) (he := na)
theorem op_neTyG (hu : X.A.units + 1 < cLine) : OpR X (compareOp .NotEq) rNeTyG := by
  intro pins st σ H x y v u Q J rx ry h
  obtain ⟨m, n, rfl, rfl, hm, hn, q⟩ := h
  cases (show v = Value.type m from rx)
  cases (show u = Value.type n from ry)
  by_cases e : m = n
  · subst e
    exact ne_type_same hm hu ⟨.bl false, H, J, rfl, by simpa using q⟩
  · exact ne_type_other hm hn (by rw [beq_eq_false_iff_ne]; exact fun z => e (Value.type.inj z)) hu ⟨.bl true, H, J, rfl, by simpa [e] using q⟩
end
section
variable {K : PySem.W.Frag} {σ : L2.St} {H : Hp} {ta tb : TE}
/-- the name of a thing's type -/
theorem th_type {v : V} {o : Option (List PyData)} (h : Th K H v o) : ∃ n, (zTyV v H = some n ∨ (n = "dict" ∧ ∃ a kvs, v = .ref a ∧ H a = some (.dK kvs))) ∧ Meta n ∧ (n = "list" ↔ o.isSome = true) := by
  cases h with
  | non => exact ⟨"NoneType", .inl rfl, PySem.TypeEq.meta_NoneType, by simp⟩
  | bl b => exact ⟨"bool", .inl rfl, PySem.TypeEq.meta_bool, by simp⟩
  | int i => exact ⟨"int", .inl rfl, PySem.TypeEq.meta_int, by simp⟩
  | str x => exact ⟨"str", .inl rfl, PySem.TypeEq.meta_str, by simp⟩
  | tup h => exact ⟨"tuple", .inl (by simp [zTyV, h]), PySem.TypeEq.meta_tuple, by simp⟩
  | dct h => exact ⟨"dict", .inr ⟨rfl, _, _, rfl, h⟩, PySem.TypeEq.meta_dict, by simp⟩
  | lst h _ _ => exact ⟨"list", .inl (by simp [zTyV, h]), PySem.TypeEq.meta_list, by simp⟩
/-- type(v) != list -/
theorem ev_noList {v : V} {o : Option (List PyData)} (h : Ev ta σ H v) (hv : Th K H v o) : Ev (tOp rNeTyG (tThenZ ta kTyp2) (tC (.ty "list"))) σ H (.bl (!o.isSome)) := fun H1 e Q q => h H1 e _ fun H2 e2 => by
  obtain ⟨n, hn, mt, iff⟩ := th_type (hv.ex (e.trans e2))
  refine ⟨n, hn, n, "list", rfl, rfl, mt, PySem.TypeEq.meta_list, ?_⟩
  have : decide (n = "list") = o.isSome := by
    rw [Bool.eq_iff_iff, decide_eq_true_iff]
    exact iff
  rw [this]
  exact q H2 e2
theorem th_is {v : V} {o : Option (List PyData)} (h : Th K H v o) : ∃ n, TyX K H v (.type n) ∧ PySem.W.kitOne K (.type n) (.type "list") = some o.isSome := by
  cases h with
  | non => exact ⟨_, .base .non, rfl⟩
  | bl b => exact ⟨_, .base (.bl b), rfl⟩
  | int i => exact ⟨_, .base (.int i), rfl⟩
  | str x => exact ⟨_, .base (.str x), rfl⟩
  | tup h => exact ⟨_, .base (.tup h), rfl⟩
  | dct h => exact ⟨_, .base (.dK h), rfl⟩
  | lst h _ _ => exact ⟨_, .base (.lst h), rfl⟩
/-- isinstance(v, list) -/
theorem ev_isList {v : V} {o : Option (List PyData)} (h : Ev ta σ H v) (hv : Th K H v o) : Ev (tCB (rIsi K) (tCons ta (tCons (tC (.ty "list")) tNil))) σ H (.bl o.isSome) := fun H1 e Q q => h H1 e _ fun H2 e2 => by
  obtain ⟨n, ht, hk⟩ := th_is (hv.ex (e.trans e2))
  exact ⟨v, .ty "list", .type n, .type "list", o.isSome, rfl, .ty "list", ht, hk, q H2 e2⟩
def isI : PyData → Bool
  | .int _ => true
  | _ => false
theorem it_type {v : V} {d : PyData} (h : It K H v d) : ∃ n, zTyV v H = some n ∧ Meta n ∧ decide (n = "int") = isI d := by
  cases h with
  | non => exact ⟨"NoneType", rfl, PySem.TypeEq.meta_NoneType, by simp [isI]⟩
  | bl b => exact ⟨"bool", rfl, PySem.TypeEq.meta_bool, by simp [isI]⟩
  | int i => exact ⟨"int", rfl, PySem.TypeEq.meta_int, by simp [isI]⟩
  | str x => exact ⟨"str", rfl, PySem.TypeEq.meta_str, by simp [isI]⟩
  | lst h _ => exact ⟨"list", by simp [zTyV, h], PySem.TypeEq.meta_list, by simp [isI]⟩
/-- type(v) == int -/
theorem ev_isWhole {v : V} {d : PyData} (h : Ev ta σ H v) (hv : It K H v d) : Ev (tOp rEqTy (tThenZ ta kTyp) (tC (.ty "int"))) σ H (.bl (isI d)) := fun H1 e Q q => h H1 e _ fun H2 e2 => by
  obtain ⟨n, hn, mt, iff⟩ := it_type (hv.ex (e.trans e2))
  refine ⟨n, hn, n, "int", rfl, rfl, mt, PySem.TypeEq.meta_int, ?_⟩
  rw [iff]
  exact q H2 e2
def isB : PyData → Bool
  | .bool _ => true
  | _ => false
theorem it_isB {v : V} {d : PyData} (h : It K H v d) : ∃ n, TyX K H v (.type n) ∧ PySem.W.kitOne K (.type n) (.type "bool") = some (isB d) := by
  cases h with
  | non => exact ⟨_, .base .non, rfl⟩
  | bl b => exact ⟨_, .base (.bl b), rfl⟩
  | int i => exact ⟨_, .base (.int i), rfl⟩
  | str x => exact ⟨_, .base (.str x), rfl⟩
  | lst h _ => exact ⟨_, .base (.lst h), rfl⟩
theorem it_isI {v : V} {d : PyData} (h : It K H v d) : ∃ n, TyX K H v (.type n) ∧ PySem.W.kitOne K (.type n) (.type "int") = some (isI d || isB d) := by
  cases h with
  | non => exact ⟨_, .base .non, rfl⟩
  | bl b => exact ⟨_, .base (.bl b), rfl⟩
  | int i => exact ⟨_, .base (.int i), rfl⟩
  | str x => exact ⟨_, .base (.str x), rfl⟩
  | lst h _ => exact ⟨_, .base (.lst h), rfl⟩
/-- isinstance(v, bool) or not isinstance(v, int) -/
theorem et_noInt {v : V} {d : PyData} (h : Ev ta σ H v) (hv : It K H v d) : EvT (tOr (tB (tCB (rIsi K) (tCons ta (tCons (tC (.ty "bool")) tNil)))) (tNot (tB (tCB (rIsi K) (tCons ta (tCons (tC (.ty "int")) tNil)))))) σ H (!isI d) := by
  have one : Ev (tCB (rIsi K) (tCons ta (tCons (tC (.ty "bool")) tNil))) σ H (.bl (isB d)) := fun H1 e Q q => h H1 e _ fun H2 e2 => by
    obtain ⟨n, ht, hb⟩ := it_isB (hv.ex (e.trans e2))
    exact ⟨v, .ty "bool", _, .type "bool", _, rfl, .ty "bool", ht, hb, q H2 e2⟩
  have two : Ev (tCB (rIsi K) (tCons ta (tCons (tC (.ty "int")) tNil))) σ H (.bl (isI d || isB d)) := fun H1 e Q q => h H1 e _ fun H2 e2 => by
    obtain ⟨n, ht, hb⟩ := it_isI (hv.ex (e.trans e2))
    exact ⟨v, .ty "int", _, .type "int", _, rfl, .ty "int", ht, hb, q H2 e2⟩
  refine et_is (et_or (et_B one) fun _ => et_not (et_B two)) ?_
  cases d <;> rfl
end
/-! tuple(range(a, b, c)) -/
def tTupRgC (te : L2.St → Hp → (Int → Int → Int → Hp → Prop) → Prop) : TE := fun σ H Q => te σ H fun a b c H1 => ∃ n : Nat, (Builtin.Range.small a b c = true ∧ Builtin.Range.rangeSize a b c = n ∧ n ≤ 2 ^ 24) ∧ ∀ q, H1 q = none → Q (.ref q) (upd H1 q (.tup (rgC a c n)))
theorem pe_tupRgC {X : Cx} {e : Expr} {te : L2.St → Hp → (Int → Int → Int → Hp → Prop) → Prop} {p pos : Pos} (calm : X.calm = true) (hg : Gl X "tuple") (hm : X.mg "tuple" = none) (he : PRgC X e te) (na : starEach [e] X.env = (false, eval e X.env) :: starEach [] X.env := by rfl) : PE X (.Call (.Name "tuple" p) [e] [] pos) (tTupRgC te) := by
  refine ⟨fun pins st σ H Q J h => ?_⟩
  refine Call_ (ld_blt J hg hm boot_tuple (PyProof.Rows.callWith_type1 (args_cons (thn (he pins st σ H _ J h) fun x s1 ⟨r, a, b, c, t, u, v, H1, ex, hr, J1, n, ⟨o1, o2, o3⟩, q⟩ => args_nil ?_) na) na))
  subst ex
  refine call_tuple_range (n := n) (J1.ok.hd calm) hr o1 o2 o3 fun h' tk acc keep its => ?_
  have J2 : Inv X pins σ H1 { s1 with heap := h', toks := tk } := J1.kept keep
  refine ⟨.ref h'.objs.size, upd H1 h'.objs.size (.tup (rgC a c n)), J2.laid (t' := tk) (fun z o e => Heap.get?_push_of_some _ e) (Nat.le_refl _) (show ObjOk X.prog X.w _ _ _ (.tup (rgC a c n)) from ⟨?_, acc.toList, vals_rgC its, ?_⟩), rfl, q _ (J2.hok.fresh (Nat.le_refl _))⟩
  · unfold rgC
    rw [List.length_map, List.length_range, sizeLine_eq]
    omega
  · rw [Array.toArray_toList]
    exact IsTup.new _ _
theorem eu_down {σ : L2.St} {H : Hp} {ta : TA} {i j : Int} (h : EvA ta σ H [.int i, .int j, .int (-1)]) (hi : 0 ≤ i ∧ i ≤ 1000) (hj : -1 ≤ j ∧ j ≤ 1000) : EvU (tTupRgC (tRg3 ta)) σ H (rgC i (-1) (i - j).toNat) := fun H1 e Q q =>
  h H1 e _ fun H2 e2 => ⟨i, j, -1, rfl, ⟨by decide, by decide⟩, (i - j).toNat, ⟨(RgC.neg (by omega) (by omega) (by omega) (by omega)).2.2.1, (RgC.neg (by omega) (by omega) (by omega) (by omega)).2.2.2, by omega⟩, fun l hl => q l _ (fresh_back e2 hl) (e2.trans (Ex.new hl)) upd_same⟩
/-! xs.index(x) where the written part must be said -/
theorem pe_indexK {X : Cx} {K : PySem.W.Frag} {o e : Expr} {to te : TE} {apos cpos : Pos} (hK : X.K = K) (ho : PE X o to) (he : PE X e te) (b : attributeBase o "index" X.env (eval o X.env) = eval o X.env := by rfl)
    (few : ((backTo cpos (starEach [e] X.env)).all (fun x => !x.1) && (backToKw cpos (keywordEach [] X.env)).all (fun x => x.1.isSome) && decide ([e].length + ([] : List Keyword).length + (if ([] : List Keyword).isEmpty then 0 else 1) < 30)) = true := by rfl)
    (line : (apos.endLine == cpos.line) = true := by rfl) (st : starEach [e] X.env = (false, eval e X.env) :: starEach [] X.env := by rfl) (pl : (backTo cpos (starEach [] X.env)).any (·.1) = false := by rfl) :
    PE X (.Call (.Attribute o "index" apos) [e] [] cpos) (tBM K "list" (rIndex K) to (tCons te tNil)) := by
  subst hK
  exact pe_bm PySem.F.plainAttrs_list PySem.F.slot_list_index PySem.F.type_list_index mt_index ho (pa_cons he pa_nil st) b few line st pl
theorem pe_revLK {X : Cx} {K : PySem.W.Frag} {e : Expr} {te : TE} {k : Nat} {p1 p2 p3 pos : Pos} (hK : X.K = K) (he : PE X e te) : PE X (.Subscript e (.Slice none none (some (.UnaryOp .USub (.Constant (.int 1) k p1) p2)) p3) pos) (tRevL K te) := by
  subst hK
  exact pe_revL he
end Kit

set_option Elab.async false
set_option linter.all false
set_option maxRecDepth 100000
set_option maxHeartbeats 4000000
namespace Kit
open PySem PySem.Spec PyProof.Rows L2 Evl
/-! ### data that repr shows, with long ints: at most n signs -/
structure ShN (d : PyData) (n : Nat) : Prop where
  shw : d.showable = true
  nod : d.hasDict = false
  len : d.shown.length ≤ n
  dep : d.depth ≤ 20
theorem shn_int {i : Int} (h : i.natAbs.log2 < 1920) : ShN (.int i) 1921 := ⟨decide_eq_true h, rfl, int_text_len_1921 h, Nat.zero_le _⟩
theorem shn_int2 {i : Int} (h : i.natAbs < 2 ^ 1900) : ShN (.int i) 1921 := shn_int (by
  by_cases z : i.natAbs = 0
  · rw [z]
    decide
  · exact Nat.lt_of_lt_of_le ((Nat.log2_lt z).mpr h) (by decide))
theorem shn_all {n : Nat} : ∀ {ds : List PyData}, (∀ d ∈ ds, ShN d n ∧ d.depth ≤ 19) → PyData.showableAll ds = true ∧ PyData.hasDictAll ds = false ∧ ((PyData.shownAll ds).map (·.length)).sum ≤ n * ds.length ∧ (PyData.shownAll ds).length = ds.length ∧ PyData.depthAll ds ≤ 19
  | [], _ => ⟨rfl, rfl, Nat.zero_le _, rfl, Nat.zero_le _⟩
  | d :: r, h => by
    obtain ⟨a, b, c, e, f⟩ := shn_all fun x hx => h x (List.mem_cons_of_mem _ hx)
    obtain ⟨⟨p, q, s, _⟩, t⟩ := h d List.mem_cons_self
    refine ⟨by simp [PyData.showableAll, a, p], by simp [PyData.hasDictAll, b, q], ?_, by simp [PyData.shownAll, e], by simp only [PyData.depthAll]; omega⟩
    simp only [PyData.shownAll, List.map_cons, List.sum_cons, List.length_cons, Nat.mul_succ]
    omega
theorem shn_list {ds : List PyData} {n : Nat} (h : ∀ d ∈ ds, ShN d n ∧ d.depth ≤ 19) : ShN (.list ds) ((n + 2) * ds.length + 3) := by
  obtain ⟨a, b, c, e, f⟩ := shn_all h
  refine ⟨by simpa [PyData.showable] using a, by simpa [PyData.hasDict] using b, ?_, by simp only [PyData.depth]; omega⟩
  have := listText_len_le (PyData.shownAll ds)
  show (listText (PyData.shownAll ds)).length ≤ _
  rw [e] at this
  rw [Nat.add_mul]
  omega
theorem shn_tup {ds : List PyData} {n : Nat} (h : ∀ d ∈ ds, ShN d n ∧ d.depth ≤ 19) : ShN (.tuple ds) ((n + 2) * ds.length + 3) := by
  obtain ⟨a, b, c, e, f⟩ := shn_all h
  refine ⟨by simpa [PyData.showable] using a, by simpa [PyData.hasDict] using b, ?_, by simp only [PyData.depth]; omega⟩
  have := tupleText_len_le (PyData.shownAll ds)
  show (tupleText (PyData.shownAll ds)).length ≤ _
  rw [e] at this
  rw [Nat.add_mul]
  omega
section
variable {K : PySem.W.Frag} {σ : L2.St} {H : Hp} {te : TE}
theorem ev_reprN {d : PyData} {n : Nat} (h : EvD K te σ H d) (hl : isDisplay d = true) (s : ShN d n) (hn : n ≤ 1000000) : Ev (tCB (rRepr K) (tCons te tNil)) σ H (.str d.shown) :=
  ev_repr h hl s.shw s.nod (by have := s.dep; omega) (Nat.le_trans s.len (Nat.le_trans hn (by rw [sizeLine_eq]; decide)))
end
end Kit

set_option Elab.async false
set_option linter.all false
set_option maxRecDepth 100000
set_option maxHeartbeats 4000000
namespace Kit
open PySem PySem.Spec PyProof.Rows L2 Evl
section
variable {K : PySem.W.Frag} {σ : L2.St} {H : Hp} {ta tb te : TE} {t : TT}
/-- max(xs), told by what it is -/
theorem ev_maxV {a : Addr} {ns : List Int} {m : Int} (h : Ev ta σ H (.ref a)) (ha : SqL K H a (ns.map V.int)) (hm : m ∈ ns) (hl : ∀ y ∈ ns, y ≤ m) : Ev (tCB (rMax K) (tCons ta tNil)) σ H (.int m) := fun H1 e Q q =>
  h H1 e _ fun H2 e2 => ⟨a, ns, rfl, ex_l (e.trans e2) ha, List.length_pos_of_mem hm, fun m' hm' hl' => by
    have h1 := hl m' hm'
    have h2 := hl' m hm
    have : m' = m := by omega
    rw [this]
    exact q H2 e2⟩
/-- [e for i, x in enumerate(xs) if t] -/
theorem el_en {ta : TA} {i j : Nat} {vs : List Nat} {a : Addr} {xs : List V} (f : Nat → Bool) (v : Nat → V) (h : EvA ta σ H [.ref a]) (hx : SqL K H a xs) (hz : xs.length ≤ 40000) (hw : ∀ x y, wipe (((wipe σ vs).set i (some x)).set j (some y)) vs = wipe σ vs)
    (ht : ∀ (n : Nat) x H1, Ex H H1 → xs[n]? = some x → EvT t (((wipe σ vs).set i (some (.int (n : Int)))).set j (some x)) H1 (f n))
    (he : ∀ (n : Nat) x H1, Ex H H1 → xs[n]? = some x → f n = true → Ev te (((wipe σ vs).set i (some (.int (n : Int)))).set j (some x)) H1 (v n)) :
    EvL (tLc (iEnum K ta) (gTup K 2 (gCons (gName i) (gCons (gName j) gNil))) t te vs) σ H (given xs.length f v) := fun H0 e Q q => h H0 e _ fun H1 e1 => ⟨a, xs, rfl, ex_l (e.trans e1) hx, fun Dl hD => by
  refine lc_it walk_enum (Cw H1 f v Dl) ⟨hD, Ex.new hD, upd_same⟩ (fun n H' _ p => ex_l ((e.trans e1).trans p.2.1) hx) ?_ fun H' p => q Dl H' (fresh_back e1 p.1) (e1.trans p.2.1) p.2.2
  rintro n w Hh H' hn p ⟨T, x, y, rfl, nT, rfl, g1, g2⟩
  have ex : V.int (n : Nat) = x := Option.some.inj g1
  subst ex
  have eT : Ex Hh (upd Hh T (.tup [.int (n : Nat), y])) := Ex.new nT
  refine ⟨T, [.int (n : Nat), y], rfl, st_of upd_same, rfl, _, [y], rfl, y, [], rfl, rfl, hw _ y, ?_⟩
  exact cw_turn (H := H1) ⟨p.1, p.2.1.trans eT, eT Dl _ p.2.2⟩ (by omega) (ht n y H1 (e.trans e1) g2) fun hf => he n y H1 (e.trans e1) g2 hf⟩
/-- [e for x, y in zip(xs, ys)], both new lists -/
theorem el_zipN {i j : Nat} {vs : List Nat} {xs ys : List V} (F : V → V → V) (h : EvL ta σ H xs) (h2 : EvL tb σ H ys) (hl : xs.length = ys.length) (hz : xs.length ≤ 40000) (hw : ∀ x y, wipe (((wipe σ vs).set i (some x)).set j (some y)) vs = wipe σ vs)
    (he : ∀ (n : Nat) x y H1, Ex H H1 → xs[n]? = some x → ys[n]? = some y → Ev te (((wipe σ vs).set i (some x)).set j (some y)) H1 (F x y)) :
    EvL (tLc (iZip K (tCons ta (tCons tb tNil))) (gTup K 2 (gCons (gName i) (gCons (gName j) gNil))) tYes te vs) σ H (List.zipWith F xs ys) := fun H0 e Q q =>
  h H0 e _ fun a H1 na e1 ha => h2 H1 (e.trans e1) _ fun b H2 nb e2 hb => by
    have := el_zip (K := K) (H := H2) (ta := fun _ H' R => R [.ref a, .ref b] H') (te := te) (vs := vs) F (fun H3 _ Q q => q H3 (Ex.refl _)) (sq_of (e2 a _ ha)) (sq_of hb) hl hz hw fun n x y H3 e3 g1 g2 => he n x y H3 (e.trans (e1.trans (e2.trans e3))) g1 g2
    exact this H2 (Ex.refl _) Q fun p H3 hp e3 h3 => q p H3 (fresh_back (e1.trans e2) hp) (e1.trans (e2.trans e3)) h3
/-- xs + y, y an old list; x + ys, x an old list -/
theorem el_catR {a : Addr} {xs ys : List V} (h : EvL ta σ H xs) (h2 : Ev tb σ H (.ref a)) (ha : H a = some (.lst ys)) (hz : xs.length + ys.length ≤ 1000) : EvL (tOp rCat ta tb) σ H (xs ++ ys) := fun H1 e Q q =>
  h H1 e _ fun p H2 _ e2 h3 => h2 H2 (e.trans e2) _ fun H3 e3 => ⟨p, a, xs, ys, rfl, rfl, e3 p _ h3, e3 a _ (e2 a _ (e a _ ha)), sz_of (by omega), fun l hl => q l _ (fresh_back (e2.trans e3) hl) ((e2.trans e3).trans (Ex.new hl)) upd_same⟩
theorem el_catL {a : Addr} {xs ys : List V} (h : Ev ta σ H (.ref a)) (ha : H a = some (.lst xs)) (h2 : EvL tb σ H ys) (hz : xs.length + ys.length ≤ 1000) : EvL (tOp rCat ta tb) σ H (xs ++ ys) := fun H1 e Q q =>
  h H1 e _ fun H2 e2 => h2 H2 (e.trans e2) _ fun p H3 _ e3 h3 => ⟨a, p, xs, ys, rfl, rfl, e3 a _ (e2 a _ (e a _ ha)), h3, sz_of (by omega), fun l hl => q l _ (fresh_back (e2.trans e3) hl) ((e2.trans e3).trans (Ex.new hl)) upd_same⟩
end
end Kit

set_option Elab.async false
set_option linter.all false
set_option maxRecDepth 100000
namespace Kit
open PySem PySem.Spec PyProof.Rows L2 Evl
def fac (n : Nat) : Nat := Builtin.Math.factorialNat n
theorem fac_succ (n : Nat) : fac (n + 1) = fac n * (n + 1) := PySem.W.mc_fac_succ n
theorem fac_pos (n : Nat) : 1 ≤ fac n := PySem.W.mc_fac_pos n
theorem fac_mono : ∀ {m n : Nat}, m ≤ n → fac m ≤ fac n := fun {m n} h => by
  induction h with
  | refl => exact Nat.le_refl _
  | step _ ih =>
    rw [Nat.succ_eq_add_one, fac_succ]
    exact Nat.le_trans ih (Nat.le_mul_of_pos_right _ (Nat.succ_pos _))
theorem fac20 : fac 20 < 2 ^ 64 := by decide +kernel
def rFac : List V → Hp → VK → Prop := fun vs H Q => ∃ n : Nat, vs = [.int (n : Int)] ∧ n ≤ 20000 ∧ Q (.int ((fac n : Nat) : Int)) H
section
variable {X : Cx}
theorem cr_factorial : CallR X (.builtin "math.factorial") rFac := by
  intro pins s σ H vs us Q I r h
  obtain ⟨n, rfl, hn, q⟩ := h
  cases r with
  | cons ru rt =>
    cases rt
    obtain ⟨t, rfl⟩ := ru
    refine PySem.W.mc_factorial (Int.natCast_nonneg n) (by omega) fun _ => ?_
    rw [Int.toNat_natCast]
    exact ⟨.int _, H, I.tok _, ⟨_, rfl⟩, q⟩
def rDivmod : List V → Hp → VK → Prop := fun xs H Q => ∃ i j, xs = [.int i, .int j] ∧ CDivP i j ∧ ∀ p, H p = none → Q (.ref p) (upd H p (.tup [.int (i / j), .int (i % j)]))
theorem call_divmodR : CallR X (.builtin "divmod") rDivmod := call_divmodW
end
section
variable {K : PySem.W.Frag} {σ : L2.St} {H : Hp} {ta tb te tl : TE} {D : Ends} {tu tz : TS}
theorem ev_fac {n : Nat} (h : Ev ta σ H (.int (n : Int))) (hn : n ≤ 20000) : Ev (tCB rFac (tCons ta tNil)) σ H (.int ((fac n : Nat) : Int)) := fun H1 e Q q => h H1 e _ fun H2 e2 => ⟨n, rfl, hn, q H2 e2⟩
theorem divp_small {i j : Int} (h : 0 < j) (hj : j.natAbs < 2 ^ 8000) : CDivP i j := ⟨h, PyProof.noPylong_of_log2 (by
  have h2 := (Nat.log2_lt (n := j.natAbs) (k := 8000) (by omega)).mpr hj
  omega)⟩
theorem eu_divmod {a b : Nat} (h : Ev ta σ H (.int (a : Int))) (h2 : Ev tb σ H (.int (b : Int))) (hb : 0 < b) (hb2 : b < 2 ^ 8000) : EvU (tCB rDivmod (tCons ta (tCons tb tNil))) σ H [.int ((a / b : Nat) : Int), .int ((a % b : Nat) : Int)] := fun H1 e Q q =>
  h H1 e _ fun H2 e2 => h2 H2 (e.trans e2) _ fun H3 e3 => ⟨a, b, rfl, divp_small (by omega) (by rw [Int.natAbs_natCast]; exact hb2), fun p hp => q p _ (fresh_back (e2.trans e3) hp) ((e2.trans e3).trans (Ex.new hp)) (by rw [upd_same, Int.natCast_ediv, Int.natCast_emod])⟩
end
end Kit

set_option Elab.async false
set_option linter.all false
set_option maxRecDepth 100000
set_option maxHeartbeats 4000000
namespace Kit
open PySem PySem.Spec PyProof.Rows L2 Evl
section
variable {K : PySem.W.Frag} {σ : L2.St} {H : Hp} {ta tb te tl : TE} {D : Ends} {tu tz : TS} {t : TT}
/-- for i in reversed(range(n)) -/
theorem s_forRev {j n : Nat} (h : Ev ta σ H (.int (n : Int))) (hn : n ≤ 40000) (Pv : Nat → L2.St → Hp → Prop) (h0 : ∀ H1, Ex H H1 → Pv 0 σ H1)
    (hs : ∀ (i : Nat) σ' H', i < n → Pv i σ' H' → tu { D with nx := Pv (i + 1), ct := Pv (i + 1), bk := D.nx } (σ'.set j (some (.int ((n - 1 - i : Nat) : Int)))) H') (hd : ∀ σ' H', Pv n σ' H' → D.nx σ' H') : tFor (iRevR (tRg1 ta)) (gName j) tu D σ H :=
  h H (Ex.refl H) _ fun H1 e => ⟨n, rfl, by
    have e0 : ((n : Int) - 0).toNat = n := by omega
    refine ⟨by omega, by omega, by omega, by omega, ?_⟩
    rw [e0]
    exact for_rangeC Pv (h0 H1 e) (fun i σ' H' hi p => by
      have e1 : (0 : Int) + (n : Int) - 1 + (i : Nat) * (-1) = ((n - 1 - i : Nat) : Int) := by omega
      rw [e1]
      exact hs i σ' H' hi p) hd⟩
theorem q_forRev {j n : Nat} (h : Ev ta σ H (.int (n : Int))) (hn : n ≤ 40000) (Pv : Nat → L2.St → Hp → Prop) (h0 : ∀ H1, Ex H H1 → Pv 0 σ H1)
    (hs : ∀ (i : Nat) σ' H', i < n → Pv i σ' H' → tu { D with nx := Pv (i + 1), ct := Pv (i + 1), bk := tz D } (σ'.set j (some (.int ((n - 1 - i : Nat) : Int)))) H') (hd : ∀ σ' H', Pv n σ' H' → tz D σ' H') : tSeq (tFor (iRevR (tRg1 ta)) (gName j) tu) tz D σ H := s_forRev (D := { D with nx := tz D }) h hn Pv h0 hs hd
/-- [a new tuple for i in range(lo, n)] -/
theorem elt_R2 {ta : TA} {j : Nat} {vs : List Nat} {lo n : Int} (f : Nat → List V) (h : EvA ta σ H [.int lo, .int n]) (hn : 0 ≤ lo ∧ lo ≤ 40000 ∧ -40000 ≤ n ∧ n ≤ 40000) (hw : ∀ x, wipe ((wipe σ vs).set j (some x)) vs = wipe σ vs)
    (he : ∀ (i : Nat) H1, Ex H H1 → lo + (i : Int) < n → EvU te ((wipe σ vs).set j (some (.int (lo + (i : Int))))) H1 (f i)) : EvLT (tLc (iRng2 ta) (gName j) tYes te vs) σ H ((List.range (n - lo).toNat).map f) := fun H0 e Q q => h H0 e _ fun H1 e1 => ⟨lo, n, rfl, ⟨by omega, by omega, by omega, by omega⟩, fun Dl hD =>
  lc_range (lo := lo) (n := (n - lo).toNat) (fun i H' => Ex H1 H' ∧ ∃ ws, H' Dl = some (.lst ws) ∧ TL H' ws ((List.range i).map f)) ⟨Ex.new hD, [], upd_same, .nil⟩ (fun i H' hi p => by
    obtain ⟨p1, ws, p2, p3⟩ := p
    show wipe ((wipe σ vs).set j (some (.int (lo + (i : Int))))) vs = wipe σ vs ∧ te ((wipe σ vs).set j (some (.int (lo + (i : Int))))) H' fun y H4 => ∃ acc, H4 Dl = some (.lst acc) ∧ acc.length < sizeLine ∧ _
    refine ⟨hw _, he i H1 (e.trans e1) (by omega) H' p1 _ fun p H4 hp e4 h4 => ⟨ws, e4 Dl _ p2, sz_lt (by
      have := p3.len
      simp at this
      omega), Ex.mut (p1.trans e4) hD, ws ++ [.ref p], upd_same, ?_⟩⟩
    rw [List.range_succ, List.map_append]
    exact ((p3.ex e4).app ⟨p, rfl, h4⟩).upd (e4 Dl _ p2)) (fun H' p => by
      obtain ⟨p1, ws, p2, p3⟩ := p
      exact q Dl ws H' (fresh_back e1 hD) (e1.trans p1) p2 p3)⟩
end
end Kit

set_option Elab.async false
set_option linter.all false
set_option maxRecDepth 100000
set_option maxHeartbeats 4000000
namespace Kit
open PySem PySem.Spec PyProof.Rows L2 Evl
/-! ### choosing -/
def cho : Nat → Nat → Nat
  | _, 0 => 1
  | 0, _ + 1 => 0
  | n + 1, k + 1 => cho n k + cho n (k + 1)
theorem fac_zero : fac 0 = 1 := rfl
theorem cho_zero (n : Nat) : cho n 0 = 1 := by cases n <;> rfl
theorem cho_gt : ∀ {n k : Nat}, n < k → cho n k = 0
  | 0, _ + 1, _ => rfl
  | n + 1, k + 1, h => by
    show cho n k + cho n (k + 1) = 0
    rw [cho_gt (by omega : n < k), cho_gt (by omega : n < k + 1)]
theorem cho_self : ∀ n : Nat, cho n n = 1
  | 0 => rfl
  | n + 1 => by
    show cho n n + cho n (n + 1) = 1
    rw [cho_self n, cho_gt (Nat.lt_succ_self n)]
theorem cho_next : ∀ n k : Nat, cho n (k + 1) * (k + 1) = cho n k * (n - k)
  | 0, k => by
    rw [Nat.zero_sub, Nat.mul_zero]
    show 0 * (k + 1) = 0
    rw [Nat.zero_mul]
  | n + 1, 0 => by
    have a := cho_next n 0
    show (cho n 0 + cho n 1) * (0 + 1) = cho (n + 1) 0 * (n + 1 - 0)
    rw [cho_zero, cho_zero] at *
    simp only [Nat.zero_add, Nat.mul_one, Nat.sub_zero, Nat.one_mul] at *
    omega
  | n + 1, k + 1 => by
    have a := cho_next n (k + 1)
    have b := cho_next n k
    show (cho n (k + 1) + cho n (k + 2)) * (k + 1 + 1) = (cho n k + cho n (k + 1)) * (n + 1 - (k + 1))
    rcases Nat.lt_or_ge k n with h | h
    · obtain ⟨d, rfl⟩ : ∃ d, n = k + 1 + d := ⟨n - (k + 1), by omega⟩
      rw [show k + 1 + d - (k + 1) = d by omega] at a
      rw [show k + 1 + d - k = d + 1 by omega] at b
      rw [show k + 1 + d + 1 - (k + 1) = d + 1 by omega]
      generalize cho (k + 1 + d) (k + 1) = x at *
      generalize cho (k + 1 + d) k = y at *
      generalize cho (k + 1 + d) (k + 1 + 1) = z at *
      grind
    · rw [show n + 1 - (k + 1) = 0 by omega, cho_gt (by omega : n < k + 1), cho_gt (by omega : n < k + 2)]
      simp
/-- k of n: n! = C(n, k) k! (n - k)! -/
theorem cho_fac : ∀ {n k : Nat}, k ≤ n → cho n k * (fac k * fac (n - k)) = fac n
  | n, 0, _ => by
    rw [cho_zero, Nat.sub_zero]
    rw [fac_zero]
    omega
  | n, k + 1, h => by
    have ih := cho_fac (n := n) (k := k) (by omega)
    have a := cho_next n k
    rw [show n - k = (n - (k + 1)) + 1 by omega, fac_succ] at ih
    rw [show n - k = n - (k + 1) + 1 by omega] at a
    rw [fac_succ]
    generalize fac (n - (k + 1)) = y at *
    generalize fac n = v at *
    generalize cho n (k + 1) = z at *
    generalize cho n k = x at *
    generalize fac k = u at *
    generalize n - (k + 1) = d at *
    have e : z * (u * (k + 1) * y) = z * (k + 1) * (u * y) := by grind
    rw [e, a, ← ih]
    grind
theorem cho_pos {n k : Nat} (h : k ≤ n) : 1 ≤ cho n k := by
  have a := cho_fac h
  have b := fac_pos n
  rcases Nat.eq_zero_or_pos (cho n k) with z | z
  · rw [z, Nat.zero_mul] at a
    omega
  · exact z
theorem cho_le : ∀ n k : Nat, cho n k ≤ 2 ^ n
  | n, 0 => by rw [cho_zero]; exact Nat.one_le_two_pow
  | 0, _ + 1 => Nat.zero_le _
  | n + 1, k + 1 => by
    have a := cho_le n k
    have b := cho_le n (k + 1)
    rw [Nat.pow_succ]
    show cho n k + cho n (k + 1) ≤ _
    omega
theorem fp_fac (n : Nat) : ∀ k : Nat, k ≤ n → Builtin.Math.fallingProduct (n : Int) k * (fac (n - k) : Int) = (fac n : Int)
  | 0, _ => by
    rw [PySem.W.mc_fp_zero, Nat.sub_zero, Int.one_mul]
  | k + 1, h => by
    have ih := fp_fac n k (by omega)
    rw [show n - k = n - (k + 1) + 1 by omega, fac_succ] at ih
    rw [PySem.W.mc_fp_succ, ← ih, show (n : Int) - (k : Int) = ((n - (k + 1) + 1 : Nat) : Int) by omega]
    push_cast
    generalize (fac (n - (k + 1)) : Int) = x
    generalize Builtin.Math.fallingProduct (n : Int) k = y
    grind
theorem fp_self (n : Nat) : Builtin.Math.fallingProduct (n : Int) n = (fac n : Int) := by
  have := fp_fac n n (Nat.le_refl _)
  rw [Nat.sub_self, fac_zero] at this
  simpa using this
theorem cho_sym {n k : Nat} (h : k ≤ n) : cho n k = cho n (n - k) := by
  have a := cho_fac h
  have b := cho_fac (n := n) (k := n - k) (by omega)
  rw [show n - (n - k) = k by omega, Nat.mul_comm (fac (n - k))] at b
  have p : 0 < fac k * fac (n - k) := Nat.mul_pos (fac_pos _) (fac_pos _)
  exact Nat.eq_of_mul_eq_mul_right p (a.trans b.symm)
theorem comb_cho (n k : Nat) : PySem.W.mcComb (n : Int) (k : Int) = (cho n k : Int) := by
  by_cases h : k ≤ n
  · have key : ∀ m : Nat, m ≤ n → Builtin.Math.fallingProduct (n : Int) m / Builtin.Math.fallingProduct (m : Int) m = (cho n m : Int) := fun m hm => by
      have a := fp_fac n m hm
      have b := cho_fac hm
      have f := fac_pos m
      have g := fac_pos (n - m)
      rw [fp_self]
      have e : Builtin.Math.fallingProduct (n : Int) m = (cho n m : Int) * (fac m : Int) := by
        refine Int.eq_of_mul_eq_mul_right (a := (fac (n - m) : Int)) (by omega) ?_
        rw [a, ← b]
        push_cast
        grind
      rw [e]
      exact Int.mul_ediv_cancel _ (by omega)
    rw [PySem.W.mcComb_at (m := ((min k (n - k) : Nat) : Int)) (by omega) (by omega) (by omega), Int.toNat_natCast, key _ (by omega)]
    rcases Nat.le_total k (n - k) with q | q
    · rw [Nat.min_eq_left q]
    · rw [Nat.min_eq_right q, ← cho_sym h]
  · rw [PySem.W.mcComb_above (by omega), cho_gt (by omega)]
    rfl
def prm (n k : Nat) : Int := PySem.W.mcPerm (n : Int) (k : Int)
theorem prm_fac {n k : Nat} (h : k ≤ n) : prm n k * (fac (n - k) : Int) = (fac n : Int) := by
  unfold prm
  rw [PySem.W.mcPerm_at (by omega), Int.toNat_natCast]
  exact fp_fac n k h
theorem prm_pos {n k : Nat} (h : k ≤ n) : 1 ≤ prm n k := PySem.W.mcPerm_pos (by omega) (by omega)
def rComb : List V → Hp → VK → Prop := fun vs H Q => ∃ n k : Nat, vs = [.int (n : Int), .int (k : Int)] ∧ n ≤ 10000 ∧ Q (.int (cho n k : Int)) H
def rPerm : List V → Hp → VK → Prop := fun vs H Q => ∃ n k : Nat, vs = [.int (n : Int), .int (k : Int)] ∧ n ≤ 10000 ∧ k ≤ 10000 ∧ Q (.int (prm n k)) H
section
variable {X : Cx}
theorem cr_comb : CallR X (.builtin "math.comb") rComb := by
  intro pins s σ H vs us Q I r h
  obtain ⟨n, k, rfl, hn, q⟩ := h
  cases r with
  | cons ru r2 =>
    cases r2 with
    | cons rv rt =>
      cases rt
      obtain ⟨t, rfl⟩ := ru
      obtain ⟨u, rfl⟩ := rv
      refine PySem.W.mc_comb_v (Int.natCast_nonneg n) (Int.natCast_nonneg k) (by omega) (by omega) (comb_cho n k) ?_
      exact ⟨.int _, H, I.tok _, ⟨_, rfl⟩, q⟩
theorem cr_perm : CallR X (.builtin "math.perm") rPerm := by
  intro pins s σ H vs us Q I r h
  obtain ⟨n, k, rfl, hn, hk, q⟩ := h
  cases r with
  | cons ru r2 =>
    cases r2 with
    | cons rv rt =>
      cases rt
      obtain ⟨t, rfl⟩ := ru
      obtain ⟨u, rfl⟩ := rv
      refine PySem.W.mc_perm_v (Int.natCast_nonneg n) (Int.natCast_nonneg k) (by omega) (by omega) rfl ?_
      exact ⟨.int _, H, I.tok _, ⟨_, rfl⟩, q⟩
end
section
variable {K : PySem.W.Frag} {σ : L2.St} {H : Hp} {ta tb te tl : TE} {D : Ends} {tu tz : TS}
theorem ev_comb {n k : Nat} (h : Ev ta σ H (.int (n : Int))) (h2 : Ev tb σ H (.int (k : Int))) (hn : n ≤ 10000) : Ev (tCB rComb (tCons ta (tCons tb tNil))) σ H (.int (cho n k : Int)) := fun H1 e Q q => h H1 e _ fun H2 e2 => h2 H2 (e.trans e2) _ fun H3 e3 => ⟨n, k, rfl, hn, q H3 (e2.trans e3)⟩
theorem ev_perm {n k : Nat} (h : Ev ta σ H (.int (n : Int))) (h2 : Ev tb σ H (.int (k : Int))) (hn : n ≤ 10000) (hk : k ≤ 10000) : Ev (tCB rPerm (tCons ta (tCons tb tNil))) σ H (.int (prm n k)) := fun H1 e Q q => h H1 e _ fun H2 e2 => h2 H2 (e.trans e2) _ fun H3 e3 => ⟨n, k, rfl, hn, hk, q H3 (e2.trans e3)⟩
/-- for x, y in zip(xs, ys): the pair is a new tuple -/
theorem s_forZip {ta : TA} {i j n : Nat} {a b : Addr} {xs ys : List V} (h : EvA ta σ H [.ref a, .ref b]) (hx : SqL K H a xs) (hy : SqL K H b ys) (hn : n = min xs.length ys.length) (Pv : Nat → L2.St → Hp → Prop) (h0 : ∀ H1, Ex H H1 → Pv 0 σ H1) (hl : ∀ k σ' H', k ≤ n → Pv k σ' H' → SqL K H' a xs ∧ SqL K H' b ys)
    (hs : ∀ k x y σ' H' H2, xs[k]? = some x → ys[k]? = some y → Pv k σ' H' → Ex H' H2 → tu { D with nx := Pv (k + 1), ct := Pv (k + 1), bk := D.nx } ((σ'.set i (some x)).set j (some y)) H2) (hd : ∀ σ' H', Pv n σ' H' → D.nx σ' H') :
    tFor (iZip K ta) (gTup K 2 (gCons (gName i) (gCons (gName j) gNil))) tu D σ H := h H (Ex.refl H) _ fun H1 e => ⟨a, b, xs, ys, rfl, ex_l e hx, ex_l e hy, by
  refine for_it (walk_zip (n := n) hn) Pv (h0 H1 e) (fun k σ' H' hk p => hl k σ' H' hk p) ?_ hd
  rintro k v σ' Hh H2 hk p ⟨T, x, y, rfl, nT, rfl, g1, g2⟩
  exact ⟨T, [x, y], rfl, st_of upd_same, rfl, x, [y], rfl, y, [], rfl, rfl, hs k x y σ' Hh _ g1 g2 p (Ex.new nT)⟩⟩
theorem q_forZip {ta : TA} {i j n : Nat} {a b : Addr} {xs ys : List V} (h : EvA ta σ H [.ref a, .ref b]) (hx : SqL K H a xs) (hy : SqL K H b ys) (hn : n = min xs.length ys.length) (Pv : Nat → L2.St → Hp → Prop) (h0 : ∀ H1, Ex H H1 → Pv 0 σ H1) (hl : ∀ k σ' H', k ≤ n → Pv k σ' H' → SqL K H' a xs ∧ SqL K H' b ys)
    (hs : ∀ k x y σ' H' H2, xs[k]? = some x → ys[k]? = some y → Pv k σ' H' → Ex H' H2 → tu { D with nx := Pv (k + 1), ct := Pv (k + 1), bk := tz D } ((σ'.set i (some x)).set j (some y)) H2) (hd : ∀ σ' H', Pv n σ' H' → tz D σ' H') :
    tSeq (tFor (iZip K ta) (gTup K 2 (gCons (gName i) (gCons (gName j) gNil))) tu) tz D σ H := s_forZip (D := { D with nx := tz D }) h hx hy hn Pv h0 hl hs hd
/-- [e for x, y in zip(xs, ys)], xs an old list, ys a new one -/
theorem el_zipO {i j : Nat} {vs : List Nat} {a : Addr} {xs ys : List V} (F : V → V → V) (h : Ev ta σ H (.ref a)) (hx : SqL K H a xs) (h2 : EvL tb σ H ys) (hl : xs.length = ys.length) (hz : xs.length ≤ 40000) (hw : ∀ x y, wipe (((wipe σ vs).set i (some x)).set j (some y)) vs = wipe σ vs)
    (he : ∀ (n : Nat) x y H1, Ex H H1 → xs[n]? = some x → ys[n]? = some y → Ev te (((wipe σ vs).set i (some x)).set j (some y)) H1 (F x y)) :
    EvL (tLc (iZip K (tCons ta (tCons tb tNil))) (gTup K 2 (gCons (gName i) (gCons (gName j) gNil))) tYes te vs) σ H (List.zipWith F xs ys) := fun H0 e Q q =>
  h H0 e _ fun H1 e1 => h2 H1 (e.trans e1) _ fun b H2 nb e2 hb => by
    have := el_zip (K := K) (H := H2) (ta := fun _ H' R => R [.ref a, .ref b] H') (te := te) (vs := vs) F (fun H3 _ Q q => q H3 (Ex.refl _)) (ex_l (e.trans (e1.trans e2)) hx) (sq_of hb) hl hz hw fun n x y H3 e3 g1 g2 => he n x y H3 (e.trans (e1.trans (e2.trans e3))) g1 g2
    exact this H2 (Ex.refl _) Q fun p H3 hp e3 h3 => q p H3 (fresh_back (e1.trans e2) hp) (e1.trans (e2.trans e3)) h3
end
end Kit

set_option Elab.async false
set_option linter.all false
set_option maxRecDepth 100000
set_option maxHeartbeats 4000000
namespace Kit
open PySem PySem.Spec PyProof.Rows L2 Evl
/-! ### data that is laid in the heap, by its depth -/
inductive Flat : V → PyData → Prop
  | non : Flat .non .none
  | bl (b : Bool) : Flat (.bl b) (.bool b)
  | int (i : Int) : Flat (.int i) (.int i)
  | str (x : Str) (ok : PyData.strOk x = true) : Flat (.str x) (.str x)
def Tk : Nat → Hp → V → PyData → Prop
  | 0, _, v, d => Flat v d
  | n + 1, H, v, d => Flat v d ∨ (∃ a xs ds, v = .ref a ∧ d = .list ds ∧ H a = some (.lst xs) ∧ xs.length ≤ 40000 ∧ Paired (Tk n H) xs ds) ∨ (∃ a xs ds, v = .ref a ∧ d = .tuple ds ∧ H a = some (.tup xs) ∧ xs.length ≤ 40000 ∧ Paired (Tk n H) xs ds)
theorem Tk.flat {v : V} {d : PyData} (h : Flat v d) : ∀ {n : Nat} {H : Hp}, Tk n H v d
  | 0, _ => h
  | _ + 1, _ => .inl h
theorem tk_imp {A B : V → PyData → Prop} (f : ∀ v d, A v d → B v d) : ∀ {xs : List V} {ds : List PyData}, Paired A xs ds → Paired B xs ds
  | _, _, .nil => .nil
  | _, _, .cons h t => .cons (f _ _ h) (tk_imp f t)
theorem Tk.ex {H H' : Hp} (e : Ex H H') : ∀ {n : Nat} {v : V} {d : PyData}, Tk n H v d → Tk n H' v d
  | 0, _, _, h => h
  | _ + 1, _, _, .inl h => .inl h
  | _ + 1, _, _, .inr (.inl ⟨a, xs, ds, h1, h2, h3, hz, h4⟩) => .inr (.inl ⟨a, xs, ds, h1, h2, e a _ h3, hz, tk_imp (fun _ _ => Tk.ex e) h4⟩)
  | _ + 1, _, _, .inr (.inr ⟨a, xs, ds, h1, h2, h3, hz, h4⟩) => .inr (.inr ⟨a, xs, ds, h1, h2, e a _ h3, hz, tk_imp (fun _ _ => Tk.ex e) h4⟩)
theorem Tk.mono {H : Hp} : ∀ {n m : Nat} {v : V} {d : PyData}, n ≤ m → Tk n H v d → Tk m H v d
  | 0, _, _, _, _, h => Tk.flat h
  | _ + 1, 0, _, _, e, _ => absurd e (by omega)
  | _ + 1, _ + 1, _, _, _, .inl h => .inl h
  | _ + 1, _ + 1, _, _, e, .inr (.inl ⟨a, xs, ds, h1, h2, h3, hz, h4⟩) => .inr (.inl ⟨a, xs, ds, h1, h2, h3, hz, tk_imp (fun _ _ => Tk.mono (by omega)) h4⟩)
  | _ + 1, _ + 1, _, _, e, .inr (.inr ⟨a, xs, ds, h1, h2, h3, hz, h4⟩) => .inr (.inr ⟨a, xs, ds, h1, h2, h3, hz, tk_imp (fun _ _ => Tk.mono (by omega)) h4⟩)
theorem tk_int {n : Nat} {H : Hp} (i : Int) : Tk n H (.int i) (.int i) := .flat (.int i)
theorem tk_ints {n : Nat} {H : Hp} : ∀ ns : List Int, Paired (Tk n H) (ns.map V.int) (ns.map PyData.int)
  | [] => .nil
  | i :: r => .cons (tk_int i) (tk_ints r)
theorem tk_lst {n : Nat} {H : Hp} {a : Addr} {xs : List V} {ds : List PyData} (h : H a = some (.lst xs)) (hd : Paired (Tk n H) xs ds) (hz : ds.length ≤ 40000) : Tk (n + 1) H (.ref a) (.list ds) := .inr (.inl ⟨a, xs, ds, rfl, rfl, h, by rw [Paired.length hd]; exact hz, hd⟩)
theorem tk_tup {n : Nat} {H : Hp} {a : Addr} {xs : List V} {ds : List PyData} (h : H a = some (.tup xs)) (hd : Paired (Tk n H) xs ds) (hz : ds.length ≤ 40000) : Tk (n + 1) H (.ref a) (.tuple ds) := .inr (.inr ⟨a, xs, ds, rfl, rfl, h, by rw [Paired.length hd]; exact hz, hd⟩)
theorem flat_dp {K : PySem.W.Frag} {H : Hp} {v : V} {d : PyData} (h : Flat v d) : Dp K H v d := by
  cases h with
  | non => exact .non
  | bl b => exact .bl b
  | int i => exact .int i
  | str x _ => exact .str x
def isSeq : PyData → Bool
  | .list _ => true
  | .tuple _ => true
  | _ => false
def isLs : PyData → Bool
  | .list _ => true
  | _ => false
def isIt : PyData → Bool
  | .int _ => true
  | .bool _ => true
  | _ => false
def isBo : PyData → Bool
  | .bool _ => true
  | _ => false
def isSt : PyData → Bool
  | .str _ => true
  | _ => false
section
variable {K : PySem.W.Frag} {σ : L2.St} {H H' : Hp} {ta tb te : TE} {n : Nat} {v : V} {d : PyData}
theorem tk_kind {f : PyData → Bool} {g : Value → Option Bool} (h : Tk n H v d) (non : g (.type "NoneType") = some (f .none)) (bl : ∀ b, g (.type "bool") = some (f (.bool b))) (it : ∀ i, g (.type "int") = some (f (.int i))) (st : ∀ i, g (.type "str") = some (f (.str i)))
    (ls : ∀ ds, g (.type "list") = some (f (.list ds))) (tu : ∀ ds, g (.type "tuple") = some (f (.tuple ds))) : ∃ t, TyX K H v t ∧ g t = some (f d) := by
  have fl : Flat v d → ∃ t, TyX K H v t ∧ g t = some (f d) := fun h => by
    cases h with
    | non => exact ⟨_, .base .non, non⟩
    | bl b => exact ⟨_, .base (.bl b), bl b⟩
    | int i => exact ⟨_, .base (.int i), it i⟩
    | str x _ => exact ⟨_, .base (.str x), st x⟩
  match n, h with
  | 0, h => exact fl h
  | _ + 1, .inl h => exact fl h
  | _ + 1, .inr (.inl ⟨a, xs, ds, h1, h2, h3, hz, h4⟩) =>
    subst h1 h2
    exact ⟨_, .base (.lst h3), ls ds⟩
  | _ + 1, .inr (.inr ⟨a, xs, ds, h1, h2, h3, hz, h4⟩) =>
    subst h1 h2
    exact ⟨_, .base (.tup h3), tu ds⟩
theorem ev_isOne {T : String} {f : PyData → Bool} (h : Ev ta σ H v) (hv : Tk n H v d) (non : PySem.W.kitOne K (.type "NoneType") (.type T) = some (f .none)) (bl : ∀ b, PySem.W.kitOne K (.type "bool") (.type T) = some (f (.bool b))) (it : ∀ i, PySem.W.kitOne K (.type "int") (.type T) = some (f (.int i))) (st : ∀ i, PySem.W.kitOne K (.type "str") (.type T) = some (f (.str i)))
    (ls : ∀ ds, PySem.W.kitOne K (.type "list") (.type T) = some (f (.list ds))) (tu : ∀ ds, PySem.W.kitOne K (.type "tuple") (.type T) = some (f (.tuple ds))) : Ev (tCB (rIsi K) (tCons ta (tCons (tC (.ty T)) tNil))) σ H (.bl (f d)) := fun H1 e Q q => h H1 e _ fun H2 e2 => by
  obtain ⟨t, ty, k⟩ := tk_kind (K := K) (f := f) (g := fun t => PySem.W.kitOne K t (.type T)) (hv.ex (e.trans e2)) non bl it st ls tu
  exact ⟨v, .ty T, t, .type T, _, rfl, .ty T, ty, k, q H2 e2⟩
theorem ev_isLs (h : Ev ta σ H v) (hv : Tk n H v d) : Ev (tCB (rIsi K) (tCons ta (tCons (tC (.ty "list")) tNil))) σ H (.bl (isLs d)) := ev_isOne (f := isLs) h hv rfl (fun _ => rfl) (fun _ => rfl) (fun _ => rfl) (fun _ => rfl) (fun _ => rfl)
theorem ev_isIt (h : Ev ta σ H v) (hv : Tk n H v d) : Ev (tCB (rIsi K) (tCons ta (tCons (tC (.ty "int")) tNil))) σ H (.bl (isIt d)) := ev_isOne (f := isIt) h hv rfl (fun _ => rfl) (fun _ => rfl) (fun _ => rfl) (fun _ => rfl) (fun _ => rfl)
theorem ev_isBo (h : Ev ta σ H v) (hv : Tk n H v d) : Ev (tCB (rIsi K) (tCons ta (tCons (tC (.ty "bool")) tNil))) σ H (.bl (isBo d)) := ev_isOne (f := isBo) h hv rfl (fun _ => rfl) (fun _ => rfl) (fun _ => rfl) (fun _ => rfl) (fun _ => rfl)
theorem ev_isSt (h : Ev ta σ H v) (hv : Tk n H v d) : Ev (tCB (rIsi K) (tCons ta (tCons (tC (.ty "str")) tNil))) σ H (.bl (isSt d)) := ev_isOne (f := isSt) h hv rfl (fun _ => rfl) (fun _ => rfl) (fun _ => rfl) (fun _ => rfl) (fun _ => rfl)
theorem ev_isSeq (h : Ev ta σ H v) (hv : Tk n H v d) : Ev (tCB (rIsiT K) (tCons ta (tCons (tTup (tCons (tC (.ty "list")) (tCons (tC (.ty "tuple")) tNil))) tNil))) σ H (.bl (isSeq d)) := fun H1 e Q q => h H1 e _ fun H2 e2 =>
  (eu_tup (ea_cons (x := .ty "list") ev_c (ea_cons (x := .ty "tuple") ev_c ea_nil)) (Nat.le_of_ble_eq_true rfl)) H2 (Ex.refl _) _ fun p H3 _ e3 h3 => by
    obtain ⟨t, ty, k⟩ := tk_kind (K := K) (f := isSeq) (g := fun t => PySem.W.kitAny K t [.type "list", .type "tuple"]) (hv.ex (e.trans (e2.trans e3))) rfl (fun _ => rfl) (fun _ => rfl) (fun _ => rfl) (fun _ => rfl) (fun _ => rfl)
    exact ⟨v, p, _, t, [.type "list", .type "tuple"], _, rfl, h3, .cons (.ty _) (.cons (.ty _) .nil), ty, k, q H3 (e2.trans e3)⟩
theorem tk_flat (h : Tk n H v d) (hs : isSeq d = false) : Flat v d := by
  match n, h with
  | 0, h => exact h
  | _ + 1, .inl h => exact h
  | _ + 1, .inr (.inl ⟨_, _, _, _, h2, _⟩) =>
    subst h2
    cases hs
  | _ + 1, .inr (.inr ⟨_, _, _, _, h2, _⟩) =>
    subst h2
    cases hs
theorem tk_seq (h : Tk n H v d) (hs : isSeq d = true) : ∃ m, n = m + 1 ∧ ((∃ a xs ds, v = .ref a ∧ d = .list ds ∧ H a = some (.lst xs) ∧ xs.length ≤ 40000 ∧ Paired (Tk m H) xs ds) ∨ (∃ a xs ds, v = .ref a ∧ d = .tuple ds ∧ H a = some (.tup xs) ∧ xs.length ≤ 40000 ∧ Paired (Tk m H) xs ds)) := by
  have no : Flat v d → False := fun f => by cases f <;> cases hs
  match n, h with
  | 0, h => exact (no h).elim
  | _ + 1, .inl h => exact (no h).elim
  | m + 1, .inr h => exact ⟨m, rfl, h⟩
theorem rv_ixQL {a : Addr} {xs : List V} {i : Int} {x : V} (s : SqL K H a xs) (h : atI xs i = some x) : RV (rIx K) (.ref a) (.int i) H x := fun H1 e Q q => .inl (rv_ixL s h H1 e Q q)
theorem rv_ixQT {a : Addr} {xs : List V} {i : Int} {x : V} (s : SqT K H a xs) (h : atI xs i = some x) : RV (rIx K) (.ref a) (.int i) H x := fun H1 e Q q => .inr (.inl (rv_ixT s h H1 e Q q))
/-! ### expressions that give such data -/
def EvK (n : Nat) (te : TE) (σ : L2.St) (H : Hp) (d : PyData) : Prop := ∀ H1, Ex H H1 → ∀ Q : VK, (∀ v H2, Ex H1 H2 → Tk n H2 v d → Q v H2) → te σ H1 Q
def EvKA (n : Nat) (ta : TA) (σ : L2.St) (H : Hp) (ds : List PyData) : Prop := ∀ H1, Ex H H1 → ∀ Q : List V → Hp → Prop, (∀ vs H2, Ex H1 H2 → Paired (Tk n H2) vs ds → Q vs H2) → ta σ H1 Q
variable {t tr : TA} {ds : List PyData}
theorem ek_of (h : Ev te σ H v) (k : Tk n H v d) : EvK n te σ H d := fun H1 e Q q => h H1 e Q fun H2 e2 => q v H2 e2 (k.ex (e.trans e2))
theorem ek_int {i : Int} (h : Ev te σ H (.int i)) : EvK n te σ H (.int i) := ek_of h (tk_int i)
theorem ek_bl {b : Bool} (h : Ev te σ H (.bl b)) : EvK n te σ H (.bool b) := ek_of h (.flat (.bl b))
theorem ek_non (h : Ev te σ H .non) : EvK n te σ H .none := ek_of h (.flat .non)
theorem ek_str {x : Str} (h : Ev te σ H (.str x)) (ok : PyData.strOk x = true) : EvK n te σ H (.str x) := ek_of h (.flat (.str x ok))
theorem ek_mono {m : Nat} (h : EvK n te σ H d) (e : n ≤ m) : EvK m te σ H d := fun H1 a Q q => h H1 a Q fun v H2 e2 k => q v H2 e2 (k.mono e)
theorem ek_is {e : PyData} (h : EvK n te σ H d) (q : d = e) : EvK n te σ H e := q ▸ h
theorem paired_len {A : V → PyData → Prop} {xs : List V} (h : Paired A xs ds) : xs.length = ds.length := Paired.length h
theorem eka_nil : EvKA n tNil σ H [] := fun H1 _ _ q => q [] H1 (Ex.refl H1) .nil
theorem eka_cons (h : EvK n te σ H d) (hr : EvKA n tr σ H ds) : EvKA n (tCons te tr) σ H (d :: ds) := fun H1 e _ q =>
  h H1 e _ fun v H2 e2 dv => hr H2 (e.trans e2) _ fun vs H3 e3 dvs => q (v :: vs) H3 (e2.trans e3) (.cons (dv.ex e3) dvs)
theorem ek_lst (h : EvKA n t σ H ds) (hl : ds.length ≤ 40000) : EvK (n + 1) (tLst t) σ H (.list ds) := fun H1 e Q q =>
  h H1 e _ fun vs H2 e2 dv => ⟨sz_of (by rw [paired_len dv]; omega), fun p hp => q _ _ (e2.trans (Ex.new hp)) (tk_lst upd_same (tk_imp (fun _ _ => Tk.ex (Ex.new hp)) dv) hl)⟩
theorem ek_tup (h : EvKA n t σ H ds) (hl : ds.length ≤ 40000) : EvK (n + 1) (tTup t) σ H (.tuple ds) := fun H1 e Q q =>
  h H1 e _ fun vs H2 e2 dv => ⟨sz_of (by rw [paired_len dv]; omega), fun p hp => q _ _ (e2.trans (Ex.new hp)) (tk_tup upd_same (tk_imp (fun _ _ => Tk.ex (Ex.new hp)) dv) hl)⟩
theorem ek_L {xs : List V} (h : EvL te σ H xs) (k : Paired (Tk n H) xs ds) (hz : ds.length ≤ 40000) : EvK (n + 1) te σ H (.list ds) := fun H1 e Q q => h H1 e Q fun p H2 _ e2 h2 => q _ H2 e2 (tk_lst h2 (tk_imp (fun _ _ => Tk.ex (e.trans e2)) k) hz)
theorem ek_U {xs : List V} (h : EvU te σ H xs) (k : Paired (Tk n H) xs ds) (hz : ds.length ≤ 40000) : EvK (n + 1) te σ H (.tuple ds) := fun H1 e Q q => h H1 e Q fun p H2 _ e2 h2 => q _ H2 e2 (tk_tup h2 (tk_imp (fun _ _ => Tk.ex (e.trans e2)) k) hz)
theorem ek_LI {ns : List Int} (h : EvL te σ H (ns.map V.int)) (hz : ns.length ≤ 40000) : EvK (n + 1) te σ H (.list (ns.map PyData.int)) := ek_L h (tk_ints ns) (by simpa using hz)
theorem ek_UI {ns : List Int} (h : EvU te σ H (ns.map V.int)) (hz : ns.length ≤ 40000) : EvK (n + 1) te σ H (.tuple (ns.map PyData.int)) := ek_U h (tk_ints ns) (by simpa using hz)
theorem s_asgK {D : Ends} {i : Nat} (h : EvK n te σ H d) (k : ∀ v H1, Ex H H1 → Tk n H1 v d → D.nx (σ.set i (some v)) H1) : tAsg te (gName i) D σ H := h H (Ex.refl H) _ k
theorem q_asgK {D : Ends} {tz : TS} {i : Nat} (h : EvK n te σ H d) (k : ∀ v H1, Ex H H1 → Tk n H1 v d → tz D (σ.set i (some v)) H1) : tSeq (tAsg te (gName i)) tz D σ H := h H (Ex.refl H) _ k
end
end Kit

set_option Elab.async false
set_option linter.all false
set_option maxRecDepth 100000
set_option maxHeartbeats 4000000
namespace Kit
open PySem PySem.Spec PyProof.Rows L2 Evl
/-! ### words: join, split, str of an int, list.remove -/
def rStrI : List V → Hp → VK → Prop := fun xs H Q => ∃ i, xs = [.int i] ∧ i.natAbs.log2 < 1920 ∧ Q (.str (toString i)) H
theorem call_strI {X : Cx} : CallR X (.type "str") rStrI := call_str_int
def rJoin (K : PySem.W.Frag) : V → List V → Hp → VK → Prop := fun x xs H Q => ∃ a p, ∃ ys : List Str, x = .str a ∧ xs = [.ref p] ∧ (SqL K H p (ys.map V.str) ∨ SqT K H p (ys.map V.str)) ∧ (ys.map (·.length)).sum + ys.length * a.length ≤ 16777216 ∧ Q (.str (Txt.join a ys)) H
def rSplit : V → List V → Hp → VK → Prop := fun x xs H Q => ∃ a b, x = .str a ∧ xs = [.str b] ∧ (b.length == 0) = false ∧ a.length + 2 ≤ sizeLine ∧ rNewStrs (Txt.split a b) H Q
section
variable {X : Cx} {o e : Expr} {to te : TE} {apos pos : Pos}
theorem pe_joinW (ho : PE X o to) (he : PE X e te) (hs : starEach [e] X.env = [(false, eval e X.env)] := by rfl) (hbase : attributeBase o "join" X.env (eval o X.env) = eval o X.env := by rfl) (hline : (apos.endLine == pos.line) = true := by rfl) :
    PE X (.Call (.Attribute o "join" apos) [e] [] pos) (tM1 (rJoin X.K) to te) := pe_join ho he hs hbase hline
theorem pe_splitW (ho : PE X o to) (he : PE X e te) (hs : starEach [e] X.env = [(false, eval e X.env)] := by rfl) (hbase : attributeBase o "split" X.env (eval o X.env) = eval o X.env := by rfl) (hline : (apos.endLine == pos.line) = true := by rfl) :
    PE X (.Call (.Attribute o "split" apos) [e] [] pos) (tM1 rSplit to te) := pe_split ho he hs hbase hline
end
section
variable {K : PySem.W.Frag} {σ : L2.St} {H : Hp} {ta tb te : TE} {D : Ends} {tz : TS} {a b : Str} {ys : List Str}
theorem ev_strI {i : Int} (h : Ev te σ H (.int i)) (hi : i.natAbs < 2 ^ 1900) : Ev (tCB rStrI (tCons te tNil)) σ H (.str (toString i)) := fun H1 e Q q => h H1 e _ fun H2 e2 => ⟨i, rfl, by
  have := (Nat.log2_lt (n := i.natAbs) (k := 1920))
  by_cases z : i.natAbs = 0
  · rw [z]
    decide
  · exact (this z).mpr (Nat.lt_of_lt_of_le hi (Nat.pow_le_pow_right (by decide) (by decide))), q H2 e2⟩
theorem ev_joinN (ha : Ev ta σ H (.str a)) (h : EvL te σ H (ys.map V.str)) (hz : (ys.map (·.length)).sum + ys.length * a.length ≤ 16777216) : Ev (tM1 (rJoin K) ta te) σ H (.str (Txt.join a ys)) := fun H1 e Q q =>
  ha H1 e _ fun H2 e2 => ⟨⟨a, rfl⟩, h H2 (e.trans e2) _ fun p H3 _ e3 h3 => ⟨a, p, ys, rfl, rfl, .inl (sq_of h3), hz, q H3 (e2.trans e3)⟩⟩
theorem el_split (ha : Ev ta σ H (.str a)) (hb : Ev tb σ H (.str b)) (hl : (b.length == 0) = false) (hz : a.length ≤ 90000) : EvL (tM1 rSplit ta tb) σ H ((Txt.split a b).map V.str) := fun H1 e Q q =>
  ha H1 e _ fun H2 e2 => ⟨⟨a, rfl⟩, hb H2 (e.trans e2) _ fun H3 e3 => ⟨a, b, rfl, rfl, hl, sz_of (by omega), fun p hp => q p _ (fresh_back (e2.trans e3) hp) ((e2.trans e3).trans (Ex.new hp)) upd_same⟩⟩
end
end Kit

namespace K55
open PySem PySem.Spec PyProof.Rows L2 Evl Kit
def topS (i : Nat) : Stmt := PySem.Challenge.pw_newtables_k55_texts_written_and_read.main.body.getD i (.Pass ⟨0, 0, 0, 0⟩)
abbrev s_is_whole : Stmt := topS 5
abbrev n_is_whole : List Str := ["thing"]
theorem sc_is_whole : FnScope n_is_whole ["thing"] (defScope s_is_whole) := ⟨rfl, rfl, rfl, by decide +kernel, rfl, by decide +kernel, by decide +kernel⟩
abbrev s_is_order : Stmt := topS 6
abbrev n_is_order : List Str := ["thing", "item"]
theorem sc_is_order : FnScope n_is_order ["thing"] (defScope s_is_order) := ⟨rfl, rfl, rfl, by decide +kernel, rfl, by decide +kernel, by decide +kernel⟩
abbrev s_is_seating : Stmt := topS 8
abbrev n_is_seating : List Str := ["thing"]
theorem sc_is_seating : FnScope n_is_seating ["thing"] (defScope s_is_seating) := ⟨rfl, rfl, rfl, by decide +kernel, rfl, by decide +kernel, by decide +kernel⟩
abbrev s_are_tables : Stmt := topS 9
abbrev n_are_tables : List Str := ["thing", "table", "openers", "guest"]
theorem sc_are_tables : FnScope n_are_tables ["thing"] (defScope s_are_tables) := ⟨rfl, rfl, rfl, by decide +kernel, rfl, by decide +kernel, by decide +kernel⟩
abbrev s_is_table : Stmt := topS 10
abbrev n_is_table : List Str := ["thing", "guest"]
theorem sc_is_table : FnScope n_is_table ["thing"] (defScope s_is_table) := ⟨rfl, rfl, rfl, by decide +kernel, rfl, by decide +kernel, by decide +kernel⟩
abbrev s_write_seating : Stmt := topS 13
abbrev n_write_seating : List Str := ["seating"]
theorem sc_write_seating : FnScope n_write_seating ["seating"] (defScope s_write_seating) := ⟨rfl, rfl, rfl, by decide +kernel, rfl, by decide +kernel, by decide +kernel⟩
abbrev s_read_seating : Stmt := topS 14
abbrev n_read_seating : List Str := ["text", "words", "seating", "place", "word", "guest", "free"]
theorem sc_read_seating : FnScope n_read_seating ["text"] (defScope s_read_seating) := ⟨rfl, rfl, rfl, by decide +kernel, rfl, by decide +kernel, by decide +kernel⟩
abbrev s_write_coming : Stmt := topS 15
abbrev n_write_coming : List Str := ["coming"]
theorem sc_write_coming : FnScope n_write_coming ["coming"] (defScope s_write_coming) := ⟨rfl, rfl, rfl, by decide +kernel, rfl, by decide +kernel, by decide +kernel⟩
abbrev s_read_coming : Stmt := topS 16
abbrev n_read_coming : List Str := ["text", "coming", "place", "word"]
theorem sc_read_coming : FnScope n_read_coming ["text"] (defScope s_read_coming) := ⟨rfl, rfl, rfl, by decide +kernel, rfl, by decide +kernel, by decide +kernel⟩
abbrev s_write_tables : Stmt := topS 17
abbrev n_write_tables : List Str := ["tables", "table"]
theorem sc_write_tables : FnScope n_write_tables ["tables"] (defScope s_write_tables) := ⟨rfl, rfl, rfl, by decide +kernel, rfl, by decide +kernel, by decide +kernel⟩
abbrev s_read_tables : Stmt := topS 18
abbrev n_read_tables : List Str := ["text", "words", "tables", "free", "place", "word", "guest", "table", "read"]
theorem sc_read_tables : FnScope n_read_tables ["text"] (defScope s_read_tables) := ⟨rfl, rfl, rfl, by decide +kernel, rfl, by decide +kernel, by decide +kernel⟩
abbrev s_text_of : Stmt := topS 19
abbrev n_text_of : List Str := ["numbers", "number"]
theorem sc_text_of : FnScope n_text_of ["numbers"] (defScope s_text_of) := ⟨rfl, rfl, rfl, by decide +kernel, rfl, by decide +kernel, by decide +kernel⟩
abbrev s_number_at : Stmt := topS 20
abbrev n_number_at : List Str := ["place", "word", "numbers", "number"]
theorem sc_number_at : FnScope n_number_at ["place", "word", "numbers"] (defScope s_number_at) := ⟨rfl, rfl, rfl, by decide +kernel, rfl, by decide +kernel, by decide +kernel⟩
abbrev s_law_bag : Stmt := topS 22
abbrev n_law_bag : List Str := ["script", "stir", "cell"]
theorem sc_law_bag : FnScope n_law_bag ["script"] (defScope s_law_bag) := ⟨rfl, rfl, rfl, by decide +kernel, rfl, by decide +kernel, by decide +kernel⟩
abbrev s_law_stirred : Stmt := topS 23
abbrev n_law_stirred : List Str := ["bag", "wide", "found", "k", "mixed"]
theorem sc_law_stirred : FnScope n_law_stirred ["bag", "wide"] (defScope s_law_stirred) := ⟨rfl, rfl, rfl, by decide +kernel, rfl, by decide +kernel, by decide +kernel⟩
abbrev s_law_draw : Stmt := topS 24
abbrev n_law_draw : List Str := ["bag", "wide", "found"]
theorem sc_law_draw : FnScope n_law_draw ["bag", "wide"] (defScope s_law_draw) := ⟨rfl, rfl, rfl, by decide +kernel, rfl, by decide +kernel, by decide +kernel⟩
abbrev s_law_alike : Stmt := topS 25
abbrev n_law_alike : List Str := ["found", "due", "k"]
theorem sc_law_alike : FnScope n_law_alike ["found", "due"] (defScope s_law_alike) := ⟨rfl, rfl, rfl, by decide +kernel, rfl, by decide +kernel, by decide +kernel⟩
abbrev s_law_seating : Stmt := topS 26
abbrev n_law_seating : List Str := ["bag", "wide", "bent", "found", "k", "often", "c"]
theorem sc_law_seating : FnScope n_law_seating ["bag", "wide"] (defScope s_law_seating) := ⟨rfl, rfl, rfl, by decide +kernel, rfl, by decide +kernel, by decide +kernel⟩
abbrev s_law_coming : Stmt := topS 27
abbrev n_law_coming : List Str := ["some", "here", "found", "k", "mate"]
theorem sc_law_coming : FnScope n_law_coming ["some"] (defScope s_law_coming) := ⟨rfl, rfl, rfl, by decide +kernel, rfl, by decide +kernel, by decide +kernel⟩
abbrev s_law_tables : Stmt := topS 28
abbrev n_law_tables : List Str := ["some", "seen", "found", "k", "table", "x"]
theorem sc_law_tables : FnScope n_law_tables ["some"] (defScope s_law_tables) := ⟨rfl, rfl, rfl, by decide +kernel, rfl, by decide +kernel, by decide +kernel⟩
abbrev s_law_row : Stmt := topS 29
abbrev n_law_row : List Str := ["row", "x"]
theorem sc_law_row : FnScope n_law_row ["row"] (defScope s_law_row) := ⟨rfl, rfl, rfl, by decide +kernel, rfl, by decide +kernel, by decide +kernel⟩
abbrev s_law : Stmt := topS 30
abbrev n_law : List Str := ["script", "bag", "turn", "some", "row", "lot", "kept", "one", "due", "told"]
theorem sc_law : FnScope n_law ["script"] (defScope s_law) := ⟨rfl, rfl, rfl, by decide +kernel, rfl, by decide +kernel, by decide +kernel⟩
def g_K55_kb_read_tables_0_text : List Value → List Value → List Value := fun us ws => match us, ws with
  | [], [b0] => [b0]
  | _, _ => []
def v_K55_kb_read_tables_0_text : List V → List V → List V := fun us ws => match us, ws with
  | [], [b0] => [b0]
  | _, _ => []
def g_K55_kb_read_coming_0_text : List Value → List Value → List Value := fun us ws => match us, ws with
  | [], [b0] => [b0]
  | _, _ => []
def v_K55_kb_read_coming_0_text : List V → List V → List V := fun us ws => match us, ws with
  | [], [b0] => [b0]
  | _, _ => []
def g_K55_kb_read_seating_0_text : List Value → List Value → List Value := fun us ws => match us, ws with
  | [], [b0] => [b0]
  | _, _ => []
def v_K55_kb_read_seating_0_text : List V → List V → List V := fun us ws => match us, ws with
  | [], [b0] => [b0]
  | _, _ => []
def g_K55_kb_write_tables_0_tables : List Value → List Value → List Value := fun us ws => match us, ws with
  | [], [b0] => [b0]
  | _, _ => []
def v_K55_kb_write_tables_0_tables : List V → List V → List V := fun us ws => match us, ws with
  | [], [b0] => [b0]
  | _, _ => []
def g_K55_kb_write_coming_0_coming : List Value → List Value → List Value := fun us ws => match us, ws with
  | [], [b0] => [b0]
  | _, _ => []
def v_K55_kb_write_coming_0_coming : List V → List V → List V := fun us ws => match us, ws with
  | [], [b0] => [b0]
  | _, _ => []
def g_K55_kb_write_seating_0_seating : List Value → List Value → List Value := fun us ws => match us, ws with
  | [], [b0] => [b0]
  | _, _ => []
def v_K55_kb_write_seating_0_seating : List V → List V → List V := fun us ws => match us, ws with
  | [], [b0] => [b0]
  | _, _ => []
/-! what the top has written -/
structure Tx (K : PySem.W.Frag) (mg : Str → Option Value) where
  f_is_whole : Addr
  d_is_whole : FuncData
  F_is_whole : Fun K "is_whole" "is_whole" s_is_whole f_is_whole d_is_whole
  g_is_whole : mg "is_whole" = some (.ref f_is_whole)
  b_is_whole : Binds K d_is_whole ["thing"] []
  f_is_order : Addr
  d_is_order : FuncData
  F_is_order : Fun K "is_order" "is_order" s_is_order f_is_order d_is_order
  g_is_order : mg "is_order" = some (.ref f_is_order)
  b_is_order : Binds K d_is_order ["thing"] []
  f_is_seating : Addr
  d_is_seating : FuncData
  F_is_seating : Fun K "is_seating" "is_seating" s_is_seating f_is_seating d_is_seating
  g_is_seating : mg "is_seating" = some (.ref f_is_seating)
  b_is_seating : Binds K d_is_seating ["thing"] []
  f_are_tables : Addr
  d_are_tables : FuncData
  F_are_tables : Fun K "are_tables" "are_tables" s_are_tables f_are_tables d_are_tables
  g_are_tables : mg "are_tables" = some (.ref f_are_tables)
  b_are_tables : Binds K d_are_tables ["thing"] []
  f_is_table : Addr
  d_is_table : FuncData
  F_is_table : Fun K "is_table" "is_table" s_is_table f_is_table d_is_table
  g_is_table : mg "is_table" = some (.ref f_is_table)
  b_is_table : Binds K d_is_table ["thing"] []
  f_write_seating : Addr
  d_write_seating : FuncData
  F_write_seating : Fun K "write_seating" "write_seating" s_write_seating f_write_seating d_write_seating
  g_write_seating : mg "write_seating" = some (.ref f_write_seating)
  b_write_seating : Binds K d_write_seating ["seating"] []
  f_read_seating : Addr
  d_read_seating : FuncData
  F_read_seating : Fun K "read_seating" "read_seating" s_read_seating f_read_seating d_read_seating
  g_read_seating : mg "read_seating" = some (.ref f_read_seating)
  b_read_seating : Binds K d_read_seating ["text"] []
  f_write_coming : Addr
  d_write_coming : FuncData
  F_write_coming : Fun K "write_coming" "write_coming" s_write_coming f_write_coming d_write_coming
  g_write_coming : mg "write_coming" = some (.ref f_write_coming)
  b_write_coming : Binds K d_write_coming ["coming"] []
  f_read_coming : Addr
  d_read_coming : FuncData
  F_read_coming : Fun K "read_coming" "read_coming" s_read_coming f_read_coming d_read_coming
  g_read_coming : mg "read_coming" = some (.ref f_read_coming)
  b_read_coming : Binds K d_read_coming ["text"] []
  f_write_tables : Addr
  d_write_tables : FuncData
  F_write_tables : Fun K "write_tables" "write_tables" s_write_tables f_write_tables d_write_tables
  g_write_tables : mg "write_tables" = some (.ref f_write_tables)
  b_write_tables : Binds K d_write_tables ["tables"] []
  f_read_tables : Addr
  d_read_tables : FuncData
  F_read_tables : Fun K "read_tables" "read_tables" s_read_tables f_read_tables d_read_tables
  g_read_tables : mg "read_tables" = some (.ref f_read_tables)
  b_read_tables : Binds K d_read_tables ["text"] []
  f_text_of : Addr
  d_text_of : FuncData
  F_text_of : Fun K "text_of" "text_of" s_text_of f_text_of d_text_of
  g_text_of : mg "text_of" = some (.ref f_text_of)
  b_text_of : Binds K d_text_of ["numbers"] []
  f_number_at : Addr
  d_number_at : FuncData
  F_number_at : Fun K "number_at" "number_at" s_number_at f_number_at d_number_at
  g_number_at : mg "number_at" = some (.ref f_number_at)
  b_number_at : Binds K d_number_at ["place", "word", "numbers"] []
  f_law_bag : Addr
  d_law_bag : FuncData
  F_law_bag : Fun K "_law_bag" "_law_bag" s_law_bag f_law_bag d_law_bag
  g_law_bag : mg "_law_bag" = some (.ref f_law_bag)
  b_law_bag : Binds K d_law_bag ["script"] []
  f_law_stirred : Addr
  d_law_stirred : FuncData
  F_law_stirred : Fun K "_law_stirred" "_law_stirred" s_law_stirred f_law_stirred d_law_stirred
  g_law_stirred : mg "_law_stirred" = some (.ref f_law_stirred)
  b_law_stirred : Binds K d_law_stirred ["bag", "wide"] []
  f_law_draw : Addr
  d_law_draw : FuncData
  F_law_draw : Fun K "_law_draw" "_law_draw" s_law_draw f_law_draw d_law_draw
  g_law_draw : mg "_law_draw" = some (.ref f_law_draw)
  b_law_draw : Binds K d_law_draw ["bag", "wide"] []
  f_law_alike : Addr
  d_law_alike : FuncData
  F_law_alike : Fun K "_law_alike" "_law_alike" s_law_alike f_law_alike d_law_alike
  g_law_alike : mg "_law_alike" = some (.ref f_law_alike)
  b_law_alike : Binds K d_law_alike ["found", "due"] []
  f_law_seating : Addr
  d_law_seating : FuncData
  F_law_seating : Fun K "_law_seating" "_law_seating" s_law_seating f_law_seating d_law_seating
  g_law_seating : mg "_law_seating" = some (.ref f_law_seating)
  b_law_seating : Binds K d_law_seating ["bag", "wide"] []
  f_law_coming : Addr
  d_law_coming : FuncData
  F_law_coming : Fun K "_law_coming" "_law_coming" s_law_coming f_law_coming d_law_coming
  g_law_coming : mg "_law_coming" = some (.ref f_law_coming)
  b_law_coming : Binds K d_law_coming ["some"] []
  f_law_tables : Addr
  d_law_tables : FuncData
  F_law_tables : Fun K "_law_tables" "_law_tables" s_law_tables f_law_tables d_law_tables
  g_law_tables : mg "_law_tables" = some (.ref f_law_tables)
  b_law_tables : Binds K d_law_tables ["some"] []
  f_law_row : Addr
  d_law_row : FuncData
  F_law_row : Fun K "_law_row" "_law_row" s_law_row f_law_row d_law_row
  g_law_row : mg "_law_row" = some (.ref f_law_row)
  b_law_row : Binds K d_law_row ["row"] []
  f_law : Addr
  d_law : FuncData
  F_law : Fun K "law" "law" s_law f_law d_law
  g_law : mg "law" = some (.ref f_law)
  b_law : Binds K d_law ["script"] []
  m_abs : mg "abs" = none
  m_all : mg "all" = none
  m_bool : mg "bool" = none
  m_enumerate : mg "enumerate" = none
  m_int : mg "int" = none
  m_isinstance : mg "isinstance" = none
  m_len : mg "len" = none
  m_list : mg "list" = none
  m_max : mg "max" = none
  m_min : mg "min" = none
  m_range : mg "range" = none
  m_sorted : mg "sorted" = none
  m_str : mg "str" = none
  m_tuple : mg "tuple" = none
  m_type : mg "type" = none
  c_MOST_GUESTS : ∃ u, mg "MOST_GUESTS" = some u ∧ RelV (.int 20) u
  c_BAR : ∃ u, mg "BAR" = some u ∧ RelV (.str "|") u
  kb_read_tables_0_text : KBinds K d_read_tables ["text"] ["text"] g_K55_kb_read_tables_0_text v_K55_kb_read_tables_0_text
  kb_read_coming_0_text : KBinds K d_read_coming ["text"] ["text"] g_K55_kb_read_coming_0_text v_K55_kb_read_coming_0_text
  kb_read_seating_0_text : KBinds K d_read_seating ["text"] ["text"] g_K55_kb_read_seating_0_text v_K55_kb_read_seating_0_text
  kb_write_tables_0_tables : KBinds K d_write_tables ["tables"] ["tables"] g_K55_kb_write_tables_0_tables v_K55_kb_write_tables_0_tables
  kb_write_coming_0_coming : KBinds K d_write_coming ["coming"] ["coming"] g_K55_kb_write_coming_0_coming v_K55_kb_write_coming_0_coming
  kb_write_seating_0_seating : KBinds K d_write_seating ["seating"] ["seating"] g_K55_kb_write_seating_0_seating v_K55_kb_write_seating_0_seating
/-! readings that go by themselves -/
local macro_rules | `(tactic| walk_at "side") => `(tactic| first | with_reducible assumption | with_reducible rfl | omega | decide | (constructor <;> first | assumption | omega | decide))
local macro_rules | `(tactic| walk_at "ev") => `(tactic| first
  | ((with_reducible refine' ev_var ?e1); (case e1 => rfl))
  | (with_reducible exact ev_c)
  | ((with_reducible refine' ev_op ?e1 ?e2 rv_I0); (case e1 => walk_at "ev"); (case e2 => walk_at "ev"))
  | ((with_reducible refine' ev_op ?e1 ?e2 (rv_I ?e3)); (case e1 => walk_at "ev"); (case e2 => walk_at "ev"); (case e3 => walk_at "side"))
  | ((with_reducible refine' ev_op ?e1 ?e2 (rv_eq ?e3)); (case e1 => walk_at "ev"); (case e2 => walk_at "ev"); (case e3 => rfl))
  | ((with_reducible refine' ev_op ?e1 ?e2 (rv_ne ?e3)); (case e1 => walk_at "ev"); (case e2 => walk_at "ev"); (case e3 => rfl))
  | ((with_reducible refine' ev_op ?e1 ?e2 (rv_ixL ?e3 ?e4)); (case e1 => walk_at "ev"); (case e2 => walk_at "ev"); (case e3 => walk_at "sq"); (case e4 => walk_at "at"))
  | ((with_reducible refine' ev_op ?e1 ?e2 (rv_ixT ?e3 ?e4)); (case e1 => walk_at "ev"); (case e2 => walk_at "ev"); (case e3 => walk_at "sq"); (case e4 => walk_at "at"))
  | ((with_reducible refine' ev_op ?e1 ?e2 rv_isN); (case e1 => walk_at "ev"); (case e2 => walk_at "ev"))
  | ((with_reducible refine' ev_op ?e1 ?e2 rv_notN); (case e1 => walk_at "ev"); (case e2 => walk_at "ev"))
  | ((with_reducible refine' ev_op ?e1 ?e2 (rv_eqTy ?e3 ?e4)); (case e1 => walk_at "ev"); (case e2 => walk_at "ev"); (case e3 => exact PySem.TypeEq.meta_int); (case e4 => exact PySem.TypeEq.meta_int))
  | ((with_reducible refine' ev_un ?e1 ru_neg); (case e1 => walk_at "ev"))
  | ((with_reducible refine' ev_intI ?e1); (case e1 => walk_at "ev"))
  | ((with_reducible refine' ev_intB ?e1); (case e1 => walk_at "ev"))
  | ((with_reducible refine' ev_typeI ?e1); (case e1 => walk_at "ev"))
  | ((with_reducible refine' ev_abs ?e1); (case e1 => walk_at "ev"))
  | ((with_reducible refine' ev_max2 ?e1 ?e2); (case e1 => walk_at "ev"); (case e2 => walk_at "ev"))
  | ((with_reducible refine' ev_min2 ?e1 ?e2); (case e1 => walk_at "ev"); (case e2 => walk_at "ev"))
  | ((with_reducible refine' ev_gcd ?e1 ?e2); (case e1 => walk_at "ev"); (case e2 => walk_at "ev"))
  | ((with_reducible refine' ev_len ?e1 ?e2); (case e1 => walk_at "ev"); (case e2 => walk_at "sq"))
  | ((with_reducible refine' ev_chainI ?e1 ?e2 ?e3); (case e1 => walk_at "ev"); (case e2 => walk_at "ev"); (case e3 => walk_at "ev"))
  | ((with_reducible refine' ev_chain3I ?e1 ?e2 ?e3 ?e4); (case e1 => walk_at "ev"); (case e2 => walk_at "ev"); (case e3 => walk_at "ev"); (case e4 => walk_at "ev"))
  | ((with_reducible refine' ev_notV ?e1); (case e1 => walk_at "ev"))
  | ((with_reducible refine' ev_andV ?e1 ?e2); (case e1 => walk_at "ev"); (case e2 => (intro _; walk_at "ev")))
  | ((with_reducible refine' ev_orV ?e1 ?e2); (case e1 => walk_at "ev"); (case e2 => (intro _; walk_at "ev")))
  | ((with_reducible refine' ev_if ?e1 ?e2 ?e3); (case e1 => walk_at "et"); (case e2 => (intro _; walk_at "ev")); (case e3 => (intro _; walk_at "ev")))
  | ((with_reducible refine' ev_call ?e1 ?e2); (case e1 => walk_at "ea"); (case e2 => walk_at "call")))
local macro_rules | `(tactic| walk_at "ea") => `(tactic| first
  | (with_reducible exact ea_nil)
  | ((with_reducible refine' ea_cons ?e1 ?e2); (case e1 => walk_at "ev"); (case e2 => walk_at "ea")))
local macro_rules | `(tactic| walk_at "et") => `(tactic| first
  | ((with_reducible refine' et_test ?e1); (case e1 => walk_at "ev"))
  | ((with_reducible refine' et_B ?e1); (case e1 => walk_at "ev"))
  | ((with_reducible refine' et_not ?e1); (case e1 => walk_at "et"))
  | ((with_reducible refine' et_and ?e1 ?e2); (case e1 => walk_at "et"); (case e2 => (intro _; walk_at "et")))
  | ((with_reducible refine' et_or ?e1 ?e2); (case e1 => walk_at "et"); (case e2 => (intro _; walk_at "et"))))
local macro_rules | `(tactic| walk_at "eu") => `(tactic| first
  | ((with_reducible refine' eu_tup ?e1 ?e2); (case e1 => walk_at "ea"); (case e2 => exact Nat.le_of_ble_eq_true rfl))
  | ((with_reducible refine' eu_call ?e1 ?e2); (case e1 => walk_at "ea"); (case e2 => walk_at "callU")))
local macro_rules | `(tactic| walk_at "el") => `(tactic| first
  | ((with_reducible refine' el_call ?e1 ?e2); (case e1 => walk_at "ea"); (case e2 => walk_at "callL"))
  | ((with_reducible refine' el_lst ?e1 ?e2); (case e1 => walk_at "ea"); (case e2 => exact Nat.le_of_ble_eq_true rfl)))
local macro_rules | `(tactic| walk_at "sq") => `(tactic| first | assumption | exact sq_of (by assumption) | exact st_of (by assumption))
local macro_rules | `(tactic| walk_at "at") => `(tactic| first | assumption | rfl | (apply atI_nat; rfl))
local macro_rules | `(tactic| walk_at "call") => `(tactic| assumption)

/-! ### _law_alike -/
def sp_law_alike (n : Nat) : Sp := fun vs H Q _ => ∃ (v w : V) (d : PyData), vs = [v, w] ∧ Tk n H v d ∧ Tk n H w d ∧ RetV (.bl true) H Q
def sp_alikeB : Nat → Sp
  | 0 => fun _ _ _ _ => False
  | n + 1 => sp_law_alike n
theorem sv_alike {n : Nat} {H : Hp} {v w : V} {d : PyData} (hv : Tk n H v d) (hw : Tk n H w d) : SpV (sp_law_alike n) ([v, w] ++ []) H (.bl true) := fun H1 e Q q E => ⟨v, w, d, rfl, hv.ex e, hw.ex e, q⟩
theorem given_true (n : Nat) : given n (fun _ => true) (fun _ => V.bl true) = (List.replicate n true).map V.bl := by
  unfold given
  rw [List.filter_eq_self.mpr (fun _ _ => rfl), List.map_replicate]
  refine List.ext_getElem? fun i => ?_
  rw [List.getElem?_map, List.getElem?_replicate]
  by_cases h : i < n
  · rw [List.getElem?_range h, if_pos h]
    rfl
  · rw [List.getElem?_eq_none (by simpa using h), if_neg h]
    rfl
theorem all_true (n : Nat) : (List.replicate n true).all id = true := by
  rw [List.all_eq_true]
  intro x hx
  rw [(List.mem_replicate.mp hx).2]
  rfl
section
variable {P : Program} {w : World} {K : PySem.W.Frag} {mg : Str → Option Value} {base : Heap}
theorem alike_step (T : Tx K mg) (n k : Nat) (ih : FnOk P w K mg base CX0 k T.f_law_alike T.d_law_alike ["found", "due"] (sp_alikeB n)) : FnOk P w K mg base CX0 (k + 1) T.f_law_alike T.d_law_alike ["found", "due"] (sp_law_alike n) := by
  refine T.F_law_alike.ok sc_law_alike (fun vs H Q E h => ?_) (fun cdv A outer s H vs Q E hr h => ?_)
  · obtain ⟨v, w, d, rfl, _⟩ := h
    rfl
  · obtain ⟨v, u, d, rfl, hv, hu, kk⟩ := h
    refine ⟨_, (pss_cons (ps_if (pt_val (pe_callB call_isiT (by rfl) T.m_isinstance (by decide +kernel) (pa_cons (pv 1) (pa_cons (pe_tup (pa_cons (pe_bltn (v := .ty "list") (by rfl) T.m_list (by decide +kernel) rfl) (pa_cons (pe_bltn (v := .ty "tuple") (by rfl) T.m_tuple (by decide +kernel) rfl) pa_nil))) pa_nil)))) (pss_cons (ps_if (PW.pt (pw_or (pt_not (pt_val (pe_callB call_isiT (by rfl) T.m_isinstance (by decide +kernel) (pa_cons (pv 0) (pa_cons (pe_tup (pa_cons (pe_bltn (v := .ty "list") (by rfl) T.m_list (by decide +kernel) rfl) (pa_cons (pe_bltn (v := .ty "tuple") (by rfl) T.m_tuple (by decide +kernel) rfl) pa_nil))) pa_nil))))) (pw_or1 (pt_cmpR op_ne (pe_callB call_isi (by rfl) T.m_isinstance (by decide +kernel) (pa_cons (pv 0) (pa_cons (pe_bltn (v := .ty "list") (by rfl) T.m_list (by decide +kernel) rfl) pa_nil))) (pe_callB call_isi (by rfl) T.m_isinstance (by decide +kernel) (pa_cons (pv 1) (pa_cons (pe_bltn (v := .ty "list") (by rfl) T.m_list (by decide +kernel) rfl) pa_nil))) (nomark _))))) (pss_one (ps_ret pe_bl)) pss_nil)
      (pss_cons (ps_if (pt_cmpR op_ne (pe_callB call_lenR (by rfl) T.m_len (by decide +kernel) (pa_cons (pv 0) pa_nil)) (pe_callB call_lenR (by rfl) T.m_len (by decide +kernel) (pa_cons (pv 1) pa_nil)) (nomark _)) (pss_one (ps_ret pe_bl)) pss_nil)
      (pss_one (ps_ret (pe_callB (cr_all rfl) (by rfl) T.m_all (by decide +kernel) (pa_cons (pe_lc (own := [("k", 2)]) (g := (gName 2)) (tt := tYes) rfl sc_law_alike.nd (pi_range1 (by rfl) T.m_range (pa_cons (pe_callB (id := "len") (r := rLenS K) call_lenR (by rfl) T.m_len (by decide +kernel) (pa_cons (pv 1) pa_nil)) pa_nil)) (blkOk_by (own := [("k", 2)]) (N := n_law_alike) (sc := defScope s_law_alike) (by decide +kernel)) (fun _ _ _ _ _ => (pg_name (i := 2) sc_law_alike.nd rfl (Or.inl rfl))) (fun _ _ _ _ _ => pts_nil) (fun _ _ _ _ _ => (pe_call ih hr (by rfl) T.g_law_alike T.F_law_alike.kp T.b_law_alike .nil pass0 (pa_cons (pe_ix (r := rIx K) ix_seq (pv 0) (pv 2) (fun _ _ => rfl)) (pa_cons (pe_ix (r := rIx K) ix_seq (pv 1) (pv 2) (fun _ _ => rfl)) pa_nil))))) pa_nil)))))) pss_nil)
      (pss_cons (ps_if (PW.pt (pw_or (pt_cmpR op_ne (pe_callB call_isi (by rfl) T.m_isinstance (by decide +kernel) (pa_cons (pv 0) (pa_cons (pe_bltn (v := .ty "bool") (by rfl) T.m_bool (by decide +kernel) rfl) pa_nil))) (pe_callB call_isi (by rfl) T.m_isinstance (by decide +kernel) (pa_cons (pv 1) (pa_cons (pe_bltn (v := .ty "bool") (by rfl) T.m_bool (by decide +kernel) rfl) pa_nil))) (nomark _)) (pw_or1 (pt_cmpR op_ne (pe_callB call_isi (by rfl) T.m_isinstance (by decide +kernel) (pa_cons (pv 0) (pa_cons (pe_bltn (v := .ty "int") (by rfl) T.m_int (by decide +kernel) rfl) pa_nil))) (pe_callB call_isi (by rfl) T.m_isinstance (by decide +kernel) (pa_cons (pv 1) (pa_cons (pe_bltn (v := .ty "int") (by rfl) T.m_int (by decide +kernel) rfl) pa_nil))) (nomark _))))) (pss_one (ps_ret pe_bl)) pss_nil)
      (pss_one (ps_ret (pe_and (pe_cmpR op_eq (pe_callB call_isi (by rfl) T.m_isinstance (by decide +kernel) (pa_cons (pv 0) (pa_cons (pe_bltn (v := .ty "str") (by rfl) T.m_str (by decide +kernel) rfl) pa_nil))) (pe_callB call_isi (by rfl) T.m_isinstance (by decide +kernel) (pa_cons (pv 1) (pa_cons (pe_bltn (v := .ty "str") (by rfl) T.m_str (by decide +kernel) rfl) pa_nil))) (nomark _)) (pe_one (pe_cmpR (op_eqD hr.units) (pv 0) (pv 1) (nomark _)))))))), ?_⟩
    have seqs : ∀ {xs ys : List V} {ds : List PyData} {m : Nat}, n = m + 1 → Paired (Tk m H) xs ds → Paired (Tk m H) ys ds → xs.length ≤ 40000 → ∀ (ta tb : TE) (σ : L2.St) (H1 : Hp) (hw : ∀ x, wipe ((wipe σ [2]).set 2 (some x)) [2] = wipe σ [2]), Ex H H1 → Ev (tCB (rLenS K) (tCons (tVar 1) tNil)) σ H1 (.int (ds.length : Int)) →
        (∀ (i : Nat) (x y : V) (H2 : Hp), Ex H1 H2 → xs[i]? = some x → ys[i]? = some y → Ev ta ((wipe σ [2]).set 2 (some (.int (i : Int)))) H2 x ∧ Ev tb ((wipe σ [2]).set 2 (some (.int (i : Int)))) H2 y) →
        Ev (tCB (rAll K) (tCons (tLc (iRng1 (tCons (tCB (rLenS K) (tCons (tVar 1) tNil)) tNil)) (gName 2) tYes (tCall (sp_alikeB n) [] E0 (tCons ta (tCons tb tNil))) [2]) tNil)) σ H1 (.bl true) := by
      intro xs ys ds m en hx hy hz ta tb σ H1 hw e1 hlen hit
      have xl : xs.length = ds.length := Paired.length hx
      have yl : ys.length = ds.length := Paired.length hy
      have el := el_lcR1 (te := tCall (sp_alikeB n) [] E0 (tCons ta (tCons tb tNil))) (t := tYes) (j := 2) (vs := [2]) (σ := σ) (H := H1) (n := (ds.length : Int)) (fun _ => true) (fun _ => .bl true) (ea_cons hlen ea_nil) (by omega) hw (fun _ _ _ _ => et_yes) fun i H2 e2 hi _ => ?_
      · rw [Int.toNat_natCast, given_true] at el
        exact ev_is (ev_allN el) (by rw [all_true])
      · have hi' : i < ds.length := by omega
        obtain ⟨a, ha⟩ : ∃ a, xs[i]? = some a := ⟨_, List.getElem?_eq_getElem (by omega)⟩
        obtain ⟨b, hb⟩ : ∃ b, ys[i]? = some b := ⟨_, List.getElem?_eq_getElem (by omega)⟩
        obtain ⟨c, hc, pa⟩ := paired_get hx ha
        obtain ⟨c', hc', pb⟩ := paired_get hy hb
        rw [hc] at hc'
        cases hc'
        obtain ⟨e3, e4⟩ := hit i a b H2 e2 ha hb
        refine ev_call (ea_cons e3 (ea_cons e4 ea_nil)) ?_
        rw [en]
        exact sv_alike (pa.ex (e1.trans e2)) (pb.ex (e1.trans e2))
    cases hs : isSeq d with
    | false =>
      have fv := tk_flat hv hs
      have fu := tk_flat hu hs
      have sd : SeqAt.shaped d = true := by cases fv <;> simp [SeqAt.shaped, PyData.canLay0, PyData.depth, *]
      refine q_when (b := false) (et_is (et_B (ev_isSeq (ev_var rfl) hu)) hs) (fun hb => Bool.noConfusion hb) fun _ H1 e1 => ?_
      refine q_when (b := false) (et_is (et_or (et_test (ev_op (ev_isBo (ev_var rfl) (hv.ex e1)) (ev_isBo (ev_var rfl) (hu.ex e1)) (rv_ne rfl))) fun _ => et_test (ev_op (ev_isIt (ev_var rfl) (hv.ex e1)) (ev_isIt (ev_var rfl) (hu.ex e1)) (rv_ne rfl))) (by simp)) (fun hb => Bool.noConfusion hb) fun _ H2 e2 => ?_
      have e12 := e1.trans e2
      exact s_ret (v := .bl true) (ev_is (ev_andV (ev_op (ev_isSt (ev_var rfl) (hv.ex e12)) (ev_isSt (ev_var rfl) (hu.ex e12)) (rv_eq rfl)) fun _ => ev_eqD (K := K) (ed_of (ev_var rfl) (flat_dp fv)) (ed_of (ev_var rfl) (flat_dp fu)) sd sd) (by rw [eqv_same sd]; simp)) fun H3 e3 => kk H3 (e12.trans e3)
    | true =>
      refine q_when (b := true) (et_is (et_B (ev_isSeq (ev_var rfl) hu)) hs) (fun _ H1 e1 => ?_) fun hb => Bool.noConfusion hb
      refine q_when (b := false) (et_is (et_or (et_is (et_not (et_B (ev_isSeq (ev_var rfl) (hv.ex e1)))) (show (!isSeq d) = false by rw [hs]; rfl)) fun _ => et_test (ev_op (ev_isLs (ev_var rfl) (hv.ex e1)) (ev_isLs (ev_var rfl) (hu.ex e1)) (rv_ne rfl))) (by simp)) (fun hb => Bool.noConfusion hb) fun _ H2 e2 => ?_
      have e12 := e1.trans e2
      obtain ⟨m, en, hv'⟩ := tk_seq hv hs
      obtain ⟨m', en', hu'⟩ := tk_seq hu hs
      obtain rfl : m' = m := by omega
      rcases hv' with ⟨a, xs, ds, rfl, rfl, ha, hz, hx⟩ | ⟨a, xs, ds, rfl, rfl, ha, hz, hx⟩
      · rcases hu' with ⟨b, ys, ds', rfl, ed, hb, hzb, hy⟩ | ⟨b, ys, ds', rfl, ed, hb, hzb, hy⟩
        · cases ed
          have xl : xs.length = ds.length := Paired.length hx
          have yl : ys.length = ds.length := Paired.length hy
          have lv : ∀ H3, Ex H H3 → Ev (tCB (rLenS K) (tCons (tVar 0) tNil)) (start n_law_alike [.ref a, .ref b]) H3 (.int (ds.length : Int)) := fun H3 e => ev_is (ev_len (K := K) (ev_var (i := 0) rfl) (sq_of (e a _ ha))) (by rw [xl])
          have lu : ∀ H3, Ex H H3 → Ev (tCB (rLenS K) (tCons (tVar 1) tNil)) (start n_law_alike [.ref a, .ref b]) H3 (.int (ds.length : Int)) := fun H3 e => ev_is (ev_len (K := K) (ev_var (i := 1) rfl) (sq_of (e b _ hb))) (by rw [yl])
          refine q_when (b := false) (et_is (et_test (ev_op (lv H2 e12) (lu H2 e12) (rv_ne rfl))) (by simp)) (fun hb => Bool.noConfusion hb) fun _ H3 e3 => ?_
          have e13 := e12.trans e3
          refine s_ret (v := .bl true) (seqs en hx hy hz _ _ _ H3 (fun _ => rfl) e13 (lu H3 e13) fun i x y H4 e4 hxi hyi => ⟨ev_op (ev_var rfl) (ev_var rfl) (rv_ixQL (sq_of ((e13.trans e4) a _ ha)) (atI_nat hxi)), ev_op (ev_var rfl) (ev_var rfl) (rv_ixQL (sq_of ((e13.trans e4) b _ hb)) (atI_nat hyi))⟩) fun H4 e4 => kk H4 (e13.trans e4)
        · cases ed
      · rcases hu' with ⟨b, ys, ds', rfl, ed, hb, hzb, hy⟩ | ⟨b, ys, ds', rfl, ed, hb, hzb, hy⟩
        · cases ed
        · cases ed
          have xl : xs.length = ds.length := Paired.length hx
          have yl : ys.length = ds.length := Paired.length hy
          have lv : ∀ H3, Ex H H3 → Ev (tCB (rLenS K) (tCons (tVar 0) tNil)) (start n_law_alike [.ref a, .ref b]) H3 (.int (ds.length : Int)) := fun H3 e => ev_is (ev_lenT (K := K) (ev_var (i := 0) rfl) (st_of (e a _ ha))) (by rw [xl])
          have lu : ∀ H3, Ex H H3 → Ev (tCB (rLenS K) (tCons (tVar 1) tNil)) (start n_law_alike [.ref a, .ref b]) H3 (.int (ds.length : Int)) := fun H3 e => ev_is (ev_lenT (K := K) (ev_var (i := 1) rfl) (st_of (e b _ hb))) (by rw [yl])
          refine q_when (b := false) (et_is (et_test (ev_op (lv H2 e12) (lu H2 e12) (rv_ne rfl))) (by simp)) (fun hb => Bool.noConfusion hb) fun _ H3 e3 => ?_
          have e13 := e12.trans e3
          refine s_ret (v := .bl true) (seqs en hx hy hz _ _ _ H3 (fun _ => rfl) e13 (lu H3 e13) fun i x y H4 e4 hxi hyi => ⟨ev_op (ev_var rfl) (ev_var rfl) (rv_ixQT (st_of ((e13.trans e4) a _ ha)) (atI_nat hxi)), ev_op (ev_var rfl) (ev_var rfl) (rv_ixQT (st_of ((e13.trans e4) b _ hb)) (atI_nat hyi))⟩) fun H4 e4 => kk H4 (e13.trans e4)
theorem alike_at (T : Tx K mg) : ∀ n, FnOk P w K mg base CX0 (n + 1) T.f_law_alike T.d_law_alike ["found", "due"] (sp_law_alike n)
  | 0 => alike_step T 0 0 ⟨fun _ _ _ _ h => h.elim, fun _ _ _ _ _ _ _ _ _ _ _ _ _ h => h.elim⟩
  | n + 1 => alike_step T (n + 1) (n + 1) (alike_at T n)
theorem ok_law_alike (T : Tx K mg) : FnOk P w K mg base CX0 5 T.f_law_alike T.d_law_alike ["found", "due"] (sp_law_alike 4) := alike_at T 4
end
section
variable {σ : L2.St} {H : Hp} {ta tb : TE}
theorem ev_alike {n : Nat} {E : XK} {d e : PyData} (h : EvK n ta σ H d) (h2 : EvK n tb σ H e) (q : d = e) : Ev (tCall (sp_law_alike n) [] E (tCons ta (tCons tb tNil))) σ H (.bl true) := fun H1 e1 Q k => h H1 e1 _ fun v H2 e2 hv => h2 H2 (e1.trans e2) _ fun w H3 e3 hw => by
  subst q
  exact ⟨v, w, d, rfl, hv.ex e3, hw, fun H4 e4 => k H4 (e2.trans (e3.trans e4))⟩
end


/-! ### the bag -/
/-- H without p -/
def Hm (p : Addr) (H : Hp) : Hp := fun b => if b = p then none else H b
theorem hm_p {p : Addr} {H : Hp} : Hm p H p = none := if_pos rfl
theorem hm_sub {p : Addr} {H : Hp} : Ex (Hm p H) H := fun a o h => by
  unfold Hm at h
  split at h
  · cases h
  · exact h
theorem hm_mono {p : Addr} {H H' : Hp} (e : Ex H H') : Ex (Hm p H) (Hm p H') := fun a o h => by
  unfold Hm at h ⊢
  split at h
  · cases h
  · rename_i ne
    rw [if_neg ne]
    exact e a o h
theorem ex_hm {p : Addr} {H0 H : Hp} (e : Ex H0 H) (h : H0 p = none) : Ex H0 (Hm p H) := fun a o ha => by
  unfold Hm
  rw [if_neg (ne_of_none ha h)]
  exact e a o ha
/-- a bag after at most n draws -/
def Po (p l : Addr) (n : Nat) (H : Hp) : Prop := ∃ (ns : List Int) (i c s t : Int), H p = some (.lst [.ref l, .int i, .int c, .int s, .int t]) ∧ H l = some (.lst (ns.map V.int)) ∧ l ≠ p ∧ (0 ≤ i ∧ (∀ z ∈ ns, 0 ≤ z) ∧ 0 ≤ c) ∧ (0 ≤ s ∧ s < 2147483647) ∧ 0 ≤ t ∧ t ≤ 10 * n
theorem Po.ex {p l : Addr} {n : Nat} {H H' : Hp} (h : Po p l n H) (e : Ex H H') : Po p l n H' := by
  obtain ⟨ns, i, c, s, t, h1, h2, h3⟩ := h
  exact ⟨ns, i, c, s, t, e p _ h1, e l _ h2, h3⟩
theorem Po.mono {p l : Addr} {n m : Nat} {H : Hp} (h : Po p l n H) (e : n ≤ m) : Po p l m H := by
  obtain ⟨ns, i, c, s, t, h1, h2, h3, h4, h5, h6, h7⟩ := h
  exact ⟨ns, i, c, s, t, h1, h2, h3, h4, h5, h6, by omega⟩
theorem ev_bits {σ : L2.St} {H : Hp} {ta : TE} {i : Int} (h : Ev ta σ H (.int i)) : Ev (tBits ta) σ H (.int ((Builtin.Int.intBits i : Nat) : Int)) := fun H1 e Q q => h H1 e _ fun H2 e2 => ⟨i, rfl, q H2 e2⟩
def fI (f : Int → Int) : V → V
  | .int c => .int (f c)
  | _ => .non
theorem map_fI (f : Int → Int) (ns : List Int) : (ns.map V.int).map (fI f) = (ns.map f).map V.int := by
  rw [List.map_map, List.map_map]
  rfl
theorem s_retC {σ : L2.St} {H : Hp} {t : TA} {sp : Sp} {E : XK} {D : Ends} {vs : List V} (h : EvA t σ H vs) (k : ∀ H1, Ex H H1 → sp (vs ++ []) H1 D.rt E) : tRet (tCall sp [] E t) D σ H := h H (Ex.refl H) _ k
theorem s_retLL {σ : L2.St} {H : Hp} {te : TE} {tr : TA} {D : Ends} {xs ys : List V} (h : EvL te σ H xs) (hr : ∀ H1, Ex H H1 → EvA tr σ H1 ys) (hz : ys.length < 1000) (k : ∀ p l H1, H p = none → H l = none → l ≠ p → Ex H H1 → H1 l = some (.lst xs) → H1 p = some (.lst (.ref l :: ys)) → D.rt (.ref p) H1) : tRet (tLst (tCons te tr)) D σ H :=
  h H (Ex.refl H) _ fun l H1 nl e1 hl => hr H1 e1 H1 (Ex.refl _) _ fun H2 e2 => ⟨sz_of (by rw [List.length_cons]; omega), fun p hp =>
    k p l _ (fresh_back (e1.trans e2) hp) nl (fun z => by
      rw [← z, e2 l _ hl] at hp
      cases hp) ((e1.trans e2).trans (Ex.new hp)) (Ex.new hp l _ (e2 l _ hl)) upd_same⟩
theorem pow3_ok {i : Int} (h : i.natAbs < 2 ^ 250) : CPowX i 3 := by
  have := PyProof.Rows.intBits_le h
  unfold CPowX
  omega
theorem divw_ok {i j : Int} (h : 0 < j) (hb : j < 2 ^ 200) : CDivW i j := wide_div (b := 200) h (by omega) (by decide) (by decide)
theorem mulk_ok {i j : Int} (h : i.natAbs < 2 ^ 100000) (hb : j.natAbs < 2 ^ 100000) : CMulX i j := mulx_ok h hb (by decide)
def sp_law_bag (K : PySem.W.Frag) : Sp := fun vs H Q _ => ∃ (s : Addr) (ns : List Int), vs = [.ref s] ∧ SqL K H s (ns.map V.int) ∧ ns.length ≤ 63 ∧ ∀ p l H', H p = none → H l = none → Ex H H' → Po p l 0 H' → Q (.ref p) H'
def sp_law_stirred : Sp := fun vs H Q _ => ∃ (p l : Addr) (n : Nat) (w : Int), vs = [.ref p, .int w] ∧ Po p l n H ∧ n < 1000000000 ∧ 0 < w ∧ w < 2 ^ 200 ∧
  ∀ r H', 0 ≤ r → r < w → Po p l (n + 1) H' → Ex (Hm p H) H' → Q (.int r) H'
def sp_law_draw : Sp := fun vs H Q _ => ∃ (p l : Addr) (n : Nat) (w : Int), vs = [.ref p, .int w] ∧ Po p l n H ∧ n < 1000000000 ∧ 0 < w ∧ w < 2 ^ 200 ∧
  ∀ r H', 0 ≤ r → r < w → Po p l (n + 1) H' → Ex (Hm p H) H' → Q (.int r) H'
section
variable {P : Program} {w : World} {K : PySem.W.Frag} {mg : Str → Option Value} {base : Heap}
theorem ok_law_bag (T : Tx K mg) : FnOk P w K mg base CX0 1 T.f_law_bag T.d_law_bag ["script"] (sp_law_bag K) := by
  refine T.F_law_bag.ok sc_law_bag (fun vs H Q E h => ?_) (fun cdv A outer s H vs Q E hr h => ?_)
  · obtain ⟨a, ns, rfl, _⟩ := h
    rfl
  · obtain ⟨a, ns, rfl, hs, hn, k⟩ := h
    refine ⟨_, (pss_cons (ps_set (i := 1) sc_law_bag.nd rfl (Or.inl rfl) pe_int)
      (pss_cons (ps_for PassesOwn.never rfl (pi_list (pe_slice sl_list (pv 0) po_none (po_some pe_int))) (pg_name (i := 2) sc_law_bag.nd rfl (Or.inl rfl)) (pss_one (ps_set (i := 1) sc_law_bag.nd rfl (Or.inl rfl) (pe_op op_mod (pe_callTy call_intI (by rfl) T.m_int (by decide +kernel) (pa_cons (pe_op op_add (pe_op op_add (pe_op op_mulX (pv 1) pe_int) (pe_op op_mod (pe_callTy call_intI (by rfl) T.m_int (by decide +kernel) (pa_cons (pv 2) pa_nil)) pe_int)) pe_int) pa_nil)) pe_int))))
      (pss_one (ps_ret (pe_lst (pa_cons (pe_lc (own := [("cell", 2)]) (g := (gName 2)) (tt := tYes) rfl sc_law_bag.nd (pi_list (pe_slice (r := rSlL K) sl_list (pv 0) po_none (po_some pe_int))) (blkOk_by (own := [("cell", 2)]) (N := n_law_bag) (sc := defScope s_law_bag) (by decide +kernel)) (fun _ _ _ _ _ => (pg_name (i := 2) sc_law_bag.nd rfl (Or.inl rfl))) (fun _ _ _ _ _ => pts_nil) (fun _ _ _ _ _ => (pe_op op_mod (pe_callTy call_intI (by rfl) T.m_int (by decide +kernel) (pa_cons (pe_callB call_absR (by rfl) T.m_abs (by decide +kernel) (pa_cons (pv 2) pa_nil)) pa_nil)) (pe_op op_powX (pe_op op_powX pe_int pe_int) pe_int)))) (pa_cons pe_int (pa_cons pe_int (pa_cons (pv 1) (pa_cons pe_int pa_nil)))))))))), ?_⟩
    have hlen : (ns.map V.int).length = ns.length := List.length_map ..
    have cutA : cutV (ns.map V.int) none (some 63) = ns.map V.int := by
      unfold cutV
      rw [HT.sIx_none, show (63 : Int) = ((63 : Nat) : Int) from rfl, HT.sIx_nat, List.drop_zero]
      exact List.take_of_length_le (by omega)
    refine q_asg (v := .int 223) ev_c fun H1 e1 => ?_
    have hs1 := ex_l e1 hs
    have slc : ∀ (σ : L2.St) (H' : Hp), σ[0]? = some (some (.ref a)) → Ex H1 H' → EvL (tSl (rSlL K) (tVar 0) tNoPart (tPart (tC (.int 63)))) σ H' (ns.map V.int) := fun σ H' h0 e' => by
      have := el_sl (K := K) (te := tVar 0) (tl := tNoPart) (th := tPart (tC (.int 63))) (σ := σ) (H := H') (ev_var (i := 0) h0) eo_none (eo_some (ev_c (v := .int 63))) (ex_l e' hs1)
      rw [cutA] at this
      exact this
    have mod0 : (0 : Int) < (10 ^ (60 : Int).toNat) ^ (10 : Int).toNat := Int.pow_pos (Int.pow_pos (by decide))
    have pw1 : CPowX 10 60 := by constructor <;> decide +kernel
    have pw2 : CPowX (10 ^ (60 : Int).toNat) 10 := by constructor <;> decide +kernel
    refine q_forNL (xs := ns.map V.int) (slc _ H1 rfl (Ex.refl _)) (fun q i σ' H' => ∃ (st : Int) (y : Option V), σ' = [some (.ref a), some (.int st), y] ∧ Ex H1 H' ∧ 0 ≤ st ∧ st < 2147483647 ∧ H' q = some (.lst (ns.map V.int))) (fun q H2 _ e2 hq => ⟨223, none, rfl, e2, by decide, by decide, hq⟩) (fun q i σ' H' _ ⟨_, _, _, _, _, _, hq⟩ => sq_of hq) ?_ ?_
    · rintro q i v σ' H' hv ⟨st, y, rfl, e, s0, s1, hq⟩
      rw [List.getElem?_map] at hv
      obtain ⟨c, _, rfl⟩ := Option.map_eq_some_iff.mp hv
      have m1 : CMulX st 48271 := mulx_ok (a := 64) (b := 64) (by omega) (by decide) (by decide)
      exact s_asg (v := .int ((st * 48271 + c % 2147483629 + 1) % 2147483647)) (ev_op (ev_intI (ev_op (ev_op (ev_op (ev_var rfl) ev_c (rv_I m1)) (ev_op (ev_intI (ev_var rfl)) ev_c (rv_I (by decide))) rv_I0) ev_c rv_I0)) ev_c (rv_I (by decide))) fun H2 e2 => ⟨_, _, rfl, e.trans e2, Int.emod_nonneg _ (by decide), Int.emod_lt_of_pos _ (by decide), e2 q _ hq⟩
    · rintro q σ' H' ⟨st, y, rfl, e, s0, s1, hq⟩
      have el := el_mapN (K := K) (te := tOp (rI (fun _ j => 0 < j) fun i j => .int (i % j)) (tCB rIntI (tCons (tCB rAbs (tCons (tVar 2) tNil)) tNil)) (tOp (rI CPowX fun i j => .int (i ^ j.toNat)) (tOp (rI CPowX fun i j => .int (i ^ j.toNat)) (tC (.int 10)) (tC (.int 60))) (tC (.int 10)))) (j := 2) (vs := [2]) (fI fun c => (if c < 0 then -c else c) % (10 ^ (60 : Int).toNat) ^ (10 : Int).toNat) (slc [some (.ref a), some (.int st), y] H' rfl e) (by rw [List.length_map]; omega) (fun _ => rfl) fun i v H2 e2 hv => ?_
      · rw [map_fI] at el
        refine s_retLL el (fun H2 e2 => ea_cons ev_c (ea_cons ev_c (ea_cons (ev_var rfl) (ea_cons ev_c ea_nil)))) (by simp) fun p l H2 hp hl0 lp e2 hl2 hp2 => ?_
        refine k p l H2 (fresh_back (e1.trans e) hp) (fresh_back (e1.trans e) hl0) (e1.trans (e.trans e2)) ⟨_, 0, 0, st, 0, hp2, hl2, lp, ⟨by decide, fun z hz => ?_, by decide⟩, ⟨s0, s1⟩, by decide, by decide⟩
        obtain ⟨c, _, rfl⟩ := List.mem_map.mp hz
        exact Int.emod_nonneg _ (by omega)
      · rw [List.getElem?_map] at hv
        obtain ⟨c, _, rfl⟩ := Option.map_eq_some_iff.mp hv
        exact ev_op (ev_intI (ev_abs (ev_var rfl))) (ev_op (ev_op ev_c ev_c (rv_I pw1)) ev_c (rv_I pw2)) (rv_I mod0)
theorem ok_law_stirred (T : Tx K mg) : FnOk P w K mg base CX0 1 T.f_law_stirred T.d_law_stirred ["bag", "wide"] sp_law_stirred := by
  refine T.F_law_stirred.ok sc_law_stirred (fun vs H Q E h => ?_) (fun cdv A outer s H vs Q E hr h => ?_)
  · obtain ⟨p, l, n, w, rfl, _⟩ := h
    rfl
  · obtain ⟨p, l, n, w, rfl, ⟨ns, i, c, s0, t, hp, hl, lp, ⟨hi, hns, hc⟩, ⟨hs0, hs1⟩, ht0, ht1⟩, hn, hw0, hw1, k⟩ := h
    refine ⟨_, (pss_cons (ps_set (i := 2) sc_law_stirred.nd rfl (Or.inl rfl) pe_int)
      (pss_cons (ps_for PassesOwn.never rfl (pi_range1 (by rfl) T.m_range (pa_cons (pe_op op_add pe_int (pe_op op_fdivW (pe_bits (pv 1)) pe_int)) pa_nil)) (pg_name (i := 3) sc_law_stirred.nd rfl (Or.inl rfl)) (pss_cons (ps_asg (pe_op op_add (pe_ix ix_list (pv 0) pe_int (fun _ _ => rfl)) pe_int) (pg_sub (pv 0) pe_int set_list))
      (pss_cons (ps_set (i := 4) sc_law_stirred.nd rfl (Or.inl rfl) (pe_op op_add (pe_op op_add (pe_op op_add (pe_op op_powX (pe_ix ix_list (pv 0) pe_int (fun _ _ => rfl)) pe_int) (pe_op op_mulX pe_int (pe_ix ix_list (pv 0) pe_int (fun _ _ => rfl)))) (pe_op op_mulX pe_int (pe_ix ix_list (pv 0) pe_int (fun _ _ => rfl)))) pe_int))
      (pss_cons (ps_asg (pe_op op_mod (pe_callTy call_intI (by rfl) T.m_int (by decide +kernel) (pa_cons (pv 4) pa_nil)) pe_int) (pg_sub (pv 0) pe_int set_list))
      (pss_one (ps_set (i := 2) sc_law_stirred.nd rfl (Or.inl rfl) (pe_op op_add (pe_op op_mulX (pv 2) pe_int) (pe_op op_fdivW (pe_ix ix_list (pv 0) pe_int (fun _ _ => rfl)) pe_int))))))))
      (pss_one (ps_ret (pe_op op_mod (pe_callTy call_intI (by rfl) T.m_int (by decide +kernel) (pa_cons (pv 2) pa_nil)) (pv 1)))))), ?_⟩
    have hp0 : Hm p H p = none := hm_p
    have hlm : Hm p H l = some (.lst (ns.map V.int)) := by
      unfold Hm
      rw [if_neg lp]
      exact hl
    have bits : Builtin.Int.intBits w ≤ 200 := PyProof.Rows.intBits_le (by omega)
    refine q_asg (v := .int 0) ev_c fun H1 e1 => ?_
    have d27 : CDivW ((Builtin.Int.intBits w : Nat) : Int) 27 := divw_ok (by decide) (by decide)
    refine q_forR1 (n := 1 + ((Builtin.Int.intBits w : Nat) : Int) / 27) (ea_cons (ev_op ev_c (ev_op (ev_bits (ev_var rfl)) ev_c (rv_I d27)) rv_I0) ea_nil) ⟨by omega, by omega⟩ (fun j σ' H' => ∃ (f s' : Int) (y z : Option V), σ' = [some (.ref p), some (.int w), some (.int f), y, z] ∧ H' p = some (.lst [.ref l, .int i, .int c, .int s', .int (t + j)]) ∧ Ex (Hm p H) H' ∧ 0 ≤ f ∧ f.natAbs < 2 ^ (28 * j + 1) ∧ 0 ≤ s' ∧ s' < 2147483647) (fun H2 e2 => ⟨0, s0, none, none, rfl, by
      rw [show t + ((0 : Nat) : Int) = t by omega]
      exact e2 p _ (e1 p _ hp), hm_sub.trans (e1.trans e2), by decide, by decide, hs0, hs1⟩) ?_ ?_
    · rintro j σ' H' hj ⟨f, s', y, z, rfl, hp', e', hf0, hf1, hs0', hs1'⟩
      have j8 : j < 9 := by omega
      refine q_setL (j := 4) hp' (by walk_at "ev") (by walk_at "ev") ev_c (by show 4 < 5; decide) fun H2 e2 => ?_
      have hp2 : ∀ H3, Ex (upd H2 p (.lst ([V.ref l, .int i, .int c, .int s', .int (t + j)].set 4 (.int (t + j + 1))))) H3 → H3 p = some (.lst [.ref l, .int i, .int c, .int s', .int (t + j + 1)]) := fun H3 e => e p _ upd_same
      have hq := hp2 _ (Ex.refl _)
      have m1 : CMulX 69621 s' := mulx_ok (a := 64) (b := 64) (by decide) (by omega) (by decide)
      have m2 : CMulX 1031 (t + j + 1) := mulx_ok (a := 64) (b := 64) (by decide) (by omega) (by decide)
      have p3 : CPowX s' 3 := pow3_ok (by omega)
      refine q_asg (by walk_at "ev") fun H3 e3 => ?_
      have hq3 := hp2 _ e3
      generalize hx : s' ^ (3 : Int).toNat + 69621 * s' + 1031 * (t + (j : Int) + 1) + 1 = x
      refine q_setL (j := 3) hq3 (by walk_at "ev") (by walk_at "ev") ev_c (by show 3 < 5; decide) fun H4 e4 => ?_
      have r0 := Int.emod_nonneg x (show (2147483647 : Int) ≠ 0 by decide)
      have r1 := Int.emod_lt_of_pos x (show (0 : Int) < 2147483647 by decide)
      generalize x % 2147483647 = s2 at r0 r1 ⊢
      have hp4 : ∀ H5, Ex (upd H4 p (.lst ([V.ref l, .int i, .int c, .int s', .int (t + j + 1)].set 3 (.int s2)))) H5 → H5 p = some (.lst [.ref l, .int i, .int c, .int s2, .int (t + j + 1)]) := fun H5 e => e p _ upd_same
      have hq4 := hp4 _ (Ex.refl _)
      have d16 : CDivW s2 16 := divw_ok (by decide) (by decide)
      have m3 : CMulX f 134217728 := mulx_ok (a := 300) (b := 64) (lt2_mono hf1 (by omega)) (by decide) (by decide)
      have f2 : (f * 134217728 + s2 / 16).natAbs < 2 ^ (28 * (j + 1) + 1) := by
        have a1 : (f * 134217728).natAbs < 2 ^ (28 * j + 1) * 134217728 := by
          rw [Int.natAbs_mul]
          exact Nat.mul_lt_mul_of_pos_right hf1 (by decide)
        have a2 : 2 ^ (28 * (j + 1) + 1) = 2 ^ (28 * j + 1) * 268435456 := by
          rw [show 28 * (j + 1) + 1 = 28 * j + 1 + 28 by omega, Nat.pow_add]
        have a3 : 1 ≤ 2 ^ (28 * j + 1) := Nat.one_le_two_pow
        omega
      refine s_asg (by walk_at "ev") fun H5 e5 => ⟨_, s2, _, _, rfl, ?_, ?_, ?_, f2, r0, r1⟩
      · rw [show t + ((j + 1 : Nat) : Int) = t + j + 1 by omega]
        exact hp4 _ e5
      · exact (Ex.mut ((Ex.mut (e'.trans e2) hp0).trans (e3.trans e4)) hp0).trans e5
      · have := Int.mul_nonneg hf0 (show (0 : Int) ≤ 134217728 by decide)
        omega
    · rintro σ' H' ⟨f, s', y, z, rfl, hp', e', hf0, hf1, hs0', hs1'⟩
      refine s_ret (by walk_at "ev") fun H2 e2 => ?_
      refine k _ _ (Int.emod_nonneg _ (by omega)) (Int.emod_lt_of_pos _ hw0) ⟨ns, i, c, s', _, e2 p _ hp', (e'.trans e2) l _ hlm, lp, ⟨hi, hns, hc⟩, ⟨hs0', hs1'⟩, by omega, ?_⟩ (e'.trans e2)
      omega
theorem ok_law_draw (T : Tx K mg) : FnOk P w K mg base CX0 2 T.f_law_draw T.d_law_draw ["bag", "wide"] sp_law_draw := by
  refine T.F_law_draw.ok sc_law_draw (fun vs H Q E h => ?_) (fun cdv A outer s H vs Q E hr h => ?_)
  · obtain ⟨p, l, n, w, rfl, _⟩ := h
    rfl
  · obtain ⟨p, l, n, w, rfl, hpo, hn, hw0, hw1, k⟩ := h
    refine ⟨_, (pss_cons (ps_if (PW.pt (pw_and (pt_cmpR op_eq (pe_ix ix_list (pv 0) pe_int (fun _ _ => rfl)) pe_int (nomark _)) (pw_and1 (pt_cmpR op_lt (pe_ix ix_list (pv 0) pe_int (fun _ _ => rfl)) (pe_callB call_lenR (by rfl) T.m_len (by decide +kernel) (pa_cons (pe_ix ix_list (pv 0) pe_int (fun _ _ => rfl)) pa_nil)) (nomark _))))) (pss_cons (ps_asg (pe_ix ix_list (pe_ix ix_list (pv 0) pe_int (fun _ _ => rfl)) (pe_ix ix_list (pv 0) pe_int (fun _ _ => rfl)) (fun _ _ => rfl)) (pg_sub (pv 0) pe_int set_list))
      (pss_one (ps_asg (pe_op op_add (pe_ix ix_list (pv 0) pe_int (fun _ _ => rfl)) pe_int) (pg_sub (pv 0) pe_int set_list)))) (pss_one (ps_if (pt_cmpR op_eq (pe_ix ix_list (pv 0) pe_int (fun _ _ => rfl)) pe_int (nomark _)) (pss_one (ps_ret (pe_call (ok_law_stirred T) (hr.mono (by decide)) (by rfl) T.g_law_stirred T.F_law_stirred.kp T.b_law_stirred .nil pass0 (pa_cons (pv 0) (pa_cons (pv 1) pa_nil))))) pss_nil)))
      (pss_cons (ps_set (i := 2) sc_law_draw.nd rfl (Or.inl rfl) (pe_op op_mod (pe_callTy call_intI (by rfl) T.m_int (by decide +kernel) (pa_cons (pe_ix ix_list (pv 0) pe_int (fun _ _ => rfl)) pa_nil)) (pv 1)))
      (pss_cons (ps_asg (pe_op op_fdivW (pe_ix ix_list (pv 0) pe_int (fun _ _ => rfl)) (pv 1)) (pg_sub (pv 0) pe_int set_list))
      (pss_one (ps_ret (pv 2)))))), ?_⟩
    obtain ⟨ns, i, c, s0, t, hp, hl, lp, ⟨hi, hns, hc⟩, ⟨hs0, hs1⟩, ht0, ht1⟩ := hpo
    have hp0 : Hm p H p = none := hm_p
    have hlm : Hm p H l = some (.lst (ns.map V.int)) := by
      unfold Hm
      rw [if_neg lp]
      exact hl
    obtain ⟨i, rfl⟩ : ∃ z : Nat, i = z := ⟨i.toNat, by omega⟩
    have ix : ∀ {σ : L2.St} {H' : Hp} {i c s t : Int} (j : Nat) {v : V}, σ[0]? = some (some (.ref p)) → H' p = some (.lst [.ref l, .int i, .int c, .int s, .int t]) → [V.ref l, .int i, .int c, .int s, .int t][j]? = some v → Ev (tOp (rIxL K) (tVar 0) (tC (.int (j : Int)))) σ H' v := fun j v h0 h1 h2 => ev_op (ev_var h0) ev_c (rv_ixL (K := K) (sq_of h1) (atI_nat h2))
    have tail : ∀ (H' : Hp) (i' : Nat) (c' : Int), 0 ≤ c' → H' p = some (.lst [.ref l, .int (i' : Int), .int c', .int s0, .int t]) → Ex (Hm p H) H' →
        tSeq (tAsg (tOp (rI (fun _ j => 0 < j) fun i j => .int (i % j)) (tCB rIntI (tCons (tOp (rIxL K) (tVar 0) (tC (.int 2))) tNil)) (tVar 1)) (gName 2)) (tSeq (tAsg (tOp (rI CDivW fun i j => .int (i / j)) (tOp (rIxL K) (tVar 0) (tC (.int 2))) (tVar 1)) (gSub (tVar 0) (tC (.int 2)) rSetL)) (tRet (tVar 2))) { nx := fun _ H' => Q .non H', rt := Q } [some (.ref p), some (.int w), none] H' := fun H' i' c' c0 hq e => by
      refine q_asg (v := .int (c' % w)) (ev_op (ev_intI (ix 2 rfl hq rfl)) (ev_var rfl) (rv_I hw0)) fun H2 e2 => ?_
      have hq2 := e2 p _ hq
      refine q_setL (j := 2) hq2 (v := .int (c' / w)) (ev_op (ix 2 rfl hq2 rfl) (ev_var rfl) (rv_I (divw_ok hw0 hw1))) (ev_var rfl) ev_c (by show 2 < 5; decide) fun H3 e3 => ?_
      refine s_ret (v := .int (c' % w)) (ev_var rfl) fun H4 e4 => k _ _ (Int.emod_nonneg _ (by omega)) (Int.emod_lt_of_pos _ hw0) ?_ ?_
      · refine ⟨ns, i', c' / w, s0, t, e4 p _ upd_same, e4 l _ (by rw [upd_ne lp]; exact (e.trans (e2.trans e3)) l _ hlm), lp, ⟨by omega, hns, Int.ediv_nonneg c0 (by omega)⟩, ⟨hs0, hs1⟩, ht0, by omega⟩
      · exact (Ex.mut (e.trans (e2.trans e3)) hp0).trans e4
    refine q_if (b := decide (V.int c = V.int 0) && decide (((i : Nat) : Int) < ((ns.map V.int).length : Int))) (et_and (et_test (ev_op (ix 2 rfl hp rfl) ev_c (rv_eq rfl))) fun _ => et_test (ev_op (ix 1 rfl hp rfl) (ev_len (ix 0 rfl hp rfl) (sq_of hl)) rv_I0)) (fun hb H1 e1 => ?_) fun hb H1 e1 => ?_
    · rw [Bool.and_eq_true, decide_eq_true_iff, decide_eq_true_iff, List.length_map] at hb
      have hp1 := e1 p _ hp
      have hil : i < ns.length := by omega
      obtain ⟨z, hz⟩ : ∃ z, ns[i]? = some z := ⟨_, List.getElem?_eq_getElem hil⟩
      refine q_setL (j := 2) hp1 (v := .int z) (ev_op (ix 0 rfl hp1 rfl) (ix 1 rfl hp1 rfl) (rv_ixL (K := K) (sq_of (e1 l _ hl)) (atI_nat (j := i) (by rw [List.getElem?_map, hz]; rfl)))) (ev_var rfl) ev_c (by show 2 < 5; decide) fun H2 e2 => ?_
      refine s_setL (j := 1) (xs := [.ref l, .int (i : Int), .int z, .int s0, .int t]) (v := .int ((i + 1 : Nat) : Int)) upd_same (ev_is (ev_op (ix 1 rfl upd_same rfl) ev_c rv_I0) (by congr 1)) (ev_var rfl) ev_c (by show 1 < 5; decide) fun H3 e3 => ?_
      exact tail _ (i + 1) z (hns z (List.mem_of_getElem? hz)) upd_same (Ex.mut ((Ex.mut (hm_sub.trans (e1.trans e2)) hp0).trans e3) hp0)
    · refine s_when (b := decide (V.int c = V.int 0)) (et_test (ev_op (ix 2 rfl (e1 p _ hp) rfl) ev_c (rv_eq rfl))) (fun hb2 H2 e2 => ?_) fun hb2 H2 e2 => ?_
      · have ee := e1.trans e2
        refine s_retC (vs := [.ref p, .int w]) (ea_cons (ev_var rfl) (ea_cons (ev_var rfl) ea_nil)) fun H3 e3 => ?_
        have e13 := ee.trans e3
        exact ⟨p, l, n, w, rfl, ⟨ns, i, c, s0, t, e13 p _ hp, e13 l _ hl, lp, ⟨by omega, hns, hc⟩, ⟨hs0, hs1⟩, ht0, ht1⟩, hn, hw0, hw1, fun r H4 r0 r1 p4 e4 => k r H4 r0 r1 p4 ((hm_mono e13).trans e4)⟩
      · exact tail H2 i c hc ((e1.trans e2) p _ hp) (hm_sub.trans (e1.trans e2))
end
/-! ### expressions that draw -/
theorem hm_trans {p : Addr} {H H1 H2 : Hp} (a : Ex (Hm p H) H1) (b : Ex (Hm p H1) H2) : Ex (Hm p H) H2 := fun x o h => by
  have ne : x ≠ p := fun z => by
    subst z
    rw [hm_p] at h
    cases h
  have h1 := a x o h
  refine b x o ?_
  unfold Hm
  rw [if_neg ne]
  exact h1
theorem hm_next {p : Addr} {H0 H H1 : Hp} (h0 : H0 p = none) (e : Ex H0 H) (s : Ex (Hm p H) H1) : Ex H0 H1 := (ex_hm e h0).trans s
theorem hm_of {p : Addr} {H H1 : Hp} (e : Ex H H1) : Ex (Hm p H) H1 := hm_sub.trans e
theorem hm_at {p a : Addr} {H H1 : Hp} {o : HO} (s : Ex (Hm p H) H1) (ne : a ≠ p) (h : H a = some o) : H1 a = some o := s a o (by
  unfold Hm
  rw [if_neg ne]
  exact h)
theorem Po.ne {p l b : Addr} {n : Nat} {H : Hp} (h : Po p l n H) (hb : H b = none) : b ≠ p := fun z => by
  subst z
  obtain ⟨_, _, _, _, _, h1, _⟩ := h
  rw [hb] at h1
  cases h1
theorem Po.nl {p l b : Addr} {n : Nat} {H : Hp} (h : Po p l n H) (hb : H b = none) : b ≠ l := fun z => by
  subst z
  obtain ⟨_, _, _, _, _, _, h1, _⟩ := h
  rw [hb] at h1
  cases h1
theorem Po.upd {p l b : Addr} {n : Nat} {H : Hp} {o : HO} (h : Po p l n H) (ne : b ≠ p) (nl : b ≠ l) : Po p l n (upd H b o) := by
  obtain ⟨ns, i, c, s, t, h1, h2, h3⟩ := h
  exact ⟨ns, i, c, s, t, by rw [upd_ne (Ne.symm ne)]; exact h1, by rw [upd_ne (Ne.symm nl)]; exact h2, h3⟩
def EvP (p L : Addr) (k : Nat) (te : TE) (σ : L2.St) (H0 : Hp) (R : V → Hp → Prop) : Prop := ∀ n H1, Ex H0 H1 → Po p L n H1 → n + k ≤ 1000000000 →
  ∀ Q : VK, (∀ v H2, R v H2 → Po p L (n + k) H2 → Ex (Hm p H1) H2 → Q v H2) → te σ H1 Q
def Stb (p : Addr) (R : V → Hp → Prop) : Prop := ∀ v H H', R v H → Ex (Hm p H) H' → R v H'
section
variable {K : PySem.W.Frag} {σ : L2.St} {H0 H : Hp} {p L : Addr} {k k1 k2 : Nat} {te ta tb : TE} {R Ra Rb : V → Hp → Prop}
theorem ep_ev {v : V} (h : Ev te σ H0 v) : EvP p L 0 te σ H0 (fun x _ => x = v) := fun n H1 e hp _ Q q => h H1 e Q fun H2 e2 => q v H2 rfl (hp.ex e2) (hm_of e2)
theorem ep_L {xs : List V} (h : EvL te σ H0 xs) : EvP p L 0 te σ H0 (fun x H => ∃ l, l ≠ p ∧ x = .ref l ∧ H l = some (.lst xs)) := fun n H1 e hp _ Q q => h H1 e Q fun l H2 hl e2 h2 => q _ H2 ⟨l, hp.ne hl, rfl, h2⟩ (hp.ex e2) (hm_of e2)
theorem stb_L {xs : List V} : Stb p (fun x H => ∃ l, l ≠ p ∧ x = .ref l ∧ H l = some (.lst xs)) := fun v H H' ⟨l, ne, e, h⟩ s => ⟨l, ne, e, hm_at s ne h⟩
theorem stb_c {C : V → Prop} : Stb p (fun x _ => C x) := fun _ _ _ h _ => h
theorem ep_op {r : R2} (h0 : H0 p = none) (ha : EvP p L k1 ta σ H0 Ra) (hb : EvP p L k2 tb σ H0 Rb) (s1 : Stb p Ra) (s : Stb p R) (hr : ∀ x y H, Ra x H → Rb y H → ∃ z, R z H ∧ RV r x y H z) : EvP p L (k1 + k2) (tOp r ta tb) σ H0 R :=
  fun n H1 e hp hn Q q => ha n H1 e hp (by omega) _ fun x H2 hx p2 e2 => hb (n + k1) H2 (hm_next h0 e e2) p2 (by omega) _ fun y H3 hy p3 e3 => by
    obtain ⟨z, hz, hv⟩ := hr x y H3 (s1 x H2 H3 hx e3) hy
    refine hv H3 (Ex.refl H3) Q fun H4 e4 => q z H4 (s z H3 H4 hz (hm_of e4)) ?_ (hm_trans (hm_trans e2 e3) (hm_of e4))
    rw [← Nat.add_assoc]
    exact p3.ex e4
theorem ep_dip {tw : TE} {E : XK} {C : Int → Prop} (h0 : H0 p = none) (hp : Ev ta σ H0 (.ref p)) (hw : EvP p L k tw σ H0 (fun v _ => ∃ w, v = .int w ∧ 0 < w ∧ w < 2 ^ 200 ∧ C w)) :
    EvP p L (k + 1) (tCall sp_law_draw [] E (tCons ta (tCons tw tNil))) σ H0 (fun v _ => ∃ r w, v = .int r ∧ 0 ≤ r ∧ r < w ∧ C w) :=
  fun n H1 e hpo hn Q q => hp H1 e _ fun H2 e2 => hw n H2 (e.trans e2) (hpo.ex e2) (by omega) _ fun y H3 hy p3 e3 => by
    obtain ⟨w, rfl, w0, w1, c⟩ := hy
    exact ⟨p, L, n + k, w, rfl, p3, by omega, w0, w1, fun r H' r0 r1 p4 e4 => q _ H' ⟨r, w, rfl, r0, r1, c⟩ p4 (hm_trans (hm_trans (hm_of e2) e3) e4)⟩
theorem ep_is {R' : V → Hp → Prop} (h : EvP p L k te σ H0 R) (e : ∀ v H, R v H → R' v H) : EvP p L k te σ H0 R' := fun n H1 a b c Q q => h n H1 a b c Q fun v H2 hv => q v H2 (e v H2 hv)
/-- the width is a pure int -/
theorem ep_dipI {tw : TE} {E : XK} {w : Int} (h0 : H0 p = none) (hp : Ev ta σ H0 (.ref p)) (hw : Ev tw σ H0 (.int w)) (w0 : 0 < w) (w1 : w < 2 ^ 200) :
    EvP p L 1 (tCall sp_law_draw [] E (tCons ta (tCons tw tNil))) σ H0 (fun v _ => ∃ r, v = .int r ∧ 0 ≤ r ∧ r < w) :=
  ep_is (ep_dip (k := 0) (C := fun z => z = w) h0 hp (ep_is (ep_ev hw) fun v H e => ⟨w, e, w0, w1, rfl⟩)) fun v H ⟨r, z, e, r0, r1, e2⟩ => ⟨r, e, r0, e2 ▸ r1⟩
/-- a + b, b drawn -/
theorem ep_add {a : Int} {C : Int → Prop} (h0 : H0 p = none) (ha : Ev ta σ H0 (.int a)) (hb : EvP p L k tb σ H0 (fun v _ => ∃ r, v = .int r ∧ C r)) : EvP p L (0 + k) (tOp (rI0 fun i j => .int (i + j)) ta tb) σ H0 (fun v _ => ∃ r, v = .int (a + r) ∧ C r) :=
  ep_op h0 (ep_ev ha) hb stb_c stb_c fun x y H e ⟨r, e2, c⟩ => ⟨.int (a + r), ⟨r, rfl, c⟩, by
    subst e
    subst e2
    exact rv_I0⟩
theorem p_asg {i n : Nat} {D : Ends} (h : EvP p L k te σ H0 R) (e : Ex H0 H) (hp : Po p L n H) (hn : n + k ≤ 1000000000) (q : ∀ v H2, R v H2 → Po p L (n + k) H2 → Ex (Hm p H) H2 → D.nx (σ.set i (some v)) H2) : tAsg te (gName i) D σ H := h n H e hp hn _ q
theorem pq_asg {i n : Nat} {D : Ends} {tz : TS} (h : EvP p L k te σ H0 R) (e : Ex H0 H) (hp : Po p L n H) (hn : n + k ≤ 1000000000) (q : ∀ v H2, R v H2 → Po p L (n + k) H2 → Ex (Hm p H) H2 → tz D (σ.set i (some v)) H2) : tSeq (tAsg te (gName i)) tz D σ H := h n H e hp hn _ q
/-- tests that draw -/
def EtP (p L : Addr) (k : Nat) (t : TT) (σ : L2.St) (H0 : Hp) (b : Bool) : Prop := ∀ n H1, Ex H0 H1 → Po p L n H1 → n + k ≤ 1000000000 →
  ∀ Q : Bool → Hp → Prop, (∀ H2, Po p L (n + k) H2 → Ex (Hm p H1) H2 → Q b H2) → t σ H1 Q
variable {t u : TT} {b c : Bool}
theorem tp_B (h : EvP p L k te σ H0 (fun v _ => v = .bl b)) : EtP p L k (tB te) σ H0 b := fun n H1 e hp hn Q q => h n H1 e hp hn _ fun v H2 hv p2 e2 => ⟨b, hv, q H2 p2 e2⟩
theorem tp_not (h : EtP p L k t σ H0 b) : EtP p L k (tNot t) σ H0 (!b) := fun n H1 e hp hn Q q => h n H1 e hp hn _ fun H2 p2 e2 => q H2 p2 e2
theorem tp_is (h : EtP p L k t σ H0 b) (e : b = c) : EtP p L k t σ H0 c := e ▸ h
theorem tp_or (h0 : H0 p = none) (h : EtP p L k1 t σ H0 false) (h' : EtP p L k2 u σ H0 b) : EtP p L (k1 + k2) (tOr t u) σ H0 b := fun n H1 e hp hn Q q => h n H1 e hp (by omega) _ fun H2 p2 e2 => by
  show u σ H2 Q
  refine h' (n + k1) H2 (hm_next h0 e e2) p2 (by omega) Q fun H3 p3 e3 => q H3 ?_ (hm_trans e2 e3)
  rw [← Nat.add_assoc]
  exact p3
theorem tp_et (h : EvT t σ H0 b) : EtP p L 0 t σ H0 b := fun n H1 e hp _ Q q => h H1 e Q fun H2 e2 => q H2 (hp.ex e2) (hm_of e2)
/-- a test that is false: what follows -/
theorem pq_no {n : Nat} {D : Ends} {tu tz : TS} (h : EtP p L k t σ H0 false) (e : Ex H0 H) (hp : Po p L n H) (hn : n + k ≤ 1000000000) (q : ∀ H2, Po p L (n + k) H2 → Ex (Hm p H) H2 → tz D σ H2) : tSeq (tIfS t tu tNext) tz D σ H := h n H e hp hn _ q
theorem ps_no {n : Nat} {D : Ends} {tu : TS} (h : EtP p L k t σ H0 false) (e : Ex H0 H) (hp : Po p L n H) (hn : n + k ≤ 1000000000) (q : ∀ H2, Po p L (n + k) H2 → Ex (Hm p H) H2 → D.nx σ H2) : tIfS t tu tNext D σ H := h n H e hp hn _ q
end


/-! ### lists of guests -/
def iz (xs : List Nat) : List Int := xs.map fun x : Nat => (x : Int)
def nv (xs : List Nat) : List V := (iz xs).map V.int
theorem nv_len (xs : List Nat) : (nv xs).length = xs.length := by simp [nv, iz]
theorem nv_get {xs : List Nat} {i x : Nat} (h : xs[i]? = some x) : (nv xs)[i]? = some (.int x) := by simp [nv, iz, h]
theorem nv_app (xs ys : List Nat) : nv (xs ++ ys) = nv xs ++ nv ys := by simp [nv, iz]
theorem nv_eq (xs : List Nat) : nv xs = xs.map fun x : Nat => V.int (x : Int) := by simp [nv, iz]
def Ord (h : List Nat) : Prop := h.Perm (List.range h.length) ∧ 1 ≤ h.length ∧ h.length ≤ 20
theorem el_mapI {K : PySem.W.Frag} {σ : L2.St} {H : Hp} {te tl : TE} {a : Addr} {xs : List V} {j : Nat} {vs : List Nat} (f : Nat → V) (h : Ev tl σ H (.ref a)) (hx : SqL K H a xs) (hz : xs.length ≤ 40000) (hw : ∀ x, wipe ((wipe σ vs).set j (some x)) vs = wipe σ vs)
    (he : ∀ (i : Nat) (x : V) H1, Ex H H1 → xs[i]? = some x → Ev te ((wipe σ vs).set j (some x)) H1 (f i)) : EvL (tLc (iList K tl) (gName j) tYes te vs) σ H ((List.range xs.length).map f) := by
  have e : (List.range xs.length).map f = given xs.length (fun _ => true) f := by
    unfold given
    rw [List.filter_eq_self.mpr (fun _ _ => rfl)]
  rw [e]
  exact el_lcL _ _ h hx hz hw (fun _ _ _ _ _ => et_yes) fun i x H1 e hi _ => he i x H1 e hi
def sp_is_whole (K : PySem.W.Frag) : Sp := fun vs H Q _ => ∃ (v : V) (d : PyData), vs = [v] ∧ It K H v d ∧ RetV (.bl (isI d)) H Q
theorem sv_whole {K : PySem.W.Frag} {H : Hp} {x : Int} : SpV (sp_is_whole K) ([.int x] ++ []) H (.bl true) := fun H1 _ Q q E => ⟨.int x, .int x, rfl, .int x, q⟩
theorem sv_wholeD {K : PySem.W.Frag} {H : Hp} {v : V} {d : PyData} (h : It K H v d) : SpV (sp_is_whole K) ([v] ++ []) H (.bl (isI d)) := fun H1 e Q q E => ⟨v, d, rfl, h.ex e, q⟩
local macro_rules | `(tactic| walk_at "call") => `(tactic| (with_reducible exact sv_whole))
def sp_ord (v : V) : Sp := fun vs H Q _ => ∃ (a : Addr) (h : List Nat), vs = [.ref a] ∧ H a = some (.lst (nv h)) ∧ Ord h ∧ RetV v H Q
theorem sv_ord {H : Hp} {v : V} {a : Addr} {h : List Nat} (ha : H a = some (.lst (nv h))) (o : Ord h) : SpV (sp_ord v) ([.ref a] ++ []) H v := fun H1 e Q q E => ⟨a, h, rfl, e a _ ha, o, q⟩
section
variable {P : Program} {w : World} {K : PySem.W.Frag} {mg : Str → Option Value} {base : Heap}
theorem ok_is_whole (T : Tx K mg) : FnOk P w K mg base CX0 1 T.f_is_whole T.d_is_whole ["thing"] (sp_is_whole K) := by
  refine T.F_is_whole.ok sc_is_whole (fun vs H Q E h => ?_) (fun cdv A outer s H vs Q E hr h => ?_)
  · obtain ⟨v, d, rfl, _⟩ := h
    rfl
  · obtain ⟨v, d, rfl, hv, k⟩ := h
    refine ⟨_, (pss_one (ps_ret (pe_cmpR op_eqTy (pe_typeOf (by rfl) T.m_type (pv 0)) (pe_bltn (v := .ty "int") (by rfl) T.m_int (by decide +kernel) rfl) (nomark _)))), ?_⟩
    exact s_ret (ev_isWhole (ev_var rfl) hv) fun H1 e1 => k _ e1
theorem range_iz (n : Nat) : rgV 0 (n : Int) = nv (List.range n) := by
  rw [nv_eq]
  unfold rgV
  simp
/-- the ints of data -/
def intsOf (ds : List PyData) : List Int := ds.map fun
  | .int i => i
  | _ => 0
def sortI (ns : List Int) : List Int := ns.mergeSort fun a b => decide (a ≤ b)
theorem sortI_perm (ns : List Int) : (sortI ns).Perm ns := List.mergeSort_perm ns _
theorem sortI_sorted (ns : List Int) : (sortI ns).Pairwise (· ≤ ·) := by
  have := List.pairwise_mergeSort (le := fun a b : Int => decide (a ≤ b)) (fun a b c h1 h2 => by
    have h1 := of_decide_eq_true h1
    have h2 := of_decide_eq_true h2
    exact decide_eq_true (by omega)) (fun a b => by
    rw [Bool.or_eq_true, decide_eq_true_iff, decide_eq_true_iff]
    omega) ns
  exact this.imp fun h => of_decide_eq_true h
theorem ints_of {K : PySem.W.Frag} {H : Hp} : ∀ {xs : List V} {ds : List PyData}, ItAll K H xs ds → ds.all isI = true → xs = (intsOf ds).map V.int
  | _, _, .nil, _ => rfl
  | _, _, .cons h t, ha => by
    rw [List.all_cons, Bool.and_eq_true] at ha
    have := ints_of t ha.2
    cases h with
    | int i =>
      rw [this]
      rfl
    | non => exact Bool.noConfusion ha.1
    | bl b => exact Bool.noConfusion ha.1
    | str x => exact Bool.noConfusion ha.1
    | lst _ _ => exact Bool.noConfusion ha.1
theorem ita_get {K : PySem.W.Frag} {H : Hp} : ∀ {xs : List V} {ds : List PyData} {i : Nat} {x : V}, ItAll K H xs ds → xs[i]? = some x → ∃ d, ds[i]? = some d ∧ It K H x d
  | _, _, 0, x, .cons h t, e => ⟨_, rfl, (Option.some.inj (show some _ = some x from e)) ▸ h⟩
  | _, _, i + 1, x, .cons h t, e => ita_get (i := i) t e
  | _, _, 0, x, .nil, e => by simp at e
  | _, _, i + 1, x, .nil, e => by simp at e
def lenOk (n : Nat) : Bool := decide ((1 : Int) ≤ (n : Int)) && decide ((n : Int) ≤ 20)
def sorts (ds : List PyData) : Bool := PyData.eqv (.list ((sortI (intsOf ds)).map PyData.int)) (.list ((iz (List.range ds.length)).map PyData.int))
/-- whether a thing is a list with 0, 1, .. once each -/
def judge : Option (List PyData) → Bool
  | none => false
  | some ds => lenOk ds.length && (ds.all isI && sorts ds)
def sp_any (K : PySem.W.Frag) : Sp := fun vs H Q _ => ∃ (v : V) (o : Option (List PyData)), vs = [v] ∧ Th K H v o ∧ RetV (.bl (judge o)) H Q
def sp_is_order (K : PySem.W.Frag) : Sp := fun vs H Q E => sp_ord (.bl true) vs H Q E ∨ sp_any K vs H Q E
theorem sv_order {K : PySem.W.Frag} {H : Hp} {a : Addr} {h : List Nat} (ha : H a = some (.lst (nv h))) (o : Ord h) : SpV (sp_is_order K) ([.ref a] ++ []) H (.bl true) := fun H1 e Q q E => .inl (sv_ord ha o H1 e Q q E)
theorem sv_any {K : PySem.W.Frag} {H : Hp} {v : V} {o : Option (List PyData)} (hv : Th K H v o) : SpV (sp_is_order K) ([v] ++ []) H (.bl (judge o)) := fun H1 e Q q E => .inr ⟨v, o, rfl, hv.ex e, q⟩
theorem judge_ord {h : List Nat} (o : Ord h) : judge (some ((iz h).map PyData.int)) = true := by
  have e : intsOf ((iz h).map PyData.int) = iz h := by
    unfold intsOf
    rw [List.map_map]
    exact List.map_id _
  have el : ((iz h).map PyData.int).length = h.length := by simp [iz]
  have s : sortI (iz h) = iz (List.range h.length) := List.Perm.eq_of_pairwise (le := fun a b : Int => a ≤ b) (fun a b _ _ h1 h2 => by omega) (sortI_sorted _) (by
    unfold iz
    rw [List.pairwise_map]
    exact List.Pairwise.imp (fun {a b} h => by omega) List.pairwise_lt_range) ((sortI_perm _).trans (o.1.map (fun x : Nat => (x : Int))))
  unfold judge sorts lenOk
  simp only
  rw [e, el, s, eqv_same (shaped_ints _)]
  have hl := o.2
  have : ((iz h).map PyData.int).all isI = true := by
    rw [List.all_map, List.all_eq_true]
    intro x _
    rfl
  rw [this]
  simp
  omega
theorem Ord.th {K : PySem.W.Frag} {H : Hp} {a : Addr} {h : List Nat} (ha : H a = some (.lst (nv h))) : Th K H (.ref a) (some ((iz h).map PyData.int)) := .lst ha (ita_ints _) (fine_ints _)
theorem ok_is_order (T : Tx K mg) : FnOk P w K mg base CX0 2 T.f_is_order T.d_is_order ["thing"] (sp_is_order K) := by
  refine FnOk.imp (sp := sp_any K) ?_ (fun vs H Q E h => ?_)
  · refine T.F_is_order.ok sc_is_order (fun vs H Q E h => ?_) (fun cdv A outer s H vs Q E hr h => ?_)
    · obtain ⟨v, o, rfl, _⟩ := h
      rfl
    · obtain ⟨v, o, rfl, hv, k⟩ := h
      refine ⟨_, (pss_cons (ps_if (PW.pt (pw_or (pt_cmpR (op_neTyG (hu_of hr)) (pe_typeOf2 (by rfl) T.m_type (pv 0)) (pe_bltn (v := .ty "list") (by rfl) T.m_list (by decide +kernel) rfl) (nomark _)) (pw_or1 (pt_not (pt_chain op_le op_le pe_int (pe_callB call_lenR (by rfl) T.m_len (by decide +kernel) (pa_cons (pv 0) pa_nil)) (pe_gc (by rfl) T.c_MOST_GUESTS)))))) (pss_one (ps_ret pe_bl)) pss_nil)
      (pss_cons (ps_if (pt_not (pt_val (pe_callB (cr_all rfl) (by rfl) T.m_all (by decide +kernel) (pa_cons (pe_lc (own := [("item", 1)]) (g := (gName 1)) (tt := tYes) rfl sc_is_order.nd (pi_list (pv 0)) (blkOk_by (own := [("item", 1)]) (N := n_is_order) (sc := defScope s_is_order) (by decide +kernel)) (fun _ _ _ _ _ => (pg_name (i := 1) sc_is_order.nd rfl (Or.inl rfl))) (fun _ _ _ _ _ => pts_nil) (fun _ _ _ _ _ => (pe_call (ok_is_whole T) (hr.mono (by decide)) (by rfl) T.g_is_whole T.F_is_whole.kp T.b_is_whole .nil pass0 (pa_cons (pv 1) pa_nil)))) pa_nil)))) (pss_one (ps_ret pe_bl)) pss_nil)
      (pss_one (ps_ret (pe_cmpR (op_eqD hr.units) (pe_callB cr_sorted (by rfl) T.m_sorted (by decide +kernel) (pa_cons (pv 0) pa_nil)) (pe_listRg rfl (by rfl) T.m_list (prg_1 (by rfl) T.m_range (pe_callB call_lenR (by rfl) T.m_len (by decide +kernel) (pa_cons (pv 0) pa_nil)))) (nomark _)))))), ?_⟩
      cases o with
      | none =>
        refine q_when (b := true) (et_is (et_or (b := false) (et_test (ev_noList (ev_var rfl) hv)) fun z => Bool.noConfusion z) rfl) (fun _ H1 e1 => ?_) fun hb => Bool.noConfusion hb
        exact s_ret ev_c fun H2 e2 => k _ (e1.trans e2)
      | some ds =>
        have hv0 := hv
        cases hv with
        | @lst a xs _ ha hd hf =>
          have hl : xs.length = ds.length := hd.len
          refine q_when (b := !lenOk ds.length) (et_is (et_or (et_test (ev_noList (ev_var rfl) hv0)) fun _ => et_not (et_test (ev_chainI ev_c (ev_len (ev_var rfl) (sq_of ha)) ev_c))) (by rw [hl]; rfl)) (fun hb H1 e1 => ?_) fun hb H1 e1 => ?_
          · have hb : lenOk ds.length = false := by simpa using hb
            have ej : judge (some ds) = false := by
              unfold judge
              simp only
              rw [hb]
              rfl
            rw [ej] at k
            exact s_ret ev_c fun H2 e2 => k _ (e1.trans e2)
          · have hb : lenOk ds.length = true := by simpa using hb
            have hn : 1 ≤ ds.length ∧ ds.length ≤ 20 := by
              unfold lenOk at hb
              simp at hb
              omega
            have h1 := e1 a _ ha
            refine q_when (b := !(ds.all isI)) (et_is (et_not (et_B (ev_allN (bs := ds.map isI) ?_))) (by rw [List.all_map]; rfl)) (fun hb2 H2 e2 => ?_) fun hb2 H2 e2 => ?_
            · have g := el_mapI (K := K) (te := tCall (sp_is_whole K) [] E0 (tCons (tVar 1) tNil)) (j := 1) (vs := [1]) (σ := start n_is_order [.ref a]) (H := H1) (fun i => V.bl (isI (ds.getD i .none))) (ev_var (i := 0) rfl) (sq_of h1) (by omega) (fun _ => rfl) fun i x H2 e2 hx => ?_
              · have e : (List.range xs.length).map (fun i => V.bl (isI (ds.getD i .none))) = (ds.map isI).map V.bl := by
                  rw [hl]
                  conv => rhs; rw [range_get ds .none]
                  rw [List.map_map, List.map_map]
                  rfl
                rw [e] at g
                exact g
              · obtain ⟨d, hd1, hd2⟩ := ita_get hd hx
                have gd : ds.getD i .none = d := by rw [List.getD_eq_getElem?_getD, hd1] <;> rfl
                show Ev _ _ _ (V.bl (isI (ds.getD i .none)))
                rw [gd]
                exact ev_call (ea_cons (ev_var rfl) ea_nil) (sv_wholeD (hd2.ex (e1.trans e2)))
            · have hb2 : ds.all isI = false := by simpa using hb2
              have ej : judge (some ds) = false := by
                unfold judge
                simp only
                rw [hb2, Bool.false_and, Bool.and_false]
              rw [ej] at k
              exact s_ret ev_c fun H3 e3 => k _ (e1.trans (e2.trans e3))
            · have hb2 : ds.all isI = true := by simpa using hb2
              have ex := ints_of hd hb2
              have il : (intsOf ds).length = ds.length := by simp [intsOf]
              have h2 := e2 a _ h1
              have sr : EvD K (tCB (rSorted K) (tCons (tVar 0) tNil)) (start n_is_order [.ref a]) H2 (.list ((sortI (intsOf ds)).map PyData.int)) :=
                ed_sorted (ns := intsOf ds) (ev_var rfl) (sq_of (by rw [← ex]; exact h2)) (by omega) (sortI_perm _) (sortI_sorted _)
              have rg : EvD K (tLstRg (tRg1 (tCB (rLenS K) (tCons (tVar 0) tNil)))) (start n_is_order [.ref a]) H2 (.list ((iz (List.range ds.length)).map PyData.int)) :=
                ed_ofL (xs := nv (List.range ds.length)) (by
                  have g := el_rg1 (σ := start n_is_order [.ref a]) (ev_len (K := K) (ta := tVar 0) (ev_var (i := 0) (v := .ref a) rfl) (sq_of h2)) (RgOk.of_le (by decide) (by omega) (by decide) (by omega))
                  rw [hl, range_iz] at g
                  exact g) (dpa_ints _)
              have ej : judge (some ds) = sorts ds := by
                unfold judge
                simp only
                rw [hb, hb2, Bool.true_and, Bool.true_and]
              rw [ej] at k
              exact s_ret (ev_eqD sr rg (shaped_ints _) (shaped_ints _)) fun H3 e3 => k _ (e1.trans (e2.trans e3))
  · rcases h with ⟨a, g, rfl, ha, o, k⟩ | h
    · refine ⟨.ref a, _, rfl, Ord.th ha, ?_⟩
      rw [judge_ord o]
      exact k
    · exact h
local macro_rules | `(tactic| walk_at "call") => `(tactic| ((with_reducible refine' sv_order ?c1 ?c2); (case c1 => assumption); (case c2 => assumption)))
theorem ok_is_seating (T : Tx K mg) : FnOk P w K mg base CX0 3 T.f_is_seating T.d_is_seating ["thing"] (sp_is_order K) := by
  refine T.F_is_seating.ok sc_is_seating (fun vs H Q E h => ?_) (fun cdv A outer s H vs Q E hr h => ?_)
  · rcases h with ⟨a, g, rfl, _⟩ | ⟨v, o, rfl, _⟩
    · rfl
    · rfl
  · rcases h with ⟨a, g, rfl, ha, o, k⟩ | ⟨v, o, rfl, hv, k⟩
    · refine ⟨_, (pss_one (ps_ret (pe_call (ok_is_order T) (hr.mono (by decide)) (by rfl) T.g_is_order T.F_is_order.kp T.b_is_order .nil pass0 (pa_cons (pv 0) pa_nil)))), ?_⟩
      exact s_ret (by walk_at "ev") fun H1 e1 => k _ e1
    · refine ⟨_, (pss_one (ps_ret (pe_call (ok_is_order T) (hr.mono (by decide)) (by rfl) T.g_is_order T.F_is_order.kp T.b_is_order .nil pass0 (pa_cons (pv 0) pa_nil)))), ?_⟩
      exact s_ret (ev_call (ea_cons (ev_var rfl) ea_nil) (sv_any hv)) fun H1 e1 => k _ e1
end
local macro_rules | `(tactic| walk_at "call") => `(tactic| (with_reducible exact sv_whole))
local macro_rules | `(tactic| walk_at "call") => `(tactic| ((with_reducible refine' sv_order ?c1 ?c2); (case c1 => assumption); (case c2 => assumption)))
local macro_rules | `(tactic| walk_at "call") => `(tactic| ((with_reducible refine' sv_ord ?c1 ?c2); (case c1 => assumption); (case c2 => assumption)))


local macro_rules | `(tactic| walk_at "call") => `(tactic| (with_reducible exact sv_whole))
local macro_rules | `(tactic| walk_at "call") => `(tactic| ((with_reducible refine' sv_order ?c1 ?c2); (case c1 => assumption); (case c2 => assumption)))
local macro_rules | `(tactic| walk_at "call") => `(tactic| ((with_reducible refine' sv_ord ?c1 ?c2); (case c1 => assumption); (case c2 => assumption)))

/-! ### rings: the mathematics -/
/-- r is a whole table of the seating h, from its first guest on to the left -/
structure Rg (h r : List Nat) : Prop where
  ne : 0 < r.length
  nd : r.Nodup
  st : ∀ i, i < r.length → ∃ x y, r[i]? = some x ∧ r[(i + 1) % r.length]? = some y ∧ h[x]? = some y
def rot (r : List Nat) (k : Nat) : List Nat := r.drop k ++ r.take k
theorem rot_len {r : List Nat} {k : Nat} (hk : k ≤ r.length) : (rot r k).length = r.length := by
  unfold rot
  rw [List.length_append, List.length_drop, List.length_take]
  omega
theorem rot_get {r : List Nat} {k i : Nat} (hk : k < r.length) (hi : i < r.length) : (rot r k)[i]? = r[(i + k) % r.length]? := by
  unfold rot
  by_cases h : i < r.length - k
  · rw [List.getElem?_append_left (by rw [List.length_drop]; exact h), List.getElem?_drop, Nat.mod_eq_of_lt (by omega), Nat.add_comm]
  · rw [List.getElem?_append_right (by rw [List.length_drop]; omega), List.length_drop, List.getElem?_take_of_lt (by omega)]
    have e : (i + k) % r.length = i - (r.length - k) := by
      rw [Nat.mod_eq_sub_mod (by omega), Nat.mod_eq_of_lt (by omega)]
      omega
    rw [e]
theorem rot_perm (r : List Nat) (k : Nat) : (rot r k).Perm r := by
  unfold rot
  exact List.perm_append_comm.trans (List.Perm.of_eq (List.take_append_drop k r))
theorem Rg.rot {h r : List Nat} (R : Rg h r) {k : Nat} (hk : k < r.length) : Rg h (rot r k) := by
  have hl := rot_len (r := r) (k := k) (by omega)
  refine ⟨by have := R.ne; omega, (rot_perm r k).nodup_iff.mpr R.nd, fun i hi => ?_⟩
  rw [hl] at hi ⊢
  obtain ⟨x, y, h1, h2, h3⟩ := R.st ((i + k) % r.length) (Nat.mod_lt _ R.ne)
  refine ⟨x, y, by rw [rot_get hk hi]; exact h1, ?_, h3⟩
  rw [rot_get hk (Nat.mod_lt _ R.ne), ← h2, Nat.mod_add_mod, Nat.mod_add_mod]
  congr 2
  omega
structure Rings (h : List Nat) (rs : List (List Nat)) : Prop where
  rg : ∀ r ∈ rs, Rg h r
  low : ∀ r ∈ rs, ∀ x ∈ r, r.headD 0 ≤ x
  asc : (rs.map (·.headD 0)).Pairwise (· < ·)
  all : rs.flatten.Perm (List.range h.length)
def leads (r : List Nat) : Bool := decide (∀ x ∈ r, r.headD 0 ≤ x)
theorem Rings.turn {h : List Nat} {rs : List (List Nat)} (R : Rings h rs) {g : Nat} (hg : g < h.length) : ∃ w : List Nat, (∃ r ∈ rs, ∃ k, r[k]? = some g ∧ w = rot r k) := by
  have hm : g ∈ rs.flatten := R.all.mem_iff.mpr (List.mem_range.mpr hg)
  obtain ⟨r, hr, hgr⟩ := List.mem_flatten.mp hm
  obtain ⟨k, hk⟩ := List.mem_iff_getElem?.mp hgr
  exact ⟨rot r k, r, hr, k, hk, rfl⟩
theorem Rings.walks {h : List Nat} {rs : List (List Nat)} (R : Rings h rs) : ∃ f : Nat → List Nat, ∀ g, g < h.length → ∃ r ∈ rs, ∃ k, r[k]? = some g ∧ f g = rot r k :=
  ⟨fun g => if hg : g < h.length then Classical.choose (R.turn hg) else [], fun g hg => by
    have := Classical.choose_spec (R.turn hg)
    simp only [dif_pos hg]
    exact this⟩
theorem head_rot {r : List Nat} {k g : Nat} (hk : r[k]? = some g) : (rot r k).headD 0 = g := by
  obtain ⟨hl, e⟩ := List.getElem?_eq_some_iff.mp hk
  unfold rot
  rw [List.drop_eq_getElem_cons hl]
  exact e
theorem leads_rot {r : List Nat} {k g : Nat} (hk : r[k]? = some g) (lo : ∀ x ∈ r, r.headD 0 ≤ x) (ne : 0 < r.length) : leads (rot r k) = decide (g = r.headD 0) := by
  unfold leads
  rw [head_rot hk]
  have hmem : ∀ x, x ∈ rot r k ↔ x ∈ r := fun x => (rot_perm r k).mem_iff
  have h0 : r.headD 0 ∈ r := by
    cases r with
    | nil => simp at ne
    | cons a l => simp
  have hg : g ∈ r := List.mem_of_getElem? hk
  apply decide_eq_decide.mpr
  constructor
  · intro a
    have := a _ ((hmem _).mpr h0)
    have := lo g hg
    omega
  · intro a x hx
    rw [a]
    exact lo x ((hmem x).mp hx)
theorem rot_zero (r : List Nat) : rot r 0 = r := by
  unfold rot
  simp
theorem nodup_flat {rs : List (List Nat)} (h : rs.flatten.Nodup) {r r' : List Nat} {x : Nat} (hr : r ∈ rs) (hr' : r' ∈ rs) (hx : x ∈ r) (hx' : x ∈ r') : r = r' := by
  induction rs with
  | nil => cases hr
  | cons a l ih =>
    rw [List.flatten_cons, List.nodup_append] at h
    obtain ⟨h1, h2, h3⟩ := h
    rcases List.mem_cons.mp hr with e | q
    · rcases List.mem_cons.mp hr' with e' | q'
      · rw [e, e']
      · exact absurd rfl (h3 x (e ▸ hx) x (List.mem_flatten.mpr ⟨r', q', hx'⟩))
    · rcases List.mem_cons.mp hr' with e' | q'
      · exact absurd rfl (h3 x (e' ▸ hx') x (List.mem_flatten.mpr ⟨r, q, hx⟩))
      · exact ih h2 q q'
theorem Rings.nodup {h : List Nat} {rs : List (List Nat)} (R : Rings h rs) : rs.flatten.Nodup := R.all.nodup_iff.mpr List.nodup_range
/-- the walks that begin with their least guest are the rings -/
theorem Rings.lead {h : List Nat} {rs : List (List Nat)} (R : Rings h rs) {f : Nat → List Nat} (hf : ∀ g, g < h.length → ∃ r ∈ rs, ∃ k, r[k]? = some g ∧ f g = rot r k) : ((List.range h.length).map f).filter leads = rs := by
  rw [List.filter_map]
  have hd : ∀ g, g < h.length → leads (f g) = decide (g ∈ rs.map (·.headD 0)) := fun g hg => by
    obtain ⟨r, hr, k, hk, e⟩ := hf g hg
    rw [e, leads_rot hk (R.low r hr) (R.rg r hr).ne]
    apply decide_eq_decide.mpr
    constructor
    · intro a
      exact List.mem_map.mpr ⟨r, hr, a.symm⟩
    · intro a
      obtain ⟨r', hr', e'⟩ := List.mem_map.mp a
      have h0 : g ∈ r' := by
        have := (R.rg r' hr').ne
        cases r' with
        | nil => simp at this
        | cons b l => simp at e'; simp [e']
      have := nodup_flat R.nodup hr hr' (List.mem_of_getElem? hk) h0
      rw [this]
      exact e'.symm
  have hs : (List.range h.length).filter (leads ∘ f) = rs.map (·.headD 0) := by
    have e : (List.range h.length).filter (leads ∘ f) = (List.range h.length).filter (fun g => decide (g ∈ rs.map (·.headD 0))) := List.filter_congr fun g hg => hd g (List.mem_range.mp hg)
    rw [e]
    refine List.Perm.eq_of_pairwise (le := fun a b : Nat => a < b) (fun a b _ _ h1 h2 => by omega) (List.Pairwise.filter _ List.pairwise_lt_range) R.asc ?_
    refine (List.perm_ext_iff_of_nodup (List.Pairwise.filter _ List.nodup_range) (R.asc.imp fun h => Nat.ne_of_lt h)).mpr fun g => ?_
    rw [List.mem_filter]
    constructor
    · intro a
      exact of_decide_eq_true a.2
    · intro a
      refine ⟨?_, decide_eq_true a⟩
      obtain ⟨r', hr', e'⟩ := List.mem_map.mp a
      refine R.all.mem_iff.mp (List.mem_flatten.mpr ⟨r', hr', ?_⟩)
      have := (R.rg r' hr').ne
      cases r' with
      | nil => simp at this
      | cons b l => simp at e'; simp [e']
  rw [hs, List.map_map]
  refine (List.map_congr_left fun r hr => ?_).trans (List.map_id _)
  have ne := (R.rg r hr).ne
  have hm : r.headD 0 < h.length := List.mem_range.mp (R.all.mem_iff.mp (List.mem_flatten.mpr ⟨r, hr, by
    cases r with
    | nil => simp at ne
    | cons b l => simp⟩))
  obtain ⟨r', hr', k, hk, e⟩ := hf (r.headD 0) hm
  have e2 := nodup_flat R.nodup hr' hr (List.mem_of_getElem? hk) (by
    cases r with
    | nil => simp at ne
    | cons b l => simp)
  subst e2
  have k0 : k = 0 := by
    have h0 : r'[0]? = some (r'.headD 0) := by
      cases r' with
      | nil => simp at ne
      | cons b l => simp
    exact nd_ix (R.rg r' hr').nd hk h0
  show f (r'.headD 0) = r'
  rw [e, k0, rot_zero]

/-! ### rings by entries: the mathematics -/
def insr (pal one : Nat) (r : List Nat) : List Nat := if pal ∈ r ∧ pal ≠ one then r.take (r.idxOf pal + 1) ++ [one] ++ r.drop (r.idxOf pal + 1) else r
def rstep (rs : List (List Nat)) (one pal : Nat) : List (List Nat) := (if one = pal then rs ++ [[one]] else rs).map (insr pal one)
def ringsTo (e : List Nat) : Nat → List (List Nat)
  | 0 => []
  | i + 1 => rstep (ringsTo e i) i (e.getD i 0)
structure RI (m : Nat) (rs : List (List Nat)) : Prop where
  all : rs.flatten.Perm (List.range m)
  ne : ∀ r ∈ rs, 0 < r.length
  low : ∀ r ∈ rs, ∀ x ∈ r, r.headD 0 ≤ x
  asc : (rs.map (·.headD 0)).Pairwise (· < ·)
theorem insr_perm {pal one : Nat} {r : List Nat} (h : pal ∈ r) (ne : pal ≠ one) : (insr pal one r).Perm (one :: r) := by
  unfold insr
  rw [if_pos ⟨h, ne⟩, List.append_assoc]
  refine (List.Perm.append_left _ List.perm_append_comm).trans ?_
  rw [← List.append_assoc, List.take_append_drop]
  exact List.perm_append_comm
theorem insr_no {pal one : Nat} {r : List Nat} (h : pal ∉ r) : insr pal one r = r := if_neg fun q => h q.1
theorem insr_same {pal one : Nat} {r : List Nat} (h : pal = one) : insr pal one r = r := if_neg fun q => q.2 h
theorem insr_head {pal one : Nat} {r : List Nat} : (insr pal one r).headD 0 = r.headD 0 := by
  by_cases h : pal ∈ r ∧ pal ≠ one
  · unfold insr
    rw [if_pos h]
    cases r with
    | nil => simp at h
    | cons x l => simp
  · unfold insr
    rw [if_neg h]
theorem insr_len {pal one : Nat} {r : List Nat} (h : 0 < r.length) : 0 < (insr pal one r).length := by
  unfold insr
  split
  · simp
    omega
  · exact h
theorem insr_mem {pal one x : Nat} {r : List Nat} (h : x ∈ insr pal one r) : x ∈ r ∨ x = one := by
  by_cases q : pal ∈ r ∧ pal ≠ one
  · have := (insr_perm q.1 q.2).mem_iff.mp h
    rcases List.mem_cons.mp this with z | z
    · exact .inr z
    · exact .inl z
  · unfold insr at h
    rw [if_neg q] at h
    exact .inl h
theorem insr_all {pal one : Nat} (ne : pal ≠ one) : ∀ {rs : List (List Nat)}, rs.flatten.Nodup → pal ∈ rs.flatten → (rs.map (insr pal one)).flatten.Perm (one :: rs.flatten)
  | [], _, h => by simp at h
  | r :: l, nd, h => by
    rw [List.flatten_cons, List.nodup_append] at nd
    rw [List.map_cons, List.flatten_cons, List.flatten_cons]
    by_cases q : pal ∈ r
    · have hn : ∀ s ∈ l, pal ∉ s := fun s hs z => absurd rfl (nd.2.2 pal q pal (List.mem_flatten.mpr ⟨s, hs, z⟩))
      have e : l.map (insr pal one) = l := (List.map_congr_left fun s hs => insr_no (hn s hs)).trans (List.map_id _)
      rw [e]
      exact (List.Perm.append_right _ (insr_perm q ne))
    · rw [insr_no q]
      have h' : pal ∈ l.flatten := by
        rw [List.flatten_cons] at h
        rcases List.mem_append.mp h with z | z
        · exact absurd z q
        · exact z
      refine (List.Perm.append_left _ (insr_all ne nd.2.1 h')).trans ?_
      exact List.perm_middle
theorem RI.nd {m : Nat} {rs : List (List Nat)} (R : RI m rs) : rs.flatten.Nodup := R.all.nodup_iff.mpr List.nodup_range
theorem RI.mem {m x : Nat} {rs : List (List Nat)} (R : RI m rs) {r : List Nat} (hr : r ∈ rs) (hx : x ∈ r) : x < m := List.mem_range.mp (R.all.mem_iff.mp (List.mem_flatten.mpr ⟨r, hr, hx⟩))
theorem head_mem {r : List Nat} (h : 0 < r.length) : r.headD 0 ∈ r := by
  cases r with
  | nil => simp at h
  | cons x l => simp
theorem RI.step {one pal : Nat} {rs : List (List Nat)} (R : RI one rs) (h : pal ≤ one) : RI (one + 1) (rstep rs one pal) := by
  unfold rstep
  by_cases q : one = pal
  · rw [if_pos q]
    have e : (rs ++ [[one]]).map (insr pal one) = rs ++ [[one]] := (List.map_congr_left fun s _ => insr_same q.symm).trans (List.map_id _)
    rw [e]
    refine ⟨?_, ?_, ?_, ?_⟩
    · rw [List.flatten_append, List.range_succ]
      exact List.Perm.append_right _ R.all
    · intro r hr
      rcases List.mem_append.mp hr with z | z
      · exact R.ne r z
      · rw [List.mem_singleton.mp z]; simp
    · intro r hr
      rcases List.mem_append.mp hr with z | z
      · exact R.low r z
      · rw [List.mem_singleton.mp z]; simp
    · rw [List.map_append, List.pairwise_append]
      refine ⟨R.asc, by simp, fun a ha b hb => ?_⟩
      obtain ⟨r, hr, rfl⟩ := List.mem_map.mp ha
      have := R.mem hr (head_mem (R.ne r hr))
      simp at hb
      omega
  · rw [if_neg q]
    have hp : pal ∈ rs.flatten := R.all.mem_iff.mpr (List.mem_range.mpr (by omega))
    have eh : (rs.map (insr pal one)).map (·.headD 0) = rs.map (·.headD 0) := by
      rw [List.map_map]
      exact List.map_congr_left fun r _ => insr_head
    refine ⟨?_, ?_, ?_, ?_⟩
    · refine (insr_all (Ne.symm q) R.nd hp).trans ?_
      rw [List.range_succ]
      exact (List.Perm.cons _ R.all).trans (List.perm_append_comm (l₁ := [one]))
    · intro r hr
      obtain ⟨s, hs, rfl⟩ := List.mem_map.mp hr
      exact insr_len (R.ne s hs)
    · intro r hr x hx
      obtain ⟨s, hs, rfl⟩ := List.mem_map.mp hr
      rw [insr_head]
      rcases insr_mem hx with z | z
      · exact R.low s hs x z
      · have := R.mem hs (head_mem (R.ne s hs))
        omega
    · rw [eh]
      exact R.asc
theorem ringsTo_ok {e : List Nat} (h : ∀ (i x : Nat), e[i]? = some x → x ≤ i) : ∀ m, m ≤ e.length → RI m (ringsTo e m)
  | 0, _ => ⟨List.Perm.refl _, by simp [ringsTo], by simp [ringsTo], by simp [ringsTo]⟩
  | m + 1, hm => by
    have ih := ringsTo_ok h m (by omega)
    refine ih.step ?_
    have : e[m]? = some (e.getD m 0) := by
      rw [List.getD_eq_getElem?_getD, List.getElem?_eq_getElem (by omega)]
      rfl
    exact h m _ this
/-! the seating of rings -/
def succ (rs : List (List Nat)) (x : Nat) : Nat := match rs.find? (fun r => decide (x ∈ r)) with
  | some r => r.getD ((r.idxOf x + 1) % r.length) 0
  | none => 0
theorem succ_at {rs : List (List Nat)} (nd : rs.flatten.Nodup) {r : List Nat} (hr : r ∈ rs) {i x : Nat} (hx : r[i]? = some x) : succ rs x = r.getD ((i + 1) % r.length) 0 := by
  have hm := List.mem_of_getElem? hx
  have hf : rs.find? (fun r => decide (x ∈ r)) = some r := by
    cases hq : rs.find? (fun r => decide (x ∈ r)) with
    | none => exact absurd (decide_eq_true hm) (by simpa using List.find?_eq_none.mp hq r hr)
    | some s =>
      have h1 := List.mem_of_find?_eq_some hq
      have h2 := List.find?_some hq
      rw [nodup_flat nd h1 hr (of_decide_eq_true h2) hm]
  have ndr : r.Nodup := List.Pairwise.sublist (List.sublist_flatten_of_mem hr) nd
  have hi : r.idxOf x = i := by
    have hl := List.idxOf_lt_length_of_mem hm
    have := List.getElem_idxOf hl
    have h1 : r[r.idxOf x]? = some x := by rw [List.getElem?_eq_getElem hl, this]
    exact nd_ix ndr h1 hx
  unfold succ
  rw [hf]
  show r.getD ((r.idxOf x + 1) % r.length) 0 = _
  rw [hi]
def seat (rs : List (List Nat)) (n : Nat) : List Nat := (List.range n).map (succ rs)
theorem seat_rg {rs : List (List Nat)} {n : Nat} (hp : rs.flatten.Perm (List.range n)) {r : List Nat} (hr : r ∈ rs) (ne : 0 < r.length) : Rg (seat rs n) r := by
  have nd : rs.flatten.Nodup := hp.nodup_iff.mpr List.nodup_range
  refine ⟨ne, List.Pairwise.sublist (List.sublist_flatten_of_mem hr) nd, fun i hi => ?_⟩
  have hx : r[i]? = some r[i] := List.getElem?_eq_getElem hi
  have hm := Nat.mod_lt (i + 1) ne
  refine ⟨r[i], r[(i + 1) % r.length], hx, List.getElem?_eq_getElem hm, ?_⟩
  have hn : r[i] < n := List.mem_range.mp (hp.mem_iff.mp (List.mem_flatten.mpr ⟨r, hr, List.getElem_mem hi⟩))
  unfold seat
  rw [List.getElem?_map, List.getElem?_range hn]
  show some (succ rs r[i]) = _
  rw [succ_at nd hr hx, List.getD_eq_getElem?_getD, List.getElem?_eq_getElem hm]
  rfl
theorem seat_len (rs : List (List Nat)) (n : Nat) : (seat rs n).length = n := by simp [seat]
theorem map_rot {rs : List (List Nat)} (nd : rs.flatten.Nodup) {r : List Nat} (hr : r ∈ rs) (ne : 0 < r.length) : r.map (succ rs) = rot r (1 % r.length) := by
  have hk := Nat.mod_lt 1 ne
  refine List.ext_getElem? fun i => ?_
  by_cases hi : i < r.length
  · have hx : r[i]? = some r[i] := List.getElem?_eq_getElem hi
    have hm := Nat.mod_lt (i + 1) ne
    rw [List.getElem?_map, hx, rot_get hk hi, Nat.add_mod_mod]
    show some (succ rs r[i]) = _
    rw [succ_at nd hr hx, List.getD_eq_getElem?_getD, List.getElem?_eq_getElem hm]
    rfl
  · rw [List.getElem?_eq_none (by simp; omega), List.getElem?_eq_none (by rw [rot_len (by omega)]; omega)]
theorem flat_map_perm {g : Nat → Nat} : ∀ {rs : List (List Nat)}, (∀ r ∈ rs, (r.map g).Perm r) → (rs.flatten.map g).Perm rs.flatten
  | [], _ => List.Perm.refl _
  | r :: l, h => by
    rw [List.flatten_cons, List.map_append]
    exact List.Perm.append (h r (by simp)) (flat_map_perm fun s hs => h s (by simp [hs]))
theorem seat_perm {rs : List (List Nat)} {n : Nat} (hp : rs.flatten.Perm (List.range n)) (hne : ∀ r ∈ rs, 0 < r.length) : (seat rs n).Perm (List.range n) := by
  have nd : rs.flatten.Nodup := hp.nodup_iff.mpr List.nodup_range
  unfold seat
  refine ((hp.symm.map (succ rs)).trans (flat_map_perm fun r hr => ?_)).trans hp
  rw [map_rot nd hr (hne r hr)]
  exact rot_perm r _
theorem RI.rings {m : Nat} {rs : List (List Nat)} (R : RI m rs) : Rings (seat rs m) rs := ⟨fun r hr => seat_rg R.all hr (R.ne r hr), R.low, R.asc, by rw [seat_len]; exact R.all⟩
theorem seat_ord {rs : List (List Nat)} {n : Nat} (hp : rs.flatten.Perm (List.range n)) (hne : ∀ r ∈ rs, 0 < r.length) (h1 : 1 ≤ n) (h2 : n ≤ 20) : Ord (seat rs n) := by
  unfold Ord
  rw [seat_len]
  exact ⟨seat_perm hp hne, h1, h2⟩

/-! ### coming lists: the mathematics -/
def Cm (c : List Nat) : Prop := 1 ≤ c.length ∧ c.length ≤ 20 ∧ ∀ (i x : Nat), c[i]? = some x → x ≤ i
theorem Cm.get {c : List Nat} (h : Cm c) (k : Nat) : c.getD k 0 ≤ k := by
  rw [List.getD_eq_getElem?_getD]
  cases e : c[k]? with
  | none => exact Nat.zero_le _
  | some x => exact h.2.2 k x e
/-- one more guest at the left of x, or alone -/
def sits (h : List Nat) (k x : Nat) : List Nat := if x = k then h ++ [k] else ((h ++ [k]).set k (h.getD x 0)).set x k
def sby (c : List Nat) : Nat → List Nat
  | 0 => []
  | k + 1 => sits (sby c k) k (c.getD k 0)
theorem sits_len {h : List Nat} {k x : Nat} : (sits h k x).length = h.length + 1 := by
  unfold sits
  split <;> simp
theorem sby_len (c : List Nat) : ∀ k, (sby c k).length = k
  | 0 => rfl
  | k + 1 => by
    show (sits _ _ _).length = _
    rw [sits_len, sby_len c k]
theorem sby_take (c : List Nat) {w : Nat} (hw : w ≤ c.length) : ∀ k, k ≤ w → sby (c.take w) k = sby c k
  | 0, _ => rfl
  | k + 1, h => by
    show sits (sby (c.take w) k) k _ = sits (sby c k) k _
    rw [sby_take c hw k (by omega)]
    congr 1
    rw [List.getD_eq_getElem?_getD, List.getD_eq_getElem?_getD, List.getElem?_take]
    rw [if_pos (by omega)]
theorem insr_at {pal one : Nat} {r : List Nat} {j : Nat} (nd : r.Nodup) (hj : r[j]? = some pal) (ne : pal ≠ one) : insr pal one r = r.take (j + 1) ++ [one] ++ r.drop (j + 1) := by
  have hm := List.mem_of_getElem? hj
  have e : r.idxOf pal = j := by
    have hl := List.idxOf_lt_length_of_mem hm
    have h1 : r[r.idxOf pal]? = some pal := by rw [List.getElem?_eq_getElem hl, List.getElem_idxOf hl]
    exact nd_ix nd h1 hj
  unfold insr
  rw [if_pos ⟨hm, ne⟩, e]
theorem ins_get {r : List Nat} {j one t : Nat} (hj : j < r.length) : (r.take (j + 1) ++ [one] ++ r.drop (j + 1))[t]? = if t ≤ j then r[t]? else if t = j + 1 then some one else r[t - 1]? := by
  have l1 : (r.take (j + 1)).length = j + 1 := by rw [List.length_take]; omega
  split
  · rename_i h
    rw [List.getElem?_append_left (by simp; omega), List.getElem?_append_left (by omega), List.getElem?_take, if_pos (by omega)]
  · split
    · rename_i h1 h2
      subst h2
      rw [List.getElem?_append_left (by simp; omega), List.getElem?_append_right (by omega), l1, Nat.sub_self]
      rfl
    · rename_i h1 h2
      rw [List.getElem?_append_right (by simp; omega), List.getElem?_drop]
      congr 1
      simp
      omega
theorem ins_len {r : List Nat} {j one : Nat} (hj : j < r.length) : (r.take (j + 1) ++ [one] ++ r.drop (j + 1)).length = r.length + 1 := by
  simp
  omega
theorem mod_next {i L : Nat} (h : i < L) : (i + 1) % L = if i + 1 = L then 0 else i + 1 := by
  split
  · rename_i e
    rw [e, Nat.mod_self]
  · exact Nat.mod_eq_of_lt (by omega)
theorem getD_of {r : List Nat} {i x : Nat} (h : r[i]? = some x) : r.getD i 0 = x := by
  rw [List.getD_eq_getElem?_getD, h]
  rfl
/-- the left neighbours when one more guest has sat down -/
theorem succ_step {one pal : Nat} {rs : List (List Nat)} (R : RI one rs) (lt : pal < one) : succ (rstep rs one pal) pal = one ∧ succ (rstep rs one pal) one = succ rs pal ∧ ∀ x, x < one → x ≠ pal → succ (rstep rs one pal) x = succ rs x := by
  have ne : pal ≠ one := by omega
  have R2 := R.step (pal := pal) (by omega)
  have nd2 := R2.nd
  have nd := R.nd
  have e : rstep rs one pal = rs.map (insr pal one) := by
    unfold rstep
    rw [if_neg (by omega)]
  have hp : pal ∈ rs.flatten := R.all.mem_iff.mpr (List.mem_range.mpr lt)
  obtain ⟨r, hr, hpr⟩ := List.mem_flatten.mp hp
  obtain ⟨j, hj⟩ := List.mem_iff_getElem?.mp hpr
  have jl := (List.getElem?_eq_some_iff.mp hj).1
  have ndr : r.Nodup := List.Pairwise.sublist (List.sublist_flatten_of_mem hr) nd
  have ei := insr_at (one := one) ndr hj ne
  have mem2 : r.take (j + 1) ++ [one] ++ r.drop (j + 1) ∈ rstep rs one pal := by
    rw [e, ← ei]
    exact List.mem_map.mpr ⟨r, hr, rfl⟩
  have L := ins_len (one := one) jl
  have G := fun t => ins_get (one := one) (t := t) jl
  generalize hq : r.take (j + 1) ++ [one] ++ r.drop (j + 1) = q at *
  have atj : q[j]? = some pal := by rw [G, if_pos (Nat.le_refl _)]; exact hj
  have atj1 : q[j + 1]? = some one := by rw [G, if_neg (by omega), if_pos rfl]
  have s1 := succ_at nd2 mem2 atj
  have s2 := succ_at nd2 mem2 atj1
  have s0 := succ_at nd hr hj
  refine ⟨?_, ?_, ?_⟩
  · rw [s1, L, mod_next (by omega), if_neg (by omega)]
    exact getD_of atj1
  · rw [s2, L, s0, mod_next (by omega), mod_next jl]
    by_cases z : j + 1 = r.length
    · rw [if_pos (by omega), if_pos z, List.getD_eq_getElem?_getD, List.getD_eq_getElem?_getD, G, if_pos (by omega)]
    · rw [if_neg (by omega), if_neg z, List.getD_eq_getElem?_getD, List.getD_eq_getElem?_getD, G, if_neg (by omega), if_neg (by omega)]
      rfl
  · intro x hx nx
    have hxm : x ∈ rs.flatten := R.all.mem_iff.mpr (List.mem_range.mpr hx)
    obtain ⟨s, hs, hxs⟩ := List.mem_flatten.mp hxm
    obtain ⟨i, hi⟩ := List.mem_iff_getElem?.mp hxs
    have il := (List.getElem?_eq_some_iff.mp hi).1
    have t0 := succ_at nd hs hi
    by_cases hps : pal ∈ s
    · have : s = r := nodup_flat nd hs hr hps hpr
      subst this
      rw [t0, mod_next il]
      rcases Nat.lt_trichotomy i j with h | h | h
      · have t1 := succ_at nd2 mem2 (i := i) (x := x) (by rw [G, if_pos (by omega)]; exact hi)
        rw [t1, L, mod_next (by omega), if_neg (by omega), if_neg (by omega), List.getD_eq_getElem?_getD, List.getD_eq_getElem?_getD, G, if_pos (by omega)]
      · subst h
        rw [hj] at hi
        exact absurd (Option.some.inj hi).symm nx
      · have t1 := succ_at nd2 mem2 (i := i + 1) (x := x) (by
          rw [G, if_neg (by omega), if_neg (by omega)]
          exact hi)
        rw [t1, L, mod_next (by omega)]
        by_cases z : i + 1 = s.length
        · rw [if_pos (by omega), if_pos z, List.getD_eq_getElem?_getD, List.getD_eq_getElem?_getD, G, if_pos (by omega)]
        · rw [if_neg (by omega), if_neg z, List.getD_eq_getElem?_getD, List.getD_eq_getElem?_getD, G, if_neg (by omega), if_neg (by omega)]
          rfl
    · have mem3 : s ∈ rstep rs one pal := by
        rw [e]
        exact List.mem_map.mpr ⟨s, hs, insr_no hps⟩
      rw [succ_at nd2 mem3 hi, t0]
theorem succ_open {one : Nat} {rs : List (List Nat)} (R : RI one rs) : succ (rstep rs one one) one = one ∧ ∀ x, x < one → succ (rstep rs one one) x = succ rs x := by
  have R2 := R.step (pal := one) (Nat.le_refl _)
  have nd2 := R2.nd
  have nd := R.nd
  have e : rstep rs one one = rs ++ [[one]] := by
    unfold rstep
    rw [if_pos rfl]
    exact (List.map_congr_left fun s _ => insr_same rfl).trans (List.map_id _)
  refine ⟨?_, fun x hx => ?_⟩
  · have := succ_at nd2 (r := [one]) (by rw [e]; simp) (i := 0) (x := one) rfl
    rw [this]
    simp
  · have hxm : x ∈ rs.flatten := R.all.mem_iff.mpr (List.mem_range.mpr hx)
    obtain ⟨s, hs, hxs⟩ := List.mem_flatten.mp hxm
    obtain ⟨i, hi⟩ := List.mem_iff_getElem?.mp hxs
    rw [succ_at nd2 (r := s) (by rw [e]; simp [hs]) hi, succ_at nd hs hi]
theorem sby_seat {c : List Nat} (h : ∀ (i x : Nat), c[i]? = some x → x ≤ i) : ∀ k, k ≤ c.length → sby c k = seat (ringsTo c k) k
  | 0, _ => rfl
  | k + 1, hk => by
    have ih := sby_seat h k (by omega)
    have R := ringsTo_ok h k (by omega)
    have hx : c.getD k 0 ≤ k := by
      have : c[k]? = some (c.getD k 0) := by
        rw [List.getD_eq_getElem?_getD, List.getElem?_eq_getElem (by omega)]
        rfl
      exact h k _ this
    show sits (sby c k) k (c.getD k 0) = (List.range (k + 1)).map (succ (rstep (ringsTo c k) k (c.getD k 0)))
    rw [ih]
    generalize c.getD k 0 = x at *
    generalize ringsTo c k = rs at *
    have sl := seat_len rs k
    refine List.ext_getElem? fun i => ?_
    rw [List.getElem?_map]
    unfold sits
    by_cases hxk : x = k
    · subst hxk
      obtain ⟨s1, s2⟩ := succ_open R
      rw [if_pos rfl]
      rcases Nat.lt_trichotomy i x with q | q | q
      · rw [List.getElem?_append_left (by omega), List.getElem?_range (by omega)]
        unfold seat
        rw [List.getElem?_map, List.getElem?_range q]
        show some _ = some _
        rw [s2 i q]
      · subst q
        rw [List.getElem?_append_right (by omega), sl, Nat.sub_self, List.getElem?_range (by omega)]
        show some i = some _
        rw [s1]
      · rw [List.getElem?_eq_none (by simp [sl]; omega), List.getElem?_eq_none (by simp; omega)]
        rfl
    · have xl : x < k := by omega
      obtain ⟨s1, s2, s3⟩ := succ_step R xl
      rw [if_neg hxk]
      have hgx : (seat rs k).getD x 0 = succ rs x := by
        refine getD_of ?_
        unfold seat
        rw [List.getElem?_map, List.getElem?_range xl]
        rfl
      rw [hgx, List.getElem?_set, List.getElem?_set]
      by_cases q1 : x = i
      · subst q1
        rw [if_pos rfl, if_pos (by simp [sl]; omega), List.getElem?_range (by omega)]
        show some k = some _
        rw [s1]
      · rw [if_neg q1]
        rcases Nat.lt_trichotomy i k with q | q | q
        · rw [if_neg (by omega), List.getElem?_append_left (by omega), List.getElem?_range (by omega)]
          unfold seat
          rw [List.getElem?_map, List.getElem?_range q]
          show some _ = some _
          rw [s3 i q (fun z => q1 z.symm)]
        · subst q
          rw [if_pos rfl, if_pos (by simp [sl]), List.getElem?_range (by omega)]
          show some _ = some _
          rw [s2]
        · rw [if_neg (by omega), List.getElem?_eq_none (by simp [sl]; omega), List.getElem?_eq_none (by simp; omega)]
          rfl
theorem sby_lt {c : List Nat} (h : ∀ (i x : Nat), c[i]? = some x → x ≤ i) {k : Nat} (hk : k ≤ c.length) {y : Nat} (hy : y ∈ sby c k) : y < k := by
  rw [sby_seat h k hk] at hy
  have R := ringsTo_ok h k hk
  have := (seat_perm R.all R.ne).mem_iff.mp hy
  exact List.mem_range.mp this
/-- the last guest's right neighbour, and the others without it -/
theorem sits_last {h : List Nat} {k x : Nat} (hl : h.length = k) (hlt : ∀ y ∈ h, y < k) (hx : x ≤ k) :
    (sits h k x)[x]? = some k ∧ (∀ m, m < x → (sits h k x)[m]? ≠ some k) ∧ ((sits h k x).set x ((sits h k x).getD k 0)).dropLast = h := by
  have at' : ∀ (m y : Nat), h[m]? = some y → y < k := fun m y hy => hlt y (List.mem_of_getElem? hy)
  unfold sits
  by_cases hxk : x = k
  · subst hxk
    rw [if_pos rfl]
    have g : (h ++ [x])[x]? = some x := by
      rw [List.getElem?_append_right (by omega), hl, Nat.sub_self]
      rfl
    refine ⟨g, fun m hm z => ?_, ?_⟩
    · rw [List.getElem?_append_left (by omega)] at z
      have := at' m x z
      omega
    · rw [getD_of g, List.set_append_right _ _ (by omega), hl, Nat.sub_self]
      simp
  · have xl : x < k := by omega
    rw [if_neg hxk]
    have l1 : ((h ++ [k]).set k (h.getD x 0)).length = k + 1 := by simp [hl]
    refine ⟨by rw [List.getElem?_set, if_pos rfl, if_pos (by omega)], fun m hm z => ?_, ?_⟩
    · rw [List.getElem?_set, if_neg (by omega), List.getElem?_set, if_neg (by omega), List.getElem?_append_left (by omega)] at z
      have := at' m k z
      omega
    · have g : (((h ++ [k]).set k (h.getD x 0)).set x k).getD k 0 = h.getD x 0 := by
        refine getD_of ?_
        rw [List.getElem?_set, if_neg (by omega), List.getElem?_set, if_pos rfl, if_pos (by simp [hl])]
      rw [g, List.set_set]
      have e1 : (h ++ [k]).set k (h.getD x 0) = h ++ [h.getD x 0] := by
        rw [List.set_append_right _ _ (by omega), hl, Nat.sub_self]
        rfl
      rw [e1, List.set_append_left _ _ (by omega), List.dropLast_concat]
      refine List.ext_getElem (by simp) fun i h1 h2 => ?_
      rw [List.getElem_set]
      split
      · rename_i q
        subst q
        exact getD_of (List.getElem?_eq_getElem h2)
      · rfl
/-- who opened the tables -/
theorem rings_heads (c : List Nat) : ∀ k, (ringsTo c k).map (·.headD 0) = (List.range k).filter fun i => decide (c.getD i 0 = i)
  | 0 => rfl
  | k + 1 => by
    have ih := rings_heads c k
    rw [List.range_succ, List.filter_append, ← ih]
    show (rstep (ringsTo c k) k (c.getD k 0)).map (·.headD 0) = _
    have eh : ∀ rs : List (List Nat), (rs.map (insr (c.getD k 0) k)).map (·.headD 0) = rs.map (·.headD 0) := fun rs => by
      rw [List.map_map]
      exact List.map_congr_left fun r _ => insr_head
    unfold rstep
    rw [eh]
    by_cases h : c.getD k 0 = k
    · have q : decide (c.getD k 0 = k) = true := decide_eq_true h
      rw [if_pos h.symm, List.map_append, List.filter_cons, q]
      rfl
    · have q : decide (c.getD k 0 = k) = false := decide_eq_false h
      rw [if_neg (fun z => h z.symm), List.filter_cons, q]
      simp


local macro_rules | `(tactic| walk_at "call") => `(tactic| (with_reducible exact sv_whole))
local macro_rules | `(tactic| walk_at "call") => `(tactic| ((with_reducible refine' sv_order ?c1 ?c2); (case c1 => assumption); (case c2 => assumption)))
local macro_rules | `(tactic| walk_at "call") => `(tactic| ((with_reducible refine' sv_ord ?c1 ?c2); (case c1 => assumption); (case c2 => assumption)))

/-! ### drawn lists -/
def EvPA (p L : Addr) (k : Nat) (ta : TA) (σ : L2.St) (H0 : Hp) (C : List V → Prop) : Prop := ∀ n H1, Ex H0 H1 → Po p L n H1 → n + k ≤ 1000000000 →
  ∀ Q : List V → Hp → Prop, (∀ vs H2, C vs → Po p L (n + k) H2 → Ex (Hm p H1) H2 → Q vs H2) → ta σ H1 Q
section
variable {K : PySem.W.Frag} {σ : L2.St} {H0 H : Hp} {p L : Addr} {k k1 k2 : Nat} {te ta tb : TE} {R Ra Rb : V → Hp → Prop} {tr : TA} {A : V → Prop} {B C : List V → Prop}
theorem epa_nil : EvPA p L 0 tNil σ H0 (fun vs => vs = []) := fun n H1 e hp _ Q q => q [] H1 rfl hp (hm_of (Ex.refl _))
theorem epa_cons (h0 : H0 p = none) (h : EvP p L k1 te σ H0 (fun v _ => A v)) (hr : EvPA p L k2 tr σ H0 B) : EvPA p L (k1 + k2) (tCons te tr) σ H0 (fun vs => ∃ v r, vs = v :: r ∧ A v ∧ B r) := fun n H1 e hp hn Q q =>
  h n H1 e hp (by omega) _ fun v H2 hv p2 e2 => hr (n + k1) H2 (hm_next h0 e e2) p2 (by omega) _ fun vs H3 hvs p3 e3 => q (v :: vs) H3 ⟨v, vs, rfl, hv, hvs⟩ (by rw [← Nat.add_assoc]; exact p3) (hm_trans e2 e3)
theorem epa_pure {v : V} (h0 : H0 p = none) (h : Ev te σ H0 v) (hr : EvPA p L k2 tr σ H0 B) : EvPA p L (0 + k2) (tCons te tr) σ H0 (fun vs => ∃ x r, vs = x :: r ∧ x = v ∧ B r) := epa_cons (A := fun x => x = v) h0 (ep_ev h) hr
theorem ep_lst (h : EvPA p L k tr σ H0 C) (hs : ∀ vs, C vs → vs.length ≤ 100000) : EvP p L k (tLst tr) σ H0 (fun x H => ∃ l vs, l ≠ p ∧ x = .ref l ∧ H l = some (.lst vs) ∧ C vs) := fun n H1 e hp hn Q q =>
  h n H1 e hp hn _ fun vs H2 c p2 e2 => ⟨sz_of (hs vs c), fun l hl => q _ _ ⟨l, vs, p2.ne hl, rfl, upd_same, c⟩ (p2.ex (Ex.new hl)) (hm_trans e2 (hm_of (Ex.new hl)))⟩
theorem stb_lst : Stb p (fun x H => ∃ l vs, l ≠ p ∧ x = .ref l ∧ H l = some (.lst vs) ∧ C vs) := fun v H H' ⟨l, vs, ne, e, h, c⟩ s => ⟨l, vs, ne, e, hm_at s ne h, c⟩
theorem ep_ix (h0 : H0 p = none) {ix : V → Prop} (ha : EvP p L k1 (tLst tr) σ H0 (fun x H => ∃ l vs, l ≠ p ∧ x = .ref l ∧ H l = some (.lst vs) ∧ C vs)) (hb : EvP p L k2 tb σ H0 (fun v _ => ix v)) (hat : ∀ vs v, C vs → ix v → ∃ i z, v = .int i ∧ atI vs i = some z ∧ A z) :
    EvP p L (k1 + k2) (tOp (rIxL K) (tLst tr) tb) σ H0 (fun v _ => A v) := ep_op h0 ha hb stb_lst stb_c fun x y H hx hy => by
  obtain ⟨l, vs, ne, rfl, hl, c⟩ := hx
  obtain ⟨i, z, rfl, hz, az⟩ := hat vs y c hy
  exact ⟨z, az, rv_ixL (sq_of hl) hz⟩
theorem ep_isZ (h0 : H0 p = none) (h : EvP p L k te σ H0 (fun v _ => ∃ r, v = .int r ∧ 0 ≤ r)) : EvP p L (k + 0) (tCB rIntB (tCons (tOp rEq te (tC (.int 0))) tNil)) σ H0 (fun v _ => v = .int 0 ∨ v = .int 1) := fun n H1 e hp hn Q q =>
  (ep_op (k1 := k) (k2 := 0) (R := fun v _ => ∃ b, v = .bl b) h0 h (ep_ev (v := .int 0) ev_c) stb_c stb_c fun x y H ⟨r, e1, _⟩ e2 => ⟨.bl (decide (x = y)), ⟨_, rfl⟩, by
    subst e1
    subst e2
    exact rv_eq rfl⟩) n H1 e hp hn _ fun v H2 ⟨b, hb⟩ p2 e2 => ⟨b, by rw [hb], q _ H2 (by cases b <;> simp) p2 e2⟩
theorem pq_parL {n i j : Nat} {D : Ends} {tz : TS} {ys : List V} (h : EvP p L k ta σ H0 R) (e : Ex H0 H) (hp : Po p L n H) (hn : n + k ≤ 1000000000) (hb : ∀ H1, EvL tb σ H1 ys) (q : ∀ v l H2 H3, R v H2 → (H2 l = none ∧ l ≠ p ∧ l ≠ L) → Ex H2 H3 → H3 l = some (.lst ys) → Po p L (n + k) H3 → Ex (Hm p H) H2 → tz D ((σ.set i (some v)).set j (some (.ref l))) H3) :
    tSeq (tPar i j (tCons ta (tCons tb tNil))) tz D σ H := h n H e hp hn _ fun v H2 hv p2 e2 => hb H2 H2 (Ex.refl _) _ fun l H3 hl e3 h3 => ⟨_, _, rfl, q v l H2 H3 hv ⟨hl, p2.ne hl, p2.nl hl⟩ e3 h3 (p2.ex e3) e2⟩
end

/-! ### _law_seating, _law_coming -/
theorem sby_ext {c : List Nat} {x : Nat} : sby (c ++ [x]) c.length = sby c c.length ∧ sby (c ++ [x]) (c.length + 1) = sits (sby c c.length) c.length x := by
  have h := sby_take (c ++ [x]) (w := c.length) (by simp) c.length (Nat.le_refl _)
  rw [List.take_append_of_le_length (Nat.le_refl _), List.take_length] at h
  refine ⟨h.symm, ?_⟩
  show sits (sby (c ++ [x]) c.length) c.length ((c ++ [x]).getD c.length 0) = _
  rw [← h, List.getD_eq_getElem?_getD, List.getElem?_append_right (Nat.le_refl _), Nat.sub_self]
  rfl
theorem sits_app {h : List Nat} {k x : Nat} (hl : h.length = k) (ne : x ≠ k) : sits h k x = (h ++ [h.getD x 0]).set x k := by
  unfold sits
  rw [if_neg ne]
  congr 1
  rw [List.set_append_right _ _ (by omega), hl, Nat.sub_self]
  rfl
def sp_law_seating : Sp := fun vs H Q _ => ∃ (p L : Addr) (n m : Nat), vs = [.ref p, .int (m : Int)] ∧ Po p L n H ∧ n + 200 < 1000000000 ∧ m ≤ 20 ∧
  ∀ l c H', H l = none → H' l = some (.lst (nv (sby c m))) → c.length = m → (∀ (i x : Nat), c[i]? = some x → x ≤ i) → Po p L (n + 100) H' → Ex (Hm p H) H' → Q (.ref l) H'
section
variable {P : Program} {w : World} {K : PySem.W.Frag} {mg : Str → Option Value} {base : Heap}
theorem ok_law_seating (T : Tx K mg) : FnOk P w K mg base CX0 3 T.f_law_seating T.d_law_seating ["bag", "wide"] sp_law_seating := by
  refine T.F_law_seating.ok sc_law_seating (fun vs H Q E h => ?_) (fun cdv A outer s H vs Q E hr h => ?_)
  · obtain ⟨p, L, n, m, rfl, _⟩ := h
    rfl
  · obtain ⟨p, L, n, m, rfl, hpo, hn, hm, k⟩ := h
    refine ⟨_, (pss_cons (ps_par (i := 2) (j := 3) (by rfl) sc_law_seating.nd rfl rfl (by decide) rfl rfl (pa_cons (pe_call (ok_law_draw T) (hr.mono (by decide)) (by rfl) T.g_law_draw T.F_law_draw.kp T.b_law_draw .nil pass0 (pa_cons (pv 0) (pa_cons pe_int pa_nil))) (pa_cons (pe_lst pa_nil) pa_nil)) (by rfl))
      (pss_cons (ps_for PassesOwn.never rfl (pi_range1 (by rfl) T.m_range (pa_cons (pv 1) pa_nil)) (pg_name (i := 4) sc_law_seating.nd rfl (Or.inl rfl)) (pss_cons (ps_set (i := 5) sc_law_seating.nd rfl (Or.inl rfl) (pe_ix ix_list (pe_lst (pa_cons (pv 4) (pa_cons (pe_call (ok_law_draw T) (hr.mono (by decide)) (by rfl) T.g_law_draw T.F_law_draw.kp T.b_law_draw .nil pass0 (pa_cons (pv 0) (pa_cons (pe_op op_add (pv 4) pe_int) pa_nil))) pa_nil))) (pe_call (ok_law_draw T) (hr.mono (by decide)) (by rfl) T.g_law_draw T.F_law_draw.kp T.b_law_draw .nil pass0 (pa_cons (pv 0) (pa_cons pe_int pa_nil))) (fun _ _ => rfl)))
      (pss_cons (ps_set (i := 6) sc_law_seating.nd rfl (Or.inl rfl) (pe_ix ix_list (pe_lst (pa_cons (pe_call (ok_law_draw T) (hr.mono (by decide)) (by rfl) T.g_law_draw T.F_law_draw.kp T.b_law_draw .nil pass0 (pa_cons (pv 0) (pa_cons (pe_op op_add (pv 4) pe_int) pa_nil))) (pa_cons (pv 5) (pa_cons (pe_call (ok_law_draw T) (hr.mono (by decide)) (by rfl) T.g_law_draw T.F_law_draw.kp T.b_law_draw .nil pass0 (pa_cons (pv 0) (pa_cons (pe_callB (call_maxR rfl) (by rfl) T.m_max (by decide +kernel) (pa_cons pe_int (pa_cons (pv 4) pa_nil))) pa_nil))) (pa_cons (pv 4) (pa_cons pe_int pa_nil)))))) (pv 2) (fun _ _ => rfl)))
      (pss_one (ps_if (pt_cmpR op_eq (pv 6) (pv 4) (nomark _)) (pss_one (ps_expr (pe_bm PySem.F.plainAttrs_list PySem.F.slot_list_append PySem.F.type_list_append mt_append (pv 3) (pa_cons (pv 4) pa_nil)))) (pss_cons (ps_expr (pe_bm PySem.F.plainAttrs_list PySem.F.slot_list_append PySem.F.type_list_append mt_append (pv 3) (pa_cons (pe_ix ix_list (pv 3) (pv 6) (fun _ _ => rfl)) pa_nil)))
      (pss_one (ps_asg (pv 4) (pg_sub (pv 3) (pv 6) set_list)))))))))
      (pss_one (ps_ret (pv 3))))), ?_⟩
    refine pq_parL (p := p) (L := L) (k := 1) (H0 := Hm p H) (ys := []) (ep_dipI (w := 5) hm_p (ev_var rfl) ev_c (by decide) (by decide)) hm_sub hpo (by omega) (fun H1 => el_lst ea_nil (Nat.le_of_ble_eq_true rfl)) ?_
    rintro v b H1 H2 ⟨st, rfl, s0, s1⟩ hb1 e2 hb2 p2 e1
    obtain ⟨st, rfl⟩ : ∃ z : Nat, st = z := ⟨st.toNat, by omega⟩
    have hbp : b ≠ p := hb1.2.1
    have hbl : b ≠ L := hb1.2.2
    have nb : H b = none := by
      have := fresh_back e1 hb1.1
      unfold Hm at this
      rw [if_neg hbp] at this
      exact this
    refine q_forR1 (n := (m : Int)) (ea_cons (ev_var rfl) ea_nil) ⟨by omega, by omega⟩ (fun i σ' H' => ∃ (c : List Nat) (y4 y5 y6 : Option V), σ' = [some (.ref p), some (.int (m : Int)), some (.int (st : Int)), some (.ref b), y4, y5, y6] ∧ H' b = some (.lst (nv (sby c i))) ∧ c.length = i ∧ (∀ (i x : Nat), c[i]? = some x → x ≤ i) ∧ Po p L (n + 1 + 4 * i) H' ∧ Ex (Hm p H) H')
      (fun H3 e3 => ⟨[], none, none, none, rfl, e3 b _ hb2, rfl, fun i x h => by simp at h, p2.ex e3, e1.trans (e2.trans e3)⟩) ?_ ?_
    · rintro i σ' H' hi ⟨c, y4, y5, y6, rfl, hb, cl, cm, p', e'⟩
      have i20 : i < 20 := by omega
      refine pq_asg (p := p) (L := L) (k := (0 + (1 + 0)) + 1) (H0 := Hm p H') (R := fun v _ => ∃ r : Nat, v = .int (r : Int) ∧ r ≤ i) (ep_ix (A := fun v => ∃ r : Nat, v = .int (r : Int) ∧ r ≤ i) (ix := fun v => ∃ r, v = .int r ∧ 0 ≤ r ∧ r < 2) (C := fun vs => ∃ r : Nat, vs = [.int (i : Int), .int (r : Int)] ∧ r ≤ i) hm_p
          (ep_is (ep_lst (epa_pure (v := .int (i : Int)) hm_p (ev_var rfl) (epa_cons (A := fun v => ∃ r : Nat, v = .int (r : Int) ∧ r ≤ i) hm_p (ep_is (ep_dipI (w := (i : Int) + 1) hm_p (ev_var rfl) (ev_op (ev_var rfl) ev_c rv_I0) (by omega) (by omega)) ?_) epa_nil)) ?_) ?_) (ep_dipI (w := 2) hm_p (ev_var rfl) ev_c (by decide) (by decide)) ?_) hm_sub p' (by omega) ?_
      · rintro v _ ⟨r, rfl, r0, r1⟩
        exact ⟨r.toNat, by congr 1; omega, by omega⟩
      · rintro vs ⟨_, _, rfl, _, _, _, rfl, _, rfl⟩
        exact Nat.le_of_ble_eq_true rfl
      · rintro v H4 ⟨l, vs, ne, rfl, hl, _, _, rfl, rfl, _, _, rfl, ⟨r, rfl, hr⟩, rfl⟩
        exact ⟨l, _, ne, rfl, hl, r, rfl, hr⟩
      · rintro vs v ⟨r, rfl, hr⟩ ⟨j, rfl, j0, j1⟩
        have : j = 0 ∨ j = 1 := by omega
        rcases this with rfl | rfl
        · exact ⟨0, _, rfl, rfl, i, rfl, Nat.le_refl _⟩
        · exact ⟨1, _, rfl, rfl, r, rfl, hr⟩
      rintro _ H4 ⟨o, rfl, ho⟩ p4 e4
      have mx : Ev (tCB rMax2 (tCons (tC (.int 1)) (tCons (tVar 4) tNil))) [some (.ref p), some (.int (m : Int)), some (.int (st : Int)), some (.ref b), some (.int (i : Int)), some (.int (o : Int)), y6] (Hm p H4) (.int (if (i : Int) > 1 then (i : Int) else 1)) := ev_max2 ev_c (ev_var rfl)
      refine pq_asg (p := p) (L := L) (k := (1 + (0 + (1 + (0 + (0 + 0))))) + 0) (H0 := Hm p H4) (R := fun v _ => ∃ r : Nat, v = .int (r : Int) ∧ r ≤ i) (ep_ix (A := fun v => ∃ r : Nat, v = .int (r : Int) ∧ r ≤ i) (ix := fun v => v = .int (st : Int)) (C := fun vs => ∃ r r2 : Nat, vs = [.int (r : Int), .int (o : Int), .int (r2 : Int), .int (i : Int), .int 0] ∧ r ≤ i ∧ r2 ≤ i) hm_p
          (ep_is (ep_lst (epa_cons (A := fun v => ∃ r : Nat, v = .int (r : Int) ∧ r ≤ i) hm_p (ep_is (ep_dipI (w := (i : Int) + 1) hm_p (ev_var rfl) (ev_op (ev_var rfl) ev_c rv_I0) (by omega) (by omega)) ?_) (epa_pure (v := .int (o : Int)) hm_p (ev_var rfl) (epa_cons (A := fun v => ∃ r : Nat, v = .int (r : Int) ∧ r ≤ i) hm_p (ep_is (ep_dipI hm_p (ev_var rfl) mx (by split <;> omega) (by split <;> omega)) ?_) (epa_pure (v := .int (i : Int)) hm_p (ev_var rfl) (epa_pure (v := .int 0) hm_p ev_c epa_nil))))) ?_) ?_) (ep_ev (ev_var rfl)) ?_) hm_sub p4 (by omega) ?_
      · rintro v _ ⟨r, rfl, r0, r1⟩
        exact ⟨r.toNat, by congr 1; omega, by omega⟩
      · rintro v _ ⟨r, rfl, r0, r1⟩
        exact ⟨r.toNat, by congr 1; omega, by split at r1 <;> omega⟩
      · rintro vs ⟨_, _, rfl, _, _, _, rfl, _, _, _, rfl, _, _, _, rfl, _, _, _, rfl, _, rfl⟩
        exact Nat.le_of_ble_eq_true rfl
      · rintro v H4 ⟨l, vs, ne, rfl, hl, _, _, rfl, ⟨r, rfl, hr⟩, _, _, rfl, rfl, _, _, rfl, ⟨r2, rfl, hr2⟩, _, _, rfl, rfl, _, _, rfl, rfl, rfl⟩
        exact ⟨l, _, ne, rfl, hl, r, r2, rfl, hr, hr2⟩
      · rintro vs v ⟨r, r2, rfl, hr, hr2⟩ rfl
        have : st = 0 ∨ st = 1 ∨ st = 2 ∨ st = 3 ∨ st = 4 := by omega
        rcases this with rfl | rfl | rfl | rfl | rfl
        · exact ⟨0, _, rfl, rfl, r, rfl, hr⟩
        · exact ⟨1, _, rfl, rfl, o, rfl, ho⟩
        · exact ⟨2, _, rfl, rfl, r2, rfl, hr2⟩
        · exact ⟨3, _, rfl, rfl, i, rfl, Nat.le_refl _⟩
        · exact ⟨4, _, rfl, rfl, 0, rfl, Nat.zero_le _⟩
      rintro _ H5 ⟨x, rfl, hx⟩ p5 e5
      have eA : Ex (Hm p H') H5 := hm_trans e4 e5
      have hb5 := hm_at eA hbp hb
      have sl := sby_len c i
      have ext := sby_ext (c := c) (x := x)
      rw [cl] at ext
      have nbm : Hm p H b = none := by
        unfold Hm
        rw [if_neg hbp]
        exact nb
      have cm' : ∀ (j y : Nat), (c ++ [x])[j]? = some y → y ≤ j := fun j y hy => by
        rw [List.getElem?_append] at hy
        split at hy
        · exact cm j y hy
        · have hj : j - c.length = 0 := by
            have := (List.getElem?_eq_some_iff.mp hy).1
            simpa using this
          rw [hj] at hy
          have : x = y := by simpa using hy
          omega
      refine s_if (b := decide (x = i)) (et_is (et_test (ev_op (ev_var rfl) (ev_var rfl) (rv_eq rfl))) ?_) (fun hb6 H6 e6 => ?_) fun hb6 H6 e6 => ?_
      · rw [Bool.eq_iff_iff, decide_eq_true_iff, decide_eq_true_iff]
        exact ⟨fun z => by have := V.int.inj z; omega, fun z => by rw [z]⟩
      · have xe := of_decide_eq_true hb6
        refine s_app (xs := nv (sby c i)) (e6 b _ hb5) (ev_var rfl) (ev_var rfl) (by rw [nv_len]; omega) fun H7 e7 => ?_
        refine ⟨c ++ [x], _, _, _, rfl, ?_, by simp [cl], cm', ?_, Ex.mut (hm_trans e' (hm_trans eA (hm_of (e6.trans e7)))) nbm⟩
        · rw [upd_same, ext.2]
          unfold sits
          rw [if_pos xe, nv_app]
          rfl
        · exact (((p5.ex (e6.trans e7)).upd hbp hbl).mono (by omega))
      · have xne := of_decide_eq_false hb6
        have xi : x < i := by omega
        refine q_app (xs := nv (sby c i)) (v := .int (((sby c i).getD x 0 : Nat) : Int)) (e6 b _ hb5) (ev_var rfl) (ev_op (ev_var rfl) (ev_var rfl) (rv_ixL (K := K) (sq_of (e6 b _ hb5)) (atI_nat (nv_get (i := x) ?_)))) (by rw [nv_len]; omega) fun H7 e7 => ?_
        · rw [List.getD_eq_getElem?_getD, List.getElem?_eq_getElem (by omega)]
          rfl
        refine s_setL (j := x) upd_same (v := .int (i : Int)) (ev_var rfl) (ev_var rfl) (ev_var rfl) (by rw [List.length_append, nv_len]; omega) fun H8 e8 => ?_
        refine ⟨c ++ [x], _, _, _, rfl, ?_, by simp [cl], cm', ?_, Ex.mut ((Ex.mut (hm_trans e' (hm_trans eA (hm_of (e6.trans e7)))) nbm).trans e8) nbm⟩
        · rw [upd_same, ext.2, sits_app sl xne, nv_eq ((sby c i ++ [(sby c i).getD x 0]).set x i), List.map_set, ← nv_eq, nv_app]
          rfl
        · exact (((((p5.ex (e6.trans e7)).upd hbp hbl).ex e8).upd hbp hbl).mono (by omega))
    · rintro σ' H' ⟨c, y4, y5, y6, rfl, hb, cl, cm, p', e'⟩
      rw [Int.toNat_natCast] at hb cl p'
      exact s_ret (ev_var rfl) fun H3 e3 => k b c H3 nb (e3 b _ hb) cl cm ((p'.ex e3).mono (by omega)) (hm_trans e' (hm_of e3))
end


local macro_rules | `(tactic| walk_at "call") => `(tactic| (with_reducible exact sv_whole))
local macro_rules | `(tactic| walk_at "call") => `(tactic| ((with_reducible refine' sv_order ?c1 ?c2); (case c1 => assumption); (case c2 => assumption)))
local macro_rules | `(tactic| walk_at "call") => `(tactic| ((with_reducible refine' sv_ord ?c1 ?c2); (case c1 => assumption); (case c2 => assumption)))

theorem given_at {n : Nat} (v : Nat → V) : given n (fun _ => true) v = (List.range n).map v := by
  unfold given
  rw [List.filter_eq_self.mpr fun _ _ => rfl]
theorem et_tru {K : PySem.W.Frag} {σ : L2.St} {H : Hp} {ta : TE} {a : Addr} {xs : List V} (h : Ev ta σ H (.ref a)) (hx : SqL K H a xs) : EvT (fun σ H Q => ta σ H fun x H' => ∃ k, TruV K x H' k ∧ Q k H') σ H (!xs.isEmpty) := fun H1 e Q q => h H1 e _ fun H2 e2 => ⟨_, .inl ⟨xs, ex_l (e.trans e2) hx, rfl⟩, q H2 e2⟩
section
variable {K : PySem.W.Frag} {σ : L2.St} {H : Hp} {ta te : TE} {tr : TA} {D : Ends}
theorem nv_flat (r : List Nat) : (nv r).all flatV = true := by
  rw [nv_eq, List.all_map, List.all_eq_true]
  intro x _
  rfl
theorem nv_in (r : List Nat) (x : Nat) : inV (.int x) (nv r) = decide (x ∈ r) := by
  unfold inV
  rw [nv_eq, List.any_map, Bool.eq_iff_iff, List.any_eq_true, decide_eq_true_iff]
  constructor
  · rintro ⟨y, hy, e⟩
    have : ((y : Int) == (x : Int)) = true := e
    have := eq_of_beq this
    have : y = x := by omega
    exact this ▸ hy
  · intro h
    exact ⟨x, h, beq_self_eq_true _⟩
theorem s_dropBM {r : V → List V → Hp → VK → Prop} {l : Addr} {xs : List V} (hl : H l = some (.lst xs)) (ha : Ev ta σ H (.ref l)) (k : ∀ H1, Ex H H1 → tr σ H1 fun vs H2 => r (.ref l) vs H2 fun _ H3 => D.nx σ H3) : tDrop (tBM K "list" r ta tr) D σ H :=
  ha H (Ex.refl H) _ fun H1 e1 => ⟨Or.inl ⟨rfl, xs, sq_of (e1 l _ hl)⟩, k H1 e1⟩
theorem ev_index {l : Addr} {r : List Nat} {x : Nat} (hl : H l = some (.lst (nv r))) (ha : Ev ta σ H (.ref l)) (he : Ev te σ H (.int (x : Int))) (hx : x ∈ r) : Ev (tBM K "list" (rIndex K) ta (tCons te tNil)) σ H (.int (r.idxOf x : Nat)) := fun H1 e Q q =>
  ha H1 e _ fun H2 e2 => ⟨Or.inl ⟨rfl, _, sq_of (e2 l _ (e l _ hl))⟩, he H2 (e.trans e2) _ fun H3 e3 => by
    have hlt := List.idxOf_lt_length_of_mem hx
    refine ⟨l, nv r, .int x, r.idxOf x, .int x, rfl, rfl, sq_of (e3 l _ (e2 l _ (e l _ hl))), rfl, nv_flat r, nv_get (by rw [List.getElem?_eq_getElem hlt, List.getElem_idxOf hlt]), beq_self_eq_true _, fun m z hm hz => ?_, q H3 (e2.trans e3)⟩
    have hml : m < r.length := by omega
    have := nv_get (List.getElem?_eq_getElem hml)
    rw [hz] at this
    have ez := Option.some.inj this
    subst ez
    show ((r[m] : Int) == (x : Int)) = false
    rw [beq_eq_false_iff_ne]
    intro ee
    have ee' : r[m] = x := by omega
    have h1 : r.idxOf x ≤ m := by
      have hh : r.findIdx (· == x) ≤ m := by
        refine Nat.le_of_not_lt fun hlt2 => ?_
        have := List.not_of_lt_findIdx hlt2
        rw [ee'] at this
        simp at this
      exact hh
    omega⟩
end

theorem Cm.ord {c : List Nat} (o : Cm c) : Ord (sby c c.length) := by
  rw [sby_seat o.2.2 _ (Nat.le_refl _)]
  have R := ringsTo_ok o.2.2 c.length (Nat.le_refl _)
  exact seat_ord R.all R.ne o.1 o.2.1
theorem Cm.rings {c : List Nat} (o : Cm c) : Rings (sby c c.length) (ringsTo c c.length) := by
  rw [sby_seat o.2.2 _ (Nat.le_refl _)]
  exact (ringsTo_ok o.2.2 c.length (Nat.le_refl _)).rings
theorem last_some {xs : List V} {i : Nat} (h : xs.length = i + 1) : xs[xs.length - 1]? = some (xs.getD i .non) := by
  rw [h, show i + 1 - 1 = i by omega, List.getD_eq_getElem?_getD, List.getElem?_eq_getElem (by omega)]
  rfl
theorem idx_first {l : List Nat} {k x : Nat} (h1 : l[x]? = some k) (h2 : ∀ m, m < x → l[m]? ≠ some k) : l.idxOf k = x := by
  have hm := List.mem_of_getElem? h1
  have hl := List.idxOf_lt_length_of_mem hm
  have h3 : l[l.idxOf k]? = some k := by rw [List.getElem?_eq_getElem hl, List.getElem_idxOf hl]
  have le : l.idxOf k ≤ x := by
    rcases Nat.lt_or_ge x (l.idxOf k) with q | q
    · have := List.not_of_lt_findIdx (p := (· == k)) (xs := l) (i := x) (by simpa [List.idxOf] using q)
      have xl := (List.getElem?_eq_some_iff.mp h1).1
      have ex := (List.getElem?_eq_some_iff.mp h1).2
      simp [ex] at this
    · exact q
  rcases Nat.lt_or_eq_of_le le with q | q
  · exact absurd h3 (h2 _ q)
  · exact q
section
variable {K : PySem.W.Frag} {σ : L2.St} {H : Hp} {ta te : TE} {D : Ends} {tz : TS}
theorem s_pop0 {l : Addr} {xs : List V} {y : V} (hl : H l = some (.lst xs)) (hy : xs[xs.length - 1]? = some y) (ha : Ev ta σ H (.ref l)) (k : ∀ H1, Ex H H1 → D.nx σ (upd H1 l (.lst xs.dropLast))) : tDrop (tBM0 K "list" rPop ta) D σ H :=
  ha H (Ex.refl H) _ fun H1 e1 => ⟨Or.inl ⟨rfl, xs, sq_of (e1 l _ hl)⟩, ⟨l, xs, y, rfl, rfl, e1 l _ hl, hy, k H1 e1⟩⟩
end

section
variable {K : PySem.W.Frag} {σ : L2.St} {H : Hp} {ta te : TE} {D : Ends} {tu tz : TS}
/-- for k in range(m - 1, -1, -1) -/
theorem q_forDn {t : TA} {j m : Nat} (h : EvA t σ H [.int ((m : Int) - 1), .int (-1), .int (-1)]) (hm : m ≤ 1000) (Pv : Nat → L2.St → Hp → Prop) (h0 : ∀ H1, Ex H H1 → Pv 0 σ H1)
    (hs : ∀ (i : Nat) σ' H', i < m → Pv i σ' H' → tu { D with nx := Pv (i + 1), ct := Pv (i + 1), bk := tz D } (σ'.set j (some (.int ((m - 1 - i : Nat) : Int)))) H') (hd : ∀ σ' H', Pv m σ' H' → tz D σ' H') : tSeq (tFor (iRng3 t) (gName j) tu) tz D σ H :=
  h H (Ex.refl H) _ fun H1 e => ⟨_, _, _, m, rfl, by
    have := RgC.neg (i := (m : Int) - 1) (j := -1) (by omega) (by omega) (by decide) (by decide)
    rwa [show ((m : Int) - 1 - -1).toNat = m by omega] at this, for_rangeC (lo := (m : Int) - 1) (c := -1) (n := m) (D := { D with nx := tz D }) Pv (h0 H1 e) (fun i σ' H' hi p => by
      have e0 : (m : Int) - 1 + (i : Int) * (-1) = ((m - 1 - i : Nat) : Int) := by omega
      show tu { D with nx := Pv (i + 1), ct := Pv (i + 1), bk := tz D } (σ'.set j (some (.int ((m : Int) - 1 + (i : Int) * (-1))))) H'
      rw [e0]
      exact hs i σ' H' hi p) hd⟩
theorem q_parL2 {i j : Nat} {xs ys : List V} {tb : TE} (ha : EvL ta σ H xs) (hb : EvL tb σ H ys) (k : ∀ p q H1, H p = none → H q = none → p ≠ q → Ex H H1 → H1 p = some (.lst xs) → H1 q = some (.lst ys) → tz D ((σ.set i (some (.ref p))).set j (some (.ref q))) H1) :
    tSeq (tPar i j (tCons ta (tCons tb tNil))) tz D σ H := ha H (Ex.refl H) _ fun p H1 hp e1 h1 => hb H1 e1 _ fun q H2 hq e2 h2 => ⟨_, _, rfl, k p q H2 hp (fresh_back e1 hq) (ne_of_none h1 hq) (e1.trans e2) (e2 p _ h1) h2⟩
end
/-- a coming list, perhaps empty -/
def CmW (c : List Nat) : Prop := c.length ≤ 20 ∧ ∀ (i x : Nat), c[i]? = some x → x ≤ i
theorem CmW.get {c : List Nat} (h : CmW c) (k : Nat) : c.getD k 0 ≤ k := by
  rw [List.getD_eq_getElem?_getD]
  cases q : c[k]? with
  | none => exact Nat.zero_le _
  | some x => exact h.2 k x q
theorem Cm.w {c : List Nat} (o : Cm c) : CmW c := ⟨o.2.1, o.2.2⟩
def sp_law_coming : Sp := fun vs H Q _ => ∃ (a : Addr) (c : List Nat), vs = [.ref a] ∧ H a = some (.lst (nv (sby c c.length))) ∧ CmW c ∧ RetL (nv c) H Q
theorem sl_law_coming {H : Hp} {a : Addr} {c : List Nat} (ha : H a = some (.lst (nv (sby c c.length)))) (o : CmW c) : SpL sp_law_coming ([.ref a] ++ []) H (nv c) := fun H1 e Q q E => ⟨a, c, rfl, e a _ ha, o, q⟩
section
variable {P : Program} {w : World} {K : PySem.W.Frag} {mg : Str → Option Value} {base : Heap}
theorem ok_law_coming (T : Tx K mg) : FnOk P w K mg base CX0 1 T.f_law_coming T.d_law_coming ["some"] sp_law_coming := by
  refine T.F_law_coming.ok sc_law_coming (fun vs H Q E h => ?_) (fun cdv A outer s H vs Q E hr h => ?_)
  · obtain ⟨a, c, rfl, _⟩ := h
    rfl
  · obtain ⟨a, c, rfl, ha, o, k⟩ := h
    refine ⟨_, (pss_cons (ps_par (i := 1) (j := 2) (by rfl) sc_law_coming.nd rfl rfl (by decide) rfl rfl (pa_cons (pe_callTy call_listR (by rfl) T.m_list (by decide +kernel) (pa_cons (pv 0) pa_nil)) (pa_cons (pe_lst pa_nil) pa_nil)) (by rfl))
      (pss_cons (ps_for PassesOwn.never rfl (pi_range3 (by rfl) T.m_range (pa_cons (pe_op op_sub (pe_callB call_lenR (by rfl) T.m_len (by decide +kernel) (pa_cons (pv 0) pa_nil)) pe_int) (pa_cons (pe_un un_neg pe_int) (pa_cons (pe_un un_neg pe_int) pa_nil)))) (pg_name (i := 3) sc_law_coming.nd rfl (Or.inl rfl)) (pss_cons (ps_set (i := 4) sc_law_coming.nd rfl (Or.inl rfl) (pe_bm PySem.F.plainAttrs_list PySem.F.slot_list_index PySem.F.type_list_index mt_index (pv 1) (pa_cons (pv 3) pa_nil)))
      (pss_cons (ps_set (i := 2) sc_law_coming.nd rfl (Or.inl rfl) (pe_op op_cat (pe_lst (pa_cons (pv 4) pa_nil)) (pv 2)))
      (pss_cons (ps_asg (pe_ix ix_list (pv 1) (pv 3) (fun _ _ => rfl)) (pg_sub (pv 1) (pv 4) set_list))
      (pss_one (ps_expr (pe_bm0 PySem.F.plainAttrs_list PySem.F.slot_list_pop PySem.F.type_list_pop mt_pop (pv 1))))))))
      (pss_one (ps_ret (pv 2))))), ?_⟩
    have o2 := o.1
    have sl := sby_len c c.length
    refine q_parL2 (xs := nv (sby c c.length)) (ys := nv []) (el_list (ev_var rfl) (sq_of ha)) (el_lst ea_nil (Nat.le_of_ble_eq_true rfl)) fun b q0 H1 fb fq bq e1 hb hq0 => ?_
    have len : Ev (tCB (rLenS K) (tCons (tVar 0) tNil)) [some (.ref a), some (.ref b), some (.ref q0), none, none] H1 (.int (c.length : Int)) := ev_is (ev_len (K := K) (ev_var (i := 0) rfl) (sq_of (e1 a _ ha))) (by rw [nv_len, sl])
    refine q_forDn (m := c.length) (ea_cons (ev_op len ev_c rv_I0) (ea_cons (ev_un ev_c ru_neg) (ea_cons (ev_un ev_c ru_neg) ea_nil))) (by omega) (fun i σ' H' => ∃ (q : Addr) (y3 y4 : Option V), σ' = [some (.ref a), some (.ref b), some (.ref q), y3, y4] ∧ Ex H H' ∧ H q = none ∧ q ≠ b ∧ H' b = some (.lst (nv (sby c (c.length - i)))) ∧ H' q = some (.lst (nv (c.drop (c.length - i)))))
      (fun H2 e2 => ⟨q0, none, none, rfl, e1.trans e2, fq, Ne.symm bq, e2 b _ hb, by rw [Nat.sub_zero, List.drop_length]; exact e2 q0 _ hq0⟩) ?_ ?_
    · rintro i σ' H' hi ⟨q, y3, y4, rfl, e, nq, qb, hb', hq'⟩
      obtain ⟨j, hj⟩ : ∃ j, c.length - i = j + 1 := ⟨c.length - i - 1, by omega⟩
      rw [show c.length - 1 - i = j by omega]
      rw [hj] at hb' hq'
      have ci := o.get j
      have si := sby_len c (j + 1)
      have hlt : ∀ y ∈ sby c j, y < j := fun y hy => sby_lt o.2 (by omega) hy
      obtain ⟨t1, t2, t3⟩ := sits_last (sby_len c j) hlt ci
      have es : sby c (j + 1) = sits (sby c j) j (c.getD j 0) := rfl
      rw [← es] at t1 t2 t3
      have ix := idx_first t1 t2
      have xl := (List.getElem?_eq_some_iff.mp t1).1
      have iv := ev_index (K := K) (ta := tVar 1) (te := tVar 3) (σ := [some (.ref a), some (.ref b), some (.ref q), some (.int (j : Int)), y4]) (x := j) hb' (ev_var (i := 1) rfl) (ev_var (i := 3) rfl) (List.mem_of_getElem? t1)
      rw [ix] at iv
      refine q_asg iv fun H2 e2 => ?_
      have eq : [V.int ((c.getD j 0 : Nat) : Int)] ++ nv (c.drop (j + 1)) = nv (c.drop j) := by
        have hci : c[j]? = some (c.getD j 0) := by
          rw [List.getD_eq_getElem?_getD, List.getElem?_eq_getElem (by omega)]
          rfl
        obtain ⟨hk, hv⟩ := List.getElem?_eq_some_iff.mp hci
        rw [List.drop_eq_getElem_cons hk, hv]
        rfl
      refine q_asgL (xs := nv (c.drop j)) (by
        rw [← eq]
        exact el_catR (el_lst (ea_cons (ev_var rfl) ea_nil) (Nat.le_of_ble_eq_true rfl)) (ev_var rfl) (e2 q _ hq') (by rw [nv_len, List.length_drop]; simp; omega)) fun q2 H3 nq2 e3 hq3 => ?_
      have e13 := e.trans (e2.trans e3)
      have nq2' := fresh_back (e.trans e2) nq2
      have hb3 := (e2.trans e3) b _ hb'
      have q2b : q2 ≠ b := fun z => by
        rw [z, e2 b _ hb'] at nq2
        cases nq2
      have lastv : (nv (sby c (j + 1)))[j]? = some (.int (((sby c (j + 1)).getD j 0 : Nat) : Int)) := nv_get (by
        rw [List.getD_eq_getElem?_getD, List.getElem?_eq_getElem (by omega)]
        rfl)
      refine q_setL (j := c.getD j 0) hb3 (ev_op (ev_var rfl) (ev_var rfl) (rv_ixL (K := K) (sq_of hb3) (atI_nat lastv))) (ev_var rfl) (ev_var rfl) (by rw [nv_len]; exact xl) fun H4 e4 => ?_
      have es2 : (nv (sby c (j + 1))).set (c.getD j 0) (V.int (((sby c (j + 1)).getD j 0 : Nat) : Int)) = nv ((sby c (j + 1)).set (c.getD j 0) ((sby c (j + 1)).getD j 0)) := by rw [nv_eq, nv_eq, List.map_set]
      rw [es2]
      have l7 : (nv ((sby c (j + 1)).set (c.getD j 0) ((sby c (j + 1)).getD j 0))).length = j + 1 := by rw [nv_len, List.length_set, si]
      refine s_pop0 (xs := nv ((sby c (j + 1)).set (c.getD j 0) ((sby c (j + 1)).getD j 0))) (y := (nv ((sby c (j + 1)).set (c.getD j 0) ((sby c (j + 1)).getD j 0))).getD j .non) upd_same ?_ (ev_var rfl) fun H8 e8 => ⟨q2, _, _, rfl, ?_, nq2', q2b, ?_, ?_⟩
      · exact last_some l7
      · exact Ex.mut ((Ex.mut (e13.trans e4) fb).trans e8) fb
      · rw [upd_same, show c.length - (i + 1) = j by omega]
        congr 2
        rw [nv_eq, ← List.map_dropLast, t3, ← nv_eq]
      · rw [upd_ne q2b, show c.length - (i + 1) = j by omega]
        refine e8 q2 _ ?_
        rw [upd_ne q2b]
        exact e4 q2 _ hq3
    · rintro σ' H' ⟨q, y3, y4, rfl, e, nq, qb, hb', hq'⟩
      rw [Nat.sub_self, List.drop_zero] at hq'
      exact s_ret (ev_var rfl) fun H2 e2 => k q H2 nq (e.trans e2) (e2 q _ hq')
end


local macro_rules | `(tactic| walk_at "call") => `(tactic| (with_reducible exact sv_whole))
local macro_rules | `(tactic| walk_at "call") => `(tactic| ((with_reducible refine' sv_order ?c1 ?c2); (case c1 => assumption); (case c2 => assumption)))
local macro_rules | `(tactic| walk_at "call") => `(tactic| ((with_reducible refine' sv_ord ?c1 ?c2); (case c1 => assumption); (case c2 => assumption)))

/-! ### _law_tables -/
def Fh (rs : List (List Nat)) (i : Nat) : List (List Nat) := rs.filter fun r => decide (r.headD 0 < i)
theorem fh_same {rs : List (List Nat)} {i : Nat} (h : ∀ r ∈ rs, r.headD 0 ≠ i) : Fh rs (i + 1) = Fh rs i := by
  unfold Fh
  refine List.filter_congr fun r hr => ?_
  have := h r hr
  rw [Bool.eq_iff_iff, decide_eq_true_iff, decide_eq_true_iff]
  omega
theorem fh_next : ∀ {rs : List (List Nat)} {r : List Nat}, (rs.map (·.headD 0)).Pairwise (· < ·) → r ∈ rs → Fh rs (r.headD 0 + 1) = Fh rs (r.headD 0) ++ [r]
  | s :: l, r, h, hr => by
    rw [List.map_cons, List.pairwise_cons] at h
    rcases List.mem_cons.mp hr with rfl | hr
    · have no : ∀ x ∈ l, r.headD 0 < x.headD 0 := fun x hx => h.1 _ (List.mem_map.mpr ⟨x, hx, rfl⟩)
      unfold Fh
      rw [List.filter_cons, if_pos (by rw [decide_eq_true_iff]; omega), List.filter_cons, if_neg (by rw [decide_eq_true_iff]; omega)]
      rw [List.filter_eq_nil_iff.mpr fun x hx => by have := no x hx; rw [decide_eq_true_iff]; omega, List.filter_eq_nil_iff.mpr fun x hx => by have := no x hx; rw [decide_eq_true_iff]; omega]
      rfl
    · have lt : s.headD 0 < r.headD 0 := h.1 _ (List.mem_map.mpr ⟨r, hr, rfl⟩)
      have ih := fh_next h.2 hr
      unfold Fh at ih ⊢
      rw [List.filter_cons, if_pos (by rw [decide_eq_true_iff]; omega), List.filter_cons, if_pos (by rw [decide_eq_true_iff]; omega), ih]
      rfl
theorem fh_all {rs : List (List Nat)} {n : Nat} (h : ∀ r ∈ rs, r.headD 0 < n) : Fh rs n = rs := List.filter_eq_self.mpr fun r hr => by rw [decide_eq_true_iff]; exact h r hr
theorem fh_zero (rs : List (List Nat)) : Fh rs 0 = [] := List.filter_eq_nil_iff.mpr fun r _ => by rw [decide_eq_true_iff]; omega
theorem Rings.head_lt {h : List Nat} {rs : List (List Nat)} (R : Rings h rs) {r : List Nat} (hr : r ∈ rs) : r.headD 0 < h.length := by
  have := head_mem (R.rg r hr).ne
  exact List.mem_range.mp (R.all.mem_iff.mp (List.mem_flatten.mpr ⟨r, hr, this⟩))
theorem Rings.seen {h : List Nat} {rs : List (List Nat)} (R : Rings h rs) {i : Nat} (hi : i < h.length) : (i ∈ (Fh rs i).flatten ∧ ∀ r ∈ rs, r.headD 0 ≠ i) ∨ (i ∉ (Fh rs i).flatten ∧ ∃ r ∈ rs, r.headD 0 = i) := by
  obtain ⟨r, hr, hx⟩ := List.mem_flatten.mp (R.all.mem_iff.mpr (List.mem_range.mpr hi))
  have lo := R.low r hr i hx
  rcases Nat.lt_or_ge (r.headD 0) i with lt | ge
  · refine .inl ⟨List.mem_flatten.mpr ⟨r, List.mem_filter.mpr ⟨hr, by rw [decide_eq_true_iff]; exact lt⟩, hx⟩, fun s hs e => ?_⟩
    have sm : i ∈ s := by
      rw [← e]
      exact head_mem (R.rg s hs).ne
    have := nodup_flat R.nodup hr hs hx sm
    subst this
    omega
  · refine .inr ⟨fun z => ?_, r, hr, by omega⟩
    obtain ⟨s, hs, hs2⟩ := List.mem_flatten.mp z
    obtain ⟨hs1, hs3⟩ := List.mem_filter.mp hs
    have := nodup_flat R.nodup hr hs1 hx hs2
    subst this
    rw [decide_eq_true_iff] at hs3
    omega
theorem el_cat2 {K : PySem.W.Frag} {σ : L2.St} {H : Hp} {ta tb : TE} {a b : Addr} {xs ys : List V} (ha : Ev ta σ H (.ref a)) (hb : Ev tb σ H (.ref b)) (hx : H a = some (.lst xs)) (hy : H b = some (.lst ys)) (hl : xs.length + ys.length ≤ 100000) : EvL (tOp rCat ta tb) σ H (xs ++ ys) := fun H1 e Q q =>
  ha H1 e _ fun H2 e2 => hb H2 (e.trans e2) _ fun H3 e3 =>
    ⟨a, b, xs, ys, rfl, rfl, (e.trans (e2.trans e3)) a _ hx, (e.trans (e2.trans e3)) b _ hy, sz_of hl, fun l hl' => q l _ (fresh_back (e2.trans e3) hl') ((e2.trans e3).trans (Ex.new hl')) upd_same⟩
theorem sub_flat {s l : List (List Nat)} (h : s.Sublist l) : s.flatten.length ≤ l.flatten.length := by
  induction h with
  | slnil => exact Nat.le_refl _
  | cons a _ ih => rw [List.flatten_cons, List.length_append]; omega
  | cons_cons a _ ih => rw [List.flatten_cons, List.flatten_cons, List.length_append, List.length_append]; omega
theorem fh_len {h : List Nat} {rs : List (List Nat)} (R : Rings h rs) (i : Nat) : (Fh rs i).flatten.length ≤ h.length := by
  have s : (Fh rs i).Sublist rs := List.filter_sublist
  have := sub_flat s
  have e := R.all.length_eq
  rw [List.length_range] at e
  omega
theorem fh_num {h : List Nat} {rs : List (List Nat)} (R : Rings h rs) (i : Nat) : (Fh rs i).length ≤ h.length := by
  have s : (Fh rs i).Sublist rs := List.filter_sublist
  have l1 := s.length_le
  have e := R.all.length_eq
  rw [List.length_range] at e
  have : rs.length ≤ rs.flatten.length := by
    have ne : ∀ r ∈ rs, 1 ≤ r.length := fun r hr => (R.rg r hr).ne
    clear R e l1 s
    induction rs with
    | nil => exact Nat.le_refl _
    | cons x l ih =>
      have a := ih fun r hr => ne r (by simp [hr])
      have b := ne x (by simp)
      rw [List.flatten_cons, List.length_append, List.length_cons]
      omega
  omega
theorem q_parL1 {σ : L2.St} {H : Hp} {ta tb : TE} {D : Ends} {tz : TS} {i j : Nat} {xs : List V} {y : V} (ha : EvL ta σ H xs) (hb : ∀ H1, Ex H H1 → Ev tb σ H1 y) (k : ∀ p H1, H p = none → Ex H H1 → H1 p = some (.lst xs) → tz D ((σ.set i (some (.ref p))).set j (some y)) H1) :
    tSeq (tPar i j (tCons ta (tCons tb tNil))) tz D σ H := ha H (Ex.refl H) _ fun p H1 hp e1 h1 => hb H1 e1 H1 (Ex.refl _) _ fun H2 e2 => ⟨_, _, rfl, k p H2 hp (e1.trans e2) (e2 p _ h1)⟩
theorem take_next {α : Type} {l : List α} {i : Nat} {x : α} (h : l[i]? = some x) : l.take (i + 1) = l.take i ++ [x] := by
  rw [List.take_add_one, h]
  rfl
theorem Rings.short {h : List Nat} {rs : List (List Nat)} (R : Rings h rs) {r : List Nat} (hr : r ∈ rs) : r.length ≤ h.length := by
  have e := R.all.length_eq
  rw [List.length_range] at e
  have := (List.sublist_flatten_of_mem hr).length_le
  omega
def sp_law_tables : Sp := fun vs H Q _ => ∃ (a : Addr) (h : List Nat) (rs : List (List Nat)), vs = [.ref a] ∧ H a = some (.lst (nv h)) ∧ h.length ≤ 20 ∧ Rings h rs ∧ (∀ p ws H2, H p = none → Ex H H2 → H2 p = some (.lst ws) → TL H2 ws (rs.map nv) → Q (.ref p) H2)
theorem elt_law_tables {σ : L2.St} {H : Hp} {ta : TE} {E : XK} {a : Addr} {h : List Nat} {rs : List (List Nat)} (ea : Ev ta σ H (.ref a)) (ha : H a = some (.lst (nv h))) (hl : h.length ≤ 20) (R : Rings h rs) : EvLT (tCall sp_law_tables [] E (tCons ta tNil)) σ H (rs.map nv) := fun H1 e Q q =>
  ea H1 e _ fun H2 e2 => ⟨a, h, rs, rfl, (e.trans e2) a _ ha, hl, R, fun p ws H3 np e3 hp t => q p ws H3 (fresh_back e2 np) (e2.trans e3) hp t⟩
section
variable {P : Program} {w : World} {K : PySem.W.Frag} {mg : Str → Option Value} {base : Heap}
theorem ok_law_tables (T : Tx K mg) : FnOk P w K mg base CX0 1 T.f_law_tables T.d_law_tables ["some"] sp_law_tables := by
  refine T.F_law_tables.ok sc_law_tables (fun vs H Q E h => ?_) (fun cdv A outer s H vs Q E hr h => ?_)
  · obtain ⟨a, h, rs, rfl, _⟩ := h
    rfl
  · obtain ⟨a, h, rs, rfl, ha, h20, R, k⟩ := h
    refine ⟨_, (pss_cons (ps_par (i := 1) (j := 2) (by rfl) sc_law_tables.nd rfl rfl (by decide) rfl rfl (pa_cons (pe_lst pa_nil) (pa_cons (pe_lst pa_nil) pa_nil)) (by rfl))
      (pss_cons (ps_for PassesOwn.never rfl (pi_range1 (by rfl) T.m_range (pa_cons (pe_callB call_lenR (by rfl) T.m_len (by decide +kernel) (pa_cons (pv 0) pa_nil)) pa_nil)) (pg_name (i := 3) sc_law_tables.nd rfl (Or.inl rfl)) (pss_one (ps_if (pt_cmpR op_notIn_seq (pv 3) (pv 1) (by rfl)) (pss_cons (ps_par (i := 4) (j := 5) (by rfl) sc_law_tables.nd rfl rfl (by decide) rfl rfl (pa_cons (pe_lst (pa_cons (pv 3) pa_nil)) (pa_cons (pe_ix ix_list (pv 0) (pv 3) (fun _ _ => rfl)) pa_nil)) (by rfl))
      (pss_cons (ps_while PassesOwn.never (pt_cmpR op_ne (pv 5) (pv 3) (nomark _)) (pss_cons (ps_expr (pe_bm PySem.F.plainAttrs_list PySem.F.slot_list_append PySem.F.type_list_append mt_append (pv 4) (pa_cons (pv 5) pa_nil)))
      (pss_one (ps_set (i := 5) sc_law_tables.nd rfl (Or.inl rfl) (pe_ix ix_list (pv 0) (pv 5) (fun _ _ => rfl))))))
      (pss_cons (ps_set (i := 1) sc_law_tables.nd rfl (Or.inl rfl) (pe_op op_cat (pv 1) (pv 4)))
      (pss_one (ps_expr (pe_bm PySem.F.plainAttrs_list PySem.F.slot_list_append PySem.F.type_list_append mt_append (pv 2) (pa_cons (pe_callTy call_tupR (by rfl) T.m_tuple (by decide +kernel) (pa_cons (pv 4) pa_nil)) pa_nil))))))) pss_nil)))
      (pss_one (ps_ret (pv 2))))), ?_⟩
    refine q_parL2 (xs := nv []) (ys := []) (el_lst ea_nil (Nat.le_of_ble_eq_true rfl)) (el_lst ea_nil (Nat.le_of_ble_eq_true rfl)) fun s0 f H1 fs0 ff sf e1 hs0 hf => ?_
    have sa : s0 ≠ a := fun z => by
      rw [z, ha] at fs0
      cases fs0
    have fa : f ≠ a := fun z => by
      rw [z, ha] at ff
      cases ff
    have len : Ev (tCB (rLenS K) (tCons (tVar 0) tNil)) [some (.ref a), some (.ref s0), some (.ref f), none, none, none] H1 (.int (h.length : Int)) := ev_is (ev_len (K := K) (ev_var (i := 0) rfl) (sq_of (e1 a _ ha))) (by rw [nv_len])
    refine q_forR1 (n := (h.length : Int)) (ea_cons len ea_nil) ⟨by omega, by omega⟩ (fun i σ' H' => ∃ (s : Addr) (ws : List V) (y3 y4 y5 : Option V), σ' = [some (.ref a), some (.ref s), some (.ref f), y3, y4, y5] ∧ Ex H H' ∧ s ≠ f ∧ H' s = some (.lst (nv (Fh rs i).flatten)) ∧ H' f = some (.lst ws) ∧ TL (Hm f H') ws ((Fh rs i).map nv))
      (fun H2 e2 => ⟨s0, [], none, none, none, rfl, e1.trans e2, sf, by rw [fh_zero]; exact e2 s0 _ hs0, e2 f _ hf, by rw [fh_zero]; exact .nil⟩) ?_ ?_
    · rintro i σ' H' hi ⟨s, ws, y3, y4, y5, rfl, e, nsf, hs, hf', ht⟩
      have hi' : i < h.length := by omega
      have fl := fh_len R i
      have fn := fh_num R i
      have wl : ws.length = (Fh rs i).length := by rw [ht.len, List.length_map]
      refine s_when (b := decide (i ∉ (Fh rs i).flatten)) (et_is (et_test (ev_op (ev_var rfl) (ev_var rfl) (rv_niL (K := K) (sq_of hs) rfl (nv_flat _)))) (by rw [nv_in, Bool.eq_iff_iff, Bool.not_eq_true', decide_eq_false_iff_not, decide_eq_true_iff])) (fun hb H2 e2 => ?_) fun hb H2 e2 => ?_
      · have hb := of_decide_eq_true hb
        obtain ⟨r, hr, hd⟩ : ∃ r ∈ rs, r.headD 0 = i := by
          rcases R.seen hi' with z | z
          · exact absurd z.1 hb
          · exact z.2
        have G := R.rg r hr
        have rl : r.length ≤ h.length := R.short hr
        have r0 : r[0]? = some i := by
          have ne := G.ne
          cases r with
          | nil => simp at ne
          | cons x l => rw [← hd]; rfl
        have hat : ∀ t, t < r.length → ∃ x y, r[t]? = some x ∧ r[(t + 1) % r.length]? = some y ∧ h[x]? = some y := G.st
        obtain ⟨x0, y0, hx0, hy0, hh0⟩ := hat 0 G.ne
        rw [r0] at hx0
        cases hx0
        refine q_parL1 (xs := nv [i]) (y := .int (y0 : Int)) (el_lst (ea_cons (ev_var rfl) ea_nil) (Nat.le_of_ble_eq_true rfl)) (fun H3 e3 => ev_op (ev_var rfl) (ev_var rfl) (rv_ixL (K := K) (sq_of ((e.trans (e2.trans e3)) a _ ha)) (atI_nat (nv_get hh0)))) fun tb H3 ntb e3 htb => ?_
        have e23 := e2.trans e3
        have ta' : tb ≠ a := fun z => by
          rw [z, e2 a _ (e a _ ha)] at ntb
          cases ntb
        have tbs : tb ≠ s := fun z => by
          rw [z, e2 s _ hs] at ntb
          cases ntb
        have tbf : tb ≠ f := fun z => by
          rw [z, e2 f _ hf'] at ntb
          cases ntb
        have ntb' := fresh_back e2 ntb
        refine q_while (fun mm σ' H4 => ∃ (t : Nat) (x : Nat), σ' = [some (.ref a), some (.ref s), some (.ref f), some (.int (i : Int)), some (.ref tb), some (.int (x : Int))] ∧ 1 ≤ t ∧ t ≤ r.length ∧ r[t % r.length]? = some x ∧ Ex H' H4 ∧ H4 tb = some (.lst (nv (r.take t))) ∧ mm = r.length - t) (r.length - 1) ⟨1, y0, rfl, Nat.le_refl _, G.ne, by simpa using hy0, e23, by
          have : r.take 1 = [i] := by
            rw [List.take_add_one, r0]
            rfl
          rw [this]
          exact htb, rfl⟩ ?_
        rintro mm σ' H4 ⟨t, x, rfl, t1, tl, hx, e4, htb4, rfl⟩
        have stop : x = i ↔ t = r.length := by
          constructor
          · intro z
            rcases Nat.lt_or_ge t r.length with lt | ge
            · rw [Nat.mod_eq_of_lt lt, z] at hx
              have ee : r[t]? = r[0]? := hx.trans r0.symm
              have := (List.getElem?_inj lt G.nd).mp ee
              omega
            · omega
          · intro z
            rw [z, Nat.mod_self, r0] at hx
            exact (Option.some.inj hx).symm
        refine ⟨decide (x ≠ i), et_is (et_test (ev_op (ev_var rfl) (ev_var rfl) (rv_ne rfl))) ?_, fun hb2 H5 e5 => ?_, fun hb2 H5 e5 => ?_⟩
        · rw [Bool.eq_iff_iff]
          simp only [Bool.not_eq_true', decide_eq_false_iff_not, decide_eq_true_eq]
          exact ⟨fun h1 h2 => h1 (by rw [h2]), fun h1 h2 => h1 (by have := V.int.inj h2; omega)⟩
        · have ne := of_decide_eq_true hb2
          have lt : t < r.length := by
            rcases Nat.lt_or_ge t r.length with lt | ge
            · exact lt
            · exact absurd (stop.mpr (by omega)) ne
          rw [Nat.mod_eq_of_lt lt] at hx
          obtain ⟨x1, y1, hx1, hy1, hh1⟩ := hat t lt
          rw [hx] at hx1
          cases hx1
          refine ⟨fun σ2 H6 => σ2 = [some (.ref a), some (.ref s), some (.ref f), some (.int (i : Int)), some (.ref tb), some (.int (y1 : Int))] ∧ Ex H' H6 ∧ H6 tb = some (.lst (nv (r.take (t + 1)))), fun σ2 H6 ⟨q1, q2, q3⟩ => ⟨r.length - (t + 1), by omega, t + 1, y1, q1, by omega, lt, hy1, q2, q3, rfl⟩, ?_⟩
          refine q_app (xs := nv (r.take t)) (e5 tb _ htb4) (ev_var rfl) (ev_var rfl) (by rw [nv_len, List.length_take]; omega) fun H6 e6 => ?_
          have eX : Ex H' (upd H6 tb (.lst (nv (r.take t) ++ [.int (x : Int)]))) := Ex.mut (e4.trans (e5.trans e6)) ntb'
          refine s_asg (v := .int (y1 : Int)) (ev_op (ev_var rfl) (ev_var rfl) (rv_ixL (K := K) (sq_of (eX a _ (e a _ ha))) (atI_nat (nv_get hh1)))) fun H7 e7 => ⟨rfl, eX.trans e7, e7 tb _ ?_⟩
          rw [upd_same, take_next hx, nv_app]
          rfl
        · have eq : t = r.length := stop.mp (by simpa using hb2)
          rw [eq, List.take_of_length_le (Nat.le_refl _)] at htb4
          have e45 := e4.trans e5
          have es : nv ((Fh rs i).flatten) ++ nv r = nv (Fh rs (i + 1)).flatten := by
            rw [← hd, fh_next R.asc hr, List.flatten_append, nv_app]
            simp
          have fl2 := fh_len R (i + 1)
          have nl := congrArg List.length es
          rw [List.length_append, nv_len, nv_len, nv_len] at nl
          have cc := el_cat2 (K := K) (σ := [some (.ref a), some (.ref s), some (.ref f), some (.int (i : Int)), some (.ref tb), some (.int (x : Int))]) (H := H5) (ta := tVar 1) (tb := tVar 4) (a := s) (b := tb) (ev_var (i := 1) rfl) (ev_var (i := 4) rfl) (e45 s _ hs) (e5 tb _ htb4) (by rw [nv_len, nv_len]; omega)
          rw [es] at cc
          refine q_asgL cc fun s2 H6 ns2 e6 hs2 => ?_
          have hf6 := (e45.trans e6) f _ hf'
          have s2f : s2 ≠ f := fun z => by
            rw [z, e45 f _ hf'] at ns2
            cases ns2
          refine s_appU (xs := ws) (ys := nv r) hf6 (ev_var rfl) (eu_tupOf (ev_var rfl) (sq_of ((e5.trans e6) tb _ htb4))) (by omega) fun c H7 nc e7 hc => ?_
          have cf : c ≠ f := fun z => by
            rw [z, hf6] at nc
            cases nc
          refine ⟨s2, ws ++ [.ref c], _, _, _, rfl, Ex.mut (e.trans (e45.trans (e6.trans e7))) ff, s2f, ?_, upd_same, ?_⟩
          · rw [upd_ne s2f]
            exact e7 s2 _ hs2
          · rw [← hd, fh_next R.asc hr, List.map_append, hd]
            refine TL.app ⟨c, rfl, ?_⟩ (TL.ex (fun y o hy => ?_) ht)
            · unfold Hm
              rw [if_neg cf, upd_ne cf]
              exact hc
            · unfold Hm at hy ⊢
              split at hy
              · cases hy
              · rename_i ne
                rw [if_neg ne, upd_ne ne]
                exact e7 y _ (e6 y _ (e45 y _ hy))
      · have hb : i ∈ (Fh rs i).flatten := by simpa using hb
        have no : ∀ r ∈ rs, r.headD 0 ≠ i := by
          rcases R.seen hi' with z | z
          · exact z.2
          · exact absurd hb z.1
        refine ⟨s, ws, _, _, _, rfl, e.trans e2, nsf, ?_, e2 f _ hf', ?_⟩
        · rw [fh_same no]
          exact e2 s _ hs
        · rw [fh_same no]
          exact TL.ex (hm_mono e2) ht
    · rintro σ' H' ⟨s, ws, y3, y4, y5, rfl, e, nsf, hs, hf', ht⟩
      rw [Int.toNat_natCast, fh_all fun r hr => R.head_lt hr] at ht
      exact s_ret (ev_var rfl) fun H2 e2 => k f ws H2 ff (e.trans e2) (e2 f _ hf') (TL.ex (hm_sub.trans e2) ht)
end


local macro_rules | `(tactic| walk_at "call") => `(tactic| (with_reducible exact sv_whole))
local macro_rules | `(tactic| walk_at "call") => `(tactic| ((with_reducible refine' sv_order ?c1 ?c2); (case c1 => assumption); (case c2 => assumption)))
local macro_rules | `(tactic| walk_at "call") => `(tactic| ((with_reducible refine' sv_ord ?c1 ?c2); (case c1 => assumption); (case c2 => assumption)))

theorem it_gen {J : It} {n : Nat} {G : Hp → Prop} {Y : Nat → Hp → V → Hp → Prop} (w : Walk J n G Y) {S : Hp} {Qd : Hp → Prop} {B : (Hp → Prop) → V → Hp → Prop} (Pv : Nat → Hp → Prop) (h0 : Pv 0 S) (hG : ∀ i H, i ≤ n → Pv i H → G H)
    (hs : ∀ i x H H', i < n → Pv i H → Y i H x H' → B (Pv (i + 1)) x H') (hd : ∀ H, Pv n H → Qd H) :
    ∃ W : Nat → Nat → Hp → Prop, (∃ m, W 0 m S) ∧ ∀ i m H, W i m H →
      (J.stop i H ∧ Qd H) ∨ (J.go i H ∧ ∃ Nx : Hp → Prop, (∀ H', Nx H' → ∃ m', m' < m ∧ W (i + 1) m' H') ∧ ∀ x H', J.yld i H x H' → B Nx x H') := by
  refine ⟨fun i m H => m = n - i ∧ i ≤ n ∧ Pv i H, ⟨n, by simp, Nat.zero_le _, h0⟩, ?_⟩
  rintro i m H ⟨rfl, hi, p⟩
  have q := hG i H hi p
  by_cases hlt : i < n
  · exact .inr ⟨w.goes i H hlt q, Pv (i + 1), fun H' p' => ⟨n - (i + 1), by omega, rfl, hlt, p'⟩, fun x H' y => hs i x H H' hlt p (w.yields i H x H' hlt q y)⟩
  · have e : i = n := by omega
    subst e
    exact .inl ⟨w.stops H q, hd H p⟩
theorem flatV_next {rs : List (List V)} {i : Nat} {r : List V} (h : rs[i]? = some r) : (rs.take (i + 1)).flatten = (rs.take i).flatten ++ r := by
  rw [take_next h, List.flatten_append]
  simp
theorem flat_nv : ∀ rs : List (List Nat), (rs.map nv).flatten = nv rs.flatten
  | [] => rfl
  | r :: l => by rw [List.map_cons, List.flatten_cons, flat_nv l, List.flatten_cons, nv_app]

theorem lead_val {r : List Nat} (ne : 0 < r.length) : ∃ (x : Nat) (l : List Int), iz r = (x : Int) :: l ∧ r[0]? = some x ∧ decide (V.int (x : Int) = V.int (l.foldl min (x : Int))) = leads r := by
  cases r with
  | nil => simp at ne
  | cons x l =>
    refine ⟨x, iz l, rfl, rfl, ?_⟩
    obtain ⟨h1, h2⟩ := foldl_min_spec (iz l) (x : Int)
    rw [dec_int]
    unfold leads
    rw [Bool.eq_iff_iff]
    simp only [beq_iff_eq, decide_eq_true_eq]
    constructor
    · intro e y hy
      show x ≤ y
      have := h2 (y : Int) (by
        rcases List.mem_cons.mp hy with q | q
        · rw [q]; simp
        · exact List.mem_cons_of_mem _ (List.mem_map.mpr ⟨y, q, rfl⟩))
      omega
    · intro hle
      have a := h2 (x : Int) (by simp)
      have b : ∀ z ∈ (x : Int) :: iz l, (x : Int) ≤ z := fun z hz => by
        rcases List.mem_cons.mp hz with q | q
        · omega
        · obtain ⟨y, hy, rfl⟩ := List.mem_map.mp q
          have : x ≤ y := hle y (by simp [hy])
          omega
      have := b _ h1
      omega

/-! ### is_table, are_tables, seating_of -/
section
variable {K : PySem.W.Frag} {σ : L2.St} {H H' : Hp} {ta tb te tl : TE} {t : TT}
theorem el_lcT {a : Addr} {xs : List V} {tl : TE} {j : Nat} {vs : List Nat} (f : Nat → Bool) (v : Nat → V) (h : Ev tl σ H (.ref a)) (hx : SqT K H a xs) (hz : xs.length ≤ 40000) (hw : ∀ x, wipe ((wipe σ vs).set j (some x)) vs = wipe σ vs)
    (ht : ∀ (i : Nat) (x : V) H1, Ex H H1 → xs[i]? = some x → EvT t ((wipe σ vs).set j (some x)) H1 (f i)) (he : ∀ (i : Nat) (x : V) H1, Ex H H1 → xs[i]? = some x → f i = true → Ev te ((wipe σ vs).set j (some x)) H1 (v i)) : EvL (tLc (iTup K tl) (gName j) t te vs) σ H (given xs.length f v) := fun H0 e Q q => h H0 e _ fun H1 e1 =>
  ⟨a, rfl, ⟨xs, ex_t (e.trans e1) hx⟩, fun Dl hD => lc_tup (xs := xs) (Cw H1 f v Dl) ⟨hD, Ex.new hD, upd_same⟩ (fun i H' _ p => ex_t ((e.trans e1).trans p.2.1) hx)
    (fun i x H' hi p => ⟨hw x, cw_turn p (by have := (List.getElem?_eq_some_iff.mp hi).1; omega) (ht i x H1 (e.trans e1) hi) (fun hf => he i x H1 (e.trans e1) hi hf)⟩) (fun H' p => q Dl H' (fresh_back e1 p.1) (e1.trans p.2.1) p.2.2)⟩
/-- a call whose argument is a new list -/
theorem ev_call1L {sp : Sp} {dvs xs : List V} {v : V} {E : XK} (h : EvL te σ H xs) (hs : ∀ p H1, Ex H H1 → H1 p = some (.lst xs) → SpV sp ([.ref p] ++ dvs) H1 v) : Ev (tCall sp dvs E (tCons te tNil)) σ H v := fun H1 e Q q =>
  h H1 e _ fun p H2 _ e2 h2 => hs p H2 (e.trans e2) h2 H2 (Ex.refl _) Q (fun H3 e3 => q H3 (e2.trans e3)) E
theorem el_call1L {sp : Sp} {dvs xs ys : List V} {E : XK} (h : EvL te σ H xs) (hs : ∀ p H1, Ex H H1 → H1 p = some (.lst xs) → SpL sp ([.ref p] ++ dvs) H1 ys) : EvL (tCall sp dvs E (tCons te tNil)) σ H ys := fun H1 e Q q =>
  h H1 e _ fun p H2 _ e2 h2 => hs p H2 (e.trans e2) h2 H2 (Ex.refl _) Q (fun l H3 hl e3 h3 => q l H3 (fresh_back e2 hl) (e2.trans e3) h3) E
end
def sp_is_table : Sp := fun vs H Q _ => ∃ (b : Addr) (r : List Nat), vs = [.ref b] ∧ H b = some (.tup (nv r)) ∧ 0 < r.length ∧ r.length ≤ 20 ∧ leads r = true ∧ RetV (.bl true) H Q
theorem sv_table {H : Hp} {b : Addr} {r : List Nat} (hb : H b = some (.tup (nv r))) (ne : 0 < r.length) (hl : r.length ≤ 20) (lo : leads r = true) : SpV sp_is_table ([.ref b] ++ []) H (.bl true) := fun H1 e Q q E => ⟨b, r, rfl, e b _ hb, ne, hl, lo, q⟩
theorem Rings.leads {h : List Nat} {rs : List (List Nat)} (R : Rings h rs) {r : List Nat} (hr : r ∈ rs) : leads r = true := decide_eq_true (R.low r hr)
def sp_are_tables : Sp := fun vs H Q _ => ∃ (a : Addr) (ws : List V) (rs : List (List Nat)) (h : List Nat), vs = [.ref a] ∧ H a = some (.lst ws) ∧ TL H ws (rs.map nv) ∧ Rings h rs ∧ Ord h ∧ RetV (.bl true) H Q
theorem sv_tables {H : Hp} {a : Addr} {ws : List V} {rs : List (List Nat)} {h : List Nat} (ha : H a = some (.lst ws)) (ht : TL H ws (rs.map nv)) (R : Rings h rs) (o : Ord h) : SpV sp_are_tables ([.ref a] ++ []) H (.bl true) := fun H1 e Q q E => ⟨a, ws, rs, h, rfl, e a _ ha, ht.ex e, R, o, q⟩
/-- [x for t in ts for x in t], ts an old list of tuples -/
theorem el_lc2O {K : PySem.W.Frag} {σ : L2.St} {H : Hp} {tl : TE} {j l : Nat} {vs vs1 : List Nat} {a : Addr} {ws : List V} {rs : List (List V)} (h : Ev tl σ H (.ref a)) (ha : H a = some (.lst ws)) (ht : TL H ws rs) (hz : rs.flatten.length ≤ 40000)
    (hw : ∀ x, wipe ((wipe σ vs).set j (some x)) vs = wipe σ vs) (hj : ∀ x, ((wipe σ vs).set j (some x))[j]? = some (some x))
    (hw1 : ∀ x y, wipe ((wipe ((wipe σ vs).set j (some x)) vs1).set l (some y)) vs1 = wipe ((wipe σ vs).set j (some x)) vs1) (hl : ∀ x y, ((wipe ((wipe σ vs).set j (some x)) vs1).set l (some y))[l]? = some (some y)) :
    EvL (tLc2 (iList K tl) (gName j) tYes (iTup K (tVar j)) (gName l) tYes (tVar l) vs vs1) σ H rs.flatten := fun H0 e Q q => h H0 e _ fun H1 e1 => ⟨a, rfl, ⟨ws, sq_of (e1 a _ (e a _ ha))⟩, fun Dl hD => by
  have ht := ht.ex (e.trans e1)
  have h1 := e1 a _ (e a _ ha)
  have hlen := ht.len
  refine it_gen walk_list (fun i H' => Ex H1 H' ∧ H' Dl = some (.lst (rs.take i).flatten)) ⟨Ex.new hD, upd_same⟩ (fun i H' _ p => sq_of (p.1 a _ h1)) ?_ fun H' p => ?_
  · rintro i x Hh H' hi ⟨p1, p2⟩ ⟨rfl, hx⟩
    obtain ⟨b, r, rfl, hb, hr⟩ := ht.get hx
    have hlr : (rs.take (i + 1)).flatten.length ≤ 40000 := by
      have : (rs.take (i + 1)).flatten.length ≤ rs.flatten.length := by
        conv => rhs; rw [← List.take_append_drop (i + 1) rs, List.flatten_append, List.length_append]
        omega
      omega
    rw [flatV_next hr, List.length_append] at hlr
    refine ⟨hw _, ?_⟩
    simp only [tYes, ↓reduceIte]
    refine ⟨.ref b, hj _, b, rfl, ⟨r, st_of (p1 b _ hb)⟩, ?_⟩
    refine it_gen (walk_tup (K := K) (a := b) (xs := r)) (fun m H2 => Ex H1 H2 ∧ H2 Dl = some (.lst ((rs.take i).flatten ++ r.take m))) ⟨p1, by rw [p2]; simp⟩ (fun m H2 _ p => st_of (p.1 b _ hb)) ?_ fun H2 p => ?_
    · rintro m y H2 H3 hm ⟨p3, p4⟩ ⟨rfl, hy⟩
      refine ⟨hw1 _ _, ?_⟩
      simp only [tYes, ↓reduceIte]
      refine ⟨y, hl _ _, _, p4, sz_lt (by rw [List.length_append, List.length_take]; omega), Ex.mut p3 hD, ?_⟩
      rw [upd_same, take_next hy, List.append_assoc]
    · obtain ⟨p3, p4⟩ := p
      refine ⟨p3, ?_⟩
      rw [p4, flatV_next hr, List.take_of_length_le (Nat.le_refl _)]
  · obtain ⟨p1, p2⟩ := p
    rw [hlen, List.take_of_length_le (Nat.le_refl _)] at p2
    exact q Dl H' (fresh_back e1 hD) (e1.trans p1) p2⟩
section
variable {P : Program} {w : World} {K : PySem.W.Frag} {mg : Str → Option Value} {base : Heap}
theorem ok_is_table (T : Tx K mg) : FnOk P w K mg base CX0 2 T.f_is_table T.d_is_table ["thing"] sp_is_table := by
  refine T.F_is_table.ok sc_is_table (fun vs H Q E h => ?_) (fun cdv A outer s H vs Q E hr h => ?_)
  · obtain ⟨b, r, rfl, _⟩ := h
    rfl
  · obtain ⟨b, r, rfl, hb, ne, hl, lo, k⟩ := h
    refine ⟨_, (pss_cons (ps_if (PW.pt (pw_or (pt_cmpR (op_neTyS (hu_of hr)) (pe_typeOf (by rfl) T.m_type (pv 0)) (pe_bltn (v := .ty "tuple") (by rfl) T.m_tuple (by decide +kernel) rfl) (nomark _)) (pw_or1 (pt_cmpR op_eq (pe_callB call_lenR (by rfl) T.m_len (by decide +kernel) (pa_cons (pv 0) pa_nil)) pe_int (nomark _))))) (pss_one (ps_ret pe_bl)) pss_nil)
      (pss_one (ps_ret (pe_and (pe_callB (cr_all rfl) (by rfl) T.m_all (by decide +kernel) (pa_cons (pe_lc (own := [("guest", 1)]) (g := (gName 1)) (tt := tYes) rfl sc_is_table.nd (pi_tup (pv 0)) (blkOk_by (own := [("guest", 1)]) (N := n_is_table) (sc := defScope s_is_table) (by decide +kernel)) (fun _ _ _ _ _ => (pg_name (i := 1) sc_is_table.nd rfl (Or.inl rfl))) (fun _ _ _ _ _ => pts_nil) (fun _ _ _ _ _ => (pe_call (ok_is_whole T) (hr.mono (by decide)) (by rfl) T.g_is_whole T.F_is_whole.kp T.b_is_whole .nil pass0 (pa_cons (pv 1) pa_nil)))) pa_nil)) (pe_one (pe_cmpR op_eq (pe_ix ix_tup (pv 0) pe_int (fun _ _ => rfl)) (pe_callB (id := "min") (r := rMinT K) (cr_minT rfl (hu_of hr)) (by rfl) T.m_min (by decide +kernel) (pa_cons (pv 0) pa_nil)) (nomark _))))))), ?_⟩
    refine q_when (b := false) (et_is (et_or (et_test (ev_op (ev_typeT (ev_var rfl) hb) ev_c (rv_neTyS PySem.TypeEq.meta_tuple))) fun _ => et_test (ev_op (ev_lenT (K := K) (ev_var rfl) (st_of hb)) ev_c (rv_eq rfl))) ?_) (fun hb => Bool.noConfusion hb) fun _ H1 e1 => ?_
    · rw [dec_int, nv_len, show ((r.length : Int) == 0) = false from by
        rw [beq_eq_false_iff_ne]
        omega]
      simp
    have h1 := e1 b _ hb
    obtain ⟨x, l, i1, i2, i3⟩ := lead_val ne
    have hb2 : SqT K H1 b (((x : Int) :: l).map V.int) := st_of (by rw [h1]; unfold nv; rw [i1])
    have hm : (nv r).map (fun _ => V.bl true) = (List.replicate r.length true).map V.bl := by
      rw [nv_eq, List.map_map, List.map_replicate]
      exact List.map_const' ..
    refine s_ret (v := .bl true) (ev_is (ev_andV (ev_allN (bs := List.replicate r.length true) ?_) fun _ => ev_op (ev_op (ev_var rfl) ev_c (rv_ixT (K := K) (st_of h1) (atI_nat (j := 0) (nv_get i2)))) (ev_minT (ev_var rfl) hb2) (rv_eq rfl)) ?_) fun H2 e2 => k _ (e1.trans e2)
    · have g := el_lcT (K := K) (t := tYes) (te := tCall (sp_is_whole K) [] E0 (tCons (tVar 1) tNil)) (vs := [1]) (j := 1) (fun _ => true) (fun _ => V.bl true) (ev_var (σ := start n_is_table [.ref b]) (i := 0) rfl) (st_of h1) (by rw [nv_len]; omega) (fun _ => rfl) (fun _ _ _ _ _ => et_yes) fun i x H2 e2 hx _ => by
        rw [nv_eq, List.getElem?_map] at hx
        obtain ⟨z, _, rfl⟩ := Option.map_eq_some_iff.mp hx
        exact by walk_at "ev"
      have e : given (nv r).length (fun _ => true) (fun _ => V.bl true) = (List.replicate r.length true).map V.bl := by
        rw [given_at, nv_len, List.map_replicate, List.map_const', List.length_range]
      rw [e] at g
      exact g
    · rw [i3, lo]
      simp
theorem ok_are_tables (T : Tx K mg) : FnOk P w K mg base CX0 3 T.f_are_tables T.d_are_tables ["thing"] sp_are_tables := by
  refine T.F_are_tables.ok sc_are_tables (fun vs H Q E h => ?_) (fun cdv A outer s H vs Q E hr h => ?_)
  · obtain ⟨a, ws, rs, h, rfl, _⟩ := h
    rfl
  · obtain ⟨a, ws, rs, h, rfl, ha, ht, R, o, k⟩ := h
    refine ⟨_, (pss_cons (ps_if (PW.pt (pw_or (pt_cmpR (op_neTyS (hu_of hr)) (pe_typeOf (by rfl) T.m_type (pv 0)) (pe_bltn (v := .ty "list") (by rfl) T.m_list (by decide +kernel) rfl) (nomark _)) (pw_or1 (pt_not (pt_val (pe_callB (cr_all rfl) (by rfl) T.m_all (by decide +kernel) (pa_cons (pe_lc (own := [("table", 1)]) (g := (gName 1)) (tt := tYes) rfl sc_are_tables.nd (pi_list (pv 0)) (blkOk_by (own := [("table", 1)]) (N := n_are_tables) (sc := defScope s_are_tables) (by decide +kernel)) (fun _ _ _ _ _ => (pg_name (i := 1) sc_are_tables.nd rfl (Or.inl rfl))) (fun _ _ _ _ _ => pts_nil) (fun _ _ _ _ _ => (pe_call (ok_is_table T) (hr.mono (by decide)) (by rfl) T.g_is_table T.F_is_table.kp T.b_is_table .nil pass0 (pa_cons (pv 1) pa_nil)))) pa_nil))))))) (pss_one (ps_ret pe_bl)) pss_nil)
      (pss_cons (ps_setLc (i := 2) (own := [("table", 1)]) (g := (gName 1)) (tt := tYes) rfl sc_are_tables.nd rfl rfl (sw_true rfl rfl rfl (by decide +kernel)) (pi_list (pv 0)) (blkOk_by (own := [("table", 1)]) (N := n_are_tables) (sc := defScope s_are_tables) (by decide +kernel)) (fun _ _ _ _ _ => (pg_name (i := 1) sc_are_tables.nd rfl (Or.inl rfl))) (fun _ _ _ _ _ => pts_nil) (fun _ _ _ _ _ => (pe_ix (r := rIxT K) ix_tup (pv 1) pe_int (fun _ _ => rfl))))
      (pss_one (ps_ret (pe_and (pe_cmpR (op_eqD hr.units) (pv 2) (pe_callB cr_sorted (by rfl) T.m_sorted (by decide +kernel) (pa_cons (pv 2) pa_nil)) (nomark _)) (pe_one (pe_call (ok_is_order T) (hr.mono (by decide)) (by rfl) T.g_is_order T.F_is_order.kp T.b_is_order .nil pass0 (pa_cons (pe_lc2 (wi1 := iTup K (tVar 1)) (own := [("table", 1), ("guest", 3)]) (vs1 := [3]) (g := (gName 1)) (g1 := (gName 3)) (tt := tYes) (tt1 := tYes) rfl sc_are_tables.nd (pi_list (pv 0)) (blkOk_by (own := [("table", 1), ("guest", 3)]) (N := n_are_tables) (sc := defScope s_are_tables) (by decide +kernel)) (by decide) (fun _ _ _ _ _ => (pg_name (i := 1) sc_are_tables.nd rfl (Or.inl rfl))) (fun _ _ _ _ _ => pts_nil) (fun _ _ _ _ _ => (pi_tup (pv 1))) (fun _ _ _ _ _ => (pg_name (i := 3) sc_are_tables.nd rfl (Or.inl rfl))) (fun _ _ _ _ _ => pts_nil) (fun _ _ _ _ _ => (pv 3))) pa_nil)))))))), ?_⟩
    have hlen := ht.len
    rw [List.length_map] at hlen
    have hfl : rs.flatten.length = h.length := by rw [R.all.length_eq, List.length_range]
    have hn := o.2.2
    have many : rs.length ≤ h.length := by
      have : ∀ l : List (List Nat), (∀ r ∈ l, 0 < r.length) → l.length ≤ l.flatten.length := fun l => by
        induction l with
        | nil => intro _; simp
        | cons r l ih =>
          intro hl
          have := ih fun x hx => hl x (by simp [hx])
          have := hl r (by simp)
          rw [List.flatten_cons, List.length_append, List.length_cons]
          omega
      have := this rs fun r hr => (R.rg r hr).ne
      omega
    have hm : ws.map (fun _ => V.bl true) = (List.replicate ws.length true).map V.bl := by
      rw [List.map_replicate]
      exact List.map_const' ..
    refine q_when (b := false) (et_is (et_or (et_test (ev_op (ev_typeL (ev_var rfl) ha) ev_c (rv_neTyS PySem.TypeEq.meta_list))) fun _ => et_not (et_B (ev_allN (bs := List.replicate ws.length true) ?_))) (by simp)) (fun hb => Bool.noConfusion hb) fun _ H1 e1 => ?_
    · rw [← hm]
      refine el_map (fun _ => V.bl true) (ev_var rfl) (sq_of ha) (by omega) (fun _ => rfl) fun i x H2 e2 hx => ?_
      obtain ⟨b, r, rfl, hb, hr⟩ := ht.get hx
      rw [List.getElem?_map] at hr
      obtain ⟨r', hr', rfl⟩ := Option.map_eq_some_iff.mp hr
      have hrm := List.mem_of_getElem? hr'
      have := R.short hrm
      exact ev_call (by walk_at "ea") (sv_table (e2 b _ hb) (R.rg _ hrm).ne (by omega) (R.leads hrm))
    have h1 := e1 a _ ha
    have ht1 := ht.ex e1
    have heads : (List.range ws.length).map (fun i => V.int ((rs.getD i []).headD 0 : Nat)) = (iz (rs.map (·.headD 0))).map V.int := by
      unfold iz
      rw [hlen, List.map_map, List.map_map]
      conv => rhs; rw [range_get rs []]
      rw [List.map_map]
      rfl
    refine q_asgL (xs := (iz (rs.map (·.headD 0))).map V.int) ?_ fun p H2 hp e2 h2 => ?_
    · rw [← heads, ← given_at]
      refine el_lcL _ _ (ev_var rfl) (sq_of h1) (by omega) (fun _ => rfl) (fun _ _ _ _ _ => et_yes) fun i x H2 e2 hx _ => ?_
      obtain ⟨b, r, rfl, hb, hr⟩ := ht1.get hx
      rw [List.getElem?_map] at hr
      obtain ⟨r', hr', rfl⟩ := Option.map_eq_some_iff.mp hr
      have g : rs.getD i [] = r' := by rw [List.getD_eq_getElem?_getD, hr'] <;> rfl
      rw [g]
      have ne := (R.rg r' (List.mem_of_getElem? hr')).ne
      refine ev_op (ev_var rfl) ev_c (rv_ixT (K := K) (st_of (e2 b _ hb)) (atI_nat (j := 0) (nv_get ?_)))
      cases r' with
      | nil => simp at ne
      | cons c l => rfl
    · have sz : (iz (rs.map (·.headD 0))).length < 64 := by
        unfold iz
        rw [List.length_map, List.length_map]
        omega
      have so : (iz (rs.map (·.headD 0))).Pairwise (· ≤ ·) := by
        unfold iz
        rw [List.pairwise_map]
        exact List.Pairwise.imp (fun {a b} h => by omega) R.asc
      have sr := ed_sorted (K := K) (ta := tVar 2) (σ := [some (.ref a), none, some (.ref p), none]) (ev_var (i := 2) rfl) (sq_of h2) sz (List.Perm.refl _) so
      have vr : EvD K (tVar 2) [some (.ref a), none, some (.ref p), none] H2 (.list ((iz (rs.map (·.headD 0))).map PyData.int)) := ed_of (ev_var rfl) (.lst (sq_of h2) (dpa_ints _))
      refine s_ret (v := .bl true) (ev_is (ev_andV (ev_eqD vr sr (shaped_ints _) (shaped_ints _)) fun _ => ev_call1L (xs := nv rs.flatten) (v := .bl true) ?_ fun q H3 e3 h3 => ?_) (by rw [eqv_same (shaped_ints _)]; rfl)) fun H3 e3 => k _ (e1.trans (e2.trans e3))
      · rw [← flat_nv]
        exact el_lc2O (ev_var rfl) (e2 a _ h1) (ht1.ex e2) (by rw [flat_nv, nv_len]; omega) (fun _ => rfl) (fun _ => rfl) (fun _ _ => rfl) (fun _ _ => rfl)
      · exact sv_order h3 ⟨by rw [hfl]; exact R.all, by rw [hfl]; exact o.2.1, by rw [hfl]; exact o.2.2⟩
end


local macro_rules | `(tactic| walk_at "call") => `(tactic| (with_reducible exact sv_whole))
local macro_rules | `(tactic| walk_at "call") => `(tactic| ((with_reducible refine' sv_order ?c1 ?c2); (case c1 => assumption); (case c2 => assumption)))
local macro_rules | `(tactic| walk_at "call") => `(tactic| ((with_reducible refine' sv_ord ?c1 ?c2); (case c1 => assumption); (case c2 => assumption)))

theorem nv_at {l : List Nat} {i : Nat} (h : i < l.length) : (nv l)[i]? = some (.int ((l.getD i 0 : Nat) : Int)) := nv_get (by
  rw [List.getD_eq_getElem?_getD, List.getElem?_eq_getElem h]
  rfl)

/-! ### words -/
def ds (x : Nat) : Str := toString (x : Int)
theorem ds_all : ((List.range 20).all fun x => !(_root_.TL.tl (ds x)).contains 32 && !(_root_.TL.tl (ds x)).contains 124 && decide ((ds x).length ≤ 2) && (List.range 20).all fun y => !decide (ds x = ds y) || decide (x = y)) = true := by decide +kernel
theorem ds_fact {x : Nat} (h : x < 20) : 32 ∉ _root_.TL.tl (ds x) ∧ 124 ∉ _root_.TL.tl (ds x) ∧ (ds x).length ≤ 2 ∧ ∀ y, y < 20 → ds x = ds y → x = y := by
  have a := List.all_eq_true.mp ds_all x (List.mem_range.mpr h)
  rw [Bool.and_eq_true, Bool.and_eq_true, Bool.and_eq_true, List.all_eq_true] at a
  obtain ⟨⟨⟨a1, a2⟩, a3⟩, a4⟩ := a
  refine ⟨fun z => ?_, fun z => ?_, of_decide_eq_true a3, fun y hy e => ?_⟩
  · rw [List.contains_iff_mem.mpr z] at a1
    cases a1
  · rw [List.contains_iff_mem.mpr z] at a2
    cases a2
  · have := a4 y (List.mem_range.mpr hy)
    rw [decide_eq_true e] at this
    exact of_decide_eq_true this
def jn (r : List Nat) : Str := Txt.join " " (r.map ds)
theorem sum_ds : ∀ {r : List Nat}, (∀ x ∈ r, x < 20) → ((r.map ds).map (·.length)).sum ≤ 2 * r.length
  | [], _ => Nat.le_refl _
  | x :: r, h => by
    have a := sum_ds fun y hy => h y (List.mem_cons_of_mem _ hy)
    have b := (ds_fact (h x List.mem_cons_self)).2.2.1
    rw [List.map_cons, List.map_cons, List.sum_cons, List.length_cons]
    omega
theorem strs_given (r : List Nat) : given r.length (fun _ => true) (fun i => V.str (ds (r.getD i 0))) = (r.map ds).map V.str := by
  rw [given_at]
  refine List.ext_getElem? fun i => ?_
  by_cases h : i < r.length
  · rw [List.getElem?_map, List.getElem?_range h, List.getElem?_map, List.getElem?_map, List.getElem?_eq_getElem h]
    show some (V.str (ds (r.getD i 0))) = some (V.str (ds r[i]))
    rw [List.getD_eq_getElem?_getD, List.getElem?_eq_getElem h]
    rfl
  · rw [List.getElem?_eq_none (by simp; omega), List.getElem?_eq_none (by simp; omega)]
def sp_text (K : PySem.W.Frag) : Sp := fun vs H Q _ => ∃ (a : Addr) (r : List Nat), vs = [.ref a] ∧ (H a = some (.lst (nv r)) ∨ H a = some (.tup (nv r))) ∧ r.length ≤ 20 ∧ (∀ x ∈ r, x < 20) ∧ RetV (.str (jn r)) H Q
section
variable {P : Program} {w : World} {K : PySem.W.Frag} {mg : Str → Option Value} {base : Heap}
theorem ev_dsL {σ : L2.St} {H : Hp} {i j : Nat} {a : Addr} {r : List Nat} (hi : σ[i]? = some (some (.ref a))) (ha : H a = some (.lst (nv r))) (hl : r.length ≤ 20) (hr : ∀ x ∈ r, x < 20) (hw : ∀ x, wipe ((wipe σ [j]).set j (some x)) [j] = wipe σ [j]) (hj : ∀ x, ((wipe σ [j]).set j (some x))[j]? = some (some x)) :
    Ev (tM1 (rJoin K) (tC (.str " ")) (tLc (iList K (tVar i)) (gName j) tYes (tCB rStrI (tCons (tVar j) tNil)) [j])) σ H (.str (jn r)) := by
  have el := el_lcL (K := K) (te := tCB rStrI (tCons (tVar j) tNil)) (t := tYes) (vs := [j]) (j := j) (fun _ => true) (fun i => V.str (ds (r.getD i 0))) (ev_var hi) (sq_of ha) (by rw [nv_len]; omega) hw (fun _ _ _ _ _ => et_yes) fun m x H1 e1 hx _ => by
    have hm := (List.getElem?_eq_some_iff.mp hx).1
    rw [nv_len] at hm
    rw [nv_at hm] at hx
    cases hx
    have := hr _ (List.mem_of_getElem? (l := r) (i := m) (by rw [List.getElem?_eq_getElem hm, List.getD_eq_getElem?_getD, List.getElem?_eq_getElem hm]; rfl) : r.getD m 0 ∈ r)
    exact ev_strI (ev_var (hj _)) (Nat.lt_of_lt_of_le (show ((r.getD m 0 : Nat) : Int).natAbs < 2 ^ 5 by omega) (Nat.pow_le_pow_right (by decide) (by decide)))
  rw [nv_len, strs_given] at el
  have := sum_ds hr
  refine ev_joinN ev_c el ?_
  rw [List.length_map]
  show _ + r.length * 1 ≤ _
  omega
theorem ev_dsT {σ : L2.St} {H : Hp} {i j : Nat} {a : Addr} {r : List Nat} (hi : σ[i]? = some (some (.ref a))) (ha : H a = some (.tup (nv r))) (hl : r.length ≤ 20) (hr : ∀ x ∈ r, x < 20) (hw : ∀ x, wipe ((wipe σ [j]).set j (some x)) [j] = wipe σ [j]) (hj : ∀ x, ((wipe σ [j]).set j (some x))[j]? = some (some x)) :
    Ev (tM1 (rJoin K) (tC (.str " ")) (tLc (iTup K (tVar i)) (gName j) tYes (tCB rStrI (tCons (tVar j) tNil)) [j])) σ H (.str (jn r)) := by
  have el := el_lcT (K := K) (te := tCB rStrI (tCons (tVar j) tNil)) (t := tYes) (vs := [j]) (j := j) (fun _ => true) (fun i => V.str (ds (r.getD i 0))) (ev_var hi) (st_of ha) (by rw [nv_len]; omega) hw (fun _ _ _ _ _ => et_yes) fun m x H1 e1 hx _ => by
    have hm := (List.getElem?_eq_some_iff.mp hx).1
    rw [nv_len] at hm
    rw [nv_at hm] at hx
    cases hx
    have := hr _ (List.mem_of_getElem? (l := r) (i := m) (by rw [List.getElem?_eq_getElem hm, List.getD_eq_getElem?_getD, List.getElem?_eq_getElem hm]; rfl) : r.getD m 0 ∈ r)
    exact ev_strI (ev_var (hj _)) (Nat.lt_of_lt_of_le (show ((r.getD m 0 : Nat) : Int).natAbs < 2 ^ 5 by omega) (Nat.pow_le_pow_right (by decide) (by decide)))
  rw [nv_len, strs_given] at el
  have := sum_ds hr
  refine ev_joinN ev_c el ?_
  rw [List.length_map]
  show _ + r.length * 1 ≤ _
  omega
theorem ok_text_of (T : Tx K mg) : FnOk P w K mg base CX0 1 T.f_text_of T.d_text_of ["numbers"] (sp_text K) := by
  refine T.F_text_of.ok sc_text_of (fun vs H Q E h => ?_) (fun cdv A outer s0 H vs Q E hr h => ?_)
  · obtain ⟨a, r, rfl, _⟩ := h
    rfl
  · obtain ⟨a, r, rfl, ha, hl, h20, k⟩ := h
    rcases ha with ha | ha
    · refine ⟨_, (pss_one (ps_ret (pe_joinW pe_str (pe_lc (own := [("number", 1)]) (g := (gName 1)) (tt := tYes) rfl sc_text_of.nd (pi_list (pv 0)) (blkOk_by (own := [("number", 1)]) (N := n_text_of) (sc := defScope s_text_of) (by decide +kernel)) (fun _ _ _ _ _ => (pg_name (i := 1) sc_text_of.nd rfl (Or.inl rfl))) (fun _ _ _ _ _ => pts_nil) (fun _ _ _ _ _ => (pe_callTy (T := "str") (r := rStrI) call_strI (by rfl) T.m_str (by decide +kernel) (pa_cons (pv 1) pa_nil))))))), ?_⟩
      exact s_ret (ev_dsL (K := K) rfl ha hl h20 (fun _ => rfl) (fun _ => rfl)) fun H1 e1 => k _ e1
    · refine ⟨_, (pss_one (ps_ret (pe_joinW pe_str (pe_lc (own := [("number", 1)]) (g := (gName 1)) (tt := tYes) rfl sc_text_of.nd (pi_tup (pv 0)) (blkOk_by (own := [("number", 1)]) (N := n_text_of) (sc := defScope s_text_of) (by decide +kernel)) (fun _ _ _ _ _ => (pg_name (i := 1) sc_text_of.nd rfl (Or.inl rfl))) (fun _ _ _ _ _ => pts_nil) (fun _ _ _ _ _ => (pe_callTy (T := "str") (r := rStrI) call_strI (by rfl) T.m_str (by decide +kernel) (pa_cons (pv 1) pa_nil))))))), ?_⟩
      exact s_ret (ev_dsT (K := K) rfl ha hl h20 (fun _ => rfl) (fun _ => rfl)) fun H1 e1 => k _ e1
theorem ok_law_row (T : Tx K mg) : FnOk P w K mg base CX0 1 T.f_law_row T.d_law_row ["row"] (sp_text K) := by
  refine T.F_law_row.ok sc_law_row (fun vs H Q E h => ?_) (fun cdv A outer s0 H vs Q E hr h => ?_)
  · obtain ⟨a, r, rfl, _⟩ := h
    rfl
  · obtain ⟨a, r, rfl, ha, hl, h20, k⟩ := h
    rcases ha with ha | ha
    · refine ⟨_, (pss_one (ps_ret (pe_joinW pe_str (pe_lc (own := [("x", 1)]) (g := (gName 1)) (tt := tYes) rfl sc_law_row.nd (pi_list (pv 0)) (blkOk_by (own := [("x", 1)]) (N := n_law_row) (sc := defScope s_law_row) (by decide +kernel)) (fun _ _ _ _ _ => (pg_name (i := 1) sc_law_row.nd rfl (Or.inl rfl))) (fun _ _ _ _ _ => pts_nil) (fun _ _ _ _ _ => (pe_callTy (T := "str") (r := rStrI) call_strI (by rfl) T.m_str (by decide +kernel) (pa_cons (pv 1) pa_nil))))))), ?_⟩
      exact s_ret (ev_dsL (K := K) rfl ha hl h20 (fun _ => rfl) (fun _ => rfl)) fun H1 e1 => k _ e1
    · refine ⟨_, (pss_one (ps_ret (pe_joinW pe_str (pe_lc (own := [("x", 1)]) (g := (gName 1)) (tt := tYes) rfl sc_law_row.nd (pi_tup (pv 0)) (blkOk_by (own := [("x", 1)]) (N := n_law_row) (sc := defScope s_law_row) (by decide +kernel)) (fun _ _ _ _ _ => (pg_name (i := 1) sc_law_row.nd rfl (Or.inl rfl))) (fun _ _ _ _ _ => pts_nil) (fun _ _ _ _ _ => (pe_callTy (T := "str") (r := rStrI) call_strI (by rfl) T.m_str (by decide +kernel) (pa_cons (pv 1) pa_nil))))))), ?_⟩
      exact s_ret (ev_dsT (K := K) rfl ha hl h20 (fun _ => rfl) (fun _ => rfl)) fun H1 e1 => k _ e1
end


local macro_rules | `(tactic| walk_at "call") => `(tactic| (with_reducible exact sv_whole))
local macro_rules | `(tactic| walk_at "call") => `(tactic| ((with_reducible refine' sv_order ?c1 ?c2); (case c1 => assumption); (case c2 => assumption)))
local macro_rules | `(tactic| walk_at "call") => `(tactic| ((with_reducible refine' sv_ord ?c1 ?c2); (case c1 => assumption); (case c2 => assumption)))

theorem paired_get {α β : Type} {F : α → β → Prop} : ∀ {l : List α} {m : List β} {i : Nat} {x : α}, Paired F l m → l[i]? = some x → ∃ y, m[i]? = some y ∧ F x y
  | _, _, 0, x, .cons h t, hx => ⟨_, rfl, (Option.some.inj (by simpa using hx)) ▸ h⟩
  | _, _, i + 1, x, .cons h t, hx => by
    obtain ⟨y, h1, h2⟩ := paired_get (i := i) t (by simpa using hx)
    exact ⟨y, by simpa using h1, h2⟩
  | _, _, 0, x, .nil, hx => by simp at hx
  | _, _, i + 1, x, .nil, hx => by simp at hx

/-! ### writing, reading one row -/
open _root_.TL in
theorem split_jn {r : List Nat} (ne : r ≠ []) (h : ∀ x ∈ r, x < 20) : Txt.split (jn r) " " = r.map ds := by
  unfold jn
  refine split_join (s := 32) (S := []) rfl (by decide +kernel) (fun e => ne (List.map_eq_nil_iff.mp e)) fun p hp => ?_
  obtain ⟨x, hx, rfl⟩ := List.mem_map.mp hp
  exact (ds_fact (h x hx)).1
open _root_.TL in
theorem joinL_len (S : List Nat) : ∀ ps : List (List Nat), (joinL S ps).length ≤ (ps.map (·.length)).sum + ps.length * S.length
  | [] => Nat.zero_le _
  | [p] => by
    show p.length ≤ (p.length + 0) + 1 * S.length
    omega
  | p :: q :: r => by
    have ih := joinL_len S (q :: r)
    show (p ++ (S ++ joinL S (q :: r))).length ≤ (p.length + ((q :: r).map (·.length)).sum) + ((q :: r).length + 1) * S.length
    rw [List.length_append, List.length_append, Nat.add_mul, Nat.one_mul]
    omega
open _root_.TL in
theorem join_len (y : Str) (ps : List Str) : (Txt.join y ps).length ≤ (ps.map (·.length)).sum + ps.length * y.length := by
  have h := joinL_len (tl y) (ps.map tl)
  rw [← tl_join, ← join_eq, ← len_tl, ← len_tl, List.length_map, List.map_map] at h
  have e : ps.map ((·.length) ∘ tl) = ps.map (·.length) := List.map_congr_left fun p _ => (len_tl p).symm
  rwa [e] at h
theorem jn_len {r : List Nat} (h : ∀ x ∈ r, x < 20) : (jn r).length ≤ 3 * r.length := by
  have a := join_len " " (r.map ds)
  have b := sum_ds h
  rw [List.length_map] at a
  have c : (" " : Str).length = 1 := rfl
  rw [c] at a
  unfold jn
  omega
theorem sv_text {K : PySem.W.Frag} {H : Hp} {a : Addr} {r : List Nat} (ha : H a = some (.lst (nv r))) (hl : r.length ≤ 20) (h : ∀ x ∈ r, x < 20) : SpV (sp_text K) ([.ref a] ++ []) H (.str (jn r)) := fun H1 e Q q E => ⟨a, r, rfl, .inl (e a _ ha), hl, h, q⟩
theorem sv_textT {K : PySem.W.Frag} {H : Hp} {a : Addr} {r : List Nat} (ha : H a = some (.tup (nv r))) (hl : r.length ≤ 20) (h : ∀ x ∈ r, x < 20) : SpV (sp_text K) ([.ref a] ++ []) H (.str (jn r)) := fun H1 e Q q E => ⟨a, r, rfl, .inr (e a _ ha), hl, h, q⟩
def sp_write : Sp := fun vs H Q _ => ∃ (a : Addr) (r : List Nat), vs = [.ref a] ∧ H a = some (.lst (nv r)) ∧ r.length ≤ 20 ∧ (∀ x ∈ r, x < 20) ∧ RetV (.str (jn r)) H Q
theorem sv_write {H : Hp} {a : Addr} {r : List Nat} (ha : H a = some (.lst (nv r))) (hl : r.length ≤ 20) (h : ∀ x ∈ r, x < 20) : SpV sp_write ([.ref a] ++ []) H (.str (jn r)) := fun H1 e Q q E => ⟨a, r, rfl, e a _ ha, hl, h, q⟩
def jt (rs : List (List Nat)) : Str := Txt.join " | " (rs.map jn)
def Few (rs : List (List Nat)) : Prop := rs.length ≤ 20 ∧ ∀ r ∈ rs, r.length ≤ 20 ∧ ∀ x ∈ r, x < 20
def sp_write_tables : Sp := fun vs H Q _ => ∃ (a : Addr) (ws : List V) (rs : List (List Nat)), vs = [.ref a] ∧ H a = some (.lst ws) ∧ TL H ws (rs.map nv) ∧ Few rs ∧ RetV (.str (jt rs)) H Q
theorem sv_write_tables {H : Hp} {a : Addr} {ws : List V} {rs : List (List Nat)} (ha : H a = some (.lst ws)) (ht : TL H ws (rs.map nv)) (f : Few rs) : SpV sp_write_tables ([.ref a] ++ []) H (.str (jt rs)) := fun H1 e Q q E => ⟨a, ws, rs, rfl, e a _ ha, ht.ex e, f, q⟩
def sp_number_at : Sp := fun vs H Q _ => ∃ (pl : Int) (g : Nat) (a : Addr) (F : List Nat), vs = [.int pl, .str (ds g), .ref a] ∧ H a = some (.lst (nv F)) ∧ g ∈ F ∧ (∀ x ∈ F, x < 20) ∧ F.length ≤ 20 ∧ RetV (.int (g : Int)) H Q
theorem sv_number_at {H : Hp} {pl : Int} {g : Nat} {a : Addr} {F : List Nat} (ha : H a = some (.lst (nv F))) (hg : g ∈ F) (h : ∀ x ∈ F, x < 20) (hl : F.length ≤ 20) : SpV sp_number_at ([.int pl, .str (ds g), .ref a] ++ []) H (.int (g : Int)) := fun H1 e Q q E => ⟨pl, g, a, F, rfl, e a _ ha, hg, h, hl, q⟩
theorem few_len {rs : List (List Nat)} (f : Few rs) : ((rs.map jn).map (·.length)).sum ≤ 60 * rs.length := by
  obtain ⟨_, h⟩ := f
  induction rs with
  | nil => exact Nat.le_refl _
  | cons r l ih =>
    have a := ih (by rename_i q; have := q; simp at this ⊢; omega) fun s hs => h s (List.mem_cons_of_mem _ hs)
    have b := jn_len (h r List.mem_cons_self).2
    have c := (h r List.mem_cons_self).1
    rw [List.map_cons, List.map_cons, List.sum_cons, List.length_cons]
    omega
theorem ev_jtL {K : PySem.W.Frag} {σ : L2.St} {H : Hp} {i j : Nat} {a : Addr} {ws : List V} {rs : List (List Nat)} {sp : Sp} {E : XK} (hi : σ[i]? = some (some (.ref a))) (ha : H a = some (.lst ws)) (ht : TL H ws (rs.map nv)) (f : Few rs) (hw : ∀ x, wipe ((wipe σ [j]).set j (some x)) [j] = wipe σ [j]) (hj : ∀ x, ((wipe σ [j]).set j (some x))[j]? = some (some x))
    (hs : ∀ {b : Addr} {r : List Nat} {H : Hp}, H b = some (.tup (nv r)) → r.length ≤ 20 → (∀ x ∈ r, x < 20) → SpV sp ([.ref b] ++ []) H (.str (jn r))) :
    Ev (tM1 (rJoin K) (tC (.str " | ")) (tLc (iList K (tVar i)) (gName j) tYes (tCall sp [] E (tCons (tVar j) tNil)) [j])) σ H (.str (jt rs)) := by
  have wl := ht.len
  rw [List.length_map] at wl
  have fl := f.1
  have el := el_lcL (K := K) (te := tCall sp [] E (tCons (tVar j) tNil)) (t := tYes) (vs := [j]) (j := j) (fun _ => true) (fun i => V.str (jn (rs.getD i []))) (ev_var hi) (sq_of ha) (by omega) hw (fun _ _ _ _ _ => et_yes) fun m x H1 e1 hx _ => by
    obtain ⟨y, hy, b, rfl, hb⟩ := paired_get ht hx
    rw [List.getElem?_map] at hy
    obtain ⟨r, hr, rfl⟩ := Option.map_eq_some_iff.mp hy
    have fr := f.2 r (List.mem_of_getElem? hr)
    have : rs.getD m [] = r := by
      rw [List.getD_eq_getElem?_getD, hr]
      rfl
    rw [this]
    exact ev_call (ea_cons (ev_var (hj _)) ea_nil) (hs (e1 b _ hb) fr.1 fr.2)
  have eg : given ws.length (fun _ => true) (fun i => V.str (jn (rs.getD i []))) = (rs.map jn).map V.str := by
    rw [given_at, wl]
    refine List.ext_getElem? fun i => ?_
    by_cases h : i < rs.length
    · rw [List.getElem?_map, List.getElem?_range h, List.getElem?_map, List.getElem?_map, List.getElem?_eq_getElem h]
      show some (V.str (jn (rs.getD i []))) = some (V.str (jn rs[i]))
      rw [List.getD_eq_getElem?_getD, List.getElem?_eq_getElem h]
      rfl
    · rw [List.getElem?_eq_none (by simp; omega), List.getElem?_eq_none (by simp; omega)]
  rw [eg] at el
  have := few_len f
  refine ev_joinN ev_c el ?_
  rw [List.length_map]
  show _ + rs.length * 3 ≤ _
  omega
section
variable {P : Program} {w : World} {K : PySem.W.Frag} {mg : Str → Option Value} {base : Heap}
theorem ok_write_seating (T : Tx K mg) : FnOk P w K mg base CX0 2 T.f_write_seating T.d_write_seating ["seating"] sp_write := by
  refine T.F_write_seating.ok sc_write_seating (fun vs H Q E h => ?_) (fun cdv A outer s0 H vs Q E hr h => ?_)
  · obtain ⟨a, r, rfl, _⟩ := h
    rfl
  · obtain ⟨a, r, rfl, ha, hl, h20, k⟩ := h
    refine ⟨_, (pss_one (ps_ret (pe_call (ok_text_of T) (hr.mono (by decide)) (by rfl) T.g_text_of T.F_text_of.kp T.b_text_of .nil pass0 (pa_cons (pv 0) pa_nil)))), ?_⟩
    exact s_ret (ev_call (ea_cons (ev_var rfl) ea_nil) (sv_text ha hl h20)) fun H1 e1 => k _ e1
theorem ok_write_coming (T : Tx K mg) : FnOk P w K mg base CX0 2 T.f_write_coming T.d_write_coming ["coming"] sp_write := by
  refine T.F_write_coming.ok sc_write_coming (fun vs H Q E h => ?_) (fun cdv A outer s0 H vs Q E hr h => ?_)
  · obtain ⟨a, r, rfl, _⟩ := h
    rfl
  · obtain ⟨a, r, rfl, ha, hl, h20, k⟩ := h
    refine ⟨_, (pss_one (ps_ret (pe_call (ok_text_of T) (hr.mono (by decide)) (by rfl) T.g_text_of T.F_text_of.kp T.b_text_of .nil pass0 (pa_cons (pv 0) pa_nil)))), ?_⟩
    exact s_ret (ev_call (ea_cons (ev_var rfl) ea_nil) (sv_text ha hl h20)) fun H1 e1 => k _ e1
theorem ok_write_tables (T : Tx K mg) : FnOk P w K mg base CX0 2 T.f_write_tables T.d_write_tables ["tables"] sp_write_tables := by
  refine T.F_write_tables.ok sc_write_tables (fun vs H Q E h => ?_) (fun cdv A outer s0 H vs Q E hr h => ?_)
  · obtain ⟨a, ws, rs, rfl, _⟩ := h
    rfl
  · obtain ⟨a, ws, rs, rfl, ha, ht, f, k⟩ := h
    refine ⟨_, (pss_one (ps_ret (pe_joinW pe_str (pe_lc (own := [("table", 1)]) (g := (gName 1)) (tt := tYes) rfl sc_write_tables.nd (pi_list (pv 0)) (blkOk_by (own := [("table", 1)]) (N := n_write_tables) (sc := defScope s_write_tables) (by decide +kernel)) (fun _ _ _ _ _ => (pg_name (i := 1) sc_write_tables.nd rfl (Or.inl rfl))) (fun _ _ _ _ _ => pts_nil) (fun _ _ _ _ _ => (pe_call (ok_text_of T) (hr.mono (by decide)) (by rfl) T.g_text_of T.F_text_of.kp T.b_text_of .nil pass0 (pa_cons (pv 1) pa_nil))))))), ?_⟩
    exact s_ret (ev_jtL (K := K) rfl ha ht f (fun _ => rfl) (fun _ => rfl) fun hb h1 h2 => sv_textT hb h1 h2) fun H1 e1 => k _ e1
theorem ok_number_at (T : Tx K mg) : FnOk P w K mg base CX0 1 T.f_number_at T.d_number_at ["place", "word", "numbers"] sp_number_at := by
  refine T.F_number_at.ok sc_number_at (fun vs H Q E h => ?_) (fun cdv A outer s0 H vs Q E hr h => ?_)
  · obtain ⟨pl, g, a, F, rfl, _⟩ := h
    rfl
  · obtain ⟨pl, g, a, F, rfl, ha, hg, h20, hl, k⟩ := h
    refine ⟨_, (pss_cons (ps_for PassesOwn.never rfl (pi_list (pv 2)) (pg_name (i := 3) sc_number_at.nd rfl (Or.inl rfl)) (pss_one (ps_if (pt_cmpR op_eq (pe_callTy (T := "str") (r := rStrI) call_strI (by rfl) T.m_str (by decide +kernel) (pa_cons (pv 3) pa_nil)) (pv 1) (nomark _)) (pss_one (ps_ret (pv 3))) pss_nil)))
      (pss_one ps_never)), ?_⟩
    have ig := List.idxOf_lt_length_of_mem hg
    refine q_forL (K := K) (a := a) (xs := nv F) (ev_var rfl) (sq_of ha) (fun i σ' H' => ∃ y3, σ' = [some (.int pl), some (.str (ds g)), some (.ref a), y3] ∧ Ex H H' ∧ i ≤ F.idxOf g) (fun H1 e1 => ⟨_, rfl, e1, Nat.zero_le _⟩) (fun i σ' H' _ ⟨_, _, e, _⟩ => sq_of (e a _ ha)) ?_ ?_
    · rintro i x σ' H1 hx ⟨y3, rfl, e1, hi⟩
      have hil := (List.getElem?_eq_some_iff.mp hx).1
      rw [nv_len] at hil
      rw [nv_at hil] at hx
      cases hx
      have m : F.getD i 0 ∈ F := by
        refine List.mem_of_getElem? (i := i) ?_
        rw [List.getElem?_eq_getElem hil, List.getD_eq_getElem?_getD, List.getElem?_eq_getElem hil]
        rfl
      have hlt := h20 _ m
      refine s_when (et_test (ev_op (ev_strI (ev_var rfl) (Nat.lt_of_lt_of_le (show ((F.getD i 0 : Nat) : Int).natAbs < 2 ^ 5 by omega) (Nat.pow_le_pow_right (by decide) (by decide)))) (ev_var rfl) (rv_eq rfl))) (fun hb H2 e2 => ?_) fun hb H2 e2 => ⟨_, rfl, e1.trans e2, ?_⟩
      · have e := V.str.inj (of_decide_eq_true hb)
        have := (ds_fact hlt).2.2.2 g (h20 g hg) e
        rw [this]
        exact s_ret (ev_var rfl) fun H3 e3 => k _ (e1.trans (e2.trans e3))
      · have : i ≠ F.idxOf g := fun z => by
          have e : F.getD i 0 = g := by
            rw [z, List.getD_eq_getElem?_getD, List.getElem?_eq_getElem ig]
            exact List.getElem_idxOf ig
          rw [e] at hb
          exact absurd rfl (of_decide_eq_false hb)
        omega
    · rintro σ' H1 ⟨y3, rfl, e1, hi⟩
      rw [nv_len] at hi
      exact absurd ig (by omega)
end


local macro_rules | `(tactic| walk_at "call") => `(tactic| (with_reducible exact sv_whole))
local macro_rules | `(tactic| walk_at "call") => `(tactic| ((with_reducible refine' sv_order ?c1 ?c2); (case c1 => assumption); (case c2 => assumption)))
local macro_rules | `(tactic| walk_at "call") => `(tactic| ((with_reducible refine' sv_ord ?c1 ?c2); (case c1 => assumption); (case c2 => assumption)))

/-! ### reading one row -/
def sp_read_seating : Sp := fun vs H Q _ => ∃ h : List Nat, vs = [.str (jn h)] ∧ Ord h ∧ RetL (nv h) H Q
theorem sl_read_seating {H : Hp} {h : List Nat} (o : Ord h) : SpL sp_read_seating ([.str (jn h)] ++ []) H (nv h) := fun H1 e Q q E => ⟨h, rfl, o, q⟩
def sp_read_coming : Sp := fun vs H Q _ => ∃ c : List Nat, vs = [.str (jn c)] ∧ Cm c ∧ RetL (nv c) H Q
theorem sl_read_coming {H : Hp} {c : List Nat} (o : Cm c) : SpL sp_read_coming ([.str (jn c)] ++ []) H (nv c) := fun H1 e Q q E => ⟨c, rfl, o, q⟩
theorem take_at {r : List Nat} {i : Nat} (h : i < r.length) : r.take (i + 1) = r.take i ++ [r.getD i 0] := take_next (by
  rw [List.getD_eq_getElem?_getD, List.getElem?_eq_getElem h]
  rfl)
theorem getD_mem {r : List Nat} {i : Nat} (h : i < r.length) : r.getD i 0 ∈ r := List.mem_of_getElem? (i := i) (by
  rw [List.getD_eq_getElem?_getD, List.getElem?_eq_getElem h]
  rfl)
theorem words_at {r : List Nat} {i : Nat} {x : V} (h : ((r.map ds).map V.str)[i]? = some x) : i < r.length ∧ x = .str (ds (r.getD i 0)) := by
  rw [List.getElem?_map, List.getElem?_map] at h
  obtain ⟨z, hz, rfl⟩ := Option.map_eq_some_iff.mp h
  obtain ⟨y, hy, rfl⟩ := Option.map_eq_some_iff.mp hz
  refine ⟨(List.getElem?_eq_some_iff.mp hy).1, ?_⟩
  rw [List.getD_eq_getElem?_getD, hy]
  rfl
theorem el_free {K : PySem.W.Frag} {σ : L2.St} {H : Hp} {i j : Nat} {b : Addr} {S : List Nat} (hb : H b = some (.lst (nv S))) (hw : ∀ x, wipe ((wipe σ [j]).set j (some x)) [j] = wipe σ [j]) (hj : ∀ x, ((wipe σ [j]).set j (some x))[j]? = some (some x)) (hi : ∀ x, ((wipe σ [j]).set j (some x))[i]? = some (some (.ref b))) :
    EvL (tLc (iRng1 (tCons (tC (.int 20)) tNil)) (gName j) (tTest (tOp (rIn K true) (tVar j) (tVar i))) (tVar j) [j]) σ H (nv ((List.range 20).filter fun x => decide (x ∉ S))) := by
  have el := el_lcR1 (te := tVar j) (t := tTest (tOp (rIn K true) (tVar j) (tVar i))) (j := j) (vs := [j]) (σ := σ) (H := H) (n := (20 : Int)) (fun i => decide (i ∉ S)) (fun i => .int (i : Int)) (ea_cons ev_c ea_nil) (by decide) hw (fun x H2 e2 hx => ?_) fun x H2 e2 hx _ => ev_var (hj _)
  · have eg : given (20 : Int).toNat (fun i => decide (i ∉ S)) (fun i => V.int (i : Int)) = nv ((List.range 20).filter fun x => decide (x ∉ S)) := by
      rw [nv_eq]
      rfl
    rw [eg] at el
    exact el
  · refine et_is (et_test (ev_op (ev_var (hj _)) (ev_var (hi _)) (rv_niL (K := K) (sq_of (e2 b _ hb)) rfl (nv_flat _)))) ?_
    rw [nv_in, Bool.eq_iff_iff, Bool.not_eq_true', decide_eq_false_iff_not, decide_eq_true_iff]
theorem ev_call3L {sp : Sp} {E : XK} {σ : L2.St} {H : Hp} {ta tb tc : TE} {x y v : V} {xs : List V} (h1 : Ev ta σ H x) (h2 : Ev tb σ H y) (h3 : EvL tc σ H xs) (hs : ∀ p H1, Ex H H1 → H1 p = some (.lst xs) → SpV sp ([x, y, .ref p] ++ []) H1 v) : Ev (tCall sp [] E (tCons ta (tCons tb (tCons tc tNil)))) σ H v := fun H1 e Q q =>
  h1 H1 e _ fun H2 e2 => h2 H2 (e.trans e2) _ fun H3 e3 => h3 H3 (e.trans (e2.trans e3)) _ fun p H4 np e4 hp => hs p H4 (e.trans (e2.trans (e3.trans e4))) hp H4 (Ex.refl _) Q (fun H5 e5 => q H5 (e2.trans (e3.trans (e4.trans e5)))) E
section
variable {P : Program} {w : World} {K : PySem.W.Frag} {mg : Str → Option Value} {base : Heap}
theorem ok_read_seating (T : Tx K mg) : FnOk P w K mg base CX0 4 T.f_read_seating T.d_read_seating ["text"] sp_read_seating := by
  refine T.F_read_seating.ok sc_read_seating (fun vs H Q E h => ?_) (fun cdv A outer s0 H vs Q E hr h => ?_)
  · obtain ⟨h, rfl, _⟩ := h
    rfl
  · obtain ⟨h, rfl, o, k⟩ := h
    refine ⟨_, (pss_cons (ps_set (i := 1) sc_read_seating.nd rfl (Or.inl rfl) (pe_splitW (pv 0) pe_str))
      (pss_cons (ps_set (i := 2) sc_read_seating.nd rfl (Or.inr rfl) (pe_lst pa_nil))
      (pss_cons (ps_for PassesOwn.never rfl (pi_enum (by rfl) T.m_enumerate (pa_cons (pv 1) pa_nil)) (pg_tup rfl (pgs_cons (pg_name (i := 3) sc_read_seating.nd rfl (Or.inl rfl)) (pgs_cons (pg_name (i := 4) sc_read_seating.nd rfl (Or.inl rfl)) pgs_nil))) (pss_cons (ps_setLc (i := 6) (own := [("guest", 5)]) (g := (gName 5)) rfl sc_read_seating.nd rfl rfl (sw_true rfl rfl rfl (by decide +kernel)) (pi_range1 (by rfl) T.m_range (pa_cons (pe_gc (by rfl) T.c_MOST_GUESTS) pa_nil)) (blkOk_by (own := [("guest", 5)]) (N := n_read_seating) (sc := defScope s_read_seating) (by decide +kernel)) (fun _ _ _ _ _ => (pg_name (i := 5) sc_read_seating.nd rfl (Or.inl rfl))) (fun _ _ _ _ _ => (pts_one (pt_cmpR (r := rIn K true) op_notIn_seq (pv 5) (pv 2) (by rfl)))) (fun _ _ _ _ _ => (pv 5)))
      (pss_one (ps_expr (pe_bm PySem.F.plainAttrs_list PySem.F.slot_list_append PySem.F.type_list_append mt_append (pv 2) (pa_cons (pe_call (ok_number_at T) (hr.mono (by decide)) (by rfl) T.g_number_at T.F_number_at.kp T.b_number_at .nil pass0 (pa_cons (pv 3) (pa_cons (pv 4) (pa_cons (pv 6) pa_nil)))) pa_nil))))))
      (pss_cons (ps_if (pt_not (pt_val (pe_call (ok_is_seating T) (hr.mono (by decide)) (by rfl) T.g_is_seating T.F_is_seating.kp T.b_is_seating .nil pass0 (pa_cons (pv 2) pa_nil)))) (pss_one ps_never) pss_nil)
      (pss_one (ps_ret (pv 2))))))), ?_⟩
    have o2 := o.2
    have lt : ∀ x ∈ h, x < 20 := fun x hx => by
      have := List.mem_range.mp (o.1.mem_iff.mp hx)
      omega
    have nd : h.Nodup := o.1.nodup_iff.mpr List.nodup_range
    have ne : h ≠ [] := fun z => by
      rw [z] at o2
      exact absurd o2.1 (by decide)
    have jl := jn_len lt
    have sp := el_split (σ := [some (.str (jn h)), none, none, none, none, none, none]) (H := H) (ta := tVar 0) (tb := tC (.str " ")) (ev_var rfl) ev_c rfl (by omega : (jn h).length ≤ 90000)
    rw [split_jn ne lt] at sp
    refine q_asgL sp fun wd H1 nwd e1 hwd => ?_
    refine q_asgL (xs := nv []) (el_lst ea_nil (Nat.le_of_ble_eq_true rfl)) fun b H2 nb e2 hb => ?_
    have nb0 := fresh_back e1 nb
    have wb : wd ≠ b := fun z => by
      rw [← z, hwd] at nb
      cases nb
    refine q_forEn (K := K) (a := wd) (ea_cons (ev_var rfl) ea_nil) (sq_of (e2 wd _ hwd)) (fun i σ' H' => ∃ y3 y4 y5 y6, σ' = [some (.str (jn h)), some (.ref wd), some (.ref b), y3, y4, y5, y6] ∧ Ex H1 H' ∧ H' b = some (.lst (nv (h.take i)))) (fun H3 e3 => ⟨_, _, _, _, rfl, e2.trans e3, e3 b _ hb⟩) (fun i σ' H' _ ⟨_, _, _, _, _, e, _⟩ => sq_of (e wd _ hwd)) ?_ ?_
    · rintro i x σ' H' H3 hx ⟨y3, y4, y5, y6, rfl, e, hb'⟩ e3
      obtain ⟨hi, rfl⟩ := words_at hx
      have hb3 := e3 b _ hb'
      refine q_asgL (el_free (K := K) (i := 2) (j := 5) hb3 (fun _ => rfl) (fun _ => rfl) (fun _ => rfl)) fun fr H4 nfr e4 hfr => ?_
      have m := getD_mem hi
      have mf : h.getD i 0 ∈ (List.range 20).filter fun x => decide (x ∉ h.take i) := List.mem_filter.mpr ⟨List.mem_range.mpr (lt _ m), decide_eq_true fun z => by
        have q := nd
        rw [← List.take_append_drop i h, List.nodup_append] at q
        refine q.2.2 _ z (h.getD i 0) ?_ rfl
        refine List.mem_of_getElem? (i := 0) ?_
        rw [List.getElem?_drop, Nat.add_zero, List.getElem?_eq_getElem hi, List.getD_eq_getElem?_getD, List.getElem?_eq_getElem hi]
        rfl⟩
      refine s_app (e4 b _ hb3) (ev_var rfl) (ev_call (ea_cons (ev_var rfl) (ea_cons (ev_var rfl) (ea_cons (ev_var rfl) ea_nil))) (sv_number_at hfr mf (fun x hx => List.mem_range.mp (List.mem_filter.mp hx).1) (by
        have := List.length_filter_le (fun x => decide (x ∉ h.take i)) (List.range 20)
        rwa [List.length_range] at this))) (by rw [nv_len, List.length_take]; omega) fun H5 e5 => ⟨_, _, _, _, rfl, Ex.mut (e.trans (e3.trans (e4.trans e5))) nb, ?_⟩
      rw [upd_same, take_at hi, nv_app]
      rfl
    · rintro σ' H' ⟨y3, y4, y5, y6, rfl, e, hb'⟩
      rw [List.length_map, List.length_map, List.take_length] at hb'
      refine q_when (b := false) (et_is (et_not (et_B (ev_call (z := .bl true) (ea_cons (ev_var rfl) ea_nil) (sv_order hb' o)))) rfl) (fun hb => Bool.noConfusion hb) fun _ H3 e3 => ?_
      exact s_ret (ev_var rfl) fun H4 e4 => k b H4 nb0 (e1.trans (e.trans (e3.trans e4))) ((e3.trans e4) b _ hb')
theorem ok_read_coming (T : Tx K mg) : FnOk P w K mg base CX0 4 T.f_read_coming T.d_read_coming ["text"] sp_read_coming := by
  refine T.F_read_coming.ok sc_read_coming (fun vs H Q E h => ?_) (fun cdv A outer s0 H vs Q E hr h => ?_)
  · obtain ⟨c, rfl, _⟩ := h
    rfl
  · obtain ⟨c, rfl, o, k⟩ := h
    refine ⟨_, (pss_cons (ps_set (i := 1) sc_read_coming.nd rfl (Or.inl rfl) (pe_lst pa_nil))
      (pss_cons (ps_for PassesOwn.never rfl (pi_enum (by rfl) T.m_enumerate (pa_cons (pe_splitW (pv 0) pe_str) pa_nil)) (pg_tup rfl (pgs_cons (pg_name (i := 2) sc_read_coming.nd rfl (Or.inl rfl)) (pgs_cons (pg_name (i := 3) sc_read_coming.nd rfl (Or.inl rfl)) pgs_nil))) (pss_cons (ps_if (pt_cmpR op_eq (pv 2) (pe_gc (by rfl) T.c_MOST_GUESTS) (nomark _)) (pss_one ps_never) pss_nil)
      (pss_one (ps_expr (pe_bm PySem.F.plainAttrs_list PySem.F.slot_list_append PySem.F.type_list_append mt_append (pv 1) (pa_cons (pe_call (ok_number_at T) (hr.mono (by decide)) (by rfl) T.g_number_at T.F_number_at.kp T.b_number_at .nil pass0 (pa_cons (pv 2) (pa_cons (pv 3) (pa_cons (pe_listRg rfl (by rfl) T.m_list (prg_1 (by rfl) T.m_range (pe_op op_add (pv 2) pe_int))) pa_nil)))) pa_nil))))))
      (pss_one (ps_ret (pv 1))))), ?_⟩
    have o2 := o.2.1
    have lt : ∀ x ∈ c, x < 20 := fun x hx => by
      obtain ⟨i, hi⟩ := List.mem_iff_getElem?.mp hx
      have := o.2.2 i x hi
      have := (List.getElem?_eq_some_iff.mp hi).1
      omega
    have ne : c ≠ [] := fun z => by
      have := o.1
      rw [z] at this
      exact absurd this (by decide)
    have jl := jn_len lt
    refine q_asgL (xs := nv []) (el_lst ea_nil (Nat.le_of_ble_eq_true rfl)) fun b H1 nb e1 hb => ?_
    have sp := el_split (σ := [some (.str (jn c)), some (.ref b), none, none]) (H := H1) (ta := tVar 0) (tb := tC (.str " ")) (ev_var rfl) ev_c rfl (by omega : (jn c).length ≤ 90000)
    rw [split_jn ne lt] at sp
    refine sp H1 (Ex.refl _) _ fun wd H2 nwd e2 hwd => ?_
    have wb : wd ≠ b := fun z => by
      rw [z, hb] at nwd
      cases nwd
    refine q_forEn (K := K) (ta := tCons (tC (.ref wd)) tNil) (a := wd) (i := 2) (j := 3) (ea_cons ev_c ea_nil) (sq_of hwd) (fun i σ' H' => ∃ y2 y3, σ' = [some (.str (jn c)), some (.ref b), y2, y3] ∧ Ex H H' ∧ H' b = some (.lst (nv (c.take i))) ∧ H' wd = some (.lst ((c.map ds).map V.str))) (fun H3 e3 => ⟨_, _, rfl, e1.trans (e2.trans e3), (e2.trans e3) b _ hb, e3 wd _ hwd⟩) (fun i σ' H' _ ⟨_, _, _, _, _, z⟩ => sq_of z) ?_ ?_ (D := _) (tz := _) (σ := _) (H := H2)
    · rintro i x σ' H' H3 hx ⟨y2, y3, rfl, e, hb', hw'⟩ e3
      obtain ⟨hi, rfl⟩ := words_at hx
      have hb3 := e3 b _ hb'
      refine q_when (b := false) (et_is (et_test (ev_op (ev_var rfl) ev_c (rv_eq rfl))) (by
        rw [decide_eq_false_iff_not]
        intro z
        have := V.int.inj z
        omega)) (fun hb => Bool.noConfusion hb) fun _ H4 e4 => ?_
      have hb4 := e4 b _ hb3
      have rg := el_rg1 (σ := [some (.str (jn c)), some (.ref b), some (.int (i : Int)), some (.str (ds (c.getD i 0)))]) (H := H4) (tb := tOp (rI0 fun i j => .int (i + j)) (tVar 2) (tC (.int 1))) (b := ((i + 1 : Nat) : Int)) (ev_is (ev_op (ev_var rfl) ev_c rv_I0) (by congr 1)) (RgOk.of_le (by decide) (by omega) (by decide) (by omega))
      rw [range_iz] at rg
      have hw4 := e4 wd _ (e3 wd _ hw')
      have gi := o.get i
      refine s_app hb4 (ev_var rfl) (ev_call3L (ev_var rfl) (ev_var rfl) rg fun p H5 e5 hp => sv_number_at hp (List.mem_range.mpr (by omega)) (fun x hx => by have := List.mem_range.mp hx; omega) (by rw [List.length_range]; omega)) (by rw [nv_len, List.length_take]; omega) fun H5 e5 => ⟨_, _, rfl, Ex.mut (e.trans (e3.trans (e4.trans e5))) nb, ?_, ?_⟩
      · rw [upd_same, take_at hi, nv_app]
        rfl
      · rw [upd_ne wb]
        exact e5 wd _ hw4
    · rintro σ' H' ⟨y2, y3, rfl, e, hb', hw'⟩
      rw [List.length_map, List.length_map, List.take_length] at hb'
      exact s_ret (ev_var rfl) fun H4 e4 => k b H4 nb (e.trans e4) (e4 b _ hb')
end


local macro_rules | `(tactic| walk_at "call") => `(tactic| (with_reducible exact sv_whole))
local macro_rules | `(tactic| walk_at "call") => `(tactic| ((with_reducible refine' sv_order ?c1 ?c2); (case c1 => assumption); (case c2 => assumption)))
local macro_rules | `(tactic| walk_at "call") => `(tactic| ((with_reducible refine' sv_ord ?c1 ?c2); (case c1 => assumption); (case c2 => assumption)))

/-! ### the text of tables -/
def bar : Str := "|"
def wS : Option Nat → Str
  | none => bar
  | some x => ds x
def toks : List (List Nat) → List (Option Nat)
  | [] => []
  | [r] => r.map some
  | r :: s :: l => r.map some ++ none :: toks (s :: l)
def rem (q : List Nat) : List (List Nat) → List (Option Nat)
  | [] => q.map some
  | s :: l => q.map some ++ none :: toks (s :: l)
theorem toks_rem : ∀ (r : List Nat) (B : List (List Nat)), toks (r :: B) = rem r B
  | _, [] => rfl
  | _, _ :: _ => rfl
open _root_.TL in
theorem joinL_app (S : List Nat) : ∀ {A B : List (List Nat)}, A ≠ [] → B ≠ [] → joinL S (A ++ B) = joinL S A ++ (S ++ joinL S B)
  | [], _, h, _ => absurd rfl h
  | [p], q :: r, _, _ => rfl
  | p :: q :: l, B, _, hB => by
    show p ++ (S ++ joinL S (q :: l ++ B)) = (p ++ (S ++ joinL S (q :: l))) ++ (S ++ joinL S B)
    rw [joinL_app S (A := q :: l) (by simp) hB]
    simp only [List.append_assoc]
theorem toks_ne {s : List Nat} {l : List (List Nat)} (h : s ≠ []) : toks (s :: l) ≠ [] := by
  rw [toks_rem]
  cases l with
  | nil =>
    show s.map some ≠ []
    exact fun e => h (List.map_eq_nil_iff.mp e)
  | cons a b =>
    show s.map some ++ none :: toks (a :: b) ≠ []
    simp
open _root_.TL in
theorem joinL_toks : ∀ {rs : List (List Nat)}, (∀ r ∈ rs, r ≠ []) → joinL [32, 124, 32] (rs.map fun r => joinL [32] (r.map fun x => tl (ds x))) = joinL [32] ((toks rs).map fun t => tl (wS t))
  | [], _ => rfl
  | [r], _ => by
    show joinL [32] (r.map fun x => tl (ds x)) = joinL [32] ((r.map some).map fun t => tl (wS t))
    rw [List.map_map]
    rfl
  | r :: s :: l, h => by
    have ih := joinL_toks (rs := s :: l) fun x hx => h x (List.mem_cons_of_mem _ hx)
    have rn := h r List.mem_cons_self
    have sn := h s (by simp)
    show joinL [32] (r.map fun x => tl (ds x)) ++ ([32, 124, 32] ++ joinL [32, 124, 32] ((s :: l).map fun r => joinL [32] (r.map fun x => tl (ds x)))) = joinL [32] ((r.map some ++ none :: toks (s :: l)).map fun t => tl (wS t))
    rw [ih, List.map_append, List.map_map, List.map_cons]
    have t := toks_ne (l := l) sn
    rw [joinL_app [32] (A := r.map ((fun t => tl (wS t)) ∘ some)) (fun e => rn (List.map_eq_nil_iff.mp e)) (by simp)]
    have e2 : joinL [32] (tl (wS none) :: (toks (s :: l)).map fun t => tl (wS t)) = [124] ++ ([32] ++ joinL [32] ((toks (s :: l)).map fun t => tl (wS t))) := joinL_app [32] (A := [tl (wS none)]) (B := (toks (s :: l)).map fun t => tl (wS t)) (by simp) (fun e => t (List.map_eq_nil_iff.mp e))
    rw [e2]
    rfl
theorem toks_lt : ∀ {rs : List (List Nat)}, ∀ x, some x ∈ toks rs → ∃ r ∈ rs, x ∈ r
  | [], x, h => by cases h
  | [r], x, h => by
    obtain ⟨y, hy, e⟩ := List.mem_map.mp (show some x ∈ r.map some from h)
    cases e
    exact ⟨r, by simp, hy⟩
  | r :: s :: l, x, h => by
    rcases List.mem_append.mp (show some x ∈ r.map some ++ none :: toks (s :: l) from h) with z | z
    · obtain ⟨y, hy, e⟩ := List.mem_map.mp z
      cases e
      exact ⟨r, by simp, hy⟩
    · rcases List.mem_cons.mp z with z | z
      · cases z
      · obtain ⟨t, ht, hx⟩ := toks_lt (rs := s :: l) x z
        exact ⟨t, List.mem_cons_of_mem _ ht, hx⟩
theorem toks_len : ∀ {rs : List (List Nat)}, (toks rs).length ≤ rs.flatten.length + rs.length
  | [] => Nat.le_refl _
  | [r] => by
    show (r.map some).length ≤ _
    simp
  | r :: s :: l => by
    have := toks_len (rs := s :: l)
    show (r.map some ++ none :: toks (s :: l)).length ≤ (r ++ (s :: l).flatten).length + ((s :: l).length + 1)
    rw [List.length_append, List.length_append, List.length_map, List.length_cons]
    omega
open _root_.TL in
theorem split_jt {rs : List (List Nat)} (h0 : rs ≠ []) (ne : ∀ r ∈ rs, r ≠ []) (lt : ∀ r ∈ rs, ∀ x ∈ r, x < 20) : Txt.split (jt rs) " " = (toks rs).map wS := by
  have tn : toks rs ≠ [] := by
    cases rs with
    | nil => exact absurd rfl h0
    | cons s l => exact toks_ne (ne s List.mem_cons_self)
  have e : jt rs = Txt.join " " ((toks rs).map wS) := by
    unfold jt
    refine ext_tl ?_
    rw [join_eq, tl_join, join_eq, tl_join, List.map_map, List.map_map]
    have := joinL_toks ne
    have e1 : rs.map (tl ∘ jn) = rs.map fun r => joinL [32] (r.map fun x => tl (ds x)) := List.map_congr_left fun r _ => by
      show tl (jn r) = _
      unfold jn
      rw [join_eq, tl_join, List.map_map]
      rfl
    rw [e1]
    exact this
  rw [e]
  refine split_join (s := 32) (S := []) rfl (by decide +kernel) (fun e => tn (List.map_eq_nil_iff.mp e)) fun p hp => ?_
  obtain ⟨t, ht, rfl⟩ := List.mem_map.mp hp
  cases t with
  | none => decide +kernel
  | some x =>
    obtain ⟨r, hr, hx⟩ := toks_lt x ht
    exact (ds_fact (lt r hr x hx)).1
theorem ds_bar {x : Nat} (h : x < 20) : ds x ≠ bar := fun e => by
  have := (ds_fact h).2.1
  rw [e] at this
  exact this (by decide +kernel)
/-! free numbers -/
def frU (U : List Nat) : List Nat := (List.range 20).filter fun x => decide (x ∉ U)
theorem frU_mem {U : List Nat} {x : Nat} : x ∈ frU U ↔ x < 20 ∧ x ∉ U := by
  unfold frU
  rw [List.mem_filter, List.mem_range, decide_eq_true_iff]
theorem frU_len (U : List Nat) : (frU U).length ≤ 20 := by
  have := List.length_filter_le (fun x => decide (x ∉ U)) (List.range 20)
  rwa [List.length_range] at this
theorem frU_nodup (U : List Nat) : (frU U).Nodup := List.nodup_range.filter _
theorem frU_erase {U : List Nat} {g : Nat} : (frU U).erase g = frU (U ++ [g]) := by
  rw [(frU_nodup U).erase_eq_filter]
  unfold frU
  rw [List.filter_filter]
  refine List.filter_congr fun x _ => ?_
  rw [Bool.eq_iff_iff, Bool.and_eq_true, decide_eq_true_iff, decide_eq_true_iff, bne_iff_ne, List.mem_append, List.mem_singleton]
  constructor
  · rintro ⟨a, b⟩ (h | h)
    · exact b h
    · exact a h
  · exact fun h => ⟨fun e => h (.inr e), fun e => h (.inl e)⟩
theorem frU_head {U : List Nat} {g : Nat} (low : ∀ x, x < g → x ∈ U) (ng : g ∉ U) (lt : g < 20) : (frU U).take 1 = [g] := by
  unfold frU
  obtain ⟨m, hm⟩ : ∃ m, 20 = g + (m + 1) := ⟨20 - g - 1, by omega⟩
  rw [hm, List.range_add, List.filter_append, List.filter_eq_nil_iff.mpr fun x hx => by
    have := low x (List.mem_range.mp hx)
    simpa using this, List.nil_append, List.range_succ_eq_map, List.map_cons, List.filter_cons, if_pos (by simpa using ng)]
  rfl
theorem lead_low {h : List Nat} {A B : List (List Nat)} {g : Nat} {q : List Nat} (R : Rings h (A ++ (g :: q) :: B)) : ∀ x, x < g → x ∈ A.flatten := by
  intro x hx
  have gm : g ∈ (A ++ (g :: q) :: B).flatten := List.mem_flatten.mpr ⟨g :: q, by simp, by simp⟩
  have gl := List.mem_range.mp (R.all.mem_iff.mp gm)
  have xm := R.all.mem_iff.mpr (List.mem_range.mpr (show x < h.length by omega))
  obtain ⟨r, hr, xr⟩ := List.mem_flatten.mp xm
  rcases List.mem_append.mp hr with z | z
  · exact List.mem_flatten.mpr ⟨r, z, xr⟩
  · have low := R.low r hr x xr
    rcases List.mem_cons.mp z with rfl | z
    · have : g ≤ x := low
      omega
    · have asc := R.asc
      rw [List.map_append, List.pairwise_append, List.map_cons, List.pairwise_cons] at asc
      have : g < r.headD 0 := asc.2.1.1 _ (List.mem_map.mpr ⟨r, z, rfl⟩)
      omega


local macro_rules | `(tactic| walk_at "call") => `(tactic| (with_reducible exact sv_whole))
local macro_rules | `(tactic| walk_at "call") => `(tactic| ((with_reducible refine' sv_order ?c1 ?c2); (case c1 => assumption); (case c2 => assumption)))
local macro_rules | `(tactic| walk_at "call") => `(tactic| ((with_reducible refine' sv_ord ?c1 ?c2); (case c1 => assumption); (case c2 => assumption)))

theorem nv_erase (L : List Nat) (k : Nat) : (nv L).eraseIdx k = nv (L.eraseIdx k) := by
  rw [nv_eq, nv_eq, List.eraseIdx_eq_take_drop_succ, List.eraseIdx_eq_take_drop_succ, List.map_append, List.map_take, List.map_drop]

theorem q_asgL1L {σ : L2.St} {H : Hp} {te : TE} {D : Ends} {tz : TS} {i : Nat} {xs : List V} (h : EvL te σ H xs) (k : ∀ l b H1, H l = none → H b = none → l ≠ b → Ex H H1 → H1 b = some (.lst xs) → H1 l = some (.lst [.ref b]) → tz D (σ.set i (some (.ref l))) H1) : tSeq (tAsg (tLst (tCons te tNil)) (gName i)) tz D σ H :=
  h H (Ex.refl H) _ fun b H1 nb e1 hb => ⟨sz_of (by show 1 ≤ 100000; decide), fun l nl => k l b _ (fresh_back e1 nl) nb (fun z => by
    rw [z, hb] at nl
    cases nl) (e1.trans (Ex.new nl)) (Ex.new nl b _ hb) upd_same⟩

theorem cutTo {c : List Nat} {i : Nat} (hi : i ≤ c.length) : cutV (nv c) none (some (i : Int)) = nv (c.take i) := by
  unfold cutV
  rw [HT.sIx_none, HT.sIx_nat, nv_len, Nat.min_eq_left hi, List.drop_zero, Nat.sub_zero, nv_eq, nv_eq, List.map_take]

structure LL (H0 : Hp) (p : Addr) (H : Hp) (bs : List Addr) (rs : List (List Nat)) : Prop where
  self : H p = some (.lst (bs.map V.ref))
  nd : bs.Nodup
  np : p ∉ bs
  fp : H0 p = none
  fr : ∀ b ∈ bs, H0 b = none
  len : bs.length = rs.length
  at_ : ∀ (i : Nat) (b : Addr) (r : List Nat), bs[i]? = some b → rs[i]? = some r → H b = some (.lst (nv r))
theorem LL.ex {H0 H H' : Hp} {p : Addr} {bs : List Addr} {rs : List (List Nat)} (L : LL H0 p H bs rs) (e : Ex H H') : LL H0 p H' bs rs :=
  ⟨e p _ L.self, L.nd, L.np, L.fp, L.fr, L.len, fun i b r h1 h2 => e b _ (L.at_ i b r h1 h2)⟩
theorem LL.get {H0 H : Hp} {p : Addr} {bs : List Addr} {rs : List (List Nat)} (L : LL H0 p H bs rs) {i : Nat} {r : List Nat} (h : rs[i]? = some r) : ∃ b, bs[i]? = some b ∧ H b = some (.lst (nv r)) ∧ b ≠ p ∧ H0 b = none := by
  have hi := (List.getElem?_eq_some_iff.mp h).1
  have hb : bs[i]? = some (bs[i]'(by rw [L.len]; exact hi)) := List.getElem?_eq_getElem _
  refine ⟨_, hb, L.at_ i _ r hb h, fun z => L.np ?_, L.fr _ (List.mem_of_getElem? hb)⟩
  rw [← z]
  exact List.mem_of_getElem? hb
theorem LL.nil {H0 H : Hp} {p : Addr} (h : H p = some (.lst [])) (fp : H0 p = none) : LL H0 p H [] [] :=
  ⟨h, List.nodup_nil, by simp, fp, by simp, rfl, fun i b r h1 => by simp at h1⟩
theorem LL.push {H0 H H' : Hp} {p q : Addr} {bs : List Addr} {rs : List (List Nat)} {r : List Nat} (L : LL H0 p H bs rs) (e0 : Ex H0 H) (e : Ex H H') (hq : H q = none) (h' : H' q = some (.lst (nv r))) : LL H0 p (upd H' p (.lst (bs.map V.ref ++ [.ref q]))) (bs ++ [q]) (rs ++ [r]) := by
  have nq : q ∉ bs := fun hm => by
    obtain ⟨i, hi⟩ := List.mem_iff_getElem?.mp hm
    have hl := (List.getElem?_eq_some_iff.mp hi).1
    have := L.at_ i q _ hi (List.getElem?_eq_getElem (by rw [← L.len]; exact hl))
    rw [hq] at this
    cases this
  have qp : q ≠ p := fun z => by
    have := L.self
    rw [← z, hq] at this
    cases this
  refine ⟨by rw [upd_same]; simp, ?_, ?_, L.fp, ?_, by simp [L.len], ?_⟩
  · exact List.nodup_append.mpr ⟨L.nd, by simp, fun a ha b hb z => nq (by
      rw [List.mem_singleton] at hb
      rw [← hb, ← z]
      exact ha)⟩
  · simp [L.np, Ne.symm qp]
  · intro b hb
    rcases List.mem_append.mp hb with h | h
    · exact L.fr b h
    · rw [List.mem_singleton] at h
      rw [h]
      exact fresh_back e0 hq
  · intro i b s h1 h2
    by_cases hi : i < bs.length
    · rw [List.getElem?_append_left hi] at h1
      rw [List.getElem?_append_left (by rw [← L.len]; exact hi)] at h2
      have hb := L.at_ i b s h1 h2
      rw [upd_ne (fun z => L.np (by rw [← z]; exact List.mem_of_getElem? h1))]
      exact e b _ hb
    · rw [List.getElem?_append_right (by omega)] at h1
      rw [List.getElem?_append_right (by rw [← L.len]; omega)] at h2
      have i0 : i - bs.length = 0 := by
        have := (List.getElem?_eq_some_iff.mp h1).1
        simp at this
        omega
      rw [i0] at h1
      rw [← L.len, i0] at h2
      have b1 : q = b := Option.some.inj h1
      have r1 : r = s := Option.some.inj h2
      rw [← b1, ← r1, upd_ne qp]
      exact h'
theorem LL.put {H0 H : Hp} {p b : Addr} {bs : List Addr} {rs : List (List Nat)} {r : List Nat} {i : Nat} (L : LL H0 p H bs rs) (hb : bs[i]? = some b) : LL H0 p (upd H b (.lst (nv r))) bs (rs.set i r) := by
  have bp : p ≠ b := fun z => L.np (by rw [z]; exact List.mem_of_getElem? hb)
  refine ⟨by rw [upd_ne bp]; exact L.self, L.nd, L.np, L.fp, L.fr, by simp [L.len], fun j c s h1 h2 => ?_⟩
  by_cases hj : i = j
  · subst hj
    have hl : i < rs.length := by rw [← L.len]; exact (List.getElem?_eq_some_iff.mp hb).1
    rw [List.getElem?_set_self hl] at h2
    rw [hb] at h1
    rw [← Option.some.inj h1, ← Option.some.inj h2, upd_same]
  · rw [List.getElem?_set_ne hj] at h2
    have : c ≠ b := fun z => by
      subst z
      exact hj (nd_ix L.nd hb h1)
    rw [upd_ne this]
    exact L.at_ j c s h1 h2
theorem set_end {α : Type} (l : List α) (x y : α) : (l ++ [x]).set l.length y = l ++ [y] := by
  rw [List.set_append_right _ _ (Nat.le_refl _)]
  simp
theorem list_end {α : Type} (l : List α) : l = [] ∨ ∃ i x, l = i ++ [x] := by
  rcases List.eq_nil_or_concat l with h | ⟨i, x, h⟩
  · exact .inl h
  · exact .inr ⟨i, x, by simpa using h⟩
/-! ### reading tables -/
def sp_read_tables : Sp := fun vs H Q _ => ∃ (h : List Nat) (rs : List (List Nat)), vs = [.str (jt rs)] ∧ Ord h ∧ Rings h rs ∧ ∀ p ws H', H p = none → Ex H H' → H' p = some (.lst ws) → TL H' ws (rs.map nv) → Q (.ref p) H'
theorem idx_before : ∀ {F : List Nat} {g m : Nat}, m < F.idxOf g → F[m]? ≠ some g
  | [], _, _, _, e => by simp at e
  | x :: l, g, m, h, e => by
    rw [List.idxOf_cons] at h
    by_cases z : x = g
    · rw [z] at h
      simp at h
    · have zb : (x == g) = false := by simpa using z
      rw [zb] at h
      cases m with
      | zero => exact z (Option.some.inj e)
      | succ m => exact idx_before (F := l) (g := g) (m := m) (Nat.lt_of_succ_lt_succ h) e
theorem erase_idx : ∀ (F : List Nat) (g : Nat), F.eraseIdx (F.idxOf g) = F.erase g
  | [], _ => rfl
  | x :: l, g => by
    rw [List.idxOf_cons, List.erase_cons]
    by_cases z : x = g
    · have zb : (x == g) = true := by simpa using z
      rw [zb]
      rfl
    · have zb : (x == g) = false := by simpa using z
      rw [zb]
      show x :: l.eraseIdx (l.idxOf g) = x :: l.erase g
      rw [erase_idx l g]
theorem q_remI {K : PySem.W.Frag} {σ : L2.St} {H : Hp} {ta te : TE} {D : Ends} {tz : TS} {l : Addr} {F : List Nat} {g : Nat} (hl : H l = some (.lst (nv F))) (hg : g ∈ F) (ha : Ev ta σ H (.ref l)) (he : Ev te σ H (.int (g : Int))) (k : ∀ H1, Ex H H1 → tz D σ (upd H1 l (.lst (nv (F.erase g))))) : tSeq (tDrop (tBM K "list" rRemI ta (tCons te tNil))) tz D σ H :=
  ha H (Ex.refl H) _ fun H1 e1 => ⟨Or.inl ⟨rfl, nv F, sq_of (e1 l _ hl)⟩, he H1 e1 _ fun H2 e2 => by
    have ig := List.idxOf_lt_length_of_mem hg
    refine ⟨l, iz F, (g : Int), F.idxOf g, rfl, rfl, e2 l _ (e1 l _ hl), ?_, fun m hm e => ?_, ?_⟩
    · unfold iz
      rw [List.getElem?_map, List.getElem?_eq_getElem ig, List.getElem_idxOf ig]
      rfl
    · unfold iz at e
      rw [List.getElem?_map] at e
      obtain ⟨y, hy, e⟩ := Option.map_eq_some_iff.mp e
      have : y = g := by omega
      subst this
      exact idx_before hm hy
    · have e : ((iz F).eraseIdx (F.idxOf g)).map V.int = nv (F.erase g) := by
        rw [← erase_idx, ← nv_erase]
        unfold nv
        rw [List.eraseIdx_eq_take_drop_succ, List.eraseIdx_eq_take_drop_succ, List.map_append, List.map_take, List.map_drop]
      rw [e]
      exact k H2 (e1.trans e2)⟩
theorem el_ifF {σ : L2.St} {H : Hp} {t : TT} {ta tb : TE} {xs : List V} (h : EvT t σ H false) (h2 : EvL tb σ H xs) : EvL (tIf t ta tb) σ H xs := fun H1 e Q q => h H1 e _ fun H2 e2 => by
  rw [if_neg (by simp)]
  exact h2 H2 (e.trans e2) Q fun p H3 np e3 hp => q p H3 (fresh_back e2 np) (e2.trans e3) hp
theorem LL.other {H0 H : Hp} {p l : Addr} {bs : List Addr} {rs : List (List Nat)} {o : HO} (L : LL H0 p H bs rs) (hl : l ∉ bs) (ne : l ≠ p) : LL H0 p (upd H l o) bs rs :=
  ⟨by rw [upd_ne (Ne.symm ne)]; exact L.self, L.nd, L.np, L.fp, L.fr, L.len, fun i b r h1 h2 => by
    rw [upd_ne (fun z => hl (by rw [← z]; exact List.mem_of_getElem? h1))]
    exact L.at_ i b r h1 h2⟩
theorem et_truL {K : PySem.W.Frag} {σ : L2.St} {H : Hp} {ta : TE} {a : Addr} {xs : List V} (h : Ev ta σ H (.ref a)) (hx : H a = some (.lst xs)) : EvT (fun σ H Q => ta σ H fun x H' => ∃ k, TruV K x H' k ∧ Q k H') σ H (!xs.isEmpty) := et_tru h (sq_of hx)
section
variable {P : Program} {w : World} {K : PySem.W.Frag} {mg : Str → Option Value} {base : Heap}
theorem ok_read_tables (T : Tx K mg) : FnOk P w K mg base CX0 4 T.f_read_tables T.d_read_tables ["text"] sp_read_tables := by
  refine T.F_read_tables.ok sc_read_tables (fun vs H Q E h => ?_) (fun cdv A outer s0 H vs Q E hr h => ?_)
  · obtain ⟨h, rs, rfl, _⟩ := h
    rfl
  · obtain ⟨h, rs, rfl, o, R, k⟩ := h
    refine ⟨_, (pss_cons (ps_set (i := 1) sc_read_tables.nd rfl (Or.inl rfl) (pe_splitW (pv 0) pe_str))
      (pss_cons (ps_set (i := 2) sc_read_tables.nd rfl (Or.inl rfl) (pe_lst (pa_cons (pe_lst pa_nil) pa_nil)))
      (pss_cons (ps_set (i := 3) sc_read_tables.nd rfl (Or.inl rfl) (pe_listRg rfl (by rfl) T.m_list (prg_1 (by rfl) T.m_range (pe_gc (by rfl) T.c_MOST_GUESTS))))
      (pss_cons (ps_for PassesOwn.never rfl (pi_enum (by rfl) T.m_enumerate (pa_cons (pv 1) pa_nil)) (pg_tup rfl (pgs_cons (pg_name (i := 4) sc_read_tables.nd rfl (Or.inl rfl)) (pgs_cons (pg_name (i := 5) sc_read_tables.nd rfl (Or.inl rfl)) pgs_nil))) (pss_one (ps_if (PW.pt (pw_and (pt_cmpR op_eq (pv 5) (pe_gc (by rfl) T.c_BAR) (nomark _)) (pw_and (pt_truth (pe_ix ix_list (pv 2) (pe_un un_neg pe_int) (fun _ _ => rfl)) (by intro _; rfl)) (pw_and1 (pt_truth (pv 3) (by intro _; rfl)))))) (pss_one (ps_expr (pe_bm PySem.F.plainAttrs_list PySem.F.slot_list_append PySem.F.type_list_append mt_append (pv 2) (pa_cons (pe_lst pa_nil) pa_nil)))) (pss_cons (ps_set (i := 6) sc_read_tables.nd rfl (Or.inl rfl) (pe_call (ok_number_at T) (hr.mono (by decide)) (by rfl) T.g_number_at T.F_number_at.kp T.b_number_at .nil pass0 (pa_cons (pv 4) (pa_cons (pv 5) (pa_cons (pe_ifExp (pt_truth (pe_ix ix_list (pv 2) (pe_un un_neg pe_int) (fun _ _ => rfl)) (by intro _; rfl)) (pv 3) (pe_slice sl_list (pv 3) po_none (po_some pe_int))) pa_nil)))))
      (pss_cons (ps_expr (pe_bm PySem.F.plainAttrs_list PySem.F.slot_list_remove PySem.F.type_list_remove mt_remove (pv 3) (pa_cons (pv 6) pa_nil)))
      (pss_one (ps_expr (pe_bm PySem.F.plainAttrs_list PySem.F.slot_list_append PySem.F.type_list_append mt_append (pe_ix ix_list (pv 2) (pe_un un_neg pe_int) (fun _ _ => rfl)) (pa_cons (pv 6) pa_nil)))))))))
      (pss_cons (ps_setLc (i := 8) (own := [("table", 7)]) (g := (gName 7)) (tt := tYes) rfl sc_read_tables.nd rfl rfl (sw_true rfl rfl rfl (by decide +kernel)) (pi_list (pv 2)) (blkOk_by (own := [("table", 7)]) (N := n_read_tables) (sc := defScope s_read_tables) (by decide +kernel)) (fun _ _ _ _ _ => (pg_name (i := 7) sc_read_tables.nd rfl (Or.inl rfl))) (fun _ _ _ _ _ => pts_nil) (fun _ _ _ _ _ => (pe_callTy (T := "tuple") (r := rTupS K) call_tupR (by rfl) T.m_tuple (by decide +kernel) (pa_cons (pv 7) pa_nil))))
      (pss_cons (ps_if (pt_not (pt_val (pe_call (ok_are_tables T) (hr.mono (by decide)) (by rfl) T.g_are_tables T.F_are_tables.kp T.b_are_tables .nil pass0 (pa_cons (pv 8) pa_nil)))) (pss_one ps_never) pss_nil)
      (pss_one (ps_ret (pv 8))))))))), ?_⟩
    have o2 := o.2
    have nd : rs.flatten.Nodup := R.all.nodup_iff.mpr List.nodup_range
    have fl : rs.flatten.length = h.length := by
      have := R.all.length_eq
      rwa [List.length_range] at this
    have lt20 : ∀ x ∈ rs.flatten, x < 20 := fun x hx => by
      have := List.mem_range.mp (R.all.mem_iff.mp hx)
      omega
    have rne : ∀ r ∈ rs, r ≠ [] := fun r hr z => by
      have := (R.rg r hr).ne
      rw [z] at this
      exact absurd this (by decide)
    have rlen : rs.length ≤ rs.flatten.length := by
      have : ∀ l : List (List Nat), (∀ r ∈ l, r ≠ []) → l.length ≤ l.flatten.length := fun l => by
        induction l with
        | nil => exact fun _ => Nat.le_refl _
        | cons x l ih =>
          intro z
          have a := ih fun r hr => z r (List.mem_cons_of_mem _ hr)
          have b := List.length_pos_iff.mpr (z x List.mem_cons_self)
          rw [List.flatten_cons, List.length_append, List.length_cons]
          omega
      exact this rs rne
    have few : Few rs := ⟨by omega, fun r hr => ⟨by
      have := (List.sublist_flatten_of_mem hr).length_le
      omega, fun x hx => lt20 x (List.mem_flatten.mpr ⟨r, hr, hx⟩)⟩⟩
    have r0 : rs ≠ [] := fun z => by
      rw [z] at fl
      have : (0 : Nat) = h.length := fl
      omega
    have jl : (jt rs).length ≤ 90000 := by
      have a := join_len " | " (rs.map jn)
      have b := few_len few
      rw [List.length_map, show (" | " : Str).length = 3 from rfl] at a
      unfold jt
      omega
    have tlen := toks_len (rs := rs)
    have sp := el_split (σ := [some (.str (jt rs)), none, none, none, none, none, none, none, none]) (H := H) (ta := tVar 0) (tb := tC (.str " ")) (ev_var rfl) ev_c rfl jl
    rw [split_jt r0 rne fun r hr x hx => lt20 x (List.mem_flatten.mpr ⟨r, hr, hx⟩)] at sp
    refine q_asgL sp fun wd H1 nwd e1 hwd => ?_
    refine q_asgL1L (xs := nv []) (el_lst ea_nil (Nat.le_of_ble_eq_true rfl)) fun tb b0 H2 ntb nb0 tb0 e2 hb0 htb => ?_
    have rg := el_rg1 (σ := [some (.str (jt rs)), some (.ref wd), some (.ref tb), none, none, none, none, none, none]) (H := H2) (tb := tC (.int 20)) (b := ((20 : Nat) : Int)) ev_c (RgOk.of_le (by decide) (by omega) (by decide) (by omega))
    rw [range_iz] at rg
    refine q_asgL rg fun fa H3 nfa e3 hfa => ?_
    have nfa1 := fresh_back e2 nfa
    have fatb : fa ≠ tb := fun z => by
      rw [z, htb] at nfa
      cases nfa
    have fab0 : fa ≠ b0 := fun z => by
      rw [z, hb0] at nfa
      cases nfa
    have fr0 : frU ([] : List Nat) = List.range 20 := List.filter_eq_self.mpr fun _ _ => by simp
    obtain ⟨r1, B1, rs1⟩ : ∃ r1 B1, rs = r1 :: B1 := by
      cases rs with
      | nil => exact absurd rfl r0
      | cons x l => exact ⟨x, l, rfl⟩
    refine q_forEn (K := K) (a := wd) (ea_cons (ev_var rfl) ea_nil) (sq_of ((e2.trans e3) wd _ hwd)) (fun i σ' H' => ∃ y4 y5 y6 A p q B bs, σ' = [some (.str (jt rs)), some (.ref wd), some (.ref tb), some (.ref fa), y4, y5, y6, none, none] ∧ Ex H1 H' ∧ LL H1 tb H' bs (A ++ [p]) ∧ H' fa = some (.lst (nv (frU (A.flatten ++ p)))) ∧ rs = A ++ (p ++ q) :: B ∧ (toks rs).drop i = rem q B ∧ fa ∉ bs) (fun H4 e4 => ⟨_, _, _, [], [], r1, B1, [b0], rfl, e2.trans (e3.trans e4), ⟨(e3.trans e4) tb _ htb, by simp, by simpa using tb0, ntb, fun b hb => by rw [List.mem_singleton.mp hb]; exact nb0, rfl, fun i b r h1 h2 => ?_⟩, by rw [show ([] : List (List Nat)).flatten ++ [] = [] from rfl, fr0]; exact e4 fa _ hfa, rs1, by rw [List.drop_zero, rs1, toks_rem], by simpa using fab0⟩) (fun i σ' H' _ ⟨_, _, _, _, _, _, _, _, _, e, _⟩ => sq_of (e wd _ hwd)) ?_ ?_
    · cases i with
      | zero =>
        cases h1
        cases h2
        exact (e3.trans e4) _ _ hb0
      | succ i => simp at h1
    · rintro i x σ' H4' H4 hx ⟨y4, y5, y6, A, p, q, B, bs, rfl, e, L', hf', er, dr, fbs⟩ e4
      have L := L'.ex e4
      have hf := e4 fa _ hf'
      have e' := e.trans e4
      rw [List.getElem?_map, List.getElem?_map] at hx
      obtain ⟨z, hz, rfl⟩ := Option.map_eq_some_iff.mp hx
      obtain ⟨t, ht, rfl⟩ := Option.map_eq_some_iff.mp hz
      have til := (List.getElem?_eq_some_iff.mp ht).1
      have dn : (toks rs).drop i = t :: (toks rs).drop (i + 1) := by
        rw [List.drop_eq_getElem_cons til]
        congr 1
        rw [List.getElem?_eq_getElem til] at ht
        exact Option.some.inj ht
      rw [dr] at dn
      obtain ⟨b, hb, hbv, hbp, hb1⟩ := L.get (i := A.length) (r := p) (by simp)
      have hbl : bs.length = A.length + 1 := by rw [L.len]; simp
      obtain ⟨bi, eb⟩ : ∃ bi, bs = bi ++ [b] := by
        rcases list_end bs with z | ⟨bi, b', z⟩
        · rw [z] at hbl; simp at hbl
        · refine ⟨bi, ?_⟩
          rw [z] at hb hbl
          have : bi.length = A.length := by simpa using hbl
          rw [← this] at hb
          simp at hb
          rw [z, hb]
      have fab : fa ≠ b := fun z => fbs (by rw [eb, z]; simp)
      have last : ∀ {y6 : Option V} {H5 : Hp}, H5 tb = some (.lst (bs.map V.ref)) → Ev (tOp (rIxL K) (tVar 2) (tUn (rU fun i => .int (-i)) (tC (.int 1)))) [some (.str (jt rs)), some (.ref wd), some (.ref tb), some (.ref fa), some (.int (i : Int)), some (.str (wS t)), y6, none, none] H5 (.ref b) := fun e5 =>
        ev_op (ev_var rfl) (ev_un ev_c ru_neg) (rv_ixL (sq_of e5) (by rw [eb, List.map_append]; exact atI_last _ _))
      have ALb : A.length ≤ rs.length := by rw [er]; simp
      have mem : ∀ y ∈ p ++ q, y ∈ rs.flatten := fun y hy => List.mem_flatten.mpr ⟨p ++ q, by rw [er]; simp, hy⟩
      match q, dn with
      | g :: q', dn =>
        have tg : t = some g ∧ (toks rs).drop (i + 1) = rem q' B := by
          cases B with
          | nil => exact ⟨(List.cons.inj dn).1.symm, (List.cons.inj dn).2.symm⟩
          | cons s l => exact ⟨(List.cons.inj dn).1.symm, (List.cons.inj dn).2.symm⟩
        obtain ⟨rfl, dr'⟩ := tg
        have g20 : g < 20 := lt20 g (mem g (by simp))
        have nU : g ∉ A.flatten ++ p := fun z => by
          have q1 := nd
          rw [er, List.flatten_append, List.flatten_cons] at q1
          rw [List.append_assoc, ← List.append_assoc A.flatten p, List.nodup_append] at q1
          exact q1.2.2 g z g (by simp) rfl
        have gf : g ∈ frU (A.flatten ++ p) := frU_mem.mpr ⟨g20, nU⟩
        refine s_if (b := false) (et_is (et_and (a := false) (et_is (et_test (ev_op (ev_var rfl) ev_c (rv_eq rfl))) (decide_eq_false fun z => ds_bar g20 (V.str.inj z))) (b := false) fun hb => Bool.noConfusion hb) rfl) (fun hb => Bool.noConfusion hb) fun _ H5 e5 => ?_
        have hf5 := e5 fa _ hf
        have hb5 := e5 b _ hbv
        refine q_asg (v := .int (g : Int)) ?_ fun H6 e6 => ?_
        · by_cases hp : p = []
          · have tk := frU_head (U := A.flatten ++ p) (g := g) (by
              subst hp
              rw [er] at R
              exact fun x hx => List.mem_append_left _ (lead_low R x hx)) nU g20
            refine ev_call3L (ev_var rfl) (ev_var rfl) (xs := nv [g]) ?_ fun a H6 e6 ha => sv_number_at ha (by simp) (fun x hx => by rw [List.mem_singleton.mp hx]; exact g20) (by show 1 ≤ 20; decide)
            have em : (!(nv p).isEmpty) = false := by
              rw [hp]
              rfl
            refine el_ifF (et_is (et_truL (K := K) (last (e5 tb _ L.self)) hb5) em) ?_
            have s1 := el_sl (K := K) (te := tVar 3) (tl := tNoPart) (th := tPart (tC (.int 1))) (σ := [some (.str (jt rs)), some (.ref wd), some (.ref tb), some (.ref fa), some (.int (i : Int)), some (.str (wS (some g))), y6, none, none]) (H := H5) (ev_var rfl) eo_none (eo_some (ev_c (v := .int 1))) (sq_of hf5)
            rw [show (1 : Int) = ((1 : Nat) : Int) by rfl, cutTo (List.length_pos_of_mem gf), tk] at s1
            exact s1
          · have em : (!(nv p).isEmpty) = true := by
              cases p with
              | nil => exact absurd rfl hp
              | cons _ _ => rfl
            exact ev_call (ea_cons (ev_var rfl) (ea_cons (ev_var rfl) (ea_cons (ev_if (b := true) (et_is (et_truL (K := K) (last (e5 tb _ L.self)) hb5) em) (fun _ => ev_var rfl) (fun z => Bool.noConfusion z)) ea_nil))) (sv_number_at hf5 gf (fun x hx => (frU_mem.mp hx).1) (frU_len _))
        have hf6 := e6 fa _ hf5
        refine q_remI (K := K) hf6 gf (ev_var rfl) (ev_var rfl) fun H7 e7 => ?_
        have e47 := e5.trans (e6.trans e7)
        have L7 := L.ex e47
        have L8 := L7.other (o := .lst (nv ((frU (A.flatten ++ p)).erase g))) fbs fatb
        have hb8 : (upd H7 fa (.lst (nv ((frU (A.flatten ++ p)).erase g)))) b = some (.lst (nv p)) := by
          rw [upd_ne (Ne.symm fab)]
          exact e47 b _ hbv
        have plen : p.length ≤ h.length := by
          have := (List.sublist_flatten_of_mem (l := p ++ g :: q') (L := rs) (by rw [er]; simp)).length_le
          rw [List.length_append] at this
          omega
        refine s_app hb8 (last L8.self) (ev_var rfl) (by rw [nv_len]; omega) fun H9 e9 => ⟨_, _, _, A, p ++ [g], q', B, bs, rfl, Ex.mut ((Ex.mut (e'.trans e47) nfa1).trans e9) hb1, ?_, ?_, by rw [er]; simp, dr', fbs⟩
        · have gq := (L8.ex e9).put (r := p ++ [g]) hb
          rw [set_end, nv_app] at gq
          exact gq
        · rw [upd_ne fab, ← List.append_assoc, ← frU_erase]
          exact e9 fa _ upd_same
      | [], dn =>
        cases B with
        | nil => cases dn
        | cons s l =>
          obtain ⟨rfl, dr'⟩ : t = none ∧ (toks rs).drop (i + 1) = toks (s :: l) := ⟨(List.cons.inj dn).1.symm, (List.cons.inj dn).2.symm⟩
          have pr : p ∈ rs := by
            rw [er]
            simp
          have sr : s ∈ rs := by
            rw [er]
            simp
          have em : (!(nv p).isEmpty) = true := by
            have := rne p pr
            cases p with
            | nil => exact absurd rfl this
            | cons _ _ => rfl
          obtain ⟨g0, s', rfl⟩ : ∃ g0 s', s = g0 :: s' := by
            have := rne s sr
            cases s with
            | nil => exact absurd rfl this
            | cons a l => exact ⟨a, l, rfl⟩
          have g0m : g0 ∈ rs.flatten := List.mem_flatten.mpr ⟨g0 :: s', sr, by simp⟩
          have g0f : g0 ∈ frU (A.flatten ++ p) := frU_mem.mpr ⟨lt20 g0 g0m, fun z => by
            have q1 := nd
            rw [er, List.append_nil, List.flatten_append, List.flatten_cons, List.flatten_cons] at q1
            rw [← List.append_assoc, List.nodup_append] at q1
            exact q1.2.2 g0 z g0 (by simp) rfl⟩
          have ef : (!(nv (frU (A.flatten ++ p))).isEmpty) = true := by
            cases q : frU (A.flatten ++ p) with
            | nil =>
              rw [q] at g0f
              cases g0f
            | cons _ _ => rfl
          refine s_if (b := true) (et_is (et_and (a := true) (et_is (et_test (ev_op (ev_var rfl) ev_c (rv_eq rfl))) (decide_eq_true rfl)) (b := true) fun _ => et_is (et_and (a := true) (et_is (et_truL (K := K) (last L.self) hbv) em) (b := true) fun _ => et_is (et_truL (K := K) (ev_var rfl) hf) ef) rfl) rfl) (fun _ H5 e5 => ?_) (fun hb => Bool.noConfusion hb)
          refine s_appL (xs := bs.map V.ref) (ys := nv []) (e5 tb _ L.self) (ev_var rfl) (el_lst ea_nil (Nat.le_of_ble_eq_true rfl)) (by rw [List.length_map, hbl]; omega) fun qa H6 nqa e6 hqa => ?_
          have faq : fa ≠ qa := fun z => by
            rw [← z, e5 fa _ hf] at nqa
            cases nqa
          refine ⟨_, _, _, A ++ [p], [], g0 :: s', l, bs ++ [qa], rfl, Ex.mut (e'.trans (e5.trans e6)) ntb, (L.ex e5).push (e'.trans e5) e6 nqa hqa, ?_, by rw [er]; simp, by rw [dr', toks_rem], ?_⟩
          · rw [upd_ne fatb, List.append_nil, List.flatten_append]
            show H6 fa = some (.lst (nv (frU (A.flatten ++ (p ++ [])))))
            rw [List.append_nil]
            exact (e5.trans e6) fa _ hf
          · intro z
            rcases List.mem_append.mp z with z | z
            · exact fbs z
            · exact faq (List.mem_singleton.mp z)
    · rintro σ' H4 ⟨y4, y5, y6, A, p, q, B, bs, rfl, e, L, hf, er, dr, fbs⟩
      rw [List.length_map, List.length_map, List.drop_length] at dr
      obtain ⟨rfl, rfl⟩ : q = [] ∧ B = [] := by
        cases B with
        | nil => exact ⟨List.map_eq_nil_iff.mp dr.symm, rfl⟩
        | cons s l =>
          have : q.map some ++ none :: toks (s :: l) = [] := dr.symm
          simp at this
      rw [List.append_nil] at er
      have bl : bs.length = rs.length := by rw [L.len, er]
      have er2 : (List.range (bs.map V.ref).length).map (fun i => nv (rs.getD i [])) = rs.map nv := by
        rw [List.length_map, bl]
        refine List.ext_getElem? fun i => ?_
        by_cases z : i < rs.length
        · rw [List.getElem?_map, List.getElem?_range z, List.getElem?_map, List.getElem?_eq_getElem z]
          show some (nv (rs.getD i [])) = some (nv rs[i])
          rw [List.getD_eq_getElem?_getD, List.getElem?_eq_getElem z]
          rfl
        · rw [List.getElem?_eq_none (by simp; omega), List.getElem?_eq_none (by simp; omega)]
      have elt := elt_map (K := K) (te := tCB (rTupS K) (tCons (tVar 7) tNil)) (tl := tVar 2) (j := 7) (vs := [7]) (σ := [some (.str (jt rs)), some (.ref wd), some (.ref tb), some (.ref fa), y4, y5, y6, none, none]) (H := H4) (fun i => nv (rs.getD i [])) (ev_var rfl) (sq_of L.self) (by rw [List.length_map, bl]; omega) (fun _ => rfl) fun i x H5 e5 hx => by
        rw [List.getElem?_map] at hx
        obtain ⟨b, hb, rfl⟩ := Option.map_eq_some_iff.mp hx
        have il := (List.getElem?_eq_some_iff.mp hb).1
        have hr : rs[i]? = some (rs.getD i []) := by
          rw [List.getElem?_eq_getElem (by omega), List.getD_eq_getElem?_getD, List.getElem?_eq_getElem (by omega)]
          rfl
        exact eu_tupOf (K := K) (ev_var rfl) (sq_of (e5 b _ (L.at_ i b _ hb (by rw [← er]; exact hr))))
      rw [er2] at elt
      refine q_asgLT elt fun pr ws H5 npr e5 hpr ht => ?_
      refine q_when (b := false) (et_is (et_not (et_B (ev_call (z := .bl true) (ea_cons (ev_var rfl) ea_nil) (sv_tables hpr ht R o)))) rfl) (fun hb => Bool.noConfusion hb) fun _ H6 e6 => ?_
      exact s_ret (ev_var rfl) fun H7 e7 => k pr ws H7 (fresh_back (e1.trans e) npr) (e1.trans (e.trans (e5.trans (e6.trans e7)))) ((e6.trans e7) pr _ hpr) (ht.ex (e6.trans e7))
end


local macro_rules | `(tactic| walk_at "call") => `(tactic| (with_reducible exact sv_whole))
local macro_rules | `(tactic| walk_at "call") => `(tactic| ((with_reducible refine' sv_order ?c1 ?c2); (case c1 => assumption); (case c2 => assumption)))
local macro_rules | `(tactic| walk_at "call") => `(tactic| ((with_reducible refine' sv_ord ?c1 ?c2); (case c1 => assumption); (case c2 => assumption)))

/-! ### data -/
def di (r : List Nat) : PyData := .list ((iz r).map PyData.int)
theorem shaped_di (r : List Nat) : SeqAt.shaped (di r) = true := shaped_ints _
section
variable {K : PySem.W.Frag} {σ : L2.St} {H : Hp} {te : TE}
theorem dpa_nv (r : List Nat) : DpAll K H (nv r) ((iz r).map PyData.int) := dpa_ints _
theorem dp_L {a : Addr} {r : List Nat} (h : H a = some (.lst (nv r))) : Dp K H (.ref a) (di r) := .lst (sq_of h) (dpa_nv r)
theorem ed_L {r : List Nat} (h : EvL te σ H (nv r)) : EvD K te σ H (di r) := ed_ofL h (dpa_nv r)
end

def dt (r : List Nat) : PyData := .tuple ((iz r).map PyData.int)
theorem canLay_ints : ∀ ms : List Int, PyData.canLayAll0 (ms.map PyData.int) = true
  | [] => rfl
  | m :: r => by simp [PyData.canLayAll0, PyData.canLay0, canLay_ints r]
theorem canLay_dts : ∀ rs : List (List Nat), PyData.canLayAll0 (rs.map dt) = true
  | [] => rfl
  | m :: r => by simp [PyData.canLayAll0, PyData.canLay0, dt, canLay_ints, canLay_dts r]
theorem depth_dts : ∀ rs : List (List Nat), PyData.depthAll (rs.map dt) ≤ 1
  | [] => by simp [PyData.depthAll]
  | m :: r => by
    have := depth_dts r
    simp [PyData.depthAll, PyData.depth, dt, depth_ints]
    omega
section
variable {K : PySem.W.Frag} {σ : L2.St} {H : Hp} {te : TE}
theorem dpa_TL : ∀ {ws : List V} {rs : List (List Nat)}, TL H ws (rs.map nv) → DpAll K H ws (rs.map dt)
  | [], [], _ => .nil
  | _ :: _, r :: _, .cons ⟨b, e, h⟩ t => by
    subst e
    exact .cons (.tup (st_of h) (dpa_nv r)) (dpa_TL t)
theorem ed_LT {rs : List (List Nat)} (h : EvLT te σ H (rs.map nv)) : EvD K te σ H (.list (rs.map dt)) := fun H1 e Q q => h H1 e _ fun p ws H2 _ e2 h2 ht => q _ H2 e2 (.lst (sq_of h2) (dpa_TL ht))
end
theorem shaped_rs (rs : List (List Nat)) : SeqAt.shaped (.list (rs.map dt)) = true := by
  have := depth_dts rs
  simp [SeqAt.shaped, PyData.canLay0, canLay_dts, PyData.depth]
  omega

/-! ### texts as data -/
open _root_.TL in
theorem joinL_mem (S : List Nat) : ∀ {ps : List (List Nat)} {c : Nat}, c ∈ joinL S ps → c ∈ S ∨ ∃ p ∈ ps, c ∈ p
  | [], _, h => by cases h
  | [p], _, h => .inr ⟨p, by simp, h⟩
  | p :: q :: r, c, h => by
    rcases List.mem_append.mp (show c ∈ p ++ (S ++ joinL S (q :: r)) from h) with z | z
    · exact .inr ⟨p, by simp, z⟩
    · rcases List.mem_append.mp z with z | z
      · exact .inl z
      · rcases joinL_mem S z with y | ⟨t, ht, hc⟩
        · exact .inl y
        · exact .inr ⟨t, List.mem_cons_of_mem _ ht, hc⟩
theorem strOk_of {x : Str} (h : ∀ c ∈ _root_.TL.tl x, c < 256) : PyData.strOk x = true := by
  unfold PyData.strOk
  rw [← Array.all_toList, List.all_eq_true]
  exact fun c hc => decide_eq_true (by have := h c hc; omega)
theorem ds_small : ((List.range 20).all fun x => (_root_.TL.tl (ds x)).all fun c => decide (c < 256)) = true := by decide +kernel
theorem ds_ok {x : Nat} (h : x < 20) : ∀ c ∈ _root_.TL.tl (ds x), c < 256 := fun c hc => of_decide_eq_true (List.all_eq_true.mp (List.all_eq_true.mp ds_small x (List.mem_range.mpr h)) c hc)
open _root_.TL in
theorem join_small {y : Str} {ps : List Str} (hy : ∀ c ∈ tl y, c < 256) (hp : ∀ p ∈ ps, ∀ c ∈ tl p, c < 256) : ∀ c ∈ tl (Txt.join y ps), c < 256 := fun c hc => by
  rw [join_eq, tl_join] at hc
  rcases joinL_mem _ hc with z | ⟨p, h, z⟩
  · exact hy c z
  · obtain ⟨q, hq, rfl⟩ := List.mem_map.mp h
    exact hp q hq c z
theorem sp_small : ∀ c ∈ _root_.TL.tl " ", c < 256 := by decide +kernel
theorem sp3_small : ∀ c ∈ _root_.TL.tl " | ", c < 256 := by decide +kernel
theorem jn_small {r : List Nat} (h : ∀ x ∈ r, x < 20) : ∀ c ∈ _root_.TL.tl (jn r), c < 256 := join_small sp_small fun p hp => by
  obtain ⟨x, hx, rfl⟩ := List.mem_map.mp hp
  exact ds_ok (h x hx)
theorem jn_ok {r : List Nat} (h : ∀ x ∈ r, x < 20) : PyData.strOk (jn r) = true := strOk_of (jn_small h)
theorem jt_ok {rs : List (List Nat)} (f : Few rs) : PyData.strOk (jt rs) = true := strOk_of (join_small sp3_small fun p hp => by
  obtain ⟨r, hr, rfl⟩ := List.mem_map.mp hp
  exact jn_small (f.2 r hr).2)
theorem Rings.few {h : List Nat} {rs : List (List Nat)} (R : Rings h rs) (o : Ord h) : Few rs := by
  have o2 := o.2
  have fl : rs.flatten.length = h.length := by
    have := R.all.length_eq
    rwa [List.length_range] at this
  have rlen : rs.length ≤ rs.flatten.length := by
    have : ∀ l : List (List Nat), (∀ r ∈ l, 0 < r.length) → l.length ≤ l.flatten.length := fun l => by
      induction l with
      | nil => exact fun _ => Nat.le_refl _
      | cons x l ih =>
        intro z
        have a := ih fun r hr => z r (List.mem_cons_of_mem _ hr)
        have b := z x List.mem_cons_self
        rw [List.flatten_cons, List.length_append, List.length_cons]
        omega
    exact this rs fun r hr => (R.rg r hr).ne
  refine ⟨by omega, fun r hr => ⟨by
    have := (List.sublist_flatten_of_mem hr).length_le
    omega, fun x hx => ?_⟩⟩
  have := List.mem_range.mp (R.all.mem_iff.mp (List.mem_flatten.mpr ⟨r, hr, hx⟩))
  omega
theorem tk_TL {n : Nat} {H : Hp} : ∀ {ws : List V} {rs : List (List Nat)}, TL H ws (rs.map nv) → (∀ r ∈ rs, r.length ≤ 20) → Paired (Tk (n + 1) H) ws (rs.map dt)
  | [], [], _, _ => .nil
  | _ :: _, r :: l, .cons ⟨b, e, h⟩ q, hz => by
    subst e
    exact .cons (tk_tup h (tk_ints (iz r)) (by have := hz r (by simp); simp [iz]; omega)) (tk_TL q fun x hx => hz x (by simp [hx]))
theorem ev_callLT {sp : Sp} {E : XK} {σ : L2.St} {H : Hp} {ta : TE} {v : V} {rows : List (List V)} (h : EvLT ta σ H rows) (hs : ∀ p ws H1, Ex H H1 → H1 p = some (.lst ws) → TL H1 ws rows → SpV sp ([.ref p] ++ []) H1 v) : Ev (tCall sp [] E (tCons ta tNil)) σ H v := fun H1 e Q q =>
  h H1 e _ fun p ws H2 np e2 hp ht => hs p ws H2 (e.trans e2) hp ht H2 (Ex.refl _) Q (fun H3 e3 => q H3 (e2.trans e3)) E
/-- a list of three new lists -/
theorem q_asg3 {K : PySem.W.Frag} {σ : L2.St} {H : Hp} {ta tb tc : TE} {D : Ends} {tz : TS} {i : Nat} {xs ys : List V} {rows : List (List V)} (h1 : EvL ta σ H xs) (h2 : ∀ H1, Ex H H1 → EvL tb σ H1 ys) (h3 : ∀ H1, Ex H H1 → EvLT tc σ H1 rows)
    (k : ∀ p a b c ws H1, H p = none → H a = none → H b = none → H c = none → a ≠ p → b ≠ p → c ≠ p → a ≠ b → a ≠ c → b ≠ c → Ex H H1 → H1 a = some (.lst xs) → H1 b = some (.lst ys) → H1 c = some (.lst ws) → TL H1 ws rows → H1 p = some (.lst [.ref a, .ref b, .ref c]) → tz D (σ.set i (some (.ref p))) H1) :
    tSeq (tAsg (tLst (tCons ta (tCons tb (tCons tc tNil)))) (gName i)) tz D σ H :=
  h1 H (Ex.refl H) _ fun a H1 na e1 ha => h2 H1 e1 H1 (Ex.refl _) _ fun b H2 nb e2 hb => h3 H2 (e1.trans e2) H2 (Ex.refl _) _ fun c ws H3 nc e3 hc ht => ⟨sz_of (by show 3 ≤ 100000; decide), fun p np => by
    have ab : a ≠ b := fun z => by
      rw [← z, ha] at nb
      cases nb
    have ac : a ≠ c := fun z => by
      rw [← z, e2 a _ ha] at nc
      cases nc
    have bc : b ≠ c := fun z => by
      rw [← z, hb] at nc
      cases nc
    have ap : a ≠ p := fun z => by
      rw [← z, (e2.trans e3) a _ ha] at np
      cases np
    have bp : b ≠ p := fun z => by
      rw [← z, e3 b _ hb] at np
      cases np
    have cp : c ≠ p := fun z => by
      rw [← z, hc] at np
      cases np
    exact k p a b c ws _ (fresh_back (e1.trans (e2.trans e3)) np) na (fresh_back e1 nb) (fresh_back (e1.trans e2) nc) ap bp cp ab ac bc ((e1.trans (e2.trans e3)).trans (Ex.new np)) ((Ex.new np) a _ ((e2.trans e3) a _ ha)) ((Ex.new np) b _ (e3 b _ hb)) ((Ex.new np) c _ hc) (ht.ex (Ex.new np)) upd_same⟩
theorem elt_list {K : PySem.W.Frag} {σ : L2.St} {H : Hp} {ta : TE} {p : Addr} {ws : List V} {rows : List (List V)} (ha : Ev ta σ H (.ref p)) (hp : H p = some (.lst ws)) (ht : TL H ws rows) : EvLT (tCB (rListS K) (tCons ta tNil)) σ H rows := fun H1 e Q q =>
  el_list (K := K) ha (sq_of hp) H1 e Q fun p H2 np e2 hp2 => q p ws H2 np e2 hp2 (ht.ex (e.trans e2))
theorem ek_cat {σ : L2.St} {H : Hp} {n : Nat} {ta tb : TE} {ds es : List PyData} (ha : EvK (n + 1) ta σ H (.list ds)) (hb : EvK (n + 1) tb σ H (.list es)) (hz : (ds ++ es).length ≤ 40000) : EvK (n + 1) (tOp rCat ta tb) σ H (.list (ds ++ es)) := fun H1 e Q q =>
  ha H1 e _ fun v H2 e2 hv => hb H2 (e.trans e2) _ fun w H3 e3 hw => by
    obtain ⟨m, hm, h⟩ := tk_seq (hv.ex e3) rfl
    obtain ⟨m2, hm2, h2⟩ := tk_seq hw rfl
    cases hm
    cases hm2
    rcases h with ⟨a, xs, ds', rfl, ed, h4, hl, hp⟩ | ⟨_, _, _, _, ed, _⟩
    · cases ed
      rcases h2 with ⟨b, ys, es', rfl, ee, h5, hl2, hp2⟩ | ⟨_, _, _, _, ee, _⟩
      · cases ee
        refine ⟨a, b, xs, ys, rfl, rfl, h4, h5, sz_of (by omega), fun l hl' => q _ _ ((e2.trans e3).trans (Ex.new hl')) (tk_lst upd_same ?_ hz)⟩
        have app : ∀ {A : V → PyData → Prop} {x : List V} {d : List PyData} {y : List V} {f : List PyData}, Paired A x d → Paired A y f → Paired A (x ++ y) (d ++ f) := fun {A x d y f} p r => by
          induction p with
          | nil => exact r
          | cons h _ ih => exact .cons h ih
        exact app (tk_imp (fun _ _ => Tk.ex (Ex.new hl')) hp) (tk_imp (fun _ _ => Tk.ex (Ex.new hl')) hp2)
      · cases ee
    · cases ed


local macro_rules | `(tactic| walk_at "call") => `(tactic| (with_reducible exact sv_whole))
local macro_rules | `(tactic| walk_at "call") => `(tactic| ((with_reducible refine' sv_order ?c1 ?c2); (case c1 => assumption); (case c2 => assumption)))
local macro_rules | `(tactic| walk_at "call") => `(tactic| ((with_reducible refine' sv_ord ?c1 ?c2); (case c1 => assumption); (case c2 => assumption)))

/-! ### the law -/
section
variable {K : PySem.W.Frag} {σ : L2.St} {H0 H : Hp} {p L : Addr} {k k1 k2 : Nat} {ta tb tc te tm : TE} {Ra Rb : V → Hp → Prop} {D : Ends} {tz : TS} {t : TA}
theorem pq_bag {ta : TA} {E : XK} {j : Nat} {s : Addr} {ns : List Int} (h : EvA ta σ H [.ref s]) (hs : SqL K H s (ns.map V.int)) (hl : ns.length ≤ 63) (q : ∀ p L H2, H p = none → H L = none → Ex H H2 → Po p L 0 H2 → tz D (σ.set j (some (.ref p))) H2) :
    tSeq (tAsg (tCall (sp_law_bag K) [] E ta) (gName j)) tz D σ H := h H (Ex.refl H) _ fun H1 e1 => ⟨s, ns, rfl, ex_l e1 hs, hl, fun p L H2 np nl e2 po => q p L H2 (fresh_back e1 np) (fresh_back e1 nl) (e1.trans e2) po⟩
end

section
variable {σ : L2.St} {H : Hp}
theorem el_callK {sp : Sp} {gV : List V → List V → List V} {E : XK} {t tk : TA} {vs zs xs : List V} (h : EvA t σ H vs) (hk : EvA tk σ H zs) (hs : SpL sp (gV vs zs) H xs) : EvL (tCallK sp gV E t tk) σ H xs := fun H1 e Q q =>
  h H1 e _ fun H2 e2 => hk H2 (e.trans e2) _ fun H3 e3 => hs H3 ((e.trans e2).trans e3) Q (fun l H4 hl e4 h4 => q l H4 (fresh_back (e2.trans e3) hl) ((e2.trans e3).trans e4) h4) E
end

section
variable {K : PySem.W.Frag} {σ : L2.St} {H0 H : Hp} {p L : Addr} {k : Nat} {ta tb tm te : TE} {D : Ends} {tz : TS}
theorem elt_callK {sp : Sp} {gV : List V → List V → List V} {E : XK} {t tk : TA} {vs zs : List V} {rows : List (List V)} (h : EvA t σ H vs) (hk : EvA tk σ H zs) (hs : ∀ H1, Ex H H1 → ∀ Q : VK, (∀ p ws H2, H1 p = none → Ex H1 H2 → H2 p = some (.lst ws) → TL H2 ws rows → Q (.ref p) H2) → sp (gV vs zs) H1 Q E) : EvLT (tCallK sp gV E t tk) σ H rows := fun H1 e Q q =>
  h H1 e _ fun H2 e2 => hk H2 (e.trans e2) _ fun H3 e3 => hs H3 (e.trans (e2.trans e3)) Q fun p ws H4 np e4 hp ht => q p ws H4 (fresh_back (e2.trans e3) np) (e2.trans (e3.trans e4)) hp ht
theorem elt_call {sp : Sp} {E : XK} {t : TA} {vs : List V} {rows : List (List V)} (h : EvA t σ H vs) (hs : ∀ H1, Ex H H1 → ∀ Q : VK, (∀ p ws H2, H1 p = none → Ex H1 H2 → H2 p = some (.lst ws) → TL H2 ws rows → Q (.ref p) H2) → sp (vs ++ []) H1 Q E) : EvLT (tCall sp [] E t) σ H rows := fun H1 e Q q =>
  h H1 e _ fun H2 e2 => hs H2 (e.trans e2) Q fun p ws H4 np e4 hp ht => q p ws H4 (fresh_back e2 np) (e2.trans e4) hp ht
theorem ek_rows {n : Nat} {rs : List (List Nat)} (h : EvLT te σ H (rs.map nv)) (hz : ∀ r ∈ rs, r.length ≤ 20) (hl : rs.length ≤ 40000) : EvK (n + 2) te σ H (.list (rs.map dt)) := fun H1 e Q q => h H1 e Q fun p ws H2 _ e2 hp t => q _ H2 e2 (tk_lst hp (tk_TL t hz) (by rw [List.length_map]; exact hl))
theorem q_parLLT {i j : Nat} {xs : List V} {rows : List (List V)} (h1 : EvL ta σ H xs) (h2 : ∀ H1, Ex H H1 → EvLT tb σ H1 rows) (k : ∀ a b ws H1, H a = none → H b = none → Ex H H1 → H1 a = some (.lst xs) → H1 b = some (.lst ws) → TL H1 ws rows → tz D ((σ.set i (some (.ref a))).set j (some (.ref b))) H1) :
    tSeq (tPar i j (tCons ta (tCons tb tNil))) tz D σ H := h1 H (Ex.refl H) _ fun a H1 na e1 ha => h2 H1 e1 H1 (Ex.refl _) _ fun b ws H2 nb e2 hb ht => ⟨_, _, rfl, k a b ws H2 na (fresh_back e1 nb) (e1.trans e2) (e2 a _ ha) hb ht⟩
theorem ep_seating {E : XK} (h0 : H0 p = none) (ha : Ev ta σ H0 (.ref p)) (hm : EvP p L k tm σ H0 (fun v _ => ∃ m : Nat, v = .int (m : Int) ∧ 1 ≤ m ∧ m ≤ 20)) : EvP p L (k + 201) (tCall sp_law_seating [] E (tCons ta (tCons tm tNil))) σ H0 (fun v H' => ∃ s c, v = .ref s ∧ s ≠ p ∧ H' s = some (.lst (nv (sby c c.length))) ∧ Cm c) := fun n H1 e hp hn Q q =>
  ha H1 e _ fun H2 e2 => hm n H2 (e.trans e2) (hp.ex e2) (by omega) _ fun v H3 ⟨m, ev, m1, m20⟩ p3 e3 => by
    subst ev
    exact ⟨p, L, n + k, m, rfl, p3, by omega, m20, fun l c H4 nl hl cl cm p4 e4 => q _ H4 ⟨l, c, rfl, p3.ne nl, by rw [cl]; exact hl, ⟨by omega, by omega, cm⟩⟩ (p4.mono (by omega)) (hm_trans (hm_of e2) (hm_trans e3 e4))⟩
end
theorem elt2 {σ : L2.St} {H : Hp} {ta tb : TE} {ra rb : List V} (h1 : EvU ta σ H ra) (h2 : ∀ H1, Ex H H1 → EvU tb σ H1 rb) : EvLT (tLst (tCons ta (tCons tb tNil))) σ H [ra, rb] := fun H1 e Q q =>
  h1 H1 e _ fun a H2 na e2 ha => h2 H2 (e.trans e2) H2 (Ex.refl _) _ fun b H3 nb e3 hb => ⟨sz_of (by show 2 ≤ 100000; decide), fun p np => q p [.ref a, .ref b] _ (fresh_back (e2.trans e3) np) ((e2.trans e3).trans (Ex.new np)) upd_same (.cons ⟨a, rfl, Ex.new np a _ (e3 a _ ha)⟩ (.cons ⟨b, rfl, Ex.new np b _ hb⟩ .nil))⟩
theorem t1 : jn [1, 3, 2, 0] = "1 3 2 0" := by decide +kernel
theorem t2 : jn [0, 0, 2, 1] = "0 0 2 1" := by decide +kernel
theorem t3 : jt [[0, 1, 3], [2]] = "0 1 3 | 2" := by decide +kernel
theorem t4 : jt [[0]] = "0" := by decide +kernel
theorem t5 : jn [0] = "0" := by decide +kernel
theorem t6 : jn [0, 1, 0] = "0 1 0" := by decide +kernel
theorem t7 : jt [[0], [1, 2]] = "0 | 1 2" := by decide +kernel
theorem cm0 : Cm [0] := ⟨by decide, by decide, fun i x h => by
  match i, h with
  | 0, h => cases h; exact Nat.le_refl _⟩
theorem cm010 : Cm [0, 1, 0] := ⟨by decide, by decide, fun i x h => by
  match i, h with
  | 0, h => cases h; decide
  | 1, h => cases h; decide
  | 2, h => cases h; decide⟩
theorem cm011 : Cm [0, 1, 1] := ⟨by decide, by decide, fun i x h => by
  match i, h with
  | 0, h => cases h; decide
  | 1, h => cases h; decide
  | 2, h => cases h; decide⟩
theorem ord0 : Ord [0] := by
  have := cm0.ord
  rwa [show sby [0] ([0] : List Nat).length = [0] by decide] at this
theorem rings0 : Rings [0] [[0]] := by
  have := cm0.rings
  rwa [show sby [0] ([0] : List Nat).length = [0] by decide, show ringsTo [0] ([0] : List Nat).length = [[0]] by decide] at this
theorem ord1 : Ord [0, 2, 1] := by
  have := cm011.ord
  rwa [show sby [0, 1, 1] ([0, 1, 1] : List Nat).length = [0, 2, 1] by decide] at this
theorem rings1 : Rings [0, 2, 1] [[0], [1, 2]] := by
  have := cm011.rings
  rwa [show sby [0, 1, 1] ([0, 1, 1] : List Nat).length = [0, 2, 1] by decide, show ringsTo [0, 1, 1] ([0, 1, 1] : List Nat).length = [[0], [1, 2]] by decide] at this
theorem few3 : Few [[0, 1, 3], [2]] := ⟨by decide, by decide⟩
def dat (c : List Nat) : PyData := .list [di (sby c c.length), di c, .list ((ringsTo c c.length).map dt)]
theorem shaped_dat (c : List Nat) : SeqAt.shaped (dat c) = true := by
  have := depth_dts (ringsTo c c.length)
  simp [dat, SeqAt.shaped, PyData.canLay0, PyData.canLayAll0, canLay_dts, canLay_ints, PyData.depth, PyData.depthAll, di, depth_ints]
  omega
def sp_law (K : PySem.W.Frag) : Sp := fun vs H Q _ => ∃ (a : Addr) (ns : List Int), vs = [.ref a] ∧ SqL K H a (ns.map V.int) ∧ ns.length ≤ 63 ∧ ∀ H', Q (.bl true) H'
section
variable {P : Program} {w : World} {K : PySem.W.Frag} {mg : Str → Option Value} {base : Heap}
theorem ok_law (T : Tx K mg) : FnOk P w K mg base CX0 9 T.f_law T.d_law ["script"] (sp_law K) := by
  refine T.F_law.ok sc_law (fun vs H Q E h => ?_) (fun cdv A outer s0 H vs Q E hr h => ?_)
  · obtain ⟨a, ns, rfl, _⟩ := h
    rfl
  · obtain ⟨a, ns, rfl, hs, hl, kk⟩ := h
    refine ⟨_, (pss_cons (ps_set (i := 1) sc_law.nd rfl (Or.inl rfl) (pe_call (ok_law_bag T) (hr.mono (by decide)) (by rfl) T.g_law_bag T.F_law_bag.kp T.b_law_bag .nil pass0 (pa_cons (pv 0) pa_nil)))
      (pss_cons (ps_for PassesOwn.never rfl (pi_range1 (by rfl) T.m_range (pa_cons pe_int pa_nil)) (pg_name (i := 2) sc_law.nd rfl (Or.inl rfl)) (pss_cons (ps_set (i := 3) sc_law.nd rfl (Or.inl rfl) (pe_call (ok_law_seating T) (hr.mono (by decide)) (by rfl) T.g_law_seating T.F_law_seating.kp T.b_law_seating .nil pass0 (pa_cons (pv 1) (pa_cons (pe_ix ix_list (pe_lst (pa_cons (pe_op op_add pe_int (pe_call (ok_law_draw T) (hr.mono (by decide)) (by rfl) T.g_law_draw T.F_law_draw.kp T.b_law_draw .nil pass0 (pa_cons (pv 1) (pa_cons pe_int pa_nil)))) (pa_cons pe_int pa_nil))) (pe_callTy call_intB (by rfl) T.m_int (by decide +kernel) (pa_cons (pe_cmpR op_gt (pv 2) pe_int (nomark _)) pa_nil)) (fun _ _ => rfl)) pa_nil))))
      (pss_cons (ps_par (i := 4) (j := 5) (by rfl) sc_law.nd rfl rfl (by decide) rfl rfl (pa_cons (pe_call (ok_law_coming T) (hr.mono (by decide)) (by rfl) T.g_law_coming T.F_law_coming.kp T.b_law_coming .nil pass0 (pa_cons (pv 3) pa_nil)) (pa_cons (pe_call (ok_law_tables T) (hr.mono (by decide)) (by rfl) T.g_law_tables T.F_law_tables.kp T.b_law_tables .nil pass0 (pa_cons (pv 3) pa_nil)) pa_nil)) (by rfl))
      (pss_cons (ps_set (i := 6) sc_law.nd rfl (Or.inl rfl) (pe_lst (pa_cons (pe_callTy call_listR (by rfl) T.m_list (by decide +kernel) (pa_cons (pv 3) pa_nil)) (pa_cons (pe_callTy call_listR (by rfl) T.m_list (by decide +kernel) (pa_cons (pv 4) pa_nil)) (pa_cons (pe_callTy call_listR (by rfl) T.m_list (by decide +kernel) (pa_cons (pv 5) pa_nil)) pa_nil)))))
      (pss_cons (ps_set (i := 8) sc_law.nd rfl (Or.inl rfl) (pe_lst (pa_cons (pe_call (ok_law_row T) (hr.mono (by decide)) (by rfl) T.g_law_row T.F_law_row.kp T.b_law_row .nil pass0 (pa_cons (pv 3) pa_nil)) (pa_cons (pe_call (ok_law_row T) (hr.mono (by decide)) (by rfl) T.g_law_row T.F_law_row.kp T.b_law_row .nil pass0 (pa_cons (pv 4) pa_nil)) (pa_cons (pe_joinW pe_str (pe_lc (own := [("one", 7)]) (g := (gName 7)) (tt := tYes) rfl sc_law.nd (pi_list (pv 5)) (blkOk_by (own := [("one", 7)]) (N := n_law) (sc := defScope s_law) (by decide +kernel)) (fun _ _ _ _ _ => (pg_name (i := 7) sc_law.nd rfl (Or.inl rfl))) (fun _ _ _ _ _ => pts_nil) (fun _ _ _ _ _ => (pe_call (ok_law_row T) (hr.mono (by decide)) (by rfl) T.g_law_row T.F_law_row.kp T.b_law_row .nil pass0 (pa_cons (pv 7) pa_nil))))) pa_nil)))))
      (pss_cons (ps_set (i := 9) sc_law.nd rfl (Or.inl rfl) (pe_lst (pa_cons (pe_callK0 (ok_write_seating T) (hr.mono (by decide)) (by rfl) T.g_write_seating T.F_write_seating.kp T.kb_write_seating_0_seating pass0 (pk_cons (pv 3) pk_nil)) (pa_cons (pe_callK0 (ok_write_coming T) (hr.mono (by decide)) (by rfl) T.g_write_coming T.F_write_coming.kp T.kb_write_coming_0_coming pass0 (pk_cons (pv 4) pk_nil)) (pa_cons (pe_callK0 (ok_write_tables T) (hr.mono (by decide)) (by rfl) T.g_write_tables T.F_write_tables.kp T.kb_write_tables_0_tables pass0 (pk_cons (pv 5) pk_nil)) pa_nil)))))
      (pss_cons (ps_if (PW.pt (pw_or (pt_not (pt_val (pe_call (ok_law_alike T) (hr.mono (by decide)) (by rfl) T.g_law_alike T.F_law_alike.kp T.b_law_alike .nil pass0 (pa_cons (pv 9) (pa_cons (pv 8) pa_nil))))) (pw_or1 (pt_cmpR (op_neD hr.units) (pe_lst (pa_cons (pv 3) (pa_cons (pv 4) (pa_cons (pv 5) pa_nil)))) (pv 6) (nomark _))))) (pss_one (ps_ret pe_bl)) pss_nil)
      (pss_cons (ps_set (i := 9) sc_law.nd rfl (Or.inl rfl) (pe_lst (pa_cons (pe_callK0 (ok_read_seating T) (hr.mono (by decide)) (by rfl) T.g_read_seating T.F_read_seating.kp T.kb_read_seating_0_text pass0 (pk_cons (pe_ix ix_list (pv 8) pe_int (fun _ _ => rfl)) pk_nil)) (pa_cons (pe_callK0 (ok_read_coming T) (hr.mono (by decide)) (by rfl) T.g_read_coming T.F_read_coming.kp T.kb_read_coming_0_text pass0 (pk_cons (pe_ix ix_list (pv 8) pe_int (fun _ _ => rfl)) pk_nil)) (pa_cons (pe_callK0 (ok_read_tables T) (hr.mono (by decide)) (by rfl) T.g_read_tables T.F_read_tables.kp T.kb_read_tables_0_text pass0 (pk_cons (pe_ix ix_list (pv 8) pe_int (fun _ _ => rfl)) pk_nil)) pa_nil)))))
      (pss_cons (ps_if (pt_not (pt_val (pe_call (ok_law_alike T) (hr.mono (by decide)) (by rfl) T.g_law_alike T.F_law_alike.kp T.b_law_alike .nil pass0 (pa_cons (pv 9) (pa_cons (pv 6) pa_nil))))) (pss_one (ps_ret pe_bl)) pss_nil)
      (pss_cons (ps_for PassesOwn.never rfl (pi_list (pv 9)) (pg_name (i := 7) sc_law.nd rfl (Or.inl rfl)) (pss_one (ps_expr (pe_bm PySem.F.plainAttrs_list PySem.F.slot_list_append PySem.F.type_list_append mt_append (pv 7) (pa_cons pe_non pa_nil)))))
      (pss_one (ps_if (pt_not (pt_val (pe_call (ok_law_alike T) (hr.mono (by decide)) (by rfl) T.g_law_alike T.F_law_alike.kp T.b_law_alike .nil pass0 (pa_cons (pe_lst (pa_cons (pe_call (ok_read_seating T) (hr.mono (by decide)) (by rfl) T.g_read_seating T.F_read_seating.kp T.b_read_seating .nil pass0 (pa_cons (pe_ix ix_list (pv 8) pe_int (fun _ _ => rfl)) pa_nil)) (pa_cons (pe_call (ok_read_coming T) (hr.mono (by decide)) (by rfl) T.g_read_coming T.F_read_coming.kp T.b_read_coming .nil pass0 (pa_cons (pe_ix ix_list (pv 8) pe_int (fun _ _ => rfl)) pa_nil)) (pa_cons (pe_call (ok_read_tables T) (hr.mono (by decide)) (by rfl) T.g_read_tables T.F_read_tables.kp T.b_read_tables .nil pass0 (pa_cons (pe_ix ix_list (pv 8) pe_int (fun _ _ => rfl)) pa_nil)) pa_nil)))) (pa_cons (pv 6) pa_nil))))) (pss_one (ps_ret pe_bl)) pss_nil))))))))))))
      (pss_cons (ps_set (i := 9) sc_law.nd rfl (Or.inl rfl) (pe_lst (pa_cons (pe_call (ok_write_seating T) (hr.mono (by decide)) (by rfl) T.g_write_seating T.F_write_seating.kp T.b_write_seating .nil pass0 (pa_cons (pe_lst (pa_cons pe_int (pa_cons pe_int (pa_cons pe_int (pa_cons pe_int pa_nil))))) pa_nil)) (pa_cons (pe_call (ok_write_coming T) (hr.mono (by decide)) (by rfl) T.g_write_coming T.F_write_coming.kp T.b_write_coming .nil pass0 (pa_cons (pe_lst (pa_cons pe_int (pa_cons pe_int (pa_cons pe_int (pa_cons pe_int pa_nil))))) pa_nil)) (pa_cons (pe_call (ok_write_tables T) (hr.mono (by decide)) (by rfl) T.g_write_tables T.F_write_tables.kp T.b_write_tables .nil pass0 (pa_cons (pe_lst (pa_cons (pe_tup (pa_cons pe_int (pa_cons pe_int (pa_cons pe_int pa_nil)))) (pa_cons (pe_tup (pa_cons pe_int pa_nil)) pa_nil))) pa_nil)) (pa_cons (pe_call (ok_read_tables T) (hr.mono (by decide)) (by rfl) T.g_read_tables T.F_read_tables.kp T.b_read_tables .nil pass0 (pa_cons pe_str pa_nil)) pa_nil))))))
      (pss_cons (ps_set (i := 9) sc_law.nd rfl (Or.inl rfl) (pe_op op_cat (pv 9) (pe_lst (pa_cons (pe_call (ok_read_seating T) (hr.mono (by decide)) (by rfl) T.g_read_seating T.F_read_seating.kp T.b_read_seating .nil pass0 (pa_cons pe_str pa_nil)) (pa_cons (pe_call (ok_read_coming T) (hr.mono (by decide)) (by rfl) T.g_read_coming T.F_read_coming.kp T.b_read_coming .nil pass0 (pa_cons pe_str pa_nil)) (pa_cons (pe_call (ok_read_tables T) (hr.mono (by decide)) (by rfl) T.g_read_tables T.F_read_tables.kp T.b_read_tables .nil pass0 (pa_cons pe_str pa_nil)) pa_nil))))))
      (pss_one (ps_ret (pe_call (ok_law_alike T) (hr.mono (by decide)) (by rfl) T.g_law_alike T.F_law_alike.kp T.b_law_alike .nil pass0 (pa_cons (pv 9) (pa_cons (pe_lst (pa_cons pe_str (pa_cons pe_str (pa_cons pe_str (pa_cons (pe_lst (pa_cons (pe_tup (pa_cons pe_int pa_nil)) pa_nil)) (pa_cons (pe_lst (pa_cons pe_int pa_nil)) (pa_cons (pe_lst (pa_cons pe_int (pa_cons pe_int (pa_cons pe_int pa_nil)))) (pa_cons (pe_lst (pa_cons (pe_tup (pa_cons pe_int pa_nil)) (pa_cons (pe_tup (pa_cons pe_int (pa_cons pe_int pa_nil))) pa_nil))) pa_nil)))))))) pa_nil))))))))), ?_⟩
    refine pq_bag (ea_cons (ev_var rfl) ea_nil) hs hl fun p L H1 hp hL e1 hpo => ?_
    refine q_forR1 (n := (8 : Int)) (ea_cons ev_c ea_nil) (by decide) (fun i σ' H' => ∃ y2 y3 y4 y5 y6 y7 y8 y9, σ' = [some (.ref a), some (.ref p), y2, y3, y4, y5, y6, y7, y8, y9] ∧ Po p L (1000 * i) H') (fun H2 e2 => ⟨_, _, _, _, _, _, _, _, rfl, hpo.ex e2⟩) ?_ ?_
    · rintro i σ' H' hi ⟨y2, y3, y4, y5, y6, y7, y8, y9, rfl, p'⟩
      refine pq_asg (p := p) (L := L) (k := ((0 + 1) + (0 + 0) + 0) + 201) (H0 := Hm p H') (ep_seating hm_p (ev_var rfl) (ep_ix (A := fun v => ∃ m : Nat, v = .int (m : Int) ∧ 1 ≤ m ∧ m ≤ 20) (ix := fun v => v = .int (if decide ((6 : Int) < (i : Int)) then 1 else 0)) (C := fun vs => ∃ m : Nat, vs = [.int (m : Int), .int 20] ∧ 1 ≤ m ∧ m ≤ 20) hm_p (ep_is (ep_lst (epa_cons (A := fun v => ∃ m : Nat, v = .int (m : Int) ∧ 1 ≤ m ∧ m ≤ 20) hm_p (ep_op hm_p (ep_ev (v := .int 1) ev_c) (ep_dipI (w := 20) hm_p (ev_var rfl) ev_c (by decide) (by decide)) stb_c stb_c ?_) (epa_pure (v := .int 20) hm_p ev_c epa_nil)) ?_) ?_) (ep_ev (ev_intB (ev_op (ev_var rfl) ev_c rv_I0))) ?_)) hm_sub p' (by omega) ?_
      · rintro x y H2 rfl ⟨r, rfl, r0, r1⟩
        exact ⟨.int (1 + r), ⟨(1 + r).toNat, by congr 1; omega, by omega, by omega⟩, rv_I0⟩
      · rintro vs ⟨_, _, rfl, _, _, _, rfl, _, rfl⟩
        exact Nat.le_of_ble_eq_true rfl
      · rintro v H4 ⟨l, vs, ne, rfl, hl, _, _, rfl, ⟨m, rfl, m2, m20⟩, _, _, rfl, rfl, rfl⟩
        exact ⟨l, _, ne, rfl, hl, m, rfl, m2, m20⟩
      · rintro vs v ⟨m, rfl, m2, m20⟩ rfl
        by_cases z : (6 : Int) < (i : Int)
        · rw [decide_eq_true z]
          exact ⟨1, _, rfl, rfl, 20, rfl, by decide, by decide⟩
        · rw [decide_eq_false z]
          exact ⟨0, _, rfl, rfl, m, rfl, m2, m20⟩
      rintro _ H2 ⟨s, c, rfl, sp, hsc, oc⟩ p2 e2
      have o := oc.ord
      have R := oc.rings
      have few := R.few o
      have c20 := oc.2.1
      have sl := sby_len c c.length
      have clt : ∀ x ∈ c, x < 20 := fun x hx => by
        obtain ⟨i, hi⟩ := List.mem_iff_getElem?.mp hx
        have := oc.2.2 i x hi
        have := (List.getElem?_eq_some_iff.mp hi).1
        omega
      have slt : ∀ x ∈ sby c c.length, x < 20 := fun x hx => by
        have := sby_lt oc.2.2 (Nat.le_refl _) hx
        omega
      refine q_parLLT (el_call (ea_cons (ev_var rfl) ea_nil) (sl_law_coming hsc oc.w)) (fun H3 e3 => elt_law_tables (ev_var rfl) (e3 s _ hsc) (by omega) R) fun row lot lws H3 nrow nlot e3 hrow hlot tlot => ?_
      have hs3 := e3 s _ hsc
      refine q_asg3 (K := K) (el_list (ev_var rfl) (sq_of hs3)) (fun H4 e4 => el_list (ev_var rfl) (sq_of (e4 row _ hrow))) (fun H4 e4 => elt_list (ev_var rfl) (e4 lot _ hlot) (tlot.ex e4)) fun kp ka kb kc kws H4 _ _ _ _ _ _ _ _ _ _ e4 hka hkb hkc tk hkp => ?_
      have hs4 := e4 s _ hs3
      have hrow4 := e4 row _ hrow
      have hlot4 := e4 lot _ hlot
      have tlot4 := tlot.ex e4
      refine q_asgL (xs := [.str (jn (sby c c.length)), .str (jn c), .str (jt (ringsTo c c.length))]) (el_lst (ea_cons (ev_call (ea_cons (ev_var rfl) ea_nil) (sv_text hs4 (by omega) slt)) (ea_cons (ev_call (ea_cons (ev_var rfl) ea_nil) (sv_text hrow4 c20 clt)) (ea_cons (ev_jtL (K := K) rfl hlot4 tlot4 few (fun _ => rfl) (fun _ => rfl) fun hb h1 h2 => sv_textT hb h1 h2) ea_nil))) (Nat.le_of_ble_eq_true rfl)) fun du H5 ndu e5 hdu => ?_
      have hs5 := e5 s _ hs4
      have hrow5 := e5 row _ hrow4
      have hlot5 := e5 lot _ hlot4
      have ok1 := jn_ok slt
      have ok2 := jn_ok clt
      have ok3 := jt_ok few
      have tks : ∀ {H : Hp}, Paired (Tk 3 H) [.str (jn (sby c c.length)), .str (jn c), .str (jt (ringsTo c c.length))] [.str (jn (sby c c.length)), .str (jn c), .str (jt (ringsTo c c.length))] := .cons (.flat (.str _ ok1)) (.cons (.flat (.str _ ok2)) (.cons (.flat (.str _ ok3)) .nil))
      refine q_asgL (xs := [.str (jn (sby c c.length)), .str (jn c), .str (jt (ringsTo c c.length))]) (el_lst (ea_cons (ev_callK (zs := [.ref s]) ea_nil (ea_cons (ev_var rfl) ea_nil) (sv_write hs5 (by omega) slt)) (ea_cons (ev_callK (zs := [.ref row]) ea_nil (ea_cons (ev_var rfl) ea_nil) (sv_write hrow5 c20 clt)) (ea_cons (ev_callK (zs := [.ref lot]) ea_nil (ea_cons (ev_var rfl) ea_nil) (sv_write_tables hlot5 (tlot4.ex e5) few)) ea_nil))) (Nat.le_of_ble_eq_true rfl)) fun td H6 ntd e6 htd => ?_
      have hdu6 := e6 du _ hdu
      have e46 := e5.trans e6
      have sd := shaped_dat c
      have il1 : (iz (sby c c.length)).length ≤ 40000 := by simp [iz, sl]; omega
      have il2 : (iz c).length ≤ 40000 := by simp [iz]; omega
      have rl := few.1
      have kd : ∀ {H : Hp}, Ex H4 H → Tk 4 H (.ref kp) (dat c) := fun e => tk_lst (e kp _ hkp) (.cons (tk_lst (e ka _ hka) (tk_ints (n := 2) _) (by rw [List.length_map]; exact il1)) (.cons (tk_lst (e kb _ hkb) (tk_ints (n := 2) _) (by rw [List.length_map]; exact il2)) (.cons (tk_lst (e kc _ hkc) (tk_TL (n := 1) (tk.ex e) fun r hr => (few.2 r hr).1) (by rw [List.length_map]; omega)) .nil))) (by show 3 ≤ 40000; decide)
      refine q_when (b := false) (et_is (et_or (et_is (et_not (et_B (ev_alike (n := 4) (ek_of (ev_var rfl) (tk_lst htd tks (by show 3 ≤ 40000; decide))) (ek_of (ev_var rfl) (tk_lst hdu6 tks (by show 3 ≤ 40000; decide))) rfl))) (show (!true) = false from rfl)) fun _ => et_is (et_test (ev_neD (K := K) (d := dat c) (e := dat c) (ed_lst (eda_cons (ed_of (ev_var rfl) (dp_L (e46 s _ hs4))) (eda_cons (ed_of (ev_var rfl) (dp_L (e46 row _ hrow4))) (eda_cons (ed_of (ev_var rfl) (.lst (sq_of (e46 lot _ hlot4)) (dpa_TL (tlot4.ex e46)))) eda_nil))) (by show 3 ≤ 100000; decide)) (ed_of (ev_var rfl) (.lst (sq_of (e46 kp _ hkp)) (.cons (dp_L (e46 ka _ hka)) (.cons (dp_L (e46 kb _ hkb)) (.cons (.lst (sq_of (e46 kc _ hkc)) (dpa_TL (tk.ex e46))) .nil))))) sd sd)) (by rw [eqv_same sd]; rfl)) rfl) (fun hb => Bool.noConfusion hb) fun _ H7 e7 => ?_
      have hdu7 := e7 du _ hdu6
      have e47 := e46.trans e7
      have ixd : ∀ {σ : L2.St} {H : Hp} {v : V} {j : Nat}, σ[8]? = some (some (.ref du)) → H du = some (.lst [.str (jn (sby c c.length)), .str (jn c), .str (jt (ringsTo c c.length))]) → [V.str (jn (sby c c.length)), .str (jn c), .str (jt (ringsTo c c.length))][j]? = some v → Ev (tOp (rIxL K) (tVar 8) (tC (.int (j : Int)))) σ H v := fun h1 h2 h3 => ev_op (ev_var h1) ev_c (rv_ixL (K := K) (sq_of h2) (atI_nat h3))
      refine q_asg3 (K := K) (el_callK (zs := [.str (jn (sby c c.length))]) ea_nil (ea_cons (ixd (j := 0) rfl hdu7 rfl) ea_nil) (sl_read_seating o)) (fun H8 e8 => el_callK (zs := [.str (jn c)]) ea_nil (ea_cons (ixd (j := 1) rfl (e8 du _ hdu7) rfl) ea_nil) (sl_read_coming oc)) (fun H8 e8 => elt_callK (zs := [.str (jt (ringsTo c c.length))]) ea_nil (ea_cons (ixd (j := 2) rfl (e8 du _ hdu7) rfl) ea_nil) fun H1 e1 Q q => ⟨_, _, rfl, o, R, q⟩) fun tp ta tb tc tws H8 ntp nta ntb ntc tap tbp tcp tab tac tbc e8 hta htb htc ttc htp => ?_
      refine q_when (b := false) (et_is (et_not (et_B (ev_alike (n := 4) (d := dat c) (ek_of (ev_var rfl) (tk_lst htp (.cons (tk_lst hta (tk_ints (n := 2) _) (by rw [List.length_map]; exact il1)) (.cons (tk_lst htb (tk_ints (n := 2) _) (by rw [List.length_map]; exact il2)) (.cons (tk_lst htc (tk_TL (n := 1) ttc fun r hr => (few.2 r hr).1) (by rw [List.length_map]; omega)) .nil))) (by show 3 ≤ 40000; decide))) (ek_of (ev_var rfl) (kd (e47.trans e8))) rfl))) rfl) (fun hb => Bool.noConfusion hb) fun _ H9 e9 => ?_
      have twl := ttc.len
      rw [List.length_map] at twl
      refine q_forL (K := K) (a := tp) (xs := [.ref ta, .ref tb, .ref tc]) (ev_var rfl) (sq_of (e9 tp _ htp)) (fun j σ' H' => ∃ y7, σ' = [some (.ref a), some (.ref p), some (.int (i : Int)), some (.ref s), some (.ref row), some (.ref lot), some (.ref kp), y7, some (.ref du), some (.ref tp)] ∧ Ex H7 H' ∧ H' tp = some (.lst [.ref ta, .ref tb, .ref tc]) ∧ ∃ la lb lc, H' ta = some (.lst la) ∧ H' tb = some (.lst lb) ∧ H' tc = some (.lst lc) ∧ la.length ≤ 20 + j ∧ lb.length ≤ 20 + j ∧ lc.length ≤ 20 + j) (fun HA eA => ⟨_, rfl, e8.trans (e9.trans eA), (e9.trans eA) tp _ htp, _, _, _, (e9.trans eA) ta _ hta, (e9.trans eA) tb _ htb, (e9.trans eA) tc _ htc, by rw [nv_len]; omega, by rw [nv_len]; omega, by omega⟩) (fun j σ' H' _ ⟨_, _, _, z, _⟩ => sq_of z) ?_ ?_
      · rintro j x σ' HA hx ⟨y7, rfl, eA, hA, la, lb, lc, h1, h2, h3, z1, z2, z3⟩
        have hj := (List.getElem?_eq_some_iff.mp hx).1
        have hj3 : j < 3 := hj
        match j, hj3, hx with
        | 0, _, hx =>
          cases hx
          refine s_app h1 (ev_var rfl) ev_c (by omega) fun HB eB => ⟨_, rfl, Ex.mut (eA.trans eB) nta, ?_, la ++ [V.non], lb, lc, upd_same, ?_, ?_, ?_, by omega, by omega⟩
          · rw [upd_ne (Ne.symm tap)]
            exact eB tp _ hA
          · rw [upd_ne (Ne.symm tab)]
            exact eB tb _ h2
          · rw [upd_ne (Ne.symm tac)]
            exact eB tc _ h3
          · rw [List.length_append, List.length_singleton]
            omega
        | 1, _, hx =>
          cases hx
          refine s_app h2 (ev_var rfl) ev_c (by omega) fun HB eB => ⟨_, rfl, Ex.mut (eA.trans eB) ntb, ?_, la, lb ++ [V.non], lc, ?_, upd_same, ?_, by omega, ?_, by omega⟩
          · rw [upd_ne (Ne.symm tbp)]
            exact eB tp _ hA
          · rw [upd_ne tab]
            exact eB ta _ h1
          · rw [upd_ne (Ne.symm tbc)]
            exact eB tc _ h3
          · rw [List.length_append, List.length_singleton]
            omega
        | 2, _, hx =>
          cases hx
          refine s_app h3 (ev_var rfl) ev_c (by omega) fun HB eB => ⟨_, rfl, Ex.mut (eA.trans eB) ntc, ?_, la, lb, lc ++ [V.non], ?_, ?_, upd_same, by omega, by omega, ?_⟩
          · rw [upd_ne (Ne.symm tcp)]
            exact eB tp _ hA
          · rw [upd_ne tac]
            exact eB ta _ h1
          · rw [upd_ne tbc]
            exact eB tb _ h2
          · rw [List.length_append, List.length_singleton]
            omega
      · rintro σ' HA ⟨y7, rfl, eA, _⟩
        have hduA := eA du _ hdu7
        refine s_when (b := false) (et_is (et_not (et_B (ev_alike (n := 4) (d := dat c) (ek_lst (eka_cons (ek_LI (n := 2) (ns := iz (sby c c.length)) (el_call (ea_cons (ixd (j := 0) rfl hduA rfl) ea_nil) (sl_read_seating o)) il1) (eka_cons (ek_LI (n := 2) (ns := iz c) (el_call (ea_cons (ixd (j := 1) rfl hduA rfl) ea_nil) (sl_read_coming oc)) il2) (eka_cons (ek_rows (n := 1) (elt_call (ea_cons (ixd (j := 2) rfl hduA rfl) ea_nil) fun H1 e1 Q q => ⟨_, _, rfl, o, R, q⟩) (fun r hr => (few.2 r hr).1) (by omega)) eka_nil))) (by show 3 ≤ 40000; decide)) (ek_of (ev_var rfl) (kd (e47.trans eA))) rfl))) rfl) (fun hb => Bool.noConfusion hb) fun _ HB eB => ⟨_, _, _, _, _, _, _, _, rfl, (p2.ex (e3.trans (e4.trans (e47.trans (eA.trans eB))))).mono (by omega)⟩
    · rintro σ' H' ⟨y2, y3, y4, y5, y6, y7, y8, y9, rfl, p'⟩
      have l4 : ∀ {i j k l : Int} {σ : L2.St} {H : Hp}, EvL (tLst (tCons (tC (.int i)) (tCons (tC (.int j)) (tCons (tC (.int k)) (tCons (tC (.int l)) tNil))))) σ H [.int i, .int j, .int k, .int l] := el_lst (ea_cons ev_c (ea_cons ev_c (ea_cons ev_c (ea_cons ev_c ea_nil)))) (Nat.le_of_ble_eq_true rfl)
      have r4 : ∀ {H : Hp} (Q : VK), (∀ p ws H2, H p = none → Ex H H2 → H2 p = some (.lst ws) → TL H2 ws ([[0]].map nv) → Q (.ref p) H2) → sp_read_tables ([.str "0"] ++ []) H Q E0 := fun Q q => ⟨[0], [[0]], by rw [t4]; rfl, ord0, rings0, q⟩
      have r7 : ∀ {H : Hp} (Q : VK), (∀ p ws H2, H p = none → Ex H H2 → H2 p = some (.lst ws) → TL H2 ws ([[0], [1, 2]].map nv) → Q (.ref p) H2) → sp_read_tables ([.str "0 | 1 2"] ++ []) H Q E0 := fun Q q => ⟨[0, 2, 1], [[0], [1, 2]], by rw [t7]; rfl, ord1, rings1, q⟩
      have r5 : ∀ {H : Hp}, SpL sp_read_seating ([.str "0"] ++ []) H (nv [0]) := fun {H} => by
        have := sl_read_seating (H := H) ord0
        rwa [t5] at this
      have r6 : ∀ {H : Hp}, SpL sp_read_coming ([.str "0 1 0"] ++ []) H (nv [0, 1, 0]) := fun {H} => by
        have := sl_read_coming (H := H) cm010
        rwa [t6] at this
      refine q_asgK (n := 4) (ek_lst (n := 3) (eka_cons (ek_str (x := jn [1, 3, 2, 0]) (ev_call1L (xs := nv [1, 3, 2, 0]) l4 fun p H1 e hp => sv_write hp (by decide) (by decide)) (jn_ok (by decide))) (eka_cons (ek_str (x := jn [0, 0, 2, 1]) (ev_call1L (xs := nv [0, 0, 2, 1]) l4 fun p H1 e hp => sv_write hp (by decide) (by decide)) (jn_ok (by decide))) (eka_cons (ek_str (x := jt [[0, 1, 3], [2]]) (ev_callLT (rows := [[0, 1, 3], [2]].map nv) (elt2 (eu_tup (ea_cons ev_c (ea_cons ev_c (ea_cons ev_c ea_nil))) (Nat.le_of_ble_eq_true rfl)) fun H1 e => eu_tup (ea_cons ev_c ea_nil) (Nat.le_of_ble_eq_true rfl)) fun p ws H1 e hp ht => sv_write_tables hp ht few3) (jt_ok few3)) (eka_cons (ek_rows (n := 1) (rs := [[0]]) (elt_call (ea_cons ev_c ea_nil) fun H1 e1 Q q => r4 Q q) (by decide) (by decide)) eka_nil)))) (by decide)) fun td H1 e1 htd => ?_
      refine q_asgK (n := 4) (ek_cat (n := 3) (ek_of (ev_var rfl) htd) (ek_lst (n := 3) (eka_cons (ek_LI (n := 2) (ns := iz [0]) (el_call (ea_cons ev_c ea_nil) r5) (by decide)) (eka_cons (ek_LI (n := 2) (ns := iz [0, 1, 0]) (el_call (ea_cons ev_c ea_nil) r6) (by decide)) (eka_cons (ek_rows (n := 1) (rs := [[0], [1, 2]]) (elt_call (ea_cons ev_c ea_nil) fun H1 e1 Q q => r7 Q q) (by decide) (by decide)) eka_nil))) (by decide)) (by show 7 ≤ 40000; decide)) fun td2 H2 e2 htd2 => ?_
      refine s_ret (ev_alike (n := 4) (ek_of (ev_var rfl) htd2) (ek_lst (n := 3) (eka_cons (ek_str ev_c (by decide +kernel)) (eka_cons (ek_str ev_c (by decide +kernel)) (eka_cons (ek_str ev_c (by decide +kernel)) (eka_cons (ek_lst (n := 2) (eka_cons (ek_tup (n := 1) (eka_cons (ek_int ev_c) eka_nil) (by decide)) eka_nil) (by decide)) (eka_cons (ek_lst (n := 2) (eka_cons (ek_int ev_c) eka_nil) (by decide)) (eka_cons (ek_lst (n := 2) (eka_cons (ek_int ev_c) (eka_cons (ek_int ev_c) (eka_cons (ek_int ev_c) eka_nil))) (by decide)) (eka_cons (ek_lst (n := 2) (eka_cons (ek_tup (n := 1) (eka_cons (ek_int ev_c) eka_nil) (by decide)) (eka_cons (ek_tup (n := 1) (eka_cons (ek_int ev_c) (eka_cons (ek_int ev_c) eka_nil)) (by decide)) eka_nil)) (by decide)) eka_nil))))))) (by decide)) (by rw [t1, t2, t3]; rfl)) fun H3 e3 => kk H3
end


theorem all_mk {l : PySem.W.OpenLaw} {w : World} {K : PySem.W.Frag} {h : Heap} {mg : Str → Option Value} {fa : Addr} (X : K.In h) (G : h.Ns mainGlobals mg) (hfa : mg "law" = some (.ref fa))
    {f1 : Addr} {od1 an1 : Option Addr} {sl1 : Array (Option Value)} {oc1 kV1 dc1 pm1 cd1 ct1 : Value}
    {f2 : Addr} {od2 an2 : Option Addr} {sl2 : Array (Option Value)} {oc2 kV2 dc2 pm2 cd2 ct2 : Value}
    {f3 : Addr} {od3 an3 : Option Addr} {sl3 : Array (Option Value)} {oc3 kV3 dc3 pm3 cd3 ct3 : Value}
    {f4 : Addr} {od4 an4 : Option Addr} {sl4 : Array (Option Value)} {oc4 kV4 dc4 pm4 cd4 ct4 : Value}
    {f5 : Addr} {od5 an5 : Option Addr} {sl5 : Array (Option Value)} {oc5 kV5 dc5 pm5 cd5 ct5 : Value}
    {f6 : Addr} {od6 an6 : Option Addr} {sl6 : Array (Option Value)} {oc6 kV6 dc6 pm6 cd6 ct6 : Value}
    {f7 : Addr} {od7 an7 : Option Addr} {sl7 : Array (Option Value)} {oc7 kV7 dc7 pm7 cd7 ct7 : Value}
    {f8 : Addr} {od8 an8 : Option Addr} {sl8 : Array (Option Value)} {oc8 kV8 dc8 pm8 cd8 ct8 : Value}
    {f9 : Addr} {od9 an9 : Option Addr} {sl9 : Array (Option Value)} {oc9 kV9 dc9 pm9 cd9 ct9 : Value}
    {f10 : Addr} {od10 an10 : Option Addr} {sl10 : Array (Option Value)} {oc10 kV10 dc10 pm10 cd10 ct10 : Value}
    {f11 : Addr} {od11 an11 : Option Addr} {sl11 : Array (Option Value)} {oc11 kV11 dc11 pm11 cd11 ct11 : Value}
    {f12 : Addr} {od12 an12 : Option Addr} {sl12 : Array (Option Value)} {oc12 kV12 dc12 pm12 cd12 ct12 : Value}
    {f13 : Addr} {od13 an13 : Option Addr} {sl13 : Array (Option Value)} {oc13 kV13 dc13 pm13 cd13 ct13 : Value}
    {f14 : Addr} {od14 an14 : Option Addr} {sl14 : Array (Option Value)} {oc14 kV14 dc14 pm14 cd14 ct14 : Value}
    {f15 : Addr} {od15 an15 : Option Addr} {sl15 : Array (Option Value)} {oc15 kV15 dc15 pm15 cd15 ct15 : Value}
    {f16 : Addr} {od16 an16 : Option Addr} {sl16 : Array (Option Value)} {oc16 kV16 dc16 pm16 cd16 ct16 : Value}
    {f17 : Addr} {od17 an17 : Option Addr} {sl17 : Array (Option Value)} {oc17 kV17 dc17 pm17 cd17 ct17 : Value}
    {f18 : Addr} {od18 an18 : Option Addr} {sl18 : Array (Option Value)} {oc18 kV18 dc18 pm18 cd18 ct18 : Value}
    {f19 : Addr} {od19 an19 : Option Addr} {sl19 : Array (Option Value)} {oc19 kV19 dc19 pm19 cd19 ct19 : Value}
    {f20 : Addr} {od20 an20 : Option Addr} {sl20 : Array (Option Value)} {oc20 kV20 dc20 pm20 cd20 ct20 : Value}
    {f21 : Addr} {od21 an21 : Option Addr} {sl21 : Array (Option Value)} {oc21 kV21 dc21 pm21 cd21 ct21 : Value}
    {f22 : Addr} {od22 an22 : Option Addr} {sl22 : Array (Option Value)} {oc22 kV22 dc22 pm22 cd22 ct22 : Value}
    {t_MOST_GUESTS : Tok}
    {t_BAR : Tok}
    (a1 : PySem.W.nsIn K mainGlobals "is_whole" = some (some (.ref f1))) (l1 : K.lookup f1 = some ⟨oc1, od1, .func (PySem.W.fnOf "is_whole" "is_whole" (defArgs s_is_whole) (defBody s_is_whole) (defScope s_is_whole) .none kV1 dc1 pm1 an1 cd1 ct1), sl1⟩) (c1 : PySem.W.codeIn K cd1 "is_whole" = true) (k1 : PySem.W.keepIn K (.ref f1) = true)
    (a2 : PySem.W.nsIn K mainGlobals "is_order" = some (some (.ref f2))) (l2 : K.lookup f2 = some ⟨oc2, od2, .func (PySem.W.fnOf "is_order" "is_order" (defArgs s_is_order) (defBody s_is_order) (defScope s_is_order) .none kV2 dc2 pm2 an2 cd2 ct2), sl2⟩) (c2 : PySem.W.codeIn K cd2 "is_order" = true) (k2 : PySem.W.keepIn K (.ref f2) = true)
    (a3 : PySem.W.nsIn K mainGlobals "is_seating" = some (some (.ref f3))) (l3 : K.lookup f3 = some ⟨oc3, od3, .func (PySem.W.fnOf "is_seating" "is_seating" (defArgs s_is_seating) (defBody s_is_seating) (defScope s_is_seating) .none kV3 dc3 pm3 an3 cd3 ct3), sl3⟩) (c3 : PySem.W.codeIn K cd3 "is_seating" = true) (k3 : PySem.W.keepIn K (.ref f3) = true)
    (a4 : PySem.W.nsIn K mainGlobals "are_tables" = some (some (.ref f4))) (l4 : K.lookup f4 = some ⟨oc4, od4, .func (PySem.W.fnOf "are_tables" "are_tables" (defArgs s_are_tables) (defBody s_are_tables) (defScope s_are_tables) .none kV4 dc4 pm4 an4 cd4 ct4), sl4⟩) (c4 : PySem.W.codeIn K cd4 "are_tables" = true) (k4 : PySem.W.keepIn K (.ref f4) = true)
    (a5 : PySem.W.nsIn K mainGlobals "is_table" = some (some (.ref f5))) (l5 : K.lookup f5 = some ⟨oc5, od5, .func (PySem.W.fnOf "is_table" "is_table" (defArgs s_is_table) (defBody s_is_table) (defScope s_is_table) .none kV5 dc5 pm5 an5 cd5 ct5), sl5⟩) (c5 : PySem.W.codeIn K cd5 "is_table" = true) (k5 : PySem.W.keepIn K (.ref f5) = true)
    (a6 : PySem.W.nsIn K mainGlobals "write_seating" = some (some (.ref f6))) (l6 : K.lookup f6 = some ⟨oc6, od6, .func (PySem.W.fnOf "write_seating" "write_seating" (defArgs s_write_seating) (defBody s_write_seating) (defScope s_write_seating) .none kV6 dc6 pm6 an6 cd6 ct6), sl6⟩) (c6 : PySem.W.codeIn K cd6 "write_seating" = true) (k6 : PySem.W.keepIn K (.ref f6) = true)
    (a7 : PySem.W.nsIn K mainGlobals "read_seating" = some (some (.ref f7))) (l7 : K.lookup f7 = some ⟨oc7, od7, .func (PySem.W.fnOf "read_seating" "read_seating" (defArgs s_read_seating) (defBody s_read_seating) (defScope s_read_seating) .none kV7 dc7 pm7 an7 cd7 ct7), sl7⟩) (c7 : PySem.W.codeIn K cd7 "read_seating" = true) (k7 : PySem.W.keepIn K (.ref f7) = true)
    (a8 : PySem.W.nsIn K mainGlobals "write_coming" = some (some (.ref f8))) (l8 : K.lookup f8 = some ⟨oc8, od8, .func (PySem.W.fnOf "write_coming" "write_coming" (defArgs s_write_coming) (defBody s_write_coming) (defScope s_write_coming) .none kV8 dc8 pm8 an8 cd8 ct8), sl8⟩) (c8 : PySem.W.codeIn K cd8 "write_coming" = true) (k8 : PySem.W.keepIn K (.ref f8) = true)
    (a9 : PySem.W.nsIn K mainGlobals "read_coming" = some (some (.ref f9))) (l9 : K.lookup f9 = some ⟨oc9, od9, .func (PySem.W.fnOf "read_coming" "read_coming" (defArgs s_read_coming) (defBody s_read_coming) (defScope s_read_coming) .none kV9 dc9 pm9 an9 cd9 ct9), sl9⟩) (c9 : PySem.W.codeIn K cd9 "read_coming" = true) (k9 : PySem.W.keepIn K (.ref f9) = true)
    (a10 : PySem.W.nsIn K mainGlobals "write_tables" = some (some (.ref f10))) (l10 : K.lookup f10 = some ⟨oc10, od10, .func (PySem.W.fnOf "write_tables" "write_tables" (defArgs s_write_tables) (defBody s_write_tables) (defScope s_write_tables) .none kV10 dc10 pm10 an10 cd10 ct10), sl10⟩) (c10 : PySem.W.codeIn K cd10 "write_tables" = true) (k10 : PySem.W.keepIn K (.ref f10) = true)
    (a11 : PySem.W.nsIn K mainGlobals "read_tables" = some (some (.ref f11))) (l11 : K.lookup f11 = some ⟨oc11, od11, .func (PySem.W.fnOf "read_tables" "read_tables" (defArgs s_read_tables) (defBody s_read_tables) (defScope s_read_tables) .none kV11 dc11 pm11 an11 cd11 ct11), sl11⟩) (c11 : PySem.W.codeIn K cd11 "read_tables" = true) (k11 : PySem.W.keepIn K (.ref f11) = true)
    (a12 : PySem.W.nsIn K mainGlobals "text_of" = some (some (.ref f12))) (l12 : K.lookup f12 = some ⟨oc12, od12, .func (PySem.W.fnOf "text_of" "text_of" (defArgs s_text_of) (defBody s_text_of) (defScope s_text_of) .none kV12 dc12 pm12 an12 cd12 ct12), sl12⟩) (c12 : PySem.W.codeIn K cd12 "text_of" = true) (k12 : PySem.W.keepIn K (.ref f12) = true)
    (a13 : PySem.W.nsIn K mainGlobals "number_at" = some (some (.ref f13))) (l13 : K.lookup f13 = some ⟨oc13, od13, .func (PySem.W.fnOf "number_at" "number_at" (defArgs s_number_at) (defBody s_number_at) (defScope s_number_at) .none kV13 dc13 pm13 an13 cd13 ct13), sl13⟩) (c13 : PySem.W.codeIn K cd13 "number_at" = true) (k13 : PySem.W.keepIn K (.ref f13) = true)
    (a14 : PySem.W.nsIn K mainGlobals "_law_bag" = some (some (.ref f14))) (l14 : K.lookup f14 = some ⟨oc14, od14, .func (PySem.W.fnOf "_law_bag" "_law_bag" (defArgs s_law_bag) (defBody s_law_bag) (defScope s_law_bag) .none kV14 dc14 pm14 an14 cd14 ct14), sl14⟩) (c14 : PySem.W.codeIn K cd14 "_law_bag" = true) (k14 : PySem.W.keepIn K (.ref f14) = true)
    (a15 : PySem.W.nsIn K mainGlobals "_law_stirred" = some (some (.ref f15))) (l15 : K.lookup f15 = some ⟨oc15, od15, .func (PySem.W.fnOf "_law_stirred" "_law_stirred" (defArgs s_law_stirred) (defBody s_law_stirred) (defScope s_law_stirred) .none kV15 dc15 pm15 an15 cd15 ct15), sl15⟩) (c15 : PySem.W.codeIn K cd15 "_law_stirred" = true) (k15 : PySem.W.keepIn K (.ref f15) = true)
    (a16 : PySem.W.nsIn K mainGlobals "_law_draw" = some (some (.ref f16))) (l16 : K.lookup f16 = some ⟨oc16, od16, .func (PySem.W.fnOf "_law_draw" "_law_draw" (defArgs s_law_draw) (defBody s_law_draw) (defScope s_law_draw) .none kV16 dc16 pm16 an16 cd16 ct16), sl16⟩) (c16 : PySem.W.codeIn K cd16 "_law_draw" = true) (k16 : PySem.W.keepIn K (.ref f16) = true)
    (a17 : PySem.W.nsIn K mainGlobals "_law_alike" = some (some (.ref f17))) (l17 : K.lookup f17 = some ⟨oc17, od17, .func (PySem.W.fnOf "_law_alike" "_law_alike" (defArgs s_law_alike) (defBody s_law_alike) (defScope s_law_alike) .none kV17 dc17 pm17 an17 cd17 ct17), sl17⟩) (c17 : PySem.W.codeIn K cd17 "_law_alike" = true) (k17 : PySem.W.keepIn K (.ref f17) = true)
    (a18 : PySem.W.nsIn K mainGlobals "_law_seating" = some (some (.ref f18))) (l18 : K.lookup f18 = some ⟨oc18, od18, .func (PySem.W.fnOf "_law_seating" "_law_seating" (defArgs s_law_seating) (defBody s_law_seating) (defScope s_law_seating) .none kV18 dc18 pm18 an18 cd18 ct18), sl18⟩) (c18 : PySem.W.codeIn K cd18 "_law_seating" = true) (k18 : PySem.W.keepIn K (.ref f18) = true)
    (a19 : PySem.W.nsIn K mainGlobals "_law_coming" = some (some (.ref f19))) (l19 : K.lookup f19 = some ⟨oc19, od19, .func (PySem.W.fnOf "_law_coming" "_law_coming" (defArgs s_law_coming) (defBody s_law_coming) (defScope s_law_coming) .none kV19 dc19 pm19 an19 cd19 ct19), sl19⟩) (c19 : PySem.W.codeIn K cd19 "_law_coming" = true) (k19 : PySem.W.keepIn K (.ref f19) = true)
    (a20 : PySem.W.nsIn K mainGlobals "_law_tables" = some (some (.ref f20))) (l20 : K.lookup f20 = some ⟨oc20, od20, .func (PySem.W.fnOf "_law_tables" "_law_tables" (defArgs s_law_tables) (defBody s_law_tables) (defScope s_law_tables) .none kV20 dc20 pm20 an20 cd20 ct20), sl20⟩) (c20 : PySem.W.codeIn K cd20 "_law_tables" = true) (k20 : PySem.W.keepIn K (.ref f20) = true)
    (a21 : PySem.W.nsIn K mainGlobals "_law_row" = some (some (.ref f21))) (l21 : K.lookup f21 = some ⟨oc21, od21, .func (PySem.W.fnOf "_law_row" "_law_row" (defArgs s_law_row) (defBody s_law_row) (defScope s_law_row) .none kV21 dc21 pm21 an21 cd21 ct21), sl21⟩) (c21 : PySem.W.codeIn K cd21 "_law_row" = true) (k21 : PySem.W.keepIn K (.ref f21) = true)
    (a22 : PySem.W.nsIn K mainGlobals "law" = some (some (.ref f22))) (l22 : K.lookup f22 = some ⟨oc22, od22, .func (PySem.W.fnOf "law" "law" (defArgs s_law) (defBody s_law) (defScope s_law) .none kV22 dc22 pm22 an22 cd22 ct22), sl22⟩) (c22 : PySem.W.codeIn K cd22 "law" = true) (k22 : PySem.W.keepIn K (.ref f22) = true)
    (z_abs : PySem.W.nsIn K mainGlobals "abs" = some none)
    (z_all : PySem.W.nsIn K mainGlobals "all" = some none)
    (z_bool : PySem.W.nsIn K mainGlobals "bool" = some none)
    (z_enumerate : PySem.W.nsIn K mainGlobals "enumerate" = some none)
    (z_int : PySem.W.nsIn K mainGlobals "int" = some none)
    (z_isinstance : PySem.W.nsIn K mainGlobals "isinstance" = some none)
    (z_len : PySem.W.nsIn K mainGlobals "len" = some none)
    (z_list : PySem.W.nsIn K mainGlobals "list" = some none)
    (z_max : PySem.W.nsIn K mainGlobals "max" = some none)
    (z_min : PySem.W.nsIn K mainGlobals "min" = some none)
    (z_range : PySem.W.nsIn K mainGlobals "range" = some none)
    (z_sorted : PySem.W.nsIn K mainGlobals "sorted" = some none)
    (z_str : PySem.W.nsIn K mainGlobals "str" = some none)
    (z_tuple : PySem.W.nsIn K mainGlobals "tuple" = some none)
    (z_type : PySem.W.nsIn K mainGlobals "type" = some none)
    (y_MOST_GUESTS : PySem.W.nsIn K mainGlobals "MOST_GUESTS" = some (some (.int 20 t_MOST_GUESTS)))
    (y_BAR : PySem.W.nsIn K mainGlobals "BAR" = some (some (.str "|" t_BAR)))
    : ∃ fd : FuncData, (∀ (s : Shared) (v : Value), BindsTo s fd ⟨[v], []⟩ [("script", v)]) ∧ ∀ base : Heap, K.In base → base.Ns mainGlobals mg → FnOk l.prog w K mg base CX0 9 fa fd ["script"] (sp_law K) := by
  have e := hfa.symm.trans (PySem.W.mg_of X G a22)
  cases e
  have F1 := fun_mk (st := s_is_whole) l1 c1 k1
  have F2 := fun_mk (st := s_is_order) l2 c2 k2
  have F3 := fun_mk (st := s_is_seating) l3 c3 k3
  have F4 := fun_mk (st := s_are_tables) l4 c4 k4
  have F5 := fun_mk (st := s_is_table) l5 c5 k5
  have F6 := fun_mk (st := s_write_seating) l6 c6 k6
  have F7 := fun_mk (st := s_read_seating) l7 c7 k7
  have F8 := fun_mk (st := s_write_coming) l8 c8 k8
  have F9 := fun_mk (st := s_read_coming) l9 c9 k9
  have F10 := fun_mk (st := s_write_tables) l10 c10 k10
  have F11 := fun_mk (st := s_read_tables) l11 c11 k11
  have F12 := fun_mk (st := s_text_of) l12 c12 k12
  have F13 := fun_mk (st := s_number_at) l13 c13 k13
  have F14 := fun_mk (st := s_law_bag) l14 c14 k14
  have F15 := fun_mk (st := s_law_stirred) l15 c15 k15
  have F16 := fun_mk (st := s_law_draw) l16 c16 k16
  have F17 := fun_mk (st := s_law_alike) l17 c17 k17
  have F18 := fun_mk (st := s_law_seating) l18 c18 k18
  have F19 := fun_mk (st := s_law_coming) l19 c19 k19
  have F20 := fun_mk (st := s_law_tables) l20 c20 k20
  have F21 := fun_mk (st := s_law_row) l21 c21 k21
  have F22 := fun_mk (st := s_law) l22 c22 k22
  let T : Tx K mg :=
    { f_is_whole := f1, d_is_whole := _, F_is_whole := F1, g_is_whole := PySem.W.mg_of X G a1, b_is_whole := F1.binds (ps := ["thing"]) fun _ _ _ _ _ _ us hl => match us, hl with | [_], _ => rfl,
      f_is_order := f2, d_is_order := _, F_is_order := F2, g_is_order := PySem.W.mg_of X G a2, b_is_order := F2.binds (ps := ["thing"]) fun _ _ _ _ _ _ us hl => match us, hl with | [_], _ => rfl,
      f_is_seating := f3, d_is_seating := _, F_is_seating := F3, g_is_seating := PySem.W.mg_of X G a3, b_is_seating := F3.binds (ps := ["thing"]) fun _ _ _ _ _ _ us hl => match us, hl with | [_], _ => rfl,
      f_are_tables := f4, d_are_tables := _, F_are_tables := F4, g_are_tables := PySem.W.mg_of X G a4, b_are_tables := F4.binds (ps := ["thing"]) fun _ _ _ _ _ _ us hl => match us, hl with | [_], _ => rfl,
      f_is_table := f5, d_is_table := _, F_is_table := F5, g_is_table := PySem.W.mg_of X G a5, b_is_table := F5.binds (ps := ["thing"]) fun _ _ _ _ _ _ us hl => match us, hl with | [_], _ => rfl,
      f_write_seating := f6, d_write_seating := _, F_write_seating := F6, g_write_seating := PySem.W.mg_of X G a6, b_write_seating := F6.binds (ps := ["seating"]) fun _ _ _ _ _ _ us hl => match us, hl with | [_], _ => rfl,
      f_read_seating := f7, d_read_seating := _, F_read_seating := F7, g_read_seating := PySem.W.mg_of X G a7, b_read_seating := F7.binds (ps := ["text"]) fun _ _ _ _ _ _ us hl => match us, hl with | [_], _ => rfl,
      f_write_coming := f8, d_write_coming := _, F_write_coming := F8, g_write_coming := PySem.W.mg_of X G a8, b_write_coming := F8.binds (ps := ["coming"]) fun _ _ _ _ _ _ us hl => match us, hl with | [_], _ => rfl,
      f_read_coming := f9, d_read_coming := _, F_read_coming := F9, g_read_coming := PySem.W.mg_of X G a9, b_read_coming := F9.binds (ps := ["text"]) fun _ _ _ _ _ _ us hl => match us, hl with | [_], _ => rfl,
      f_write_tables := f10, d_write_tables := _, F_write_tables := F10, g_write_tables := PySem.W.mg_of X G a10, b_write_tables := F10.binds (ps := ["tables"]) fun _ _ _ _ _ _ us hl => match us, hl with | [_], _ => rfl,
      f_read_tables := f11, d_read_tables := _, F_read_tables := F11, g_read_tables := PySem.W.mg_of X G a11, b_read_tables := F11.binds (ps := ["text"]) fun _ _ _ _ _ _ us hl => match us, hl with | [_], _ => rfl,
      f_text_of := f12, d_text_of := _, F_text_of := F12, g_text_of := PySem.W.mg_of X G a12, b_text_of := F12.binds (ps := ["numbers"]) fun _ _ _ _ _ _ us hl => match us, hl with | [_], _ => rfl,
      f_number_at := f13, d_number_at := _, F_number_at := F13, g_number_at := PySem.W.mg_of X G a13, b_number_at := F13.binds (ps := ["place", "word", "numbers"]) fun _ _ _ _ _ _ us hl => match us, hl with | [_, _, _], _ => rfl,
      f_law_bag := f14, d_law_bag := _, F_law_bag := F14, g_law_bag := PySem.W.mg_of X G a14, b_law_bag := F14.binds (ps := ["script"]) fun _ _ _ _ _ _ us hl => match us, hl with | [_], _ => rfl,
      f_law_stirred := f15, d_law_stirred := _, F_law_stirred := F15, g_law_stirred := PySem.W.mg_of X G a15, b_law_stirred := F15.binds (ps := ["bag", "wide"]) fun _ _ _ _ _ _ us hl => match us, hl with | [_, _], _ => rfl,
      f_law_draw := f16, d_law_draw := _, F_law_draw := F16, g_law_draw := PySem.W.mg_of X G a16, b_law_draw := F16.binds (ps := ["bag", "wide"]) fun _ _ _ _ _ _ us hl => match us, hl with | [_, _], _ => rfl,
      f_law_alike := f17, d_law_alike := _, F_law_alike := F17, g_law_alike := PySem.W.mg_of X G a17, b_law_alike := F17.binds (ps := ["found", "due"]) fun _ _ _ _ _ _ us hl => match us, hl with | [_, _], _ => rfl,
      f_law_seating := f18, d_law_seating := _, F_law_seating := F18, g_law_seating := PySem.W.mg_of X G a18, b_law_seating := F18.binds (ps := ["bag", "wide"]) fun _ _ _ _ _ _ us hl => match us, hl with | [_, _], _ => rfl,
      f_law_coming := f19, d_law_coming := _, F_law_coming := F19, g_law_coming := PySem.W.mg_of X G a19, b_law_coming := F19.binds (ps := ["some"]) fun _ _ _ _ _ _ us hl => match us, hl with | [_], _ => rfl,
      f_law_tables := f20, d_law_tables := _, F_law_tables := F20, g_law_tables := PySem.W.mg_of X G a20, b_law_tables := F20.binds (ps := ["some"]) fun _ _ _ _ _ _ us hl => match us, hl with | [_], _ => rfl,
      f_law_row := f21, d_law_row := _, F_law_row := F21, g_law_row := PySem.W.mg_of X G a21, b_law_row := F21.binds (ps := ["row"]) fun _ _ _ _ _ _ us hl => match us, hl with | [_], _ => rfl,
      f_law := fa, d_law := _, F_law := F22, g_law := PySem.W.mg_of X G a22, b_law := F22.binds (ps := ["script"]) fun _ _ _ _ _ _ us hl => match us, hl with | [_], _ => rfl,
      m_abs := PySem.W.mg_none_of X G z_abs,
      m_all := PySem.W.mg_none_of X G z_all,
      m_bool := PySem.W.mg_none_of X G z_bool,
      m_enumerate := PySem.W.mg_none_of X G z_enumerate,
      m_int := PySem.W.mg_none_of X G z_int,
      m_isinstance := PySem.W.mg_none_of X G z_isinstance,
      m_len := PySem.W.mg_none_of X G z_len,
      m_list := PySem.W.mg_none_of X G z_list,
      m_max := PySem.W.mg_none_of X G z_max,
      m_min := PySem.W.mg_none_of X G z_min,
      m_range := PySem.W.mg_none_of X G z_range,
      m_sorted := PySem.W.mg_none_of X G z_sorted,
      m_str := PySem.W.mg_none_of X G z_str,
      m_tuple := PySem.W.mg_none_of X G z_tuple,
      m_type := PySem.W.mg_none_of X G z_type,
      c_MOST_GUESTS := ⟨_, PySem.W.mg_of X G y_MOST_GUESTS, ⟨_, rfl⟩⟩,
      c_BAR := ⟨_, PySem.W.mg_of X G y_BAR, ⟨_, rfl⟩⟩,
      kb_read_tables_0_text := ⟨(fun s us ws _ hl => match us, ws, hl with | [], [_], _ => .of_eq rfl | (_ :: _), _, hl => absurd (show (0 : Nat) = 1 from hl) (by decide) | [], [], hl => absurd (show (0 : Nat) = 1 from hl) (by decide) | [], (_ :: (_ :: _)), hl => absurd (show (0 : Nat) = 1 from hl) (by decide)), (fun {vs us zs ws} r z => match r, z with | .nil, (.cons b0 .nil) => (.cons b0 .nil) | (.cons _ _), _ => .nil | .nil, .nil => .nil | .nil, (.cons _ (.cons _ _)) => .nil)⟩,
      kb_read_coming_0_text := ⟨(fun s us ws _ hl => match us, ws, hl with | [], [_], _ => .of_eq rfl | (_ :: _), _, hl => absurd (show (0 : Nat) = 1 from hl) (by decide) | [], [], hl => absurd (show (0 : Nat) = 1 from hl) (by decide) | [], (_ :: (_ :: _)), hl => absurd (show (0 : Nat) = 1 from hl) (by decide)), (fun {vs us zs ws} r z => match r, z with | .nil, (.cons b0 .nil) => (.cons b0 .nil) | (.cons _ _), _ => .nil | .nil, .nil => .nil | .nil, (.cons _ (.cons _ _)) => .nil)⟩,
      kb_read_seating_0_text := ⟨(fun s us ws _ hl => match us, ws, hl with | [], [_], _ => .of_eq rfl | (_ :: _), _, hl => absurd (show (0 : Nat) = 1 from hl) (by decide) | [], [], hl => absurd (show (0 : Nat) = 1 from hl) (by decide) | [], (_ :: (_ :: _)), hl => absurd (show (0 : Nat) = 1 from hl) (by decide)), (fun {vs us zs ws} r z => match r, z with | .nil, (.cons b0 .nil) => (.cons b0 .nil) | (.cons _ _), _ => .nil | .nil, .nil => .nil | .nil, (.cons _ (.cons _ _)) => .nil)⟩,
      kb_write_tables_0_tables := ⟨(fun s us ws _ hl => match us, ws, hl with | [], [_], _ => .of_eq rfl | (_ :: _), _, hl => absurd (show (0 : Nat) = 1 from hl) (by decide) | [], [], hl => absurd (show (0 : Nat) = 1 from hl) (by decide) | [], (_ :: (_ :: _)), hl => absurd (show (0 : Nat) = 1 from hl) (by decide)), (fun {vs us zs ws} r z => match r, z with | .nil, (.cons b0 .nil) => (.cons b0 .nil) | (.cons _ _), _ => .nil | .nil, .nil => .nil | .nil, (.cons _ (.cons _ _)) => .nil)⟩,
      kb_write_coming_0_coming := ⟨(fun s us ws _ hl => match us, ws, hl with | [], [_], _ => .of_eq rfl | (_ :: _), _, hl => absurd (show (0 : Nat) = 1 from hl) (by decide) | [], [], hl => absurd (show (0 : Nat) = 1 from hl) (by decide) | [], (_ :: (_ :: _)), hl => absurd (show (0 : Nat) = 1 from hl) (by decide)), (fun {vs us zs ws} r z => match r, z with | .nil, (.cons b0 .nil) => (.cons b0 .nil) | (.cons _ _), _ => .nil | .nil, .nil => .nil | .nil, (.cons _ (.cons _ _)) => .nil)⟩,
      kb_write_seating_0_seating := ⟨(fun s us ws _ hl => match us, ws, hl with | [], [_], _ => .of_eq rfl | (_ :: _), _, hl => absurd (show (0 : Nat) = 1 from hl) (by decide) | [], [], hl => absurd (show (0 : Nat) = 1 from hl) (by decide) | [], (_ :: (_ :: _)), hl => absurd (show (0 : Nat) = 1 from hl) (by decide)), (fun {vs us zs ws} r z => match r, z with | .nil, (.cons b0 .nil) => (.cons b0 .nil) | (.cons _ _), _ => .nil | .nil, .nil => .nil | .nil, (.cons _ (.cons _ _)) => .nil)⟩ }
  exact ⟨PySem.W.fnOf "law" "law" (defArgs s_law) (defBody s_law) (defScope s_law) .none kV22 dc22 pm22 an22 cd22 ct22, fun s v => .of_eq rfl, fun base _ _ => ok_law T⟩
end K55
open PySem PySem.W PyProof.Rows
set_option maxRecDepth 100000 in
set_option maxHeartbeats 0 in
theorem PySem.Challenge.cw_newtables_k55_texts_written_and_read_holds : PySem.Challenge.rw_newtables_k55_texts_written_and_read.Holds := by
  w_on; o_law; k_head; (case hw => w_witness2)
  k_fill
  refine L2.walk_of (l := PySem.Challenge.rw_newtables_k55_texts_written_and_read) (n := 63) (k := 9) (x := "script") (CX := fun _ => L2.CX0) (sp := fun w => K55.sp_law _) rfl (by decide) rfl ⟨rfl, by decide, by decide⟩ (fun w h Y => PySem.W.kIn_of Y) ?F (fun _ _ a ns hl _ hS => ⟨a, ns, rfl, hS, hl, fun _ => rfl⟩) (fun _ _ _ _ _ h => h)
  case F =>
    intro w mg fa h KX G hmg
    refine' K55.all_mk KX G hmg ?a1 ?l1 ?c1 ?k1 ?a2 ?l2 ?c2 ?k2 ?a3 ?l3 ?c3 ?k3 ?a4 ?l4 ?c4 ?k4 ?a5 ?l5 ?c5 ?k5 ?a6 ?l6 ?c6 ?k6 ?a7 ?l7 ?c7 ?k7 ?a8 ?l8 ?c8 ?k8 ?a9 ?l9 ?c9 ?k9 ?a10 ?l10 ?c10 ?k10 ?a11 ?l11 ?c11 ?k11 ?a12 ?l12 ?c12 ?k12 ?a13 ?l13 ?c13 ?k13 ?a14 ?l14 ?c14 ?k14 ?a15 ?l15 ?c15 ?k15 ?a16 ?l16 ?c16 ?k16 ?a17 ?l17 ?c17 ?k17 ?a18 ?l18 ?c18 ?k18 ?a19 ?l19 ?c19 ?k19 ?a20 ?l20 ?c20 ?k20 ?a21 ?l21 ?c21 ?k21 ?a22 ?l22 ?c22 ?k22 ?z_abs ?z_all ?z_bool ?z_enumerate ?z_int ?z_isinstance ?z_len ?z_list ?z_max ?z_min ?z_range ?z_sorted ?z_str ?z_tuple ?z_type ?y_MOST_GUESTS ?y_BAR
    (case a1 => k_is); (case l1 => k_is); (case c1 => k_is); (case k1 => k_is); (case a2 => k_is); (case l2 => k_is)
    (case c2 => k_is); (case k2 => k_is); (case a3 => k_is); (case l3 => k_is); (case c3 => k_is); (case k3 => k_is)
    (case a4 => k_is); (case l4 => k_is); (case c4 => k_is); (case k4 => k_is); (case a5 => k_is); (case l5 => k_is)
    (case c5 => k_is); (case k5 => k_is); (case a6 => k_is); (case l6 => k_is); (case c6 => k_is); (case k6 => k_is)
    (case a7 => k_is); (case l7 => k_is); (case c7 => k_is); (case k7 => k_is); (case a8 => k_is); (case l8 => k_is)
    (case c8 => k_is); (case k8 => k_is); (case a9 => k_is); (case l9 => k_is); (case c9 => k_is); (case k9 => k_is)
    (case a10 => k_is); (case l10 => k_is); (case c10 => k_is); (case k10 => k_is); (case a11 => k_is); (case l11 => k_is)
    (case c11 => k_is); (case k11 => k_is); (case a12 => k_is); (case l12 => k_is); (case c12 => k_is); (case k12 => k_is)
    (case a13 => k_is); (case l13 => k_is); (case c13 => k_is); (case k13 => k_is); (case a14 => k_is); (case l14 => k_is)
    (case c14 => k_is); (case k14 => k_is); (case a15 => k_is); (case l15 => k_is); (case c15 => k_is); (case k15 => k_is)
    (case a16 => k_is); (case l16 => k_is); (case c16 => k_is); (case k16 => k_is); (case a17 => k_is); (case l17 => k_is)
    (case c17 => k_is); (case k17 => k_is); (case a18 => k_is); (case l18 => k_is); (case c18 => k_is); (case k18 => k_is)
    (case a19 => k_is); (case l19 => k_is); (case c19 => k_is); (case k19 => k_is); (case a20 => k_is); (case l20 => k_is)
    (case c20 => k_is); (case k20 => k_is); (case a21 => k_is); (case l21 => k_is); (case c21 => k_is); (case k21 => k_is)
    (case a22 => k_is); (case l22 => k_is); (case c22 => k_is); (case k22 => k_is); (case z_abs => k_is); (case z_all => k_is)
    (case z_bool => k_is); (case z_enumerate => k_is); (case z_int => k_is); (case z_isinstance => k_is); (case z_len => k_is); (case z_list => k_is)
    (case z_max => k_is); (case z_min => k_is); (case z_range => k_is); (case z_sorted => k_is); (case z_str => k_is); (case z_tuple => k_is)
    (case z_type => k_is); (case y_MOST_GUESTS => k_is); (case y_BAR => k_is)