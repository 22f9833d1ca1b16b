import PyProof.Rows.All
import Wide.All
import OpenK.AllK
import Wide.FinOn
import PyProof.TypeEq
import HandS.ForMost
import HandS.Evl
import HandS.Wide
import HandS.WideBits
import HandS.Gcd
import HandS.Codes
import HandS.Conv
import HandS.IsInst
import HandS.More
import HandS.Walk
import HandS.Style
import PyProof.InstEq
import HandS.Sort
import KE.DataMinMax
import PyProof.ReprLen
import PyProof.Rows.RegStrFacts
import KE.KMathGC
import HandS.RevRange
import HandS.Deep
import KE.GoesEnum
import KE.GoesMore
import HandS.Iter
import HandS.WordsDict
import KE.SortData
import HandS.SortRule
import KE.KRevSl
import KE.OsSortAny
import PySem.Challenge.RW_newtables_k19_whole_records
set_option Elab.async false
set_option linter.all false
set_option maxRecDepth 100000
set_option maxHeartbeats 4000000
namespace Kit
open PySem PySem.Spec PyProof.Rows L2 Evl
/-! rules that the layer lacks -/
section
variable {X : Cx} {a b c d : Expr} {ta tb tc td : TE} {pos : Pos}
def CPowX (i j : Int) : Prop := 0 ≤ j ∧ (Builtin.Int.intBits i : Int) * j ≤ 2 ^ 27
theorem op_powX : OpR X (binaryOp .Pow) (rI CPowX fun i j => .int (i ^ j.toNat)) := opI fun _ _ _ _ _ _ _ hc q => pow_int hc.1 hc.2 q
/-- the types that are compared by == -/
def Meta (n : String) : Prop := ∀ s : Shared, s.TypeIs (.type n) "type"
def rEqTy : R2 := fun x y H Q => ∃ m n, x = .ty m ∧ y = .ty n ∧ Meta m ∧ Meta n ∧ Q (.bl (decide (m = n))) H
theorem op_eqTy : OpR X (compareOp .Eq) rEqTy := by
  intro pins s σ H x y v u Q I rx ry h
  obtain ⟨m, n, rfl, rfl, hm, hn, q⟩ := h
  cases (show v = Value.type m from rx)
  cases (show u = Value.type n from ry)
  by_cases e : m = n
  · subst e
    exact PySem.TypeEq.eq_type_same hm ⟨.bl true, H, I, rfl, by simpa using q⟩
  · exact PySem.TypeEq.eq_type_other hm hn (by rw [beq_eq_false_iff_ne]; exact fun z => e (Value.type.inj z)) ⟨.bl false, H, I, rfl, by simpa [e] using q⟩
/-- a op b op c op d -/
def tChain3 (r r' r'' : R2) (ta tb tc td : TE) : TE := fun σ H Q => ta σ H fun x H1 => tb σ H1 fun y H2 => r x y H2 fun z H3 => ∃ k, z = .bl k ∧
  (if k = true then tc σ H3 fun w' H4 => r' y w' H4 fun z' H5 => ∃ k', z' = .bl k' ∧ (if k' = true then td σ H5 fun w'' H6 => r'' w' w'' H6 Q else Q (.bl false) H5) else Q (.bl false) H3)
theorem pe_chain3 {op op' op'' : CmpOp} {r r' r'' : R2} (ho : OpR X (compareOp op) r) (ho' : OpR X (compareOp op') r') (ho'' : OpR X (compareOp op'') r'') (ha : PE X a ta) (hb : PE X b tb) (hc : PE X c tc) (hd : PE X d td)
    (hm : lastMarks [op, op', op''] [b, c, d] = false := by with_unfolding_all rfl) : PE X (.Compare a [op, op', op''] [b, c, d] pos) (tChain3 r r' r'' ta tb tc td) := by
  refine ⟨fun pins s σ H Q I h => ?_⟩
  refine Compare_chain (thn (ha.run pins s σ H _ I h) fun v s1 ⟨x, H1, I1, r1, q1⟩ => chain_link (thn (hb.run pins s1 σ H1 _ I1 q1) fun u s2 ⟨y, H2, I2, r2, q2⟩ =>
    thn (ho pins s2 σ H2 x y v u _ I2 r1 r2 q2) fun d s3 ⟨z, H3, I3, r3, k, e, q3⟩ => ?_)) hm
  subst e
  cases r3
  refine wpAny_truthy_bool ?_
  cases k with
  | false => exact ite_ff ⟨.bl false, H3, I3, rfl, q3⟩
  | true =>
    refine ite_tt (chain_link (thn (hc.run pins s3 σ H3 _ I3 q3) fun w' s4 ⟨z', H4, I4, r4, q4⟩ => thn (ho' pins s4 σ H4 y z' u w' _ I4 r2 r4 q4) fun d' s5 ⟨z5, H5, I5, r5, k5, e5, q5⟩ => ?_))
    subst e5
    cases r5
    refine wpAny_truthy_bool ?_
    cases k5 with
    | false => exact ite_ff ⟨.bl false, H5, I5, rfl, q5⟩
    | true => exact ite_tt (chain_last (thn (hd.run pins s5 σ H5 _ I5 q5) fun w6 s6 ⟨z6, H6, I6, r6, q6⟩ => ho'' pins s6 σ H6 z' z6 w' w6 Q I6 r4 r6 q6))
theorem pt_chain3 {op op' op'' : CmpOp} {r r' r'' : R2} (ho : OpR X (compareOp op) r) (ho' : OpR X (compareOp op') r') (ho'' : OpR X (compareOp op'') r'') (ha : PE X a ta) (hb : PE X b tb) (hc : PE X c tc) (hd : PE X d td)
    (hm : lastMarks [op, op', op''] [b, c, d] = false := by with_unfolding_all rfl) : PT X (.Compare a [op, op', op''] [b, c, d] pos) (tTest (tChain3 r r' r'' ta tb tc td)) := by
  refine ⟨fun pins s σ H Q I h => ?_⟩
  refine isTrue_chain (thn (ha.run pins s σ H _ I h) fun v s1 ⟨x, H1, I1, r1, q1⟩ => test_link (thn (hb.run pins s1 σ H1 _ I1 q1) fun u s2 ⟨y, H2, I2, r2, q2⟩ =>
    thn (ho pins s2 σ H2 x y v u _ I2 r1 r2 q2) fun d s3 ⟨z, H3, I3, r3, k, e, q3⟩ => ?_)) hm
  subst e
  cases r3
  refine wpAny_truthy_bool ?_
  cases k with
  | false =>
    obtain ⟨k', e', q'⟩ := q3
    cases e'
    exact ite_ff ⟨H3, I3, q'⟩
  | true =>
    refine ite_tt (test_link (thn (hc.run pins s3 σ H3 _ I3 q3) fun w' s4 ⟨z', H4, I4, r4, q4⟩ => thn (ho' pins s4 σ H4 y z' u w' _ I4 r2 r4 q4) fun d' s5 ⟨z5, H5, I5, r5, k5, e5, q5⟩ => ?_))
    subst e5
    cases r5
    refine wpAny_truthy_bool ?_
    cases k5 with
    | false =>
      obtain ⟨k', e', q'⟩ := q5
      cases e'
      exact ite_ff ⟨H5, I5, q'⟩
    | true =>
      refine ite_tt (test_last (thn (hd.run pins s5 σ H5 _ I5 q5) fun w6 s6 ⟨z6, H6, I6, r6, q6⟩ => thn (ho'' pins s6 σ H6 z' z6 w' w6 _ I6 r4 r6 q6) fun d7 s7 ⟨z7, H7, I7, r7, k7, e7, q7⟩ => ?_))
      subst e7
      cases r7
      exact wpAny_truthy_bool ⟨H7, I7, q7⟩
end
/-! f(k = v, ..): keywords alone -/
section
variable {X : Cx} {CX : CXT} {k : Nat} {f C : Addr} {fd : FuncData} {ps ks : List Str} {sp : Sp} {E : XK} {x m : Str} {p pos apos kpos : Pos} {kws : List Keyword} {tk : TA}
variable {g : List Value → List Value → List Value} {gV : List V → List V → List V}
theorem pe_callK0 (F : FnOk X.prog X.w X.K X.mg X.base CX k f fd ps sp) (hr : Room k X.A) (hg : Gl X x) (hm : X.mg x = some (.ref f)) (hk : PySem.W.keepIn X.K (.ref f) = true) (hb : KBinds X.K fd ps ks g gV) (hx : Passes CX X E)
    (hkw : PK X kws tk) (hall : (backToKw pos (keywordEach kws X.env)).all (·.1.isSome) = true := by rfl) (hks : (backToKw pos (keywordEach kws X.env)).filterMap (·.1) = ks := by rfl)
    (hdb : (x == ("__debug__" : Str)) = false := by decide)
    (hpl : ((backTo pos (starEach [] X.env)).any (·.1) || (backToKw pos (keywordEach kws X.env)).any (·.1.isNone)) = false := by rfl) :
    PE X (.Call (.Name x p) [] kws pos) (tCallK sp gV E tNil tk) := by
  refine ⟨fun pins s σ H Q I h => ?_⟩
  refine wpAny_Call_Name_kw (ld_glob I hg hm ?_ hdb)
  refine PySem.W.callWith_KW0 (h₀ := X.base) I.ok.mod.kin hk hall ?_ hpl
  refine thn (hkw.run pos pins s σ H _ I h) fun ws s2 ⟨zs, H2, I2, rz, q2⟩ => ⟨I2.kIn, ?_⟩
  rw [hks]
  exact run_fnk F hr hb hx I2 (us := []) (vs := []) .nil rz q2
end
theorem pe_gc {X : Cx} {x : Str} {pos : Pos} {v : V} (hg : Gl X x) (h : ∃ u, X.mg x = some u ∧ RelV v u) (hd : (x == ("__debug__" : Str)) = false := by decide) : PE X (.Name x pos) (tC v) := by
  obtain ⟨u, hm, r⟩ := h
  exact pe_glob hg hm r hd
/-! built-ins by name, with readings that have names -/
section
variable {X : Cx}
def rAbs : List V → Hp → VK → Prop := fun xs H Q => ∃ i, xs = [.int i] ∧ Q (.int (if i < 0 then -i else i)) H
def rMin2 : List V → Hp → VK → Prop := fun xs H Q => ∃ i j, xs = [.int i, .int j] ∧ Q (.int (if j < i then j else i)) H
def rIntI : List V → Hp → VK → Prop := fun xs H Q => ∃ i, xs = [.int i] ∧ Q (.int i) H
def rIntB : List V → Hp → VK → Prop := fun xs H Q => ∃ b, xs = [.bl b] ∧ Q (.int (if b then 1 else 0)) H
theorem call_absR : CallR X (.builtin "abs") rAbs := call_abs
theorem call_maxR (hc : X.calm = true) : CallR X (.builtin "max") rMax2 := call_max2 hc
theorem call_minR (hc : X.calm = true) : CallR X (.builtin "min") rMin2 := call_min2 hc
theorem call_intI : CallR X (.type "int") rIntI := by
  intro pins s σ H xs us Q I r h
  obtain ⟨i, e, q⟩ := h
  exact call_int1 pins s σ H xs us Q I r (.inl ⟨i, e, q⟩)
theorem call_intB : CallR X (.type "int") rIntB := by
  intro pins s σ H xs us Q I r h
  obtain ⟨i, e, q⟩ := h
  exact call_int1 pins s σ H xs us Q I r (.inr ⟨i, e, q⟩)
theorem call_lenR : CallR X (.builtin "len") (rLenS X.K) := call_len_seq
theorem call_listR : CallR X (.type "list") (rListS X.K) := call_list_of
def rTupS (K : PySem.W.Frag) : List V → Hp → VK → Prop := fun xs H Q => ∃ p ys, xs = [.ref p] ∧ SqL K H p ys ∧ ∀ l, H l = none → Q (.ref l) (upd H l (.tup ys))
theorem call_tupR : CallR X (.type "tuple") (rTupS X.K) := by
  intro pins s σ H xs us Q I r h
  obtain ⟨p, ys, e, hs, q⟩ := h
  exact call_tuple_of pins s σ H xs us Q I r ⟨p, ys, e, .inl ⟨hs, q⟩⟩
def rIsN1 : R2 := fun x y H Q => y = .non ∧ Q (.bl (decide (x = .non))) H
def rNotN1 : R2 := fun x y H Q => y = .non ∧ Q (.bl (!decide (x = .non))) H
theorem op_isNR : OpR X (compareOp .Is) rIsN1 := op_isN
theorem op_notNR : OpR X (compareOp .IsNot) rNotN1 := op_notN
end
/-! evaluations of these -/
section
variable {K : PySem.W.Frag} {σ : L2.St} {H H' : Hp} {ta tb tc td te : TE} {x y z v : V} {r : R2} {i j : Int}
theorem ev_abs (h : Ev ta σ H (.int i)) : Ev (tCB rAbs (tCons ta tNil)) σ H (.int (if i < 0 then -i else i)) := fun H1 e Q q => h H1 e _ fun H2 e2 => ⟨i, rfl, q H2 e2⟩
theorem ev_min2 (ha : Ev ta σ H (.int i)) (hb : Ev tb σ H (.int j)) : Ev (tCB rMin2 (tCons ta (tCons tb tNil))) σ H (.int (if j < i then j else i)) := fun H1 e Q q =>
  ha H1 e _ fun H2 e2 => hb H2 (e.trans e2) _ fun H3 e3 => ⟨i, j, rfl, q H3 (e2.trans e3)⟩
theorem ev_intI (h : Ev ta σ H (.int i)) : Ev (tCB rIntI (tCons ta tNil)) σ H (.int i) := fun H1 e Q q => h H1 e _ fun H2 e2 => ⟨i, rfl, q H2 e2⟩
theorem ev_intB {b : Bool} (h : Ev ta σ H (.bl b)) : Ev (tCB rIntB (tCons ta tNil)) σ H (.int (if b then 1 else 0)) := fun H1 e Q q => h H1 e _ fun H2 e2 => ⟨b, rfl, q H2 e2⟩
theorem rv_isN : RV rIsN1 x .non H (.bl (decide (x = .non))) := fun H1 _ _ q => ⟨rfl, q H1 (Ex.refl H1)⟩
theorem rv_notN : RV rNotN1 x .non H (.bl (!decide (x = .non))) := fun H1 _ _ q => ⟨rfl, q H1 (Ex.refl H1)⟩
theorem ev_chain {r r' : R2} {k : Bool} {k' : Bool} (ha : Ev ta σ H x) (hb : Ev tb σ H y) (hr : RV r x y H (.bl k)) (hc : k = true → ∃ z, Ev tc σ H z ∧ RV r' y z H (.bl k')) : Ev (tChain r r' ta tb tc) σ H (.bl (k && k')) := fun H1 e Q q =>
  ha H1 e _ fun H2 e2 => hb H2 (e.trans e2) _ fun H3 e3 => hr H3 ((e.trans e2).trans e3) _ fun H4 e4 => ⟨k, rfl, by
    cases k with
    | true =>
      obtain ⟨z, h1, h2⟩ := hc rfl
      exact h1 H4 (((e.trans e2).trans e3).trans e4) _ fun H5 e5 => h2 H5 ((((e.trans e2).trans e3).trans e4).trans e5) _ fun H6 e6 => q H6 ((((e2.trans e3).trans e4).trans e5).trans e6)
    | false => exact q H4 ((e2.trans e3).trans e4)⟩
theorem ev_chainI {C C' : Int → Int → Bool} {i j l : Int} (ha : Ev ta σ H (.int i)) (hb : Ev tb σ H (.int j)) (hc : Ev tc σ H (.int l)) :
    Ev (tChain (rI0 fun i j => .bl (C i j)) (rI0 fun i j => .bl (C' i j)) ta tb tc) σ H (.bl (C i j && C' j l)) := ev_chain ha hb rv_I0 fun _ => ⟨_, hc, rv_I0⟩
theorem ev_chain3I {C C' C'' : Int → Int → Bool} {i j l m : Int} (ha : Ev ta σ H (.int i)) (hb : Ev tb σ H (.int j)) (hc : Ev tc σ H (.int l)) (hd : Ev td σ H (.int m)) :
    Ev (tChain3 (rI0 fun i j => .bl (C i j)) (rI0 fun i j => .bl (C' i j)) (rI0 fun i j => .bl (C'' i j)) ta tb tc td) σ H (.bl (C i j && (C' j l && C'' l m))) := fun H1 e Q q =>
  ha H1 e _ fun H2 e2 => hb H2 (e.trans e2) _ fun H3 e3 => ⟨i, j, rfl, rfl, C i j, rfl, by
    have e23 := e2.trans e3
    generalize C i j = k1 at q ⊢
    cases k1 with
    | false => exact q H3 e23
    | true =>
      refine hc H3 (e.trans e23) _ fun H4 e4 => ⟨j, l, rfl, rfl, C' j l, rfl, ?_⟩
      generalize C' j l = k2 at q ⊢
      cases k2 with
      | false => exact q H4 (e23.trans e4)
      | true => exact hd H4 ((e.trans e23).trans e4) _ fun H5 e5 => ⟨l, m, rfl, rfl, q H5 ((e23.trans e4).trans e5)⟩⟩
theorem rv_eqTy {m n : String} (hm : Meta m) (hn : Meta n) : RV rEqTy (.ty m) (.ty n) H (.bl (decide (m = n))) := fun H1 _ _ q => ⟨m, n, rfl, rfl, hm, hn, q H1 (Ex.refl H1)⟩
theorem ev_typeI (h : Ev ta σ H (.int i)) : Ev (tThenZ ta kTyp) σ H (.ty "int") := fun H1 e Q q => h H1 e _ fun H2 e2 => ⟨"int", rfl, q H2 e2⟩
/-- a tuple that was made is read as two names -/
theorem s_tup2 {D : Ends} {i j : Nat} {p : Addr} (ha : Ev ta σ H (.ref p)) (hp : SqT K H p [x, y]) (k : ∀ H1, Ex H H1 → D.nx ((σ.set i (some x)).set j (some y)) H1) : tAsg ta (gTup K 2 (gCons (gName i) (gCons (gName j) gNil))) D σ H :=
  ha H (Ex.refl H) _ fun H1 e => ⟨p, [x, y], rfl, ex_t e hp, rfl, x, [y], rfl, y, [], rfl, rfl, k H1 e⟩
end
/-- a new tuple that is handed back -/
def RetU (xs : List V) (H : Hp) (Q : VK) : Prop := ∀ p H2, H p = none → Ex H H2 → H2 p = some (.tup xs) → Q (.ref p) H2
def SpU (sp : Sp) (vs : List V) (H : Hp) (xs : List V) : Prop := ∀ H1, Ex H H1 → ∀ Q : VK, (∀ p H2, H1 p = none → Ex H1 H2 → H2 p = some (.tup xs) → Q (.ref p) H2) → ∀ E : XK, sp vs H1 Q E
section
variable {K : PySem.W.Frag} {σ : L2.St} {H : Hp}
theorem eu_call {sp : Sp} {dvs vs xs : List V} {E : XK} {ta : TA} (h : EvA ta σ H vs) (hs : SpU sp (vs ++ dvs) H xs) : EvU (tCall sp dvs E ta) σ H xs := fun H1 e Q q =>
  h H1 e _ fun H2 e2 => hs H2 (e.trans e2) Q (fun p H3 hp e3 h3 => q p H3 (fresh_back e2 hp) (e2.trans e3) h3) E
/-- a, b = f(..), f's answer a new tuple -/
theorem s_tup2U {te : TE} {D : Ends} {i j : Nat} {x y : V} (ha : EvU te σ H [x, y]) (k : ∀ H1, Ex H H1 → D.nx ((σ.set i (some x)).set j (some y)) H1) : tAsg te (gTup K 2 (gCons (gName i) (gCons (gName j) gNil))) D σ H :=
  ha H (Ex.refl H) _ fun p H1 _ e h1 => ⟨p, [x, y], rfl, st_of h1, rfl, x, [y], rfl, y, [], rfl, rfl, k H1 e⟩
theorem q_tup2U {te : TE} {tz : TS} {D : Ends} {i j : Nat} {x y : V} (ha : EvU te σ H [x, y]) (k : ∀ H1, Ex H H1 → tz D ((σ.set i (some x)).set j (some y)) H1) : tSeq (tAsg te (gTup K 2 (gCons (gName i) (gCons (gName j) gNil)))) tz D σ H := s_tup2U (D := { D with nx := tz D }) ha k
theorem q_tup2 {ta : TE} {tz : TS} {D : Ends} {i j : Nat} {p : Addr} {x y : V} (ha : Ev ta σ H (.ref p)) (hp : SqT K H p [x, y]) (k : ∀ H1, Ex H H1 → tz D ((σ.set i (some x)).set j (some y)) H1) : tSeq (tAsg ta (gTup K 2 (gCons (gName i) (gCons (gName j) gNil)))) tz D σ H := s_tup2 (D := { D with nx := tz D }) ha hp k
/-- a, b = x, y -/
theorem s_par {ta : TA} {D : Ends} {i j : Nat} {x y : V} (ha : EvA ta σ H [x, y]) (k : ∀ H1, Ex H H1 → D.nx ((σ.set i (some x)).set j (some y)) H1) : tPar i j ta D σ H := ha H (Ex.refl H) _ fun H1 e => ⟨x, y, rfl, k H1 e⟩
theorem q_par {ta : TA} {tz : TS} {D : Ends} {i j : Nat} {x y : V} (ha : EvA ta σ H [x, y]) (k : ∀ H1, Ex H H1 → tz D ((σ.set i (some x)).set j (some y)) H1) : tSeq (tPar i j ta) tz D σ H := s_par (D := { D with nx := tz D }) ha k
end
theorem natAbs_pow_le {b : Int} {k : Nat} (h : b.natAbs < 2 ^ k) (n : Nat) : (b ^ n).natAbs ≤ 2 ^ (k * n) := by
  rw [Int.natAbs_pow, Nat.pow_mul]
  exact Nat.pow_le_pow_left (Nat.le_of_lt h) n
theorem lt_of_le2 {x k : Nat} (h : x ≤ 2 ^ k) : x < 2 ^ (k + 1) := Nat.lt_of_le_of_lt h (Nat.pow_lt_pow_right (by decide) (Nat.lt_succ_self k))
theorem lt2_mono {x k m : Nat} (h : x < 2 ^ k) (e : k ≤ m) : x < 2 ^ m := Nat.lt_of_lt_of_le h (Nat.pow_le_pow_right (by decide) e)
theorem natAbs_mul_lt {a b : Int} {k m : Nat} (ha : a.natAbs < 2 ^ k) (hb : b.natAbs < 2 ^ m) : (a * b).natAbs < 2 ^ (k + m) := wide_lt ha hb
/-! comprehensions -/
section
variable {K : PySem.W.Frag} {σ : L2.St} {H : Hp} {te tl : TE} {t : TT}
theorem et_yes : EvT tYes σ H true := fun H1 _ _ q => q H1 (Ex.refl H1)
theorem given_map {xs : List V} {F : V → V} : given xs.length (fun _ => true) (fun i => F (xs.getD i .non)) = xs.map F := by
  unfold given
  rw [List.filter_eq_self.mpr (fun _ _ => rfl)]
  refine List.ext_getElem (by simp) fun i h1 h2 => ?_
  simp at h1
  simp [h1]
/-- [e for x in xs] -/
theorem el_map {a : Addr} {xs : List V} {j : Nat} {vs : List Nat} (F : V → V) (h : Ev tl σ H (.ref a)) (hx : SqL K H a xs) (hz : xs.length ≤ 40000) (hw : ∀ x, wipe ((wipe σ vs).set j (some x)) vs = wipe σ vs)
    (he : ∀ (i : Nat) (x : V) H1, Ex H H1 → xs[i]? = some x → Ev te ((wipe σ vs).set j (some x)) H1 (F x)) : EvL (tLc (iList K tl) (gName j) tYes te vs) σ H (xs.map F) := by
  rw [← given_map]
  refine el_lcL _ _ h hx hz hw (fun _ _ _ _ _ => et_yes) fun i x H1 e hi _ => ?_
  have q := he i x H1 e hi
  have g : xs.getD i .non = x := by rw [List.getD_eq_getElem?_getD, hi] <;> rfl
  show Ev _ _ _ (F (xs.getD i .non))
  rw [g]
  exact q
theorem el_mapN {xs : List V} {j : Nat} {vs : List Nat} (F : V → V) (h : EvL tl σ H xs) (hz : xs.length ≤ 40000) (hw : ∀ x, wipe ((wipe σ vs).set j (some x)) vs = wipe σ vs)
    (he : ∀ (i : Nat) (x : V) H1, Ex H H1 → xs[i]? = some x → Ev te ((wipe σ vs).set j (some x)) H1 (F x)) : EvL (tLc (iList K tl) (gName j) tYes te vs) σ H (xs.map F) := by
  rw [← given_map]
  refine el_lcNL _ _ h hz hw (fun _ _ _ _ _ => et_yes) fun i x H1 e hi _ => ?_
  have q := he i x H1 e hi
  have g : xs.getD i .non = x := by rw [List.getD_eq_getElem?_getD, hi] <;> rfl
  show Ev _ _ _ (F (xs.getD i .non))
  rw [g]
  exact q
/-- [e for x in range(lo, hi) if t] -/
theorem el_lcR2 {ta : TA} {j : Nat} {vs : List Nat} {lo n : Int} (f : Nat → Bool) (v : Nat → V) (h : EvA ta σ H [.int lo, .int n]) (hn : 0 ≤ lo ∧ lo ≤ 40000 ∧ -40000 ≤ n ∧ n ≤ 40000) (hw : ∀ x, wipe ((wipe σ vs).set j (some x)) vs = wipe σ vs)
    (ht : ∀ (i : Nat) H1, Ex H H1 → lo + (i : Int) < n → EvT t ((wipe σ vs).set j (some (.int (lo + (i : Int))))) H1 (f i)) (he : ∀ (i : Nat) H1, Ex H H1 → lo + (i : Int) < n → f i = true → Ev te ((wipe σ vs).set j (some (.int (lo + (i : Int))))) H1 (v i)) :
    EvL (tLc (iRng2 ta) (gName j) t te vs) σ H (given (n - lo).toNat f v) := fun H0 e Q q => h H0 e _ fun H1 e1 => ⟨lo, n, rfl, ⟨by omega, by omega, by omega, by omega⟩, fun Dl hD =>
  lc_range (lo := lo) (n := (n - lo).toNat) (Cw H1 f v Dl) ⟨hD, Ex.new hD, upd_same⟩ (fun i H' hi p =>
    ⟨hw _, cw_turn p (by omega) (ht i H1 (e.trans e1) (by omega)) (fun hf => he i H1 (e.trans e1) (by omega) hf)⟩) (fun H' p => q Dl H' (fresh_back e1 p.1) (e1.trans p.2.1) p.2.2)⟩
theorem given_none {n : Nat} {f : Nat → Bool} {v : Nat → V} (h : ∀ i, i < n → f i = false) : given n f v = [] := by
  unfold given
  rw [List.filter_eq_nil_iff.mpr (fun i hi => by simp [h i (List.mem_range.mp hi)])]
  rfl
/-- xs + ys, both new -/
theorem el_cat {ta tb : TE} {xs ys : List V} (ha : EvL ta σ H xs) (hb : EvL tb σ H ys) (hl : xs.length + ys.length ≤ 100000) : EvL (tOp rCat ta tb) σ H (xs ++ ys) := fun H1 e Q q =>
  ha H1 e _ fun p H2 hp e2 h2 => hb H2 (e.trans e2) _ fun p' H3 hp' e3 h3 =>
    ⟨p, p', xs, ys, rfl, rfl, e3 p _ h2, h3, sz_of hl, fun l hl' => q l _ (fresh_back (e2.trans e3) hl') ((e2.trans e3).trans (Ex.new hl')) upd_same⟩
/-- [e for x, y in zip(xs, ys)] -/
theorem el_zip {ta : TA} {i j : Nat} {vs : List Nat} {a b : Addr} {xs ys : List V} (F : V → V → V) (h : EvA ta σ H [.ref a, .ref b]) (hx : SqL K H a xs) (hy : SqL K H b ys) (hl : xs.length = ys.length) (hz : xs.length ≤ 40000)
    (hw : ∀ x y, wipe (((wipe σ vs).set i (some x)).set j (some y)) vs = wipe σ vs)
    (he : ∀ (n : Nat) x y H1, Ex H H1 → xs[n]? = some x → ys[n]? = some y → Ev te (((wipe σ vs).set i (some x)).set j (some y)) H1 (F x y)) :
    EvL (tLc (iZip K ta) (gTup K 2 (gCons (gName i) (gCons (gName j) gNil))) tYes te vs) σ H (List.zipWith F xs ys) := fun H0 e Q q => h H0 e _ fun H1 e1 => ⟨a, b, xs, ys, rfl, ex_l (e.trans e1) hx, ex_l (e.trans e1) hy, fun Dl hD => by
  refine lc_it (walk_zip (n := xs.length) (by omega)) (fun n H' => Ex H1 H' ∧ H' Dl = some (.lst ((List.zipWith F xs ys).take n))) ⟨Ex.new hD, upd_same⟩ (fun n H' _ p => ⟨ex_l ((e.trans e1).trans p.1) hx, ex_l ((e.trans e1).trans p.1) hy⟩) ?_ fun H' p => ?_
  · rintro n v Hh H' hn ⟨p1, p2⟩ ⟨T, x, y, rfl, nT, rfl, g1, g2⟩
    have eT : Ex Hh (upd Hh T (.tup [x, y])) := Ex.new nT
    refine ⟨T, [x, y], rfl, st_of upd_same, rfl, x, [y], rfl, y, [], rfl, rfl, hw x y, ?_⟩
    show te _ _ _
    refine he n x y H1 (e.trans e1) g1 g2 _ (p1.trans eT) _ fun H4 e4 => ?_
    have k2 := e4 Dl _ (eT Dl _ p2)
    refine ⟨_, k2, sz_lt (by rw [List.length_take]; omega), Ex.mut (p1.trans (eT.trans e4)) hD, ?_⟩
    rw [upd_same]
    have gz : (List.zipWith F xs ys)[n]? = some (F x y) := by
      rw [List.getElem?_zipWith, show xs[n]? = some x from g1, show ys[n]? = some y from g2]
    rw [List.take_add_one, gz]
    rfl
  · obtain ⟨p1, p2⟩ := p
    rw [List.take_of_length_le (by rw [List.length_zipWith]; omega)] at p2
    exact q Dl H' (fresh_back e1 hD) (e1.trans p1) p2⟩
theorem ev_gcd {ta tb : TE} {a b : Int} (ha : Ev ta σ H (.int a)) (hb : Ev tb σ H (.int b)) : Ev (tCB rGcd (tCons ta (tCons tb tNil))) σ H (.int ((Nat.gcd a.natAbs b.natAbs : Nat) : Int)) := fun H1 e Q q =>
  ha H1 e _ fun H2 e2 => hb H2 (e.trans e2) _ fun H3 e3 => ⟨a, b, rfl, q H3 (e2.trans e3)⟩
end
/-! data, compared by == -/
section
variable {K : PySem.W.Frag} {σ : L2.St} {H H' : Hp}
mutual
theorem Dp.ex (e : Ex H H') : ∀ (d : PyData) (v : V), Dp K H v d → Dp K H' v d
  | .none, _, h => by cases h; exact .non
  | .bool _, _, h => by cases h; exact .bl _
  | .int _, _, h => by cases h; exact .int _
  | .str _, _, h => by cases h; exact .str _
  | .list ds, _, h => by
    cases h with
    | lst hs ha => exact .lst (ex_l e hs) (DpAll.ex e ds _ ha)
  | .tuple ds, _, h => by
    cases h with
    | tup hs ha => exact .tup (ex_t e hs) (DpAll.ex e ds _ ha)
  | .dict _, _, h => by cases h
theorem DpAll.ex (e : Ex H H') : ∀ (ds : List PyData) (vs : List V), DpAll K H vs ds → DpAll K H' vs ds
  | [], _, h => by cases h; exact .nil
  | d :: ds, _, h => by
    cases h with
    | cons h1 h2 => exact .cons (Dp.ex e d _ h1) (DpAll.ex e ds _ h2)
end
theorem DpAll.len : ∀ {ds : List PyData} {vs : List V}, DpAll K H vs ds → vs.length = ds.length
  | [], _, h => by cases h; rfl
  | d :: ds, _, h => by
    cases h with
    | cons h1 h2 => simp [DpAll.len h2]
def EvD (K : PySem.W.Frag) (te : TE) (σ : L2.St) (H : Hp) (d : PyData) : Prop := ∀ H1, Ex H H1 → ∀ Q : VK, (∀ v H2, Ex H1 H2 → Dp K H2 v d → Q v H2) → te σ H1 Q
def EvDA (K : PySem.W.Frag) (ta : TA) (σ : L2.St) (H : Hp) (ds : List PyData) : Prop := ∀ H1, Ex H H1 → ∀ Q : List V → Hp → Prop, (∀ vs H2, Ex H1 H2 → DpAll K H2 vs ds → Q vs H2) → ta σ H1 Q
variable {te ta tb : TE} {d e : PyData} {ds : List PyData}
theorem ed_of {v : V} (h : Ev te σ H v) (k : Dp K H v d) : EvD K te σ H d := fun H1 e1 Q q => h H1 e1 Q fun H2 e2 => q v H2 e2 (Dp.ex (e1.trans e2) d v k)
theorem ed_int {i : Int} (h : Ev te σ H (.int i)) : EvD K te σ H (.int i) := ed_of h (.int i)
theorem ed_bl {i : Bool} (h : Ev te σ H (.bl i)) : EvD K te σ H (.bool i) := ed_of h (.bl i)
theorem ed_non (h : Ev te σ H .non) : EvD K te σ H .none := ed_of h .non
theorem ed_str {i : Str} (h : Ev te σ H (.str i)) : EvD K te σ H (.str i) := ed_of h (.str i)
theorem eda_nil : EvDA K tNil σ H [] := fun H1 _ _ q => q [] H1 (Ex.refl H1) .nil
theorem eda_cons {tr : TA} (h : EvD K te σ H d) (hr : EvDA K tr σ H ds) : EvDA K (tCons te tr) σ H (d :: ds) := fun H1 e _ q =>
  h H1 e _ fun v H2 e2 dv => hr H2 (e.trans e2) _ fun vs H3 e3 dvs => q (v :: vs) H3 (e2.trans e3) (.cons (Dp.ex e3 d v dv) dvs)
theorem ed_lst {t : TA} (h : EvDA K t σ H ds) (hl : ds.length ≤ 100000) : EvD K (tLst t) σ H (.list ds) := fun H1 e _ q =>
  h H1 e _ fun vs H2 e2 dv => ⟨sz_of (by rw [DpAll.len dv]; exact hl), fun p hp => q _ _ (e2.trans (Ex.new hp)) (.lst (sq_of upd_same) (DpAll.ex (Ex.new hp) ds vs dv))⟩
theorem ed_tup {t : TA} (h : EvDA K t σ H ds) (hl : ds.length ≤ 100000) : EvD K (tTup t) σ H (.tuple ds) := fun H1 e _ q =>
  h H1 e _ fun vs H2 e2 dv => ⟨sz_of (by rw [DpAll.len dv]; exact hl), fun p hp => q _ _ (e2.trans (Ex.new hp)) (.tup (st_of upd_same) (DpAll.ex (Ex.new hp) ds vs dv))⟩
theorem ed_ofL {xs : List V} (h : EvL te σ H xs) (k : DpAll K H xs ds) : EvD K te σ H (.list ds) := fun H1 e1 Q q => h H1 e1 Q fun p H2 _ e2 h2 => q _ H2 e2 (.lst (sq_of h2) (DpAll.ex (e1.trans e2) ds xs k))
theorem ed_ofU {xs : List V} (h : EvU te σ H xs) (k : DpAll K H xs ds) : EvD K te σ H (.tuple ds) := fun H1 e1 Q q => h H1 e1 Q fun p H2 _ e2 h2 => q _ H2 e2 (.tup (st_of h2) (DpAll.ex (e1.trans e2) ds xs k))
theorem dpa_ints : ∀ ns : List Int, DpAll K H (ns.map V.int) (ns.map PyData.int)
  | [] => .nil
  | n :: r => .cons (.int n) (dpa_ints r)
theorem ev_eqD (ha : EvD K ta σ H d) (hb : EvD K tb σ H e) (sd : SeqAt.shaped d = true) (se : SeqAt.shaped e = true) : Ev (tOp (rEqD K) ta tb) σ H (.bl (PyData.eqv d e)) := fun H1 e1 Q q =>
  ha H1 e1 _ fun v H2 e2 dv => hb H2 (e1.trans e2) _ fun u H3 e3 du => ⟨d, e, Dp.ex e3 d v dv, du, sd, se, q H3 (e2.trans e3)⟩
theorem ev_neD (ha : EvD K ta σ H d) (hb : EvD K tb σ H e) (sd : SeqAt.shaped d = true) (se : SeqAt.shaped e = true) : Ev (tOp (rNeD K) ta tb) σ H (.bl (!PyData.eqv d e)) := fun H1 e1 Q q =>
  ha H1 e1 _ fun v H2 e2 dv => hb H2 (e1.trans e2) _ fun u H3 e3 du => ⟨d, e, Dp.ex e3 d v dv, du, sd, se, q H3 (e2.trans e3)⟩
theorem shaped_ints : ∀ ns : List Int, SeqAt.shaped (.list (ns.map PyData.int)) = true := fun ns => by
  have h1 : ∀ ms : List Int, PyData.canLayAll0 (ms.map PyData.int) = true := fun ms => by
    induction ms with
    | nil => rfl
    | cons m r ih => simp [PyData.canLayAll0, PyData.canLay0, ih]
  have h2 : ∀ ms : List Int, PyData.depthAll (ms.map PyData.int) = 0 := fun ms => by
    induction ms with
    | nil => rfl
    | cons m r ih => simp [PyData.depthAll, PyData.depth, ih]
  simp [SeqAt.shaped, PyData.canLay0, h1, PyData.depth, h2]
theorem eqv_same {d : PyData} (h : SeqAt.shaped d = true) : PyData.eqv d d = true := by
  have h1 : PyData.canLay0 d = true := (Bool.and_eq_true_iff.mp h).1
  first
    | exact PySem.P3.eqv_refl d h1
    | exact PyData.eqv_refl d h1
    | exact PySem.SeqAt.eqv_refl d h1
/-- f(k = v): a new tuple back -/
theorem eu_callK {sp : Sp} {gV : List V → List V → List V} {E : XK} {t tk : TA} {vs zs xs : List V} (h : EvA t σ H vs) (hk : EvA tk σ H zs) (hs : SpU sp (gV vs zs) H xs) : EvU (tCallK sp gV E t tk) σ H xs := fun H1 e Q q =>
  h H1 e _ fun H2 e2 => hk H2 (e.trans e2) _ fun H3 e3 => hs H3 ((e.trans e2).trans e3) Q (fun p H4 hp e4 h4 => q p H4 (fresh_back (e2.trans e3) hp) ((e2.trans e3).trans e4) h4) E
theorem ev_callK {sp : Sp} {gV : List V → List V → List V} {E : XK} {t tk : TA} {vs zs : List V} {z : V} (h : EvA t σ H vs) (hk : EvA tk σ H zs) (hs : SpV sp (gV vs zs) H z) : Ev (tCallK sp gV E t tk) σ H z := fun H1 e Q q =>
  h H1 e _ fun H2 e2 => hk H2 (e.trans e2) _ fun H3 e3 => hs H3 ((e.trans e2).trans e3) Q (fun H4 e4 => q H4 ((e2.trans e3).trans e4)) E
/-- isinstance(x, tuple) of a tuple; len of a tuple -/
theorem ev_isT {p : Addr} {xs : List V} {n : String} {b : Bool} (h : Ev ta σ H (.ref p)) (hp : H p = some (.tup xs)) (hk : PySem.W.kitOne K (.type "tuple") (.type n) = some b) : Ev (tCB (rIsi K) (tCons ta (tCons (tC (.ty n)) tNil))) σ H (.bl b) := fun H1 e Q q =>
  h H1 e _ fun H2 e2 => ⟨.ref p, .ty n, .type "tuple", .type n, b, rfl, .ty n, .base (.tup (e2 p _ (e p _ hp))), hk, q H2 e2⟩
theorem ev_lenT {p : Addr} {xs : List V} (ha : Ev ta σ H (.ref p)) (h : SqT K H p xs) : Ev (tCB (rLenS K) (tCons ta tNil)) σ H (.int (xs.length : Int)) := fun H1 e Q q =>
  ha H1 e _ fun H2 e2 => ⟨p, xs, rfl, Or.inr (ex_t (e.trans e2) h), q H2 e2⟩
/-- list(range(a, b)) -/
theorem el_rg2 {a b : Int} (ha : Ev ta σ H (.int a)) (hb : Ev tb σ H (.int b)) (h : RgOk a b) : EvL (tLstRg (tRg2 ta tb)) σ H (rgV a b) := fun H1 e Q q =>
  ha H1 e _ fun H2 e2 => hb H2 (e.trans e2) _ fun H3 e3 => ⟨a, b, rfl, rfl, h, fun p hp => q p _ (fresh_back (e2.trans e3) hp) ((e2.trans e3).trans (Ex.new hp)) upd_same⟩
theorem el_rg1 {b : Int} (hb : Ev tb σ H (.int b)) (h : RgOk 0 b) : EvL (tLstRg (tRg1 tb)) σ H (rgV 0 b) := fun H1 e Q q =>
  hb H1 e _ fun H3 e3 => ⟨b, rfl, h, fun p hp => q p _ (fresh_back e3 hp) (e3.trans (Ex.new hp)) upd_same⟩
end
/-! more statements -/
section
variable {K : PySem.W.Frag} {σ : L2.St} {H H' : Hp} {te tl : TE} {t : TT} {D : Ends} {tu tz : TS} {g : TG}
/-- a comprehension over range(lo, n) that keeps nothing -/
theorem el_noneR2 {ta : TA} {j : Nat} {vs : List Nat} {lo n : Int} (h : EvA ta σ H [.int lo, .int n]) (hn : 0 ≤ lo ∧ lo ≤ 40000 ∧ -40000 ≤ n ∧ n ≤ 40000) (hw : ∀ x, wipe ((wipe σ vs).set j (some x)) vs = wipe σ vs)
    (ht : ∀ (i : Nat) H1, Ex H H1 → lo + (i : Int) < n → EvT t ((wipe σ vs).set j (some (.int (lo + (i : Int))))) H1 false) : EvL (tLc (iRng2 ta) (gName j) t te vs) σ H [] := by
  have q := el_lcR2 (te := te) (fun _ => false) (fun _ => .non) h hn hw ht (fun _ _ _ _ hf => Bool.noConfusion hf)
  rw [given_none (fun _ _ => rfl)] at q
  exact q
/-- a for over a new tuple -/
theorem s_forNU {xs : List V} (h : EvU tl σ H xs) (Pv : Addr → Nat → L2.St → Hp → Prop) (h0 : ∀ p H1, H p = none → Ex H H1 → H1 p = some (.tup xs) → Pv p 0 σ H1) (hl : ∀ p i σ' H', i ≤ xs.length → Pv p i σ' H' → SqT K H' p xs)
    (hs : ∀ p i x σ' H', xs[i]? = some x → Pv p i σ' H' → g x σ' H' fun σ2 H2 => tu { D with nx := Pv p (i + 1), ct := Pv p (i + 1), bk := D.nx } σ2 H2) (hd : ∀ p σ' H', Pv p xs.length σ' H' → D.nx σ' H') : tFor (iTup K tl) g tu D σ H :=
  h H (Ex.refl H) _ fun p H1 hp e h1 => ⟨p, rfl, ⟨xs, st_of h1⟩, for_tup (Pv p) (h0 p H1 hp e h1) (hl p) (hs p) (hd p)⟩
theorem q_forNU {xs : List V} (h : EvU tl σ H xs) (Pv : Addr → Nat → L2.St → Hp → Prop) (h0 : ∀ p H1, H p = none → Ex H H1 → H1 p = some (.tup xs) → Pv p 0 σ H1) (hl : ∀ p i σ' H', i ≤ xs.length → Pv p i σ' H' → SqT K H' p xs)
    (hs : ∀ p i x σ' H', xs[i]? = some x → Pv p i σ' H' → g x σ' H' fun σ2 H2 => tu { D with nx := Pv p (i + 1), ct := Pv p (i + 1), bk := tz D } σ2 H2) (hd : ∀ p σ' H', Pv p xs.length σ' H' → tz D σ' H') : tSeq (tFor (iTup K tl) g tu) tz D σ H :=
  s_forNU (D := { D with nx := tz D }) h Pv h0 hl hs hd
theorem s_asgD {i : Nat} {d : PyData} (h : EvD K te σ H d) (k : ∀ v H1, Ex H H1 → Dp K H1 v d → D.nx (σ.set i (some v)) H1) : tAsg te (gName i) D σ H := h H (Ex.refl H) _ fun v H1 e dv => k v H1 e dv
theorem q_asgD {i : Nat} {d : PyData} (h : EvD K te σ H d) (k : ∀ v H1, Ex H H1 → Dp K H1 v d → tz D (σ.set i (some v)) H1) : tSeq (tAsg te (gName i)) tz D σ H := s_asgD (D := { D with nx := tz D }) h k
end
end Kit

set_option Elab.async false
set_option linter.all false
set_option maxRecDepth 100000
set_option maxHeartbeats 4000000
namespace Kit
open PySem PySem.Spec PyProof.Rows L2 Evl
theorem slot_type_ne : Slot "type" (cmpInfo .NotEq).2.1 "object.__ne__" :=
  .of (owner := "object") (n := "__ne__") (by rw [typeLookup_type, builtinLookup_eq_fast]; kernel_rfl) (by decide +kernel) (by decide +kernel) (by decide +kernel)
    (by first | exact .inl (by decide +kernel) | exact .inr (by decide +kernel)) (by rw [isSubtype_type]; kernel_rfl)
theorem slot_type_eqN : Slot "type" "__eq__" "object.__eq__" :=
  .of (owner := "object") (n := "__eq__") (by rw [typeLookup_type, builtinLookup_eq_fast]; kernel_rfl) (by decide +kernel) (by decide +kernel) (by decide +kernel)
    (by first | exact .inl (by decide +kernel) | exact .inr (by decide +kernel)) (by rw [isSubtype_type]; kernel_rfl)
section
variable {prog : Program} {w : World} {A : Around} {E : Value → Shared → Prop} {s : Shared} {Q : Value → Shared → Prop}
theorem ne_type_same {X : String} (hX : ∀ s' : Shared, s'.TypeIs (.type X) "type") (hu : A.units + 1 < cLine) (h : Q (.bool false) s) : wpAny (model prog w) A (compareOp .NotEq (.type X) (.type X)) Q E s := by
  show wpAny _ A (richCompare .NotEq _ _) Q E s
  refine wpAny_richCompare_same (T := "type") (hX s) (hX s) slot_type_ne ?_
  refine wpAny_call_entry slot_type_ne (hX s) PySem.F.cmpEntry_ne ?_ (PySem.F.cmpArgs_ne _ _)
  unfold Builtin.«object.__ne__»
  have key : wpAny (model prog w) A.in1 (call (.builtin "object.__eq__") [.type X, .type X]) (fun v s' => v = .bool true ∧ s' = s) E s :=
    call_gives slot_type_eqN (hX s) F.entry_object_eq (F.args_object_eq_2 _ _) (PySem.TypeEq.object_eq_same rfl (by simp)) ⟨rfl, rfl⟩
  repeat (first
    | with_reducible refine wpAny_cRoomFor (by show A.units + 1 < cLine; exact hu) ?_
    | (refine wpAny_bind (m := callSpecialIfBound? (.type X) (Str.ofString "__eq__") [.type X])
        (wpAny_callSpecialIfBound?_slot (hX _) slot_type_eqN (wpAny_mono key (fun r s' hr => by
          obtain ⟨rfl, rfl⟩ := hr
          have hq : Q (.bool false) s' := h
          repeat (first | exact ⟨_, rfl, (by intro e; cases e), hq⟩ | exact wpAny_pure ⟨_, rfl, (by intro e; cases e), hq⟩ | (refine wpAny_bind (m := truthy (.bool _)) (wpAny_truthy_bool ?_)) | wp_step)) fun _ _ e => e)))
    | wp_step)
end
end Kit

set_option Elab.async false
set_option linter.all false
set_option maxRecDepth 100000
set_option maxHeartbeats 4000000
namespace Kit
open PySem PySem.Spec PyProof.Rows L2 Evl
section
variable {X : Cx}
def rNeTyS : R2 := fun x y H Q => ∃ m, x = .ty m ∧ y = .ty m ∧ Meta m ∧ Q (.bl false) H
theorem op_neTyS (hu : X.A.units + 1 < cLine) : OpR X (compareOp .NotEq) rNeTyS := by
  intro pins s σ H x y v u Q I rx ry h
  obtain ⟨m, rfl, rfl, hm, q⟩ := h
  cases (show v = Value.type m from rx)
  cases (show u = Value.type m from ry)
  exact ne_type_same hm hu ⟨.bl false, H, I, rfl, q⟩
/-- min of a tuple of ints -/
def rMinT (K : PySem.W.Frag) : List V → Hp → VK → Prop := fun vs H Q => ∃ (a : Addr) (n : Int) (ns : List Int), vs = [V.ref a] ∧ SqT K H a ((n :: ns).map V.int) ∧ Q (.int (ns.foldl min n)) H
theorem alike_ints (ns : List Int) : PySem.W.AlikeAll (ns.map PyData.int) := by
  refine ⟨fun x hx y hy => ?_, fun x hx => ?_⟩
  · obtain ⟨a, _, rfl⟩ := List.mem_map.mp hx
    obtain ⟨b, _, rfl⟩ := List.mem_map.mp hy
    rfl
  · obtain ⟨a, _, rfl⟩ := List.mem_map.mp hx
    exact fun z => by cases z
theorem depth_ints : ∀ ms : List Int, PyData.depthAll (ms.map PyData.int) = 0
  | [] => rfl
  | m :: r => by simp [PyData.depthAll, PyData.depth, depth_ints r]
theorem cr_minT (hc : X.calm = true) (hu : X.A.units + 1 < cLine) : CallR X (.builtin "min") (rMinT X.K) := by
  intro pins s σ H vs us Q I r h
  obtain ⟨a, n, ns, rfl, hs, q⟩ := h
  obtain ⟨its, rv, hl, _⟩ := I.tuple hs
  rw [Vals.ref1 r]
  obtain ⟨as, rd⟩ := Dp.readsAll I (PyData.int n :: ns.map PyData.int) _ its (dpa_ints (n :: ns)) rv
  refine PySem.W.min_tuple_data (I.ok.hd hc) (show s.heap.IsTuple a its.toArray from hl) (by simpa using rd) (alike_ints (n :: ns)) ?_ fun i v h' tk bs hv hr hk => ?_
  · have := depth_ints (n :: ns)
    rw [List.map_cons] at this
    rw [this]
    exact hu
  · rw [PySem.W.minD_ints] at hr
    cases hr with
    | int _ t => exact ⟨.int (ns.foldl min n), H, I.kept (t' := tk) hk, ⟨_, rfl⟩, q⟩
theorem foldl_min_spec : ∀ (ns : List Int) (n : Int), ns.foldl min n ∈ n :: ns ∧ ∀ y ∈ n :: ns, ns.foldl min n ≤ y
  | [], n => ⟨by simp, by simp⟩
  | k :: r, n => by
    obtain ⟨h1, h2⟩ := foldl_min_spec r (min n k)
    refine ⟨?_, fun y hy => ?_⟩
    · rcases List.mem_cons.mp h1 with e | e
      · rw [List.foldl_cons, e]
        rcases Int.le_total n k with h | h
        · rw [Int.min_eq_left h]; simp
        · rw [Int.min_eq_right h]; simp
      · simp [List.foldl_cons, e]
    · have h3 := h2 (min n k) (by simp)
      rw [List.foldl_cons]
      rcases List.mem_cons.mp hy with e | hy
      · omega
      · rcases List.mem_cons.mp hy with e | hy
        · omega
        · exact h2 y (by simp [hy])
end
/-! readings of these -/
section
variable {K : PySem.W.Frag} {σ : L2.St} {H H' : Hp} {ta tb te tl : TE} {D : Ends} {tu tz : TS} {t : TT}
theorem ev_typeL {p : Addr} {xs : List V} (h : Ev ta σ H (.ref p)) (hp : H p = some (.lst xs)) : Ev (tThenZ ta kTyp) σ H (.ty "list") := fun H1 e Q q => h H1 e _ fun H2 e2 => ⟨"list", by
  have := e2 p _ (e p _ hp)
  simp [zTyV, this], q H2 e2⟩
theorem ev_typeT {p : Addr} {xs : List V} (h : Ev ta σ H (.ref p)) (hp : H p = some (.tup xs)) : Ev (tThenZ ta kTyp) σ H (.ty "tuple") := fun H1 e Q q => h H1 e _ fun H2 e2 => ⟨"tuple", by
  have := e2 p _ (e p _ hp)
  simp [zTyV, this], q H2 e2⟩
theorem rv_neTyS {m : String} (hm : Meta m) : RV rNeTyS (.ty m) (.ty m) H (.bl false) := fun H1 _ _ q => ⟨m, rfl, rfl, hm, q H1 (Ex.refl H1)⟩
theorem ev_sumN {ns : List Int} (h : EvL ta σ H (ns.map V.int)) : Ev (tCB (rSum K) (tCons ta tNil)) σ H (.int ns.sum) := fun H1 e Q q => h H1 e _ fun p H2 _ e2 h2 => ⟨p, ns, rfl, sq_of h2, q H2 e2⟩
theorem ev_allN {bs : List Bool} (h : EvL ta σ H (bs.map V.bl)) : Ev (tCB (rAll K) (tCons ta tNil)) σ H (.bl (bs.all id)) := fun H1 e Q q => h H1 e _ fun p H2 _ e2 h2 => ⟨p, bs, rfl, sq_of h2, q H2 e2⟩
theorem ev_minT {p : Addr} {n : Int} {ns : List Int} (h : Ev ta σ H (.ref p)) (hp : SqT K H p ((n :: ns).map V.int)) : Ev (tCB (rMinT K) (tCons ta tNil)) σ H (.int (ns.foldl min n)) := fun H1 e Q q => h H1 e _ fun H2 e2 => ⟨p, n, ns, rfl, ex_t (e.trans e2) hp, q H2 e2⟩
/-- sorted(xs), told by what it is -/
theorem ed_sorted {p : Addr} {ns ms : List Int} (h : Ev ta σ H (.ref p)) (hp : SqL K H p (ns.map V.int)) (hl : ns.length < 64) (hm : ms.Perm ns) (hs : ms.Pairwise (· ≤ ·)) : EvD K (tCB (rSorted K) (tCons ta tNil)) σ H (.list (ms.map PyData.int)) := fun H1 e Q q => h H1 e _ fun H2 e2 =>
  ⟨p, ns, rfl, ex_l (e.trans e2) hp, hl, fun ns' l pm so new => by
    have eq : ns' = ms := by
      exact List.Perm.eq_of_pairwise (le := fun a b : Int => a ≤ b) (fun a b _ _ h1 h2 => Int.le_antisymm h1 h2) so hs (pm.trans hm.symm)
    subst eq
    exact q _ _ (e2.trans (Ex.new new)) (.lst (sq_of upd_same) (dpa_ints _))⟩
/-- a new tuple of a list's items -/
theorem eu_tupOf {p : Addr} {xs : List V} (h : Ev ta σ H (.ref p)) (hp : SqL K H p xs) : EvU (tCB (rTupS K) (tCons ta tNil)) σ H xs := fun H1 e Q q => h H1 e _ fun H2 e2 =>
  ⟨p, xs, rfl, ex_l (e.trans e2) hp, fun l hl => q l _ (fresh_back e2 hl) (e2.trans (Ex.new hl)) upd_same⟩
/-- [0] * n -/
theorem el_rep {xs : List V} {k : Int} (ha : EvL ta σ H xs) (hb : Ev tb σ H (.int k)) (h0 : 0 ≤ k) (h1 : k ≤ 1000) (hx : xs.length ≤ 50) : EvL (tOp rRep ta tb) σ H (List.replicate k.toNat xs).flatten := fun H1 e Q q =>
  ha H1 e _ fun p H2 hp e2 h2 => hb H2 (e.trans e2) _ fun H3 e3 => ⟨p, k, xs, rfl, rfl, e3 p _ h2, by omega, by omega, sz_of (by
    have : xs.length * k.toNat ≤ 50 * 1000 := Nat.mul_le_mul hx (by omega)
    omega), fun l hl => q l _ (fresh_back (e2.trans e3) hl) ((e2.trans e3).trans (Ex.new hl)) upd_same⟩
/-- xs[::-1] -/
theorem el_rev {p : Addr} {xs : List V} (h : Ev ta σ H (.ref p)) (hp : SqL K H p xs) : EvL (tRevL K ta) σ H xs.reverse := fun H1 e Q q => h H1 e _ fun H2 e2 =>
  ⟨p, xs, rfl, ex_l (e.trans e2) hp, fun l hl => q l _ (fresh_back e2 hl) (e2.trans (Ex.new hl)) upd_same⟩
theorem el_revN {xs : List V} (h : EvL ta σ H xs) : EvL (tRevL K ta) σ H xs.reverse := fun H1 e Q q => h H1 e _ fun p H2 _ e2 h2 =>
  ⟨p, xs, rfl, sq_of h2, fun l hl => q l _ (fresh_back e2 hl) (e2.trans (Ex.new hl)) upd_same⟩
/-- for i, x in enumerate(xs): the pair is a new tuple -/
theorem s_forEn {ta : TA} {i j : Nat} {a : Addr} {xs : List V} (h : EvA ta σ H [.ref a]) (hx : SqL K H a xs) (Pv : Nat → L2.St → Hp → Prop) (h0 : ∀ H1, Ex H H1 → Pv 0 σ H1) (hl : ∀ n σ' H', n ≤ xs.length → Pv n σ' H' → SqL K H' a xs)
    (hs : ∀ n x σ' H' H2, xs[n]? = some x → Pv n σ' H' → Ex H' H2 → tu { D with nx := Pv (n + 1), ct := Pv (n + 1), bk := D.nx } ((σ'.set i (some (.int (n : Int)))).set j (some x)) H2) (hd : ∀ σ' H', Pv xs.length σ' H' → D.nx σ' H') :
    tFor (iEnum K ta) (gTup K 2 (gCons (gName i) (gCons (gName j) gNil))) tu D σ H := h H (Ex.refl H) _ fun H1 e => ⟨a, xs, rfl, ex_l e hx, by
  refine for_it walk_enum Pv (h0 H1 e) (fun n σ' H' hn p => hl n σ' H' hn p) ?_ hd
  rintro n v σ' Hh H2 hn p ⟨T, x, y, rfl, nT, rfl, g1, g2⟩
  have ex : V.int (n : Nat) = x := Option.some.inj g1
  subst ex
  exact ⟨T, [.int (n : Nat), y], rfl, st_of upd_same, rfl, _, [y], rfl, y, [], rfl, rfl, hs n y σ' Hh _ g2 p (Ex.new nT)⟩⟩
theorem q_forEn {ta : TA} {i j : Nat} {a : Addr} {xs : List V} (h : EvA ta σ H [.ref a]) (hx : SqL K H a xs) (Pv : Nat → L2.St → Hp → Prop) (h0 : ∀ H1, Ex H H1 → Pv 0 σ H1) (hl : ∀ n σ' H', n ≤ xs.length → Pv n σ' H' → SqL K H' a xs)
    (hs : ∀ n x σ' H' H2, xs[n]? = some x → Pv n σ' H' → Ex H' H2 → tu { D with nx := Pv (n + 1), ct := Pv (n + 1), bk := tz D } ((σ'.set i (some (.int (n : Int)))).set j (some x)) H2) (hd : ∀ σ' H', Pv xs.length σ' H' → tz D σ' H') :
    tSeq (tFor (iEnum K ta) (gTup K 2 (gCons (gName i) (gCons (gName j) gNil))) tu) tz D σ H := s_forEn (D := { D with nx := tz D }) h hx Pv h0 hl hs hd
end
end Kit

set_option Elab.async false
set_option linter.all false
set_option maxRecDepth 100000
set_option maxHeartbeats 4000000
namespace Kit
open PySem PySem.Spec PyProof.Rows L2 Evl
/-! ### new lists of new tuples -/
def TL (H : Hp) (vs : List V) (rs : List (List V)) : Prop := Paired (fun v r => ∃ a, v = .ref a ∧ H a = some (.tup r)) vs rs
theorem TL.imp {H H' : Hp} (f : ∀ a r, H a = some (.tup r) → H' a = some (.tup r)) : ∀ {vs : List V} {rs : List (List V)}, TL H vs rs → TL H' vs rs
  | _, _, .nil => .nil
  | _, _, .cons ⟨a, e, h⟩ t => .cons ⟨a, e, f a _ h⟩ (TL.imp f t)
theorem TL.ex {H H' : Hp} {vs : List V} {rs : List (List V)} (e : Ex H H') (h : TL H vs rs) : TL H' vs rs := h.imp fun a r x => e a _ x
theorem TL.upd {H : Hp} {l : Addr} {xs : List V} {o : HO} {vs : List V} {rs : List (List V)} (hl : H l = some (.lst xs)) (h : TL H vs rs) : TL (upd H l o) vs rs := h.imp fun a r x => by
  rw [upd_ne (ne_of x hl (by intro z; cases z))]
  exact x
theorem TL.len {H : Hp} : ∀ {vs : List V} {rs : List (List V)}, TL H vs rs → vs.length = rs.length
  | _, _, .nil => rfl
  | _, _, .cons _ t => by rw [List.length_cons, List.length_cons, TL.len t]
theorem TL.app {H : Hp} {v : V} {r : List V} (hv : ∃ a, v = .ref a ∧ H a = some (.tup r)) : ∀ {vs : List V} {rs : List (List V)}, TL H vs rs → TL H (vs ++ [v]) (rs ++ [r])
  | _, _, .nil => .cons hv .nil
  | _, _, .cons q t => .cons q (TL.app hv t)
theorem TL.get {H : Hp} : ∀ {vs : List V} {rs : List (List V)} {i : Nat} {v : V}, TL H vs rs → vs[i]? = some v → ∃ a r, v = .ref a ∧ H a = some (.tup r) ∧ rs[i]? = some r
  | _, _, 0, v, .cons ⟨a, e, h⟩ t, hv => ⟨a, _, (Option.some.inj (by simpa using hv)).symm.trans e, h, rfl⟩
  | _, _, i + 1, v, .cons _ t, hv => by
    obtain ⟨a, r, h1, h2, h3⟩ := TL.get (i := i) t (by simpa using hv)
    exact ⟨a, r, h1, h2, by simpa using h3⟩
  | _, _, 0, v, .nil, hv => by simp at hv
  | _, _, i + 1, v, .nil, hv => by simp at hv
theorem TL.rev {H : Hp} : ∀ {vs : List V} {rs : List (List V)}, TL H vs rs → TL H vs.reverse rs.reverse
  | _, _, .nil => .nil
  | _, _, .cons q t => by
    rw [List.reverse_cons, List.reverse_cons]
    exact TL.app q (TL.rev t)
def EvLT (te : TE) (σ : L2.St) (H : Hp) (rs : List (List V)) : Prop := ∀ H1, Ex H H1 → ∀ Q : VK, (∀ p vs H2, H1 p = none → Ex H1 H2 → H2 p = some (.lst vs) → TL H2 vs rs → Q (.ref p) H2) → te σ H1 Q
section
variable {K : PySem.W.Frag} {σ : L2.St} {H H' : Hp} {te tl : TE} {D : Ends} {tz : TS} {t : TT}
/-- [a new tuple for i in range(n)] -/
theorem elt_R1 {ta : TA} {j : Nat} {vs : List Nat} {n : Int} (f : Nat → List V) (h : EvA ta σ H [.int n]) (hn : 0 ≤ n ∧ n ≤ 40000) (hw : ∀ x, wipe ((wipe σ vs).set j (some x)) vs = wipe σ vs)
    (he : ∀ (i : Nat) H1, Ex H H1 → (i : Int) < n → EvU te ((wipe σ vs).set j (some (.int (i : Int)))) H1 (f i)) : EvLT (tLc (iRng1 ta) (gName j) tYes te vs) σ H ((List.range n.toNat).map f) := fun H0 e Q q => h H0 e _ fun H1 e1 => ⟨n, rfl, by omega, by omega, fun Dl hD =>
  lc_range (lo := 0) (n := n.toNat) (fun i H' => Ex H1 H' ∧ ∃ ws, H' Dl = some (.lst ws) ∧ TL H' ws ((List.range i).map f)) ⟨Ex.new hD, [], upd_same, .nil⟩ (fun i H' hi p => by
    obtain ⟨p1, ws, p2, p3⟩ := p
    have e0 : (0 : Int) + (i : Int) = (i : Int) := Int.zero_add _
    show wipe ((wipe σ vs).set j (some (.int ((0 : Int) + (i : Int))))) vs = wipe σ vs ∧ te ((wipe σ vs).set j (some (.int ((0 : Int) + (i : Int))))) H' fun y H4 => ∃ acc, H4 Dl = some (.lst acc) ∧ acc.length < sizeLine ∧ _
    rw [e0]
    refine ⟨hw _, he i H1 (e.trans e1) (by omega) H' p1 _ fun p H4 hp e4 h4 => ⟨ws, e4 Dl _ p2, sz_lt (by
      have := p3.len
      simp at this
      omega), Ex.mut (p1.trans e4) hD, ws ++ [.ref p], upd_same, ?_⟩⟩
    rw [List.range_succ, List.map_append]
    exact ((p3.ex e4).app ⟨p, rfl, h4⟩).upd (e4 Dl _ p2)) (fun H' p => by
      obtain ⟨p1, ws, p2, p3⟩ := p
      exact q Dl ws H' (fresh_back e1 hD) (e1.trans p1) p2 p3)⟩
/-- [a new tuple for x in xs] -/
theorem elt_map {a : Addr} {xs : List V} {j : Nat} {vs : List Nat} (f : Nat → List V) (h : Ev tl σ H (.ref a)) (hx : SqL K H a xs) (hz : xs.length ≤ 40000) (hw : ∀ x, wipe ((wipe σ vs).set j (some x)) vs = wipe σ vs)
    (he : ∀ (i : Nat) (x : V) H1, Ex H H1 → xs[i]? = some x → EvU te ((wipe σ vs).set j (some x)) H1 (f i)) : EvLT (tLc (iList K tl) (gName j) tYes te vs) σ H ((List.range xs.length).map f) := fun H0 e Q q => h H0 e _ fun H1 e1 => ⟨a, rfl, ⟨xs, ex_l (e.trans e1) hx⟩, fun Dl hD =>
  lc_list (xs := xs) (fun i H' => Ex H1 H' ∧ ∃ ws, H' Dl = some (.lst ws) ∧ TL H' ws ((List.range i).map f)) ⟨Ex.new hD, [], upd_same, .nil⟩ (fun i H' _ p => ex_l ((e.trans e1).trans p.1) hx) (fun i x H' hi p => by
    obtain ⟨p1, ws, p2, p3⟩ := p
    show wipe ((wipe σ vs).set j (some x)) vs = wipe σ vs ∧ te ((wipe σ vs).set j (some x)) H' fun y H4 => ∃ acc, H4 Dl = some (.lst acc) ∧ acc.length < sizeLine ∧ _
    refine ⟨hw _, he i x H1 (e.trans e1) hi H' p1 _ fun p H4 hp e4 h4 => ⟨ws, e4 Dl _ p2, sz_lt (by
      have := p3.len
      have := (List.getElem?_eq_some_iff.mp hi).1
      simp at *
      omega), Ex.mut (p1.trans e4) hD, ws ++ [.ref p], upd_same, ?_⟩⟩
    rw [List.range_succ, List.map_append]
    exact ((p3.ex e4).app ⟨p, rfl, h4⟩).upd (e4 Dl _ p2)) (fun H' p => by
      obtain ⟨p1, ws, p2, p3⟩ := p
      exact q Dl ws H' (fresh_back e1 hD) (e1.trans p1) p2 p3)⟩
theorem range_get {α : Type} (rs : List α) (d : α) : rs = (List.range rs.length).map fun i => rs.getD i d := by
  refine List.ext_getElem (by simp) fun i h1 h2 => ?_
  simp [h1]
theorem paired_map {α β γ : Type} {F : β → γ → Prop} (f : α → β) (g : α → γ) : ∀ l : List α, (∀ x ∈ l, F (f x) (g x)) → Paired F (l.map f) (l.map g)
  | [], _ => .nil
  | x :: r, h => .cons (h x (by simp)) (paired_map f g r fun y hy => h y (by simp [hy]))
/-- [x for x in xs if test(x)], xs a list of tuples, the test P of the tuple's items -/
theorem elt_filter {a : Addr} {xs : List V} {rs : List (List V)} {j : Nat} {vs : List Nat} (P : List V → Bool) (h : Ev tl σ H (.ref a)) (hx : SqL K H a xs) (ht : TL H xs rs) (hz : xs.length ≤ 40000) (hw : ∀ x, wipe ((wipe σ vs).set j (some x)) vs = wipe σ vs) (hj : ∀ x, ((wipe σ vs).set j (some x))[j]? = some (some x))
    (he : ∀ (b : Addr) (r : List V) H1, Ex H H1 → r ∈ rs → H1 b = some (.tup r) → EvT t ((wipe σ vs).set j (some (.ref b))) H1 (P r)) : EvLT (tLc (iList K tl) (gName j) t (tVar j) vs) σ H (rs.filter P) := fun H0 e Q q => by
  refine el_lcL (K := K) (f := fun i => P (rs.getD i [])) (v := fun i => xs.getD i .non) h hx hz hw (fun i x H1 e1 hi => ?_) (fun i x H1 e1 hi hf => ?_) H0 e Q fun p H2 hp e2 h2 => ?_
  · obtain ⟨b, r, rfl, hb, hr⟩ := ht.get hi
    have g : rs.getD i [] = r := by rw [List.getD_eq_getElem?_getD, hr] <;> rfl
    show EvT _ _ _ (P (rs.getD i []))
    rw [g]
    exact he b r H1 e1 (List.mem_of_getElem? hr) (e1 b _ hb)
  · have g : xs.getD i .non = x := by rw [List.getD_eq_getElem?_getD, hi] <;> rfl
    show Ev _ _ _ (xs.getD i .non)
    rw [g]
    exact ev_var (hj x)
  · refine q p _ H2 hp e2 h2 ?_
    have e3 : rs.filter P = ((List.range rs.length).filter fun i => P (rs.getD i [])).map fun i => rs.getD i [] := by
      conv => lhs; rw [range_get rs [], List.filter_map]
      rfl
    unfold given
    rw [e3, ht.len]
    refine paired_map _ _ _ fun i hi => ?_
    have hi := List.mem_range.mp (List.mem_filter.mp hi).1
    have hlx : i < xs.length := by rw [ht.len]; exact hi
    obtain ⟨b, r, h1, h2', h3⟩ := ht.get (List.getElem?_eq_getElem hlx)
    refine ⟨b, ?_, ?_⟩
    · rw [List.getD_eq_getElem?_getD, List.getElem?_eq_getElem hlx, h1]
      rfl
    · rw [List.getD_eq_getElem?_getD, h3]
      exact (e.trans e2) b _ h2'
theorem q_asgLT {i : Nat} {rs : List (List V)} (h : EvLT te σ H rs) (k : ∀ p vs H1, H p = none → Ex H H1 → H1 p = some (.lst vs) → TL H1 vs rs → tz D (σ.set i (some (.ref p))) H1) : tSeq (tAsg te (gName i)) tz D σ H := h H (Ex.refl H) _ fun p vs H1 hp e h1 h2 => k p vs H1 hp e h1 h2
theorem s_retLT {rs : List (List V)} (h : EvLT te σ H rs) (k : ∀ p vs H1, H p = none → Ex H H1 → H1 p = some (.lst vs) → TL H1 vs rs → D.rt (.ref p) H1) : tRet te D σ H := h H (Ex.refl H) _ k
end
end Kit

set_option Elab.async false
set_option linter.all false
set_option maxRecDepth 100000
set_option maxHeartbeats 4000000
namespace Kit
open PySem PySem.Spec PyProof.Rows L2 Evl
/-! ### a promise of a def that shows data (repr): no repr may be under way around it -/
structure FnOkG (P : Program) (w : World) (K : PySem.W.Frag) (mg : Str → Option Value) (base : Heap) (n : Nat) (f : Addr) (fd : FuncData) (names : List Str) (want : Sp) : Prop where
  many : ∀ xs H Q E, want xs H Q E → xs.length = names.length
  go : ∀ (A : Around) (frames : List Env) (st : Shared) (H : Hp) (given : Args) (us : List Value) (xs : List V) (Q : VK) (E : XK), A.guards = some [] → Room n A → Env0 P w K mg base A frames st H →
    BindsTo st fd given (names.zip us) → Vals xs us → want xs H Q E → codeAny (model P w) A (.call (.ref f) given) (CR CX0 frames P w H st Q E) st
section
variable {P : Program} {w : World} {K : PySem.W.Frag} {mg : Str → Option Value} {base : Heap}
theorem FnOkG.mono {j n : Nat} {f : Addr} {fd : FuncData} {names : List Str} {want : Sp} (F : FnOkG P w K mg base j f fd names want) (h : j ≤ n) : FnOkG P w K mg base n f fd names want :=
  ⟨F.many, fun A fr st H g us xs Q E hg r => F.go A fr st H g us xs Q E hg (r.mono h)⟩
/-- the rule for such a def -/
theorem funG {x qual : Str} {d : Stmt} {f : Addr} {fd : FuncData} {N names : List Str} {n : Nat} {want : Sp} (F : Fun K x qual d f fd) (S : FnScope N names (defScope d)) (many : ∀ xs H Q E, want xs H Q E → xs.length = names.length)
    (body : ∀ (cv : Value) (A : Around) (frames : List Env) (st : Shared) (H : Hp) (xs : List V) (Q : VK) (E : XK), A.guards = some [] → Room n (A.deeper (envOfC qual (defScope d) st.heap.objs.size f cv)) → want xs H Q E →
      ∃ t, PSs (cxOf CX0 P w K mg base N qual (defScope d) f cv A frames st H E).nox (defBody d) t ∧ t { nx := fun _ H' => Q .non H', rt := Q } (start N xs) H) : FnOkG P w K mg base (n + 1) f fd names want := by
  obtain ⟨o1, o2, v1, v2, v3, an, cv, ct, sl, rfl, look, code⟩ := F.ex
  refine ⟨many, fun A frames st H given us xs Q E hg room en bind vals hw => ?_⟩
  have size := many _ _ _ _ hw
  have inK : K.In st.heap := en.mod.kin.keeps fun b o q => (en.bs b o q).1
  have noLim : st.heap.NoLimit := en.mod.nolimit.keeps fun b o q => (en.bs b o q).1
  have kinds : ∀ y ∈ names.zip us, (defScope d).names.lookup y.1 = some .local ∨ ((defScope d).names.lookup y.1 = some .cell ∧ ((cellsFrom (st.heap.objs.size + 1) (defScope d).names []).lookup y.1).isSome = true) := by
    rintro ⟨a, b⟩ hy
    exact (S.par a (List.of_mem_zip hy).1).elim .inl fun q => .inr ⟨q, PySem.W.cellsFrom_some _ _ _ (.inl q)⟩
  refine codeAny_call_function room.depth (inK _ _ look) rfl S.co S.gen rfl (PySem.W.codeRec_of inK code) (bind _ _ _ _ (wpAny_newFunctionEnv_cells S.kind kinds fun env eq st1 made => ?_))
  cases eq
  refine ⟨noLim.keeps made.toInCall.keep, codeAny_func ?_⟩
  obtain ⟨t, rule, done⟩ := body cv A frames st H xs Q E hg (room.deeper _) hw
  have J : Inv (cxOf CX0 P w K mg base N qual (defScope d) f cv A frames st H E) [] (start N xs) H st1 := inv_start S room.hd en size vals made
  have back : ∀ {σ' : L2.St} {H' : Hp} {v : V} {u : Value} {st2 : Shared}, Inv (cxOf CX0 P w K mg base N qual (defScope d) f cv A frames st H E) [] σ' H' st2 → RelV v u → Q v H' → CE frames P w H st Q u st2 := fun J2 rv q => ⟨_, _, J2.os, J2.bare, J2.base, J2.hok, rv, q⟩
  refine wpAny_mono (rule.nox.run [] st1 (start N xs) H _ J done) (fun r st2 hs => ?_) fun _ _ hs => hs
  match r, hs with
  | .ret u, ⟨v, σ2, H2, J2, rv, q⟩ => exact back J2 rv q
  | .next, ⟨σ2, H2, J2, q⟩ => exact back (v := V.non) (u := Value.none) J2 rfl q
  | .brk, ⟨_, _, _, q⟩ => exact False.elim q
  | .cont, ⟨_, _, _, q⟩ => exact False.elim q
end
/-- such a def is called -/
theorem pe_callG {X : Cx} {n : Nat} {f : Addr} {fd : FuncData} {names : List Str} {want : Sp} {x : Str} {p pos : Pos} {e : Expr} {es : List Expr} {t : TA} (F : FnOkG X.prog X.w X.K X.mg X.base n f fd names want) (hg : X.A.guards = some []) (room : Room n X.A) (gl : Gl X x)
    (at_ : X.mg x = some (.ref f)) (keep : PySem.W.keepIn X.K (.ref f) = true) (bind : Binds X.K fd names []) (ha : PA X (e :: es) t) (nd : (x == ("__debug__" : Str)) = false := by decide)
    (one : starEach (e :: es) X.env = (false, eval e X.env) :: starEach es X.env := by rfl) (plain : (backTo pos (starEach es X.env)).any (·.1) = false := by rfl) : PE X (.Call (.Name x p) (e :: es) [] pos) (tCall want [] E0 t) := by
  refine ⟨fun pins st σ H Q J h => wpAny_Call_Name_kw (ld_glob J gl at_ ?_ nd)⟩
  refine PySem.W.callWith_K (h₀ := X.base) J.ok.mod.kin keep (thn (ha.run pos pins st σ H _ J h) fun us st1 ⟨vs, H1, J1, r, q⟩ => ⟨J1.kIn, ?_⟩) one plain
  have q : want vs H1 Q E0 := by
    have q' : want (vs ++ []) H1 Q E0 := q
    rwa [List.append_nil] at q'
  have size : us.length = names.length := r.length.symm.trans (F.many _ _ _ _ q)
  have bd := bind st1 us J1.kIn (by rw [List.append_nil]; exact size)
  rw [List.append_nil] at bd
  refine wpAny_call (codeAny_mono (F.go X.A X.stack st1 H1 ⟨us, []⟩ us vs Q E0 hg room J1.env0 bd r q) fun res st2 hq => ?_)
  match res, hq with
  | .error _, hq => exact False.elim hq
  | .ok (.ret _), hq => exact J1.after hq
  | .ok .next, hq => exact False.elim hq
  | .ok .brk, hq => exact False.elim hq
  | .ok .cont, hq => exact False.elim hq
/-- the law's promise, at the heap behind the top -/
theorem headG {P : Program} {w : World} {K : PySem.W.Frag} {mg mb : Str → Option Value} {n : Nat} {fa a : Addr} {fd : FuncData} {x : Str} {want : Sp} {st : Shared} {us : List Value} {ns : List Int}
    (inK : K.In st.heap) (glob : st.heap.Ns mainGlobals mg) (blt : st.heap.Ns builtinsNs mb) (boot : ∀ x : Str, x ≠ "__name__" → mb x = bootBuiltins x) (noLim : st.heap.NoLimit) (gens : st.gens = #[])
    (obj : st.heap.get? a = some { cls := .type "list", data := .seq us.toArray }) (allInt : IntsAre us ns) (short : ns.length ≤ sizeLine) (room : Room n callerA)
    (F : ∀ base : Heap, K.In base → base.Ns mainGlobals mg → FnOkG P w K mg base n fa fd [x] want) (bind : ∀ (s : Shared) (u : Value), BindsTo s fd ⟨[u], []⟩ [(x, u)])
    (ask : ∀ H : Hp, Only H → SqL K H a (ns.map V.int) → want [.ref a] H (fun v _ => v = .bl true) fun _ _ _ => False) :
    codeAny (model P w) callerA (.call (.ref fa) ⟨[.ref a], []⟩) (fun r s' => r = .ok (.ret (.bool true)) ∧ OldK st.heap s'.heap ∧ s'.os = st.os ∧ AllBare s'.gens) st := by
  have vals := vals_ints allInt
  have size := allInt.length
  have main : ∀ H : Hp, Only H → SqL K H a (ns.map V.int) → HOk P w H st.heap → (∀ b, H b ≠ none → b = a) → (H a ≠ none → K.lookup a = none) →
      codeAny (model P w) callerA (.call (.ref fa) ⟨[.ref a], []⟩) (fun r s' => r = .ok (.ret (.bool true)) ∧ OldK st.heap s'.heap ∧ s'.os = st.os ∧ AllBare s'.gens) st := by
    intro H only sq ok one not
    have stay : ∀ {b : Addr} {o : Obj}, st.heap.get? b = some o → H b = none → (hidT st.heap H).get? b = some o := fun q z => hidT_get q z
    have free : ∀ {b : Addr}, (b = a → False) → H b = none := fun {b} ne => by
      cases q : H b with
      | none => rfl
      | some u => exact (ne (one b (by rw [q]; exact Option.some_ne_none u))).elim
    have space : ∀ {b : Addr} {m : Str → Option Value}, st.heap.Ns b m → (hidT st.heap H).Ns b m := fun {b m} ⟨o, es, ep, q, d, r⟩ => ⟨o, es, ep, stay q (free fun z => by
      subst z
      rw [obj] at q
      cases q
      exact Data.noConfusion (show Data.seq us.toArray _ = Data.dict es ep from d)), d, r⟩
    have kin : K.In (hidT st.heap H) := fun b o q => stay (inK b o q) (by
      cases z : H b with
      | none => rfl
      | some u =>
        have ne : H b ≠ none := by rw [z]; exact Option.some_ne_none u
        have ba := one b ne
        subst ba
        rw [not ne] at q
        cases q)
    obtain ⟨mc, l1, l2⟩ := noLim
    have md : Mod K mg (hidT st.heap H) := ⟨kin, space glob, ⟨mb, space blt, boot⟩, ⟨mc, space l1, l2⟩⟩
    have en : Env0 P w K mg (hidT st.heap H) callerA [] st H := ⟨rfl, md, fun b o q => of_hidT q, Nat.le_of_eq (hidT_size _ _), trivial, fun b hb => absurd (show b ∈ ([] : List Addr) from hb) (by simp), ok, .of_eq gens⟩
    refine codeAny_mono ((F _ kin (space glob)).go callerA [] st H ⟨[.ref a], []⟩ [.ref a] [.ref a] _ _ rfl room en (bind st (.ref a)) (.cons rfl .nil) (ask H only sq)) fun r s' h => ?_
    match r, h with
    | .error _, h => exact False.elim h
    | .ok .next, h => exact False.elim h
    | .ok .brk, h => exact False.elim h
    | .ok .cont, h => exact False.elim h
    | .ok (.ret u), ⟨v, H', os, bare, un, ok', rel, q⟩ =>
      have q2 : v = .bl true := q
      cases q2
      have r2 : u = Value.bool true := rel
      cases r2
      refine ⟨rfl, OldK.of_keep fun b o e => ?_, os, bare⟩
      rcases only b with z | ⟨ob, xs, z⟩
      · exact un.keep b o e z (fun t => absurd (show b ∈ ([] : List Addr) from t) (by simp)) (by simp)
      · have z2 := un.frzs b ob _ z
        obtain ⟨g1, _⟩ := ok b _ z
        obtain ⟨g2, _⟩ := ok' b _ z2
        rw [e] at g1
        cases g1
        exact g2
  cases own : K.lookup a with
  | some o =>
    have e := inK a o own
    rw [obj] at e
    cases e
    exact main (fun _ => none) (fun _ => .inl rfl) (.inr ⟨_, us.toArray, _, own, rfl, rfl, rfl, by rw [List.size_toArray, size]; exact short, by simpa using vals⟩) (fun b u z => by have y : (none : Option HO) = some u := z; cases y) (fun b z => absurd rfl z) fun z => absurd rfl z
  | none =>
    have yes : (fun b => if b = a then some (HO.frz { cls := .type "list", data := .seq us.toArray } (.lst (ns.map V.int))) else none) a = some (HO.frz { cls := .type "list", data := .seq us.toArray } (.lst (ns.map V.int))) := if_pos rfl
    have no : ∀ b, b ≠ a → (fun b => if b = a then some (HO.frz { cls := .type "list", data := .seq us.toArray } (.lst (ns.map V.int))) else none) b = none := fun b ne => if_neg ne
    generalize (fun b => if b = a then some (HO.frz { cls := .type "list", data := .seq us.toArray } (.lst (ns.map V.int))) else none) = G at yes no
    refine main G (fun b => ?_) (.inl (.inr ⟨_, yes⟩)) (fun b u z => ?_) (fun b z => ?_) fun _ => own
    · by_cases hb : b = a
      · subst hb
        exact .inr ⟨_, _, yes⟩
      · exact .inl (no b hb)
    · by_cases hb : b = a
      · subst hb
        rw [yes] at z
        cases z
        exact ⟨obj, by rw [List.length_map]; exact short, us, _, vals, obj⟩
      · rw [no b hb] at z
        cases z
    · by_cases hb : b = a
      · exact hb
      · exact absurd (no b hb) z
theorem walk_G {l : PySem.W.OpenLaw} {m n : Nat} {q : Program} {loose : List Str} {XP : (Str → Option Value) → Heap → Prop} {YP : World → Heap → Prop} {d : DefRec} {K : Params → PySem.W.Frag} {want : World → Sp} {x : Str}
    (most : l.most = some m) (most2 : m ≤ sizeLine) (noDef : d.params.defaults = []) (room : Room n callerA) (inK : ∀ (w : World) (h : Heap), YP w h → (K w.params).In h)
    (F : ∀ (w : World) (mg : Str → Option Value) (fa : Addr) (h : Heap), (K w.params).In h → h.Ns mainGlobals mg → mg d.name = some (.ref fa) →
      ∃ fd : FuncData, (∀ (s : Shared) (u : Value), BindsTo s fd ⟨[u], []⟩ [(x, u)]) ∧ ∀ base : Heap, (K w.params).In base → base.Ns mainGlobals mg → FnOkG l.prog w (K w.params) mg base n fa fd [x] (want w))
    (ask : ∀ (w : World) (H : Hp) (a : Addr) (ns : List Int), ns.length ≤ m → Only H → SqL (K w.params) H a (ns.map V.int) → want w [.ref a] H (fun v _ => v = .bl true) fun _ _ _ => False) :
    PySem.W.WalkO q loose XP YP l.row.toRowW d [] (fun f vs => PySem.call f vs) :=
  Att.attach_call most noDef fun w s₀ st mg mb fa o pm cd doc a us ns G Y ho hd hcd named obj allInt short gens => by
    have kin := inK w _ Y
    obtain ⟨fd, bind, FF⟩ := F w mg fa _ kin G.T.g named
    exact headG kin G.T.g G.T.b G.T.builtins G.T.nolimit gens obj allInt (Nat.le_trans short most2) room FF bind fun H only sq => ask w H a ns short only sq
/-! ### repr of data -/
def rRepr (K : PySem.W.Frag) : List V → Hp → VK → Prop := fun xs H Q => ∃ p d, xs = [.ref p] ∧ Dp K H (.ref p) d ∧ d.showable = true ∧ d.hasDict = false ∧ d.depth ≤ 50 ∧ d.shown.length ≤ sizeLine ∧ Q (.str d.shown) H
theorem call_reprD {X : Cx} (hg : X.A.guards = some []) (hu : X.A.units + 64 < cLine) : CallR X (.builtin "repr") (rRepr X.K) := by
  intro pins st σ H xs us Q J r h
  obtain ⟨p, d, rfl, dp, hs, hd, hdp, hz, q⟩ := h
  obtain ⟨u, rfl, hu2⟩ : ∃ u, us = [u] ∧ RelV (.ref p) u := by
    cases r with
    | cons a b =>
      cases b
      exact ⟨_, rfl, a⟩
  have e : u = Value.ref p := hu2
  subst e
  obtain ⟨as, rd⟩ := Dp.reads J d _ _ dp hu2
  refine repr_of_reads' rd hs (fun z => by rw [hd] at z; cases z) hg (by omega) (fun _ _ e => e) (fun h' u tk keep => ?_) hz
  exact ⟨.str d.shown, H, J.turnedL (ch := []) (fun b o _ e => keep b o e) (fun b hb => absurd hb (by simp)), ⟨_, rfl⟩, q⟩
section
variable {K : PySem.W.Frag} {σ : L2.St} {H : Hp} {te : TE}
theorem ev_repr {d : PyData} (h : EvD K te σ H d) (hl : isDisplay d = true) (hs : d.showable = true) (hd : d.hasDict = false) (hdp : d.depth ≤ 50) (hz : d.shown.length ≤ sizeLine) : Ev (tCB (rRepr K) (tCons te tNil)) σ H (.str d.shown) := fun H1 e Q q =>
  h H1 e _ fun v H2 e2 dv => by
    have hp : ∃ p, v = .ref p := by
      cases dv with
      | lst _ _ => exact ⟨_, rfl⟩
      | tup _ _ => exact ⟨_, rfl⟩
      | non => cases hl
      | bl _ => cases hl
      | int _ => cases hl
      | str _ => cases hl
    obtain ⟨p, rfl⟩ := hp
    exact ⟨p, d, rfl, dv, hs, hd, hdp, hz, q H2 e2⟩
end
end Kit

set_option Elab.async false
set_option linter.all false
set_option maxRecDepth 100000
set_option maxHeartbeats 4000000
namespace Kit
open PySem PySem.Spec PyProof.Rows L2 Evl
/-! ### data that repr shows, with long ints: at most n signs -/
structure ShN (d : PyData) (n : Nat) : Prop where
  shw : d.showable = true
  nod : d.hasDict = false
  len : d.shown.length ≤ n
  dep : d.depth ≤ 20
theorem shn_int {i : Int} (h : i.natAbs.log2 < 1920) : ShN (.int i) 1921 := ⟨decide_eq_true h, rfl, int_text_len_1921 h, Nat.zero_le _⟩
theorem shn_int2 {i : Int} (h : i.natAbs < 2 ^ 1900) : ShN (.int i) 1921 := shn_int (by
  by_cases z : i.natAbs = 0
  · rw [z]
    decide
  · exact Nat.lt_of_lt_of_le ((Nat.log2_lt z).mpr h) (by decide))
theorem shn_all {n : Nat} : ∀ {ds : List PyData}, (∀ d ∈ ds, ShN d n ∧ d.depth ≤ 19) → PyData.showableAll ds = true ∧ PyData.hasDictAll ds = false ∧ ((PyData.shownAll ds).map (·.length)).sum ≤ n * ds.length ∧ (PyData.shownAll ds).length = ds.length ∧ PyData.depthAll ds ≤ 19
  | [], _ => ⟨rfl, rfl, Nat.zero_le _, rfl, Nat.zero_le _⟩
  | d :: r, h => by
    obtain ⟨a, b, c, e, f⟩ := shn_all fun x hx => h x (List.mem_cons_of_mem _ hx)
    obtain ⟨⟨p, q, s, _⟩, t⟩ := h d List.mem_cons_self
    refine ⟨by simp [PyData.showableAll, a, p], by simp [PyData.hasDictAll, b, q], ?_, by simp [PyData.shownAll, e], by simp only [PyData.depthAll]; omega⟩
    simp only [PyData.shownAll, List.map_cons, List.sum_cons, List.length_cons, Nat.mul_succ]
    omega
theorem shn_list {ds : List PyData} {n : Nat} (h : ∀ d ∈ ds, ShN d n ∧ d.depth ≤ 19) : ShN (.list ds) ((n + 2) * ds.length + 3) := by
  obtain ⟨a, b, c, e, f⟩ := shn_all h
  refine ⟨by simpa [PyData.showable] using a, by simpa [PyData.hasDict] using b, ?_, by simp only [PyData.depth]; omega⟩
  have := listText_len_le (PyData.shownAll ds)
  show (listText (PyData.shownAll ds)).length ≤ _
  rw [e] at this
  rw [Nat.add_mul]
  omega
theorem shn_tup {ds : List PyData} {n : Nat} (h : ∀ d ∈ ds, ShN d n ∧ d.depth ≤ 19) : ShN (.tuple ds) ((n + 2) * ds.length + 3) := by
  obtain ⟨a, b, c, e, f⟩ := shn_all h
  refine ⟨by simpa [PyData.showable] using a, by simpa [PyData.hasDict] using b, ?_, by simp only [PyData.depth]; omega⟩
  have := tupleText_len_le (PyData.shownAll ds)
  show (tupleText (PyData.shownAll ds)).length ≤ _
  rw [e] at this
  rw [Nat.add_mul]
  omega
section
variable {K : PySem.W.Frag} {σ : L2.St} {H : Hp} {te : TE}
theorem ev_reprN {d : PyData} {n : Nat} (h : EvD K te σ H d) (hl : isDisplay d = true) (s : ShN d n) (hn : n ≤ 1000000) : Ev (tCB (rRepr K) (tCons te tNil)) σ H (.str d.shown) :=
  ev_repr h hl s.shw s.nod (by have := s.dep; omega) (Nat.le_trans s.len (Nat.le_trans hn (by rw [sizeLine_eq]; decide)))
end
end Kit

set_option Elab.async false
set_option linter.all false
set_option maxRecDepth 100000
set_option maxHeartbeats 4000000
namespace Kit
open PySem PySem.Spec PyProof.Rows L2 Evl
section
variable {K : PySem.W.Frag} {σ : L2.St} {H : Hp} {ta tb te : TE} {t : TT}
/-- max(xs), told by what it is -/
theorem ev_maxV {a : Addr} {ns : List Int} {m : Int} (h : Ev ta σ H (.ref a)) (ha : SqL K H a (ns.map V.int)) (hm : m ∈ ns) (hl : ∀ y ∈ ns, y ≤ m) : Ev (tCB (rMax K) (tCons ta tNil)) σ H (.int m) := fun H1 e Q q =>
  h H1 e _ fun H2 e2 => ⟨a, ns, rfl, ex_l (e.trans e2) ha, List.length_pos_of_mem hm, fun m' hm' hl' => by
    have h1 := hl m' hm'
    have h2 := hl' m hm
    have : m' = m := by omega
    rw [this]
    exact q H2 e2⟩
/-- [e for i, x in enumerate(xs) if t] -/
theorem el_en {ta : TA} {i j : Nat} {vs : List Nat} {a : Addr} {xs : List V} (f : Nat → Bool) (v : Nat → V) (h : EvA ta σ H [.ref a]) (hx : SqL K H a xs) (hz : xs.length ≤ 40000) (hw : ∀ x y, wipe (((wipe σ vs).set i (some x)).set j (some y)) vs = wipe σ vs)
    (ht : ∀ (n : Nat) x H1, Ex H H1 → xs[n]? = some x → EvT t (((wipe σ vs).set i (some (.int (n : Int)))).set j (some x)) H1 (f n))
    (he : ∀ (n : Nat) x H1, Ex H H1 → xs[n]? = some x → f n = true → Ev te (((wipe σ vs).set i (some (.int (n : Int)))).set j (some x)) H1 (v n)) :
    EvL (tLc (iEnum K ta) (gTup K 2 (gCons (gName i) (gCons (gName j) gNil))) t te vs) σ H (given xs.length f v) := fun H0 e Q q => h H0 e _ fun H1 e1 => ⟨a, xs, rfl, ex_l (e.trans e1) hx, fun Dl hD => by
  refine lc_it walk_enum (Cw H1 f v Dl) ⟨hD, Ex.new hD, upd_same⟩ (fun n H' _ p => ex_l ((e.trans e1).trans p.2.1) hx) ?_ fun H' p => q Dl H' (fresh_back e1 p.1) (e1.trans p.2.1) p.2.2
  rintro n w Hh H' hn p ⟨T, x, y, rfl, nT, rfl, g1, g2⟩
  have ex : V.int (n : Nat) = x := Option.some.inj g1
  subst ex
  have eT : Ex Hh (upd Hh T (.tup [.int (n : Nat), y])) := Ex.new nT
  refine ⟨T, [.int (n : Nat), y], rfl, st_of upd_same, rfl, _, [y], rfl, y, [], rfl, rfl, hw _ y, ?_⟩
  exact cw_turn (H := H1) ⟨p.1, p.2.1.trans eT, eT Dl _ p.2.2⟩ (by omega) (ht n y H1 (e.trans e1) g2) fun hf => he n y H1 (e.trans e1) g2 hf⟩
/-- [e for x, y in zip(xs, ys)], both new lists -/
theorem el_zipN {i j : Nat} {vs : List Nat} {xs ys : List V} (F : V → V → V) (h : EvL ta σ H xs) (h2 : EvL tb σ H ys) (hl : xs.length = ys.length) (hz : xs.length ≤ 40000) (hw : ∀ x y, wipe (((wipe σ vs).set i (some x)).set j (some y)) vs = wipe σ vs)
    (he : ∀ (n : Nat) x y H1, Ex H H1 → xs[n]? = some x → ys[n]? = some y → Ev te (((wipe σ vs).set i (some x)).set j (some y)) H1 (F x y)) :
    EvL (tLc (iZip K (tCons ta (tCons tb tNil))) (gTup K 2 (gCons (gName i) (gCons (gName j) gNil))) tYes te vs) σ H (List.zipWith F xs ys) := fun H0 e Q q =>
  h H0 e _ fun a H1 na e1 ha => h2 H1 (e.trans e1) _ fun b H2 nb e2 hb => by
    have := el_zip (K := K) (H := H2) (ta := fun _ H' R => R [.ref a, .ref b] H') (te := te) (vs := vs) F (fun H3 _ Q q => q H3 (Ex.refl _)) (sq_of (e2 a _ ha)) (sq_of hb) hl hz hw fun n x y H3 e3 g1 g2 => he n x y H3 (e.trans (e1.trans (e2.trans e3))) g1 g2
    exact this H2 (Ex.refl _) Q fun p H3 hp e3 h3 => q p H3 (fresh_back (e1.trans e2) hp) (e1.trans (e2.trans e3)) h3
/-- xs + y, y an old list; x + ys, x an old list -/
theorem el_catR {a : Addr} {xs ys : List V} (h : EvL ta σ H xs) (h2 : Ev tb σ H (.ref a)) (ha : H a = some (.lst ys)) (hz : xs.length + ys.length ≤ 1000) : EvL (tOp rCat ta tb) σ H (xs ++ ys) := fun H1 e Q q =>
  h H1 e _ fun p H2 _ e2 h3 => h2 H2 (e.trans e2) _ fun H3 e3 => ⟨p, a, xs, ys, rfl, rfl, e3 p _ h3, e3 a _ (e2 a _ (e a _ ha)), sz_of (by omega), fun l hl => q l _ (fresh_back (e2.trans e3) hl) ((e2.trans e3).trans (Ex.new hl)) upd_same⟩
theorem el_catL {a : Addr} {xs ys : List V} (h : Ev ta σ H (.ref a)) (ha : H a = some (.lst xs)) (h2 : EvL tb σ H ys) (hz : xs.length + ys.length ≤ 1000) : EvL (tOp rCat ta tb) σ H (xs ++ ys) := fun H1 e Q q =>
  h H1 e _ fun H2 e2 => h2 H2 (e.trans e2) _ fun p H3 _ e3 h3 => ⟨a, p, xs, ys, rfl, rfl, e3 a _ (e2 a _ (e a _ ha)), h3, sz_of (by omega), fun l hl => q l _ (fresh_back (e2.trans e3) hl) ((e2.trans e3).trans (Ex.new hl)) upd_same⟩
end
end Kit

set_option Elab.async false
set_option linter.all false
set_option maxRecDepth 100000
namespace Kit
open PySem PySem.Spec PyProof.Rows L2 Evl
def fac (n : Nat) : Nat := Builtin.Math.factorialNat n
theorem fac_succ (n : Nat) : fac (n + 1) = fac n * (n + 1) := PySem.W.mc_fac_succ n
theorem fac_pos (n : Nat) : 1 ≤ fac n := PySem.W.mc_fac_pos n
theorem fac_mono : ∀ {m n : Nat}, m ≤ n → fac m ≤ fac n := fun {m n} h => by
  induction h with
  | refl => exact Nat.le_refl _
  | step _ ih =>
    rw [Nat.succ_eq_add_one, fac_succ]
    exact Nat.le_trans ih (Nat.le_mul_of_pos_right _ (Nat.succ_pos _))
theorem fac20 : fac 20 < 2 ^ 64 := by decide +kernel
def rFac : List V → Hp → VK → Prop := fun vs H Q => ∃ n : Nat, vs = [.int (n : Int)] ∧ n ≤ 20000 ∧ Q (.int ((fac n : Nat) : Int)) H
section
variable {X : Cx}
theorem cr_factorial : CallR X (.builtin "math.factorial") rFac := by
  intro pins s σ H vs us Q I r h
  obtain ⟨n, rfl, hn, q⟩ := h
  cases r with
  | cons ru rt =>
    cases rt
    obtain ⟨t, rfl⟩ := ru
    refine PySem.W.mc_factorial (Int.natCast_nonneg n) (by omega) fun _ => ?_
    rw [Int.toNat_natCast]
    exact ⟨.int _, H, I.tok _, ⟨_, rfl⟩, q⟩
def rDivmod : List V → Hp → VK → Prop := fun xs H Q => ∃ i j, xs = [.int i, .int j] ∧ CDivP i j ∧ ∀ p, H p = none → Q (.ref p) (upd H p (.tup [.int (i / j), .int (i % j)]))
theorem call_divmodR : CallR X (.builtin "divmod") rDivmod := call_divmodW
end
section
variable {K : PySem.W.Frag} {σ : L2.St} {H : Hp} {ta tb te tl : TE} {D : Ends} {tu tz : TS}
theorem ev_fac {n : Nat} (h : Ev ta σ H (.int (n : Int))) (hn : n ≤ 20000) : Ev (tCB rFac (tCons ta tNil)) σ H (.int ((fac n : Nat) : Int)) := fun H1 e Q q => h H1 e _ fun H2 e2 => ⟨n, rfl, hn, q H2 e2⟩
theorem divp_small {i j : Int} (h : 0 < j) (hj : j.natAbs < 2 ^ 8000) : CDivP i j := ⟨h, PyProof.noPylong_of_log2 (by
  have h2 := (Nat.log2_lt (n := j.natAbs) (k := 8000) (by omega)).mpr hj
  omega)⟩
theorem eu_divmod {a b : Nat} (h : Ev ta σ H (.int (a : Int))) (h2 : Ev tb σ H (.int (b : Int))) (hb : 0 < b) (hb2 : b < 2 ^ 8000) : EvU (tCB rDivmod (tCons ta (tCons tb tNil))) σ H [.int ((a / b : Nat) : Int), .int ((a % b : Nat) : Int)] := fun H1 e Q q =>
  h H1 e _ fun H2 e2 => h2 H2 (e.trans e2) _ fun H3 e3 => ⟨a, b, rfl, divp_small (by omega) (by rw [Int.natAbs_natCast]; exact hb2), fun p hp => q p _ (fresh_back (e2.trans e3) hp) ((e2.trans e3).trans (Ex.new hp)) (by rw [upd_same, Int.natCast_ediv, Int.natCast_emod])⟩
end
end Kit

set_option Elab.async false
set_option linter.all false
set_option maxRecDepth 100000
set_option maxHeartbeats 4000000
namespace Kit
open PySem PySem.Spec PyProof.Rows L2 Evl
section
variable {K : PySem.W.Frag} {σ : L2.St} {H : Hp} {ta tb te tl : TE} {D : Ends} {tu tz : TS} {t : TT}
/-- for i in reversed(range(n)) -/
theorem s_forRev {j n : Nat} (h : Ev ta σ H (.int (n : Int))) (hn : n ≤ 40000) (Pv : Nat → L2.St → Hp → Prop) (h0 : ∀ H1, Ex H H1 → Pv 0 σ H1)
    (hs : ∀ (i : Nat) σ' H', i < n → Pv i σ' H' → tu { D with nx := Pv (i + 1), ct := Pv (i + 1), bk := D.nx } (σ'.set j (some (.int ((n - 1 - i : Nat) : Int)))) H') (hd : ∀ σ' H', Pv n σ' H' → D.nx σ' H') : tFor (iRevR (tRg1 ta)) (gName j) tu D σ H :=
  h H (Ex.refl H) _ fun H1 e => ⟨n, rfl, by
    have e0 : ((n : Int) - 0).toNat = n := by omega
    refine ⟨by omega, by omega, by omega, by omega, ?_⟩
    rw [e0]
    exact for_rangeC Pv (h0 H1 e) (fun i σ' H' hi p => by
      have e1 : (0 : Int) + (n : Int) - 1 + (i : Nat) * (-1) = ((n - 1 - i : Nat) : Int) := by omega
      rw [e1]
      exact hs i σ' H' hi p) hd⟩
theorem q_forRev {j n : Nat} (h : Ev ta σ H (.int (n : Int))) (hn : n ≤ 40000) (Pv : Nat → L2.St → Hp → Prop) (h0 : ∀ H1, Ex H H1 → Pv 0 σ H1)
    (hs : ∀ (i : Nat) σ' H', i < n → Pv i σ' H' → tu { D with nx := Pv (i + 1), ct := Pv (i + 1), bk := tz D } (σ'.set j (some (.int ((n - 1 - i : Nat) : Int)))) H') (hd : ∀ σ' H', Pv n σ' H' → tz D σ' H') : tSeq (tFor (iRevR (tRg1 ta)) (gName j) tu) tz D σ H := s_forRev (D := { D with nx := tz D }) h hn Pv h0 hs hd
/-- [a new tuple for i in range(lo, n)] -/
theorem elt_R2 {ta : TA} {j : Nat} {vs : List Nat} {lo n : Int} (f : Nat → List V) (h : EvA ta σ H [.int lo, .int n]) (hn : 0 ≤ lo ∧ lo ≤ 40000 ∧ -40000 ≤ n ∧ n ≤ 40000) (hw : ∀ x, wipe ((wipe σ vs).set j (some x)) vs = wipe σ vs)
    (he : ∀ (i : Nat) H1, Ex H H1 → lo + (i : Int) < n → EvU te ((wipe σ vs).set j (some (.int (lo + (i : Int))))) H1 (f i)) : EvLT (tLc (iRng2 ta) (gName j) tYes te vs) σ H ((List.range (n - lo).toNat).map f) := fun H0 e Q q => h H0 e _ fun H1 e1 => ⟨lo, n, rfl, ⟨by omega, by omega, by omega, by omega⟩, fun Dl hD =>
  lc_range (lo := lo) (n := (n - lo).toNat) (fun i H' => Ex H1 H' ∧ ∃ ws, H' Dl = some (.lst ws) ∧ TL H' ws ((List.range i).map f)) ⟨Ex.new hD, [], upd_same, .nil⟩ (fun i H' hi p => by
    obtain ⟨p1, ws, p2, p3⟩ := p
    show wipe ((wipe σ vs).set j (some (.int (lo + (i : Int))))) vs = wipe σ vs ∧ te ((wipe σ vs).set j (some (.int (lo + (i : Int))))) H' fun y H4 => ∃ acc, H4 Dl = some (.lst acc) ∧ acc.length < sizeLine ∧ _
    refine ⟨hw _, he i H1 (e.trans e1) (by omega) H' p1 _ fun p H4 hp e4 h4 => ⟨ws, e4 Dl _ p2, sz_lt (by
      have := p3.len
      simp at this
      omega), Ex.mut (p1.trans e4) hD, ws ++ [.ref p], upd_same, ?_⟩⟩
    rw [List.range_succ, List.map_append]
    exact ((p3.ex e4).app ⟨p, rfl, h4⟩).upd (e4 Dl _ p2)) (fun H' p => by
      obtain ⟨p1, ws, p2, p3⟩ := p
      exact q Dl ws H' (fresh_back e1 hD) (e1.trans p1) p2 p3)⟩
end
end Kit

set_option Elab.async false
set_option linter.all false
set_option maxRecDepth 100000
set_option maxHeartbeats 4000000
namespace Kit
open PySem PySem.Spec PyProof.Rows L2 Evl
/-! ### choosing -/
def cho : Nat → Nat → Nat
  | _, 0 => 1
  | 0, _ + 1 => 0
  | n + 1, k + 1 => cho n k + cho n (k + 1)
theorem fac_zero : fac 0 = 1 := rfl
theorem cho_zero (n : Nat) : cho n 0 = 1 := by cases n <;> rfl
theorem cho_gt : ∀ {n k : Nat}, n < k → cho n k = 0
  | 0, _ + 1, _ => rfl
  | n + 1, k + 1, h => by
    show cho n k + cho n (k + 1) = 0
    rw [cho_gt (by omega : n < k), cho_gt (by omega : n < k + 1)]
theorem cho_self : ∀ n : Nat, cho n n = 1
  | 0 => rfl
  | n + 1 => by
    show cho n n + cho n (n + 1) = 1
    rw [cho_self n, cho_gt (Nat.lt_succ_self n)]
theorem cho_next : ∀ n k : Nat, cho n (k + 1) * (k + 1) = cho n k * (n - k)
  | 0, k => by
    rw [Nat.zero_sub, Nat.mul_zero]
    show 0 * (k + 1) = 0
    rw [Nat.zero_mul]
  | n + 1, 0 => by
    have a := cho_next n 0
    show (cho n 0 + cho n 1) * (0 + 1) = cho (n + 1) 0 * (n + 1 - 0)
    rw [cho_zero, cho_zero] at *
    simp only [Nat.zero_add, Nat.mul_one, Nat.sub_zero, Nat.one_mul] at *
    omega
  | n + 1, k + 1 => by
    have a := cho_next n (k + 1)
    have b := cho_next n k
    show (cho n (k + 1) + cho n (k + 2)) * (k + 1 + 1) = (cho n k + cho n (k + 1)) * (n + 1 - (k + 1))
    rcases Nat.lt_or_ge k n with h | h
    · obtain ⟨d, rfl⟩ : ∃ d, n = k + 1 + d := ⟨n - (k + 1), by omega⟩
      rw [show k + 1 + d - (k + 1) = d by omega] at a
      rw [show k + 1 + d - k = d + 1 by omega] at b
      rw [show k + 1 + d + 1 - (k + 1) = d + 1 by omega]
      generalize cho (k + 1 + d) (k + 1) = x at *
      generalize cho (k + 1 + d) k = y at *
      generalize cho (k + 1 + d) (k + 1 + 1) = z at *
      grind
    · rw [show n + 1 - (k + 1) = 0 by omega, cho_gt (by omega : n < k + 1), cho_gt (by omega : n < k + 2)]
      simp
/-- k of n: n! = C(n, k) k! (n - k)! -/
theorem cho_fac : ∀ {n k : Nat}, k ≤ n → cho n k * (fac k * fac (n - k)) = fac n
  | n, 0, _ => by
    rw [cho_zero, Nat.sub_zero]
    rw [fac_zero]
    omega
  | n, k + 1, h => by
    have ih := cho_fac (n := n) (k := k) (by omega)
    have a := cho_next n k
    rw [show n - k = (n - (k + 1)) + 1 by omega, fac_succ] at ih
    rw [show n - k = n - (k + 1) + 1 by omega] at a
    rw [fac_succ]
    generalize fac (n - (k + 1)) = y at *
    generalize fac n = v at *
    generalize cho n (k + 1) = z at *
    generalize cho n k = x at *
    generalize fac k = u at *
    generalize n - (k + 1) = d at *
    have e : z * (u * (k + 1) * y) = z * (k + 1) * (u * y) := by grind
    rw [e, a, ← ih]
    grind
theorem cho_pos {n k : Nat} (h : k ≤ n) : 1 ≤ cho n k := by
  have a := cho_fac h
  have b := fac_pos n
  rcases Nat.eq_zero_or_pos (cho n k) with z | z
  · rw [z, Nat.zero_mul] at a
    omega
  · exact z
theorem cho_le : ∀ n k : Nat, cho n k ≤ 2 ^ n
  | n, 0 => by rw [cho_zero]; exact Nat.one_le_two_pow
  | 0, _ + 1 => Nat.zero_le _
  | n + 1, k + 1 => by
    have a := cho_le n k
    have b := cho_le n (k + 1)
    rw [Nat.pow_succ]
    show cho n k + cho n (k + 1) ≤ _
    omega
theorem fp_fac (n : Nat) : ∀ k : Nat, k ≤ n → Builtin.Math.fallingProduct (n : Int) k * (fac (n - k) : Int) = (fac n : Int)
  | 0, _ => by
    rw [PySem.W.mc_fp_zero, Nat.sub_zero, Int.one_mul]
  | k + 1, h => by
    have ih := fp_fac n k (by omega)
    rw [show n - k = n - (k + 1) + 1 by omega, fac_succ] at ih
    rw [PySem.W.mc_fp_succ, ← ih, show (n : Int) - (k : Int) = ((n - (k + 1) + 1 : Nat) : Int) by omega]
    push_cast
    generalize (fac (n - (k + 1)) : Int) = x
    generalize Builtin.Math.fallingProduct (n : Int) k = y
    grind
theorem fp_self (n : Nat) : Builtin.Math.fallingProduct (n : Int) n = (fac n : Int) := by
  have := fp_fac n n (Nat.le_refl _)
  rw [Nat.sub_self, fac_zero] at this
  simpa using this
theorem cho_sym {n k : Nat} (h : k ≤ n) : cho n k = cho n (n - k) := by
  have a := cho_fac h
  have b := cho_fac (n := n) (k := n - k) (by omega)
  rw [show n - (n - k) = k by omega, Nat.mul_comm (fac (n - k))] at b
  have p : 0 < fac k * fac (n - k) := Nat.mul_pos (fac_pos _) (fac_pos _)
  exact Nat.eq_of_mul_eq_mul_right p (a.trans b.symm)
theorem comb_cho (n k : Nat) : PySem.W.mcComb (n : Int) (k : Int) = (cho n k : Int) := by
  by_cases h : k ≤ n
  · have key : ∀ m : Nat, m ≤ n → Builtin.Math.fallingProduct (n : Int) m / Builtin.Math.fallingProduct (m : Int) m = (cho n m : Int) := fun m hm => by
      have a := fp_fac n m hm
      have b := cho_fac hm
      have f := fac_pos m
      have g := fac_pos (n - m)
      rw [fp_self]
      have e : Builtin.Math.fallingProduct (n : Int) m = (cho n m : Int) * (fac m : Int) := by
        refine Int.eq_of_mul_eq_mul_right (a := (fac (n - m) : Int)) (by omega) ?_
        rw [a, ← b]
        push_cast
        grind
      rw [e]
      exact Int.mul_ediv_cancel _ (by omega)
    rw [PySem.W.mcComb_at (m := ((min k (n - k) : Nat) : Int)) (by omega) (by omega) (by omega), Int.toNat_natCast, key _ (by omega)]
    rcases Nat.le_total k (n - k) with q | q
    · rw [Nat.min_eq_left q]
    · rw [Nat.min_eq_right q, ← cho_sym h]
  · rw [PySem.W.mcComb_above (by omega), cho_gt (by omega)]
    rfl
def prm (n k : Nat) : Int := PySem.W.mcPerm (n : Int) (k : Int)
theorem prm_fac {n k : Nat} (h : k ≤ n) : prm n k * (fac (n - k) : Int) = (fac n : Int) := by
  unfold prm
  rw [PySem.W.mcPerm_at (by omega), Int.toNat_natCast]
  exact fp_fac n k h
theorem prm_pos {n k : Nat} (h : k ≤ n) : 1 ≤ prm n k := PySem.W.mcPerm_pos (by omega) (by omega)
def rComb : List V → Hp → VK → Prop := fun vs H Q => ∃ n k : Nat, vs = [.int (n : Int), .int (k : Int)] ∧ n ≤ 10000 ∧ Q (.int (cho n k : Int)) H
def rPerm : List V → Hp → VK → Prop := fun vs H Q => ∃ n k : Nat, vs = [.int (n : Int), .int (k : Int)] ∧ n ≤ 10000 ∧ k ≤ 10000 ∧ Q (.int (prm n k)) H
section
variable {X : Cx}
theorem cr_comb : CallR X (.builtin "math.comb") rComb := by
  intro pins s σ H vs us Q I r h
  obtain ⟨n, k, rfl, hn, q⟩ := h
  cases r with
  | cons ru r2 =>
    cases r2 with
    | cons rv rt =>
      cases rt
      obtain ⟨t, rfl⟩ := ru
      obtain ⟨u, rfl⟩ := rv
      refine PySem.W.mc_comb_v (Int.natCast_nonneg n) (Int.natCast_nonneg k) (by omega) (by omega) (comb_cho n k) ?_
      exact ⟨.int _, H, I.tok _, ⟨_, rfl⟩, q⟩
theorem cr_perm : CallR X (.builtin "math.perm") rPerm := by
  intro pins s σ H vs us Q I r h
  obtain ⟨n, k, rfl, hn, hk, q⟩ := h
  cases r with
  | cons ru r2 =>
    cases r2 with
    | cons rv rt =>
      cases rt
      obtain ⟨t, rfl⟩ := ru
      obtain ⟨u, rfl⟩ := rv
      refine PySem.W.mc_perm_v (Int.natCast_nonneg n) (Int.natCast_nonneg k) (by omega) (by omega) rfl ?_
      exact ⟨.int _, H, I.tok _, ⟨_, rfl⟩, q⟩
end
section
variable {K : PySem.W.Frag} {σ : L2.St} {H : Hp} {ta tb te tl : TE} {D : Ends} {tu tz : TS}
theorem ev_comb {n k : Nat} (h : Ev ta σ H (.int (n : Int))) (h2 : Ev tb σ H (.int (k : Int))) (hn : n ≤ 10000) : Ev (tCB rComb (tCons ta (tCons tb tNil))) σ H (.int (cho n k : Int)) := fun H1 e Q q => h H1 e _ fun H2 e2 => h2 H2 (e.trans e2) _ fun H3 e3 => ⟨n, k, rfl, hn, q H3 (e2.trans e3)⟩
theorem ev_perm {n k : Nat} (h : Ev ta σ H (.int (n : Int))) (h2 : Ev tb σ H (.int (k : Int))) (hn : n ≤ 10000) (hk : k ≤ 10000) : Ev (tCB rPerm (tCons ta (tCons tb tNil))) σ H (.int (prm n k)) := fun H1 e Q q => h H1 e _ fun H2 e2 => h2 H2 (e.trans e2) _ fun H3 e3 => ⟨n, k, rfl, hn, hk, q H3 (e2.trans e3)⟩
/-- for x, y in zip(xs, ys): the pair is a new tuple -/
theorem s_forZip {ta : TA} {i j n : Nat} {a b : Addr} {xs ys : List V} (h : EvA ta σ H [.ref a, .ref b]) (hx : SqL K H a xs) (hy : SqL K H b ys) (hn : n = min xs.length ys.length) (Pv : Nat → L2.St → Hp → Prop) (h0 : ∀ H1, Ex H H1 → Pv 0 σ H1) (hl : ∀ k σ' H', k ≤ n → Pv k σ' H' → SqL K H' a xs ∧ SqL K H' b ys)
    (hs : ∀ k x y σ' H' H2, xs[k]? = some x → ys[k]? = some y → Pv k σ' H' → Ex H' H2 → tu { D with nx := Pv (k + 1), ct := Pv (k + 1), bk := D.nx } ((σ'.set i (some x)).set j (some y)) H2) (hd : ∀ σ' H', Pv n σ' H' → D.nx σ' H') :
    tFor (iZip K ta) (gTup K 2 (gCons (gName i) (gCons (gName j) gNil))) tu D σ H := h H (Ex.refl H) _ fun H1 e => ⟨a, b, xs, ys, rfl, ex_l e hx, ex_l e hy, by
  refine for_it (walk_zip (n := n) hn) Pv (h0 H1 e) (fun k σ' H' hk p => hl k σ' H' hk p) ?_ hd
  rintro k v σ' Hh H2 hk p ⟨T, x, y, rfl, nT, rfl, g1, g2⟩
  exact ⟨T, [x, y], rfl, st_of upd_same, rfl, x, [y], rfl, y, [], rfl, rfl, hs k x y σ' Hh _ g1 g2 p (Ex.new nT)⟩⟩
theorem q_forZip {ta : TA} {i j n : Nat} {a b : Addr} {xs ys : List V} (h : EvA ta σ H [.ref a, .ref b]) (hx : SqL K H a xs) (hy : SqL K H b ys) (hn : n = min xs.length ys.length) (Pv : Nat → L2.St → Hp → Prop) (h0 : ∀ H1, Ex H H1 → Pv 0 σ H1) (hl : ∀ k σ' H', k ≤ n → Pv k σ' H' → SqL K H' a xs ∧ SqL K H' b ys)
    (hs : ∀ k x y σ' H' H2, xs[k]? = some x → ys[k]? = some y → Pv k σ' H' → Ex H' H2 → tu { D with nx := Pv (k + 1), ct := Pv (k + 1), bk := tz D } ((σ'.set i (some x)).set j (some y)) H2) (hd : ∀ σ' H', Pv n σ' H' → tz D σ' H') :
    tSeq (tFor (iZip K ta) (gTup K 2 (gCons (gName i) (gCons (gName j) gNil))) tu) tz D σ H := s_forZip (D := { D with nx := tz D }) h hx hy hn Pv h0 hl hs hd
/-- [e for x, y in zip(xs, ys)], xs an old list, ys a new one -/
theorem el_zipO {i j : Nat} {vs : List Nat} {a : Addr} {xs ys : List V} (F : V → V → V) (h : Ev ta σ H (.ref a)) (hx : SqL K H a xs) (h2 : EvL tb σ H ys) (hl : xs.length = ys.length) (hz : xs.length ≤ 40000) (hw : ∀ x y, wipe (((wipe σ vs).set i (some x)).set j (some y)) vs = wipe σ vs)
    (he : ∀ (n : Nat) x y H1, Ex H H1 → xs[n]? = some x → ys[n]? = some y → Ev te (((wipe σ vs).set i (some x)).set j (some y)) H1 (F x y)) :
    EvL (tLc (iZip K (tCons ta (tCons tb tNil))) (gTup K 2 (gCons (gName i) (gCons (gName j) gNil))) tYes te vs) σ H (List.zipWith F xs ys) := fun H0 e Q q =>
  h H0 e _ fun H1 e1 => h2 H1 (e.trans e1) _ fun b H2 nb e2 hb => by
    have := el_zip (K := K) (H := H2) (ta := fun _ H' R => R [.ref a, .ref b] H') (te := te) (vs := vs) F (fun H3 _ Q q => q H3 (Ex.refl _)) (ex_l (e.trans (e1.trans e2)) hx) (sq_of hb) hl hz hw fun n x y H3 e3 g1 g2 => he n x y H3 (e.trans (e1.trans (e2.trans e3))) g1 g2
    exact this H2 (Ex.refl _) Q fun p H3 hp e3 h3 => q p H3 (fresh_back (e1.trans e2) hp) (e1.trans (e2.trans e3)) h3
end
end Kit

set_option Elab.async false
set_option linter.all false
set_option maxRecDepth 100000
set_option maxHeartbeats 4000000
namespace Kit
open PySem PySem.Spec PyProof.Rows L2 Evl
theorem meets_enum_new1 {v : Value} {o : Obj} {H : Heap → Prop} (B : Begins v o H) :
    Meets (Builtin.«enumerate.__new__» ⟨[.type "enumerate", v], []⟩) (fun _ R s => H s.heap ∧
      R (.ok (.ret (.ref (s.heap.push o).objs.size))) { s with heap := (s.heap.push o).push { cls := .type "enumerate", data := .fields #[.none, .bool false, .ref s.heap.objs.size, rawInt 0, .none, .none] } }) :=
  .of_wp fun prog w A R s h => by
    obtain ⟨hp, g, d, tk, os⟩ := s; obtain ⟨h1, h⟩ := h
    have hsub := sub_enumerate
    have q1 : ∀ {A' : Around} {E : Value → Shared → Prop} {Q : Value → Shared → Prop}, Q (.ref hp.objs.size) ⟨hp.push o, g, d, tk, os⟩ → wpAny (model prog w) A' (pyIter v) Q E ⟨hp, g, d, tk, os⟩ :=
      fun q => B.iter prog w _ _ ⟨hp, g, d, tk, os⟩ _ h1 q
    wp_walk using q1
    refine wpAny_stack_any fun st => wpAny_pure ?_
    split
    · rename_i c _ _ _ _ _
      cases (c == Value.type "enumerate")
      · wp_walk using q1
        exact ⟨_, rfl, h⟩
      · wp_walk using q1
        exact ⟨_, rfl, h⟩
    · wp_walk using q1
      exact ⟨_, rfl, h⟩
section
variable {prog : Program} {w : World} {A : Around} {E : Value → Shared → Prop} {s : Shared}
theorem enum_begins1 {v : Value} {o : Obj} {H : Heap → Prop} {Q : Value → Shared → Prop} (B : Begins v o H) (h1 : H s.heap)
    (h : ∀ h', IsEnum h' (s.heap.objs.size + 1) s.heap.objs.size 0 .none → h'.get? s.heap.objs.size = some o → h'.objs.size = s.heap.objs.size + 2 →
      (∀ b o, s.heap.get? b = some o → h'.get? b = some o) → Q (.ref (s.heap.objs.size + 1)) { s with heap := h' }) :
    wpAny (model prog w) A (call (.type "enumerate") [v]) Q E s := by
  refine callType_new F.called_enumerate (by decide) (F.typeCall_enumerate_1 _) (F.newCall_enumerate_1 _) (fun obj => F.args_object_init_2 obj _) F.entry_enumerate_new
    (meets_enum_new1 B) ⟨h1, ?_⟩
  have hz : (s.heap.push o).objs.size = s.heap.objs.size + 1 := Heap.size_push ..
  show _ ∧ _
  rw [hz]
  have he : IsEnum ((s.heap.push o).push { cls := .type "enumerate", data := .fields #[.none, .bool false, .ref s.heap.objs.size, rawInt 0, .none, .none] }) (s.heap.objs.size + 1) s.heap.objs.size 0 .none := by
    have := Heap.get?_push_size (s.heap.push o) (o := { cls := .type "enumerate", data := .fields #[.none, .bool false, .ref s.heap.objs.size, rawInt 0, .none, .none] }) rfl
    rw [hz] at this; exact this
  refine ⟨⟨_, he, rfl⟩, h _ he (Heap.get?_push_of_some _ (Heap.get?_push_size _ B.free)) (by rw [Heap.size_push, hz]) fun b o x => Heap.get?_push_of_some _ (Heap.get?_push_of_some _ x)⟩
end
end Kit

set_option Elab.async false
set_option linter.all false
set_option maxRecDepth 100000
set_option maxHeartbeats 4000000
namespace Kit
open PySem PySem.Spec PyProof.Rows L2 Evl
/-- the tuple at a, each item in a new pair -/
def IteT (K : PySem.W.Frag) (a : Addr) : It :=
  ⟨fun i H => ∃ (xs : List V) (x : V), SqT K H a xs ∧ xs[i]? = some x, fun i H v H' => ∃ T x, v = .ref T ∧ H T = none ∧ H' = upd H T (.tup [.int (i : Nat), x]) ∧ ∀ xs, SqT K H a xs → xs[i]? = some x, fun i H => ∃ xs : List V, SqT K H a xs ∧ xs.length = i⟩
theorem enum_ne {h : Heap} {e it t : Addr} {i : Int} {old : Value} {vs : Array Value} (he : IsEnum h e it i old) (ht : h.IsTuple t vs) : e ≠ t := fun z => by
  subst z
  obtain ⟨o, ho, hc, _⟩ := ht
  have he' : h.get? e = _ := he
  rw [he'] at ho
  cases ho
  exact absurd hc (by show ¬ (Value.type "enumerate" = Value.type "tuple"); decide +kernel)
theorem turn_enumT {P : Program} {w : World} {K : PySem.W.Frag} {elts : List Expr} {kk : Nat} {tpos : Pos} (a e it : Addr) :
    Turn P w K (.Tuple elts kk tpos) (IteT K a) [e, it] e (fun i h => (∃ old, IsEnum h e it ((i : Nat) : Int) old) ∧ h.IsTupleIter it a i ∧ e ≠ it) where
  mem := by simp
  obj := fun i h st b hb => by
    obtain ⟨⟨old, he⟩, ⟨o, ho, hc, hd⟩, _⟩ := st
    have e' : b = e ∨ b = it := by simpa using hb
    rcases e' with z | z
    · rw [z]; exact ⟨_, he, fun v q => nomatch q⟩
    · rw [z]; exact ⟨o, ho, fun v q => by rw [hd] at q; cases q⟩
  keep := fun i h h' st k => by
    obtain ⟨⟨old, he⟩, ⟨o, ho, hr⟩, hne⟩ := st
    exact ⟨⟨old, k e (by simp) _ he⟩, ⟨o, k it (by simp) o ho, hr⟩, hne⟩
  item := by
    intro X hP hw hK hc i pins s σ H E I hf st hg
    subst hP hw hK
    obtain ⟨⟨old, he⟩, hit, hne⟩ := st
    obtain ⟨xs, x, hq, hx⟩ := hg
    obtain ⟨its, rv, p, hz⟩ := I.tuple hq
    obtain ⟨u, hu, ru⟩ := rv.get hx
    have hel : e < s.heap.objs.size := Heap.lt_size he
    have hil : it < s.heap.objs.size := by obtain ⟨_, q, _⟩ := hit; exact Heap.lt_size q
    have pT : s.heap.IsTuple a its.toArray := p
    have nea : e ≠ a := enum_ne he pT
    have nit : a ≠ it := fun z => by
      subst z
      obtain ⟨o, ho, hc', _⟩ := pT
      obtain ⟨o', ho', hc'', _⟩ := hit
      rw [ho] at ho'
      cases ho'
      rw [hc'] at hc''
      exact absurd hc'' (by decide +kernel)
    have hlt : i < its.toArray.size := by
      have := (List.getElem?_eq_some_iff.mp hu).1
      simpa using this
    refine wpAny_pyNext_enum_itemD (Draws.tuple (by exact I.ok.hd hc) it a nit its.toArray) he ⟨hit, pT⟩ hlt hne (by simp [hne, nea]) fun x' h' tk hx' ho hst' hT hsz hk => ?_
    have eu : u = x' := by
      have : its[i]? = some x' := by simpa using hx'
      rw [hu] at this
      exact Option.some.inj this
    subst eu
    refine ⟨_, rfl, wpAny_letOwnedTupleGo_enum (s := { s with heap := h', toks := tk + 1 }) ho fun h'' he' sb => ?_⟩
    have hT2 : h''.get? s.heap.objs.size = some { cls := .type "tuple", data := .seq #[.int i tk, u] } := (sb.2 _ (Nat.ne_of_gt hel)).trans hT
    have new : ObjOk X.prog X.w (upd H s.heap.objs.size (.tup [.int (i : Nat), x])) h'' s.heap.objs.size (.tup [.int (i : Nat), x]) :=
      ⟨by show 2 ≤ sizeLine; decide, [.int i tk, u], .cons ⟨_, rfl⟩ (.cons ru .nil), ⟨_, hT2, rfl, _, rfl⟩⟩
    have I1 : Inv X pins σ (upd H s.heap.objs.size (.tup [.int (i : Nat), x])) { s with heap := h'', toks := tk + 1 } :=
      I.turnedNew (ch := [e, it]) (fun b ob hb q => (sb.2 b (fun z => hb (by simp [z]))).trans (hk b ob (fun z => hb (by simp [z])) (fun z => hb (by simp [z])) q)) hf (Nat.le_refl _) new
    refine ⟨.ref s.heap.objs.size, _, I1, rfl, ⟨_, x, rfl, I.hok.fresh (Nat.le_refl _), rfl, fun ys hy => by rw [I.tuple_inj hy hq]; exact hx⟩, ⟨⟨u, ?_⟩, ?_, hne⟩, fun b hb => ?_⟩
    · have e1 : ((i + 1 : Nat) : Int) = (i : Int) + 1 := by omega
      rw [e1]; exact he'
    · obtain ⟨o, q, r⟩ := hst'.1
      exact ⟨o, (sb.2 it (Ne.symm hne)).trans q, r⟩
    · have hb' : b < s.heap.objs.size := by
        have e' : b = e ∨ b = it := by simpa using hb
        rcases e' with z | z
        · rw [z]; exact hel
        · rw [z]; exact hil
      rw [upd_ne (Nat.ne_of_lt hb')]
      exact (hf b hb).1
  done := by
    intro X hP hw hK hc i pins s σ H E I hf st hg
    subst hP hw hK
    obtain ⟨⟨old, he⟩, hit, hne⟩ := st
    obtain ⟨xs, hq, hx⟩ := hg
    obtain ⟨its, rv, p, hz⟩ := I.tuple hq
    obtain ⟨f0, f1, f2, f3, f4, f5⟩ := hf it (by simp)
    have hl := rv.length
    have pT : s.heap.IsTuple a its.toArray := p
    have nit : a ≠ it := fun z => by
      subst z
      obtain ⟨o, ho, hc', _⟩ := pT
      obtain ⟨o', ho', hc'', _⟩ := hit
      rw [ho] at ho'
      cases ho'
      rw [hc'] at hc''
      exact absurd hc'' (by decide +kernel)
    have hn : its.toArray.size = i := by
      rw [← hx, hl]
      simp
    subst hn
    exact wpAny_pyNext_enum_endD (Draws.tuple (by exact I.ok.hd hc) it a nit its.toArray) he ⟨hit, pT⟩ fun h' eb => ⟨rfl, I.turned (t' := s.toks) (fun b o hb q => eb b o hb q) f0 f1 f3 f4 f5⟩
  self := fun A i s Q E st h => let ⟨⟨_, he⟩, _⟩ := st; wpAny_pyIter_enum he h
def iEnumS (K : PySem.W.Frag) (ta : TA) : TI := fun σ H R => ta σ H fun vs H1 => ∃ a xs, vs = [.ref a] ∧ ((SqL K H1 a xs ∧ R (Ite K a) H1) ∨ (SqT K H1 a xs ∧ R (IteT K a) H1))
theorem pi_enumS {X : Cx} {e : Expr} {ta : TA} {p pos tpos : Pos} {elts : List Expr} {kk : Nat} (hg : Gl X "enumerate") (hm : X.mg "enumerate" = none) (ha : PA X [e] ta) (hs : starEach [e] X.env = [(false, eval e X.env)] := by rfl) :
    PI X (.Tuple elts kk tpos) (.Call (.Name "enumerate" p) [e] [] pos) (iEnumS X.K ta) := by
  refine ⟨fun pins s σ H R I h => ?_⟩
  refine Call_ (ld_blt I hg hm boot_enumerate (PyProof.Rows.callWith_type1 (thn (ha.run pos pins s σ H _ I h) fun us s1 ⟨vs, H1, I1, r1, q1⟩ => ?_) hs rfl))
  obtain ⟨a, xs, ex, q1⟩ := q1
  subst ex
  cases r1 with
  | cons r rr =>
    cases rr
    cases r
    have fin : ∀ (h' : Heap) (itx : Addr), itx = s1.heap.objs.size → (∀ b o, s1.heap.get? b = some o → h'.get? b = some o) → ∀ b ∈ [s1.heap.objs.size + 1, itx], FpOk X pins H1 b := fun h' itx ei hk b hb => by
      have hle : s1.heap.objs.size ≤ b := by
        have e' : b = s1.heap.objs.size + 1 ∨ b = itx := by simpa using hb
        rcases e' with z | z
        · rw [z]; exact Nat.le_add_right _ _
        · rw [z, ei]; exact Nat.le_refl _
      exact I1.fpOk hle (I1.hok.fresh hle)
    rcases q1 with ⟨hq, q⟩ | ⟨hq, q⟩
    · obtain ⟨its, rv, p', hz⟩ := I1.list hq
      refine call_enumerate_list p'.isList fun h' he hit hsz hk => wpAny_pyIter_enum he ?_
      have I2 : Inv X pins σ H1 { s1 with heap := h' } := I1.kept (t' := s1.toks) hk
      exact ⟨s1.heap.objs.size + 1, [s1.heap.objs.size + 1, s1.heap.objs.size], _, _, H1, rfl, I2, turn_enum a (s1.heap.objs.size + 1) s1.heap.objs.size, ⟨⟨.none, he⟩, hit, Nat.succ_ne_self _⟩, fin h' _ rfl hk, q⟩
    · obtain ⟨its, rv, p', hz⟩ := I1.tuple hq
      refine enum_begins1 (begins_tuple a its.toArray) (show s1.heap.IsTuple a its.toArray from p') fun h' he hit hsz hk => wpAny_pyIter_enum he ?_
      have I2 : Inv X pins σ H1 { s1 with heap := h' } := I1.kept (t' := s1.toks) hk
      exact ⟨s1.heap.objs.size + 1, [s1.heap.objs.size + 1, s1.heap.objs.size], _, _, H1, rfl, I2, turn_enumT a (s1.heap.objs.size + 1) s1.heap.objs.size, ⟨⟨.none, he⟩, ⟨_, hit, rfl, rfl⟩, Nat.succ_ne_self _⟩, fin h' _ rfl hk, q⟩
theorem walk_enumT {K : PySem.W.Frag} {a : Addr} {xs : List V} : Walk (IteT K a) xs.length (fun H => SqT K H a xs) (YPair (fun i => some (.int (i : Nat))) (fun i => xs[i]?)) := by
  refine ⟨fun i _ hi q => ⟨xs, xs[i], q, by simp [hi]⟩, fun _ q => ⟨xs, q, rfl⟩, fun i H v H' _ q y => ?_⟩
  obtain ⟨T, x, h1, h2, h3, h4⟩ := y
  exact ⟨T, .int (i : Nat), x, h1, h2, h3, rfl, h4 xs q⟩
section
variable {K : PySem.W.Frag} {σ : L2.St} {H H' : Hp} {D : Ends} {tu tz : TS}
/-- for i, x in enumerate(xs), xs a list or a tuple -/
theorem s_forEnS {ta : TA} {i j : Nat} {a : Addr} {xs : List V} (h : EvA ta σ H [.ref a]) (G : Hp → Prop) (hG : (∀ H, G H → SqL K H a xs) ∨ (∀ H, G H → SqT K H a xs)) (hx : ∀ H1, Ex H H1 → G H1) (Pv : Nat → L2.St → Hp → Prop) (h0 : ∀ H1, Ex H H1 → Pv 0 σ H1) (hl : ∀ n σ' H', n ≤ xs.length → Pv n σ' H' → G H')
    (hs : ∀ n x σ' H' H2, xs[n]? = some x → Pv n σ' H' → Ex H' H2 → tu { D with nx := Pv (n + 1), ct := Pv (n + 1), bk := D.nx } ((σ'.set i (some (.int (n : Int)))).set j (some x)) H2) (hd : ∀ σ' H', Pv xs.length σ' H' → D.nx σ' H') :
    tFor (iEnumS K ta) (gTup K 2 (gCons (gName i) (gCons (gName j) gNil))) tu D σ H := h H (Ex.refl H) _ fun H1 e => by
  have turn : ∀ n v σ' Hh H2, n < xs.length → Pv n σ' Hh → YPair (fun i => some (.int (i : Nat))) (fun i => xs[i]?) n Hh v H2 → gTup K 2 (gCons (gName i) (gCons (gName j) gNil)) v σ' H2 fun σ2 H3 => tu { D with nx := Pv (n + 1), ct := Pv (n + 1), bk := D.nx } σ2 H3 := by
    rintro n v σ' Hh H2 hn p ⟨T, x, y, rfl, nT, rfl, g1, g2⟩
    have ex : V.int (n : Nat) = x := Option.some.inj g1
    subst ex
    exact ⟨T, [.int (n : Nat), y], rfl, st_of upd_same, rfl, _, [y], rfl, y, [], rfl, rfl, hs n y σ' Hh _ g2 p (Ex.new nT)⟩
  rcases hG with hG | hG
  · exact ⟨a, xs, rfl, .inl ⟨hG _ (hx H1 e), for_it walk_enum Pv (h0 H1 e) (fun n σ' H' hn p => hG _ (hl n σ' H' hn p)) (fun n v σ' Hh H2 => turn n v σ' Hh H2) hd⟩⟩
  · exact ⟨a, xs, rfl, .inr ⟨hG _ (hx H1 e), for_it walk_enumT Pv (h0 H1 e) (fun n σ' H' hn p => hG _ (hl n σ' H' hn p)) (fun n v σ' Hh H2 => turn n v σ' Hh H2) hd⟩⟩
end
end Kit

set_option Elab.async false
set_option linter.all false
set_option maxRecDepth 100000
set_option maxHeartbeats 4000000
namespace Kit
open PySem PySem.Spec PyProof.Rows L2 Evl
/-! list(range(a, b, c)) -/
def rgC (i c : Int) (n : Nat) : List V := (List.range n).map fun k => V.int (i + (k : Nat) * c)
def PRgC (X : Cx) (e : Expr) (t : L2.St → Hp → (Int → Int → Int → Hp → Prop) → Prop) : Prop :=
  ∀ (pins : List (Addr × Obj)) (s : Shared) (σ : L2.St) (H : Hp) (Q : Int → Int → Int → Hp → Prop), Inv X pins σ H s → t σ H Q →
    wpAny (model X.prog X.w) X.A (eval e X.env) (fun x s' => ∃ r a b c t u v H', x = .ref r ∧ IsRange s'.heap r a b c t u v ∧ Inv X pins σ H' s' ∧ Q a b c H') X.xe s
def tRg3 (ta : TA) : L2.St → Hp → (Int → Int → Int → Hp → Prop) → Prop := fun σ H Q => ta σ H fun vs H1 => ∃ i j c, vs = [.int i, .int j, .int c] ∧ (c ≠ 0 ∧ c.natAbs < 1073741824) ∧ Q i j c H1
section
variable {X : Cx}
theorem prg_3 {a b c : Expr} {ta : TA} {p pos : Pos} (hg : Gl X "range") (hm : X.mg "range" = none) (ha : PA X [a, b, c] ta)
    (hs : starEach [a, b, c] X.env = (false, eval a X.env) :: starEach [b, c] X.env := by rfl) (hpl : (backTo pos (starEach [b, c] X.env)).any (·.1) = false := by rfl) : PRgC X (.Call (.Name "range" p) [a, b, c] [] pos) (tRg3 ta) := by
  intro pins s σ H Q I h
  refine Call_ (ld_blt I hg hm boot_range (PyProof.Rows.callWith_type1 (thn (ha.run pos pins s σ H _ I h) fun us s1 ⟨vs, H1, I1, r1, q1⟩ => ?_) hs hpl))
  obtain ⟨i, j, k, e, ⟨c0, c1⟩, q⟩ := q1
  subst e
  cases r1 with
  | cons r rr =>
    cases rr with
    | cons r' rr =>
      cases rr with
      | cons r'' rr =>
        cases rr
        obtain ⟨t, rfl⟩ := r
        obtain ⟨t', rfl⟩ := r'
        obtain ⟨t'', rfl⟩ := r''
        exact call_range_3 c0 ⟨_, i, j, k, _, _, _, H1, rfl, IsRange.new _ _ _ _ _ _ _, I1.kept fun b u e => Heap.get?_push_of_some _ e, q⟩ (.inl (PyProof.noPylong_small c1))
theorem vals_rgC {a c : Int} {n : Nat} {acc : Array Value} (h : ItemsOf (fun i v => ∃ t, v = .int (a + i * c) t) acc n) : Vals (rgC a c n) acc.toList := by
  have e : acc.toList.length = n := by rw [Array.length_toList]; exact h.1
  unfold rgC
  rw [← e]
  refine vals_of_get acc.toList _ fun j u hj => ?_
  obtain ⟨t, rfl⟩ := h.2 j u (by rw [← hj, Array.getElem?_toList])
  exact ⟨t, rfl⟩
def tLstRgC (te : L2.St → Hp → (Int → Int → Int → Hp → Prop) → Prop) : TE := fun σ H Q => te σ H fun a b c H1 => ∃ n : Nat, (Builtin.Range.small a b c = true ∧ Builtin.Range.rangeSize a b c = n ∧ n ≤ 2 ^ 24) ∧ ∀ q, H1 q = none → Q (.ref q) (upd H1 q (.lst (rgC a c n)))
theorem pe_listRgC {e : Expr} {te : L2.St → Hp → (Int → Int → Int → Hp → Prop) → Prop} {p pos : Pos} (hc : X.calm = true) (hg : Gl X "list") (hm : X.mg "list" = none) (he : PRgC X e te) (na : starEach [e] X.env = (false, eval e X.env) :: starEach [] X.env := by rfl) : PE X (.Call (.Name "list" p) [e] [] pos) (tLstRgC te) := by
  refine ⟨fun pins s σ H Q I h => ?_⟩
  refine Call_ (ld_blt I hg hm boot_list (PyProof.Rows.callWith_type1 (args_cons (thn (he pins s σ H _ I h) fun x s1 ⟨r, a, b, c, t, u, v, H1, ex, hr, I1, n, ⟨ok1, ok2, ok3⟩, q⟩ => args_nil ?_) na) na))
  subst ex
  refine call_list_range (n := n) (I1.ok.hd hc) hr ok1 ok2 ok3 fun h' tk acc c' hk e' hi => ?_
  refine ⟨.ref s1.heap.objs.size, upd H1 s1.heap.objs.size (.lst (rgC a c n)), I1.laid hk (Nat.le_refl _) (show ObjOk X.prog X.w _ _ _ (.lst (rgC a c n)) from ⟨?_, acc.toList, c', vals_rgC hi, ?_⟩), rfl, q _ (I1.hok.fresh (Nat.le_refl _))⟩
  · unfold rgC
    rw [List.length_map, List.length_range, sizeLine_eq]
    omega
  · rw [Array.toArray_toList]; exact e'
end
theorem el_down {σ : L2.St} {H : Hp} {ta : TA} {i j : Int} (h : EvA ta σ H [.int i, .int j, .int (-1)]) (hi : 0 ≤ i ∧ i ≤ 1000) (hj : -1 ≤ j ∧ j ≤ 1000) : EvL (tLstRgC (tRg3 ta)) σ H (rgC i (-1) (i - j).toNat) := fun H1 e Q q =>
  h H1 e _ fun H2 e2 => ⟨i, j, -1, rfl, ⟨by decide, by decide⟩, (i - j).toNat, ⟨(RgC.neg (by omega) (by omega) (by omega) (by omega)).2.2.1, (RgC.neg (by omega) (by omega) (by omega) (by omega)).2.2.2, by omega⟩, fun l hl => q l _ (fresh_back e2 hl) (e2.trans (Ex.new hl)) upd_same⟩
end Kit

set_option Elab.async false
set_option linter.all false
set_option maxRecDepth 100000
set_option maxHeartbeats 4000000
namespace Kit
open PySem PySem.Spec PyProof.Rows L2 Evl
theorem slot_type_neR : Slot "type" (cmpInfo .NotEq).2.2 "object.__ne__" :=
  .of (owner := "object") (n := "__ne__") (by rw [typeLookup_type, builtinLookup_eq_fast]; kernel_rfl) (by decide +kernel) (by decide +kernel) (by decide +kernel)
    (by first | exact .inl (by decide +kernel) | exact .inr (by decide +kernel)) (by rw [isSubtype_type]; kernel_rfl)
section
variable {M : Model} {A : Around} {E : Value → Shared → Prop} {s : Shared}
theorem ne_decline {a b : Value} {T id : String} {k : Bool} {Q : Value → Shared → Prop} (ta : ∀ s' : Shared, s'.TypeIs a T) (tb : ∀ s' : Shared, s'.TypeIs b T) (l1 : Slot T (cmpInfo .NotEq).2.1 id) (l2 : Slot T (cmpInfo .NotEq).2.2 id)
    (nh : [a, b].any Value.onHeap = false) (same : isSame a b = pure k) (go : wpAny M A (call (.builtin id) [a, b]) (fun v t => v = .notImplemented ∧ wpAny M A (call (.builtin id) [b, a]) (fun v t2 => v = .notImplemented ∧ Q (.bool (!k)) t2) E t) E s) :
    wpAny M A (richCompare .NotEq a b) Q E s := by
  rcases eq : cmpInfo CmpOp.NotEq with ⟨n1, n2, n3⟩
  rw [eq] at l1 l2
  simp only [richCompare, eq, (ta s).oneThing_none]
  try with_reducible refine wpAny_holding ?_
  refine wpAny_bind (wpAny_cRoomFor_or (.inl nh) (wpAny_bind (wpAny_typeOf (ta s) (wpAny_bind (wpAny_typeOf (tb s) ?_)))))
  simp only [bne_self_eq_false, Bool.false_eq_true, if_false, pure_bind, Bool.not_false, if_true]
  refine wpAny_bind (m := tryCompare a _ b) (wpAny_tryCompare_declines (ta s) l1 (wpAny_mono go (fun v t z => ⟨z.1, ?_⟩) fun _ _ x => x))
  refine wpAny_bind (m := tryCompare b _ a) (wpAny_tryCompare_declines (tb t) l2 (wpAny_mono z.2 (fun v t2 z2 => ⟨z2.1, ?_⟩) fun _ _ x => x))
  refine wpAny_bind (wpAny_rule (wpAny_bind (wpAny_of_eq same (wpAny_pure z2.2))))
end
section
variable {prog : Program} {w : World} {A : Around} {E : Value → Shared → Prop} {s : Shared} {Q : Value → Shared → Prop}
theorem obj_ne_other {X Y : String} (hX : ∀ s' : Shared, s'.TypeIs (.type X) "type") (ne : (Value.type X == Value.type Y) = false) (hu : A.units + 1 < cLine) (h : Q .notImplemented s) : wpAny (model prog w) A (call (.builtin "object.__ne__") [.type X, .type Y]) Q E s := by
  refine wpAny_call_entry slot_type_ne (hX s) PySem.F.cmpEntry_ne ?_ (PySem.F.cmpArgs_ne _ _)
  unfold Builtin.«object.__ne__»
  have key : wpAny (model prog w) A.in1 (call (.builtin "object.__eq__") [.type X, .type Y]) (fun v s' => v = .notImplemented ∧ s' = s) E s :=
    call_gives slot_type_eqN (hX s) F.entry_object_eq (F.args_object_eq_2 _ _) (PySem.TypeEq.object_eq_other rfl ne) ⟨rfl, rfl⟩
  repeat (first
    | with_reducible refine wpAny_cRoomFor (by show A.units + 1 < cLine; exact hu) ?_
    | (refine wpAny_bind (m := callSpecialIfBound? (.type X) (Str.ofString "__eq__") [.type Y])
        (wpAny_callSpecialIfBound?_slot (hX _) slot_type_eqN (wpAny_mono key (fun r s' hr => by
          obtain ⟨rfl, rfl⟩ := hr
          have hq : Q .notImplemented s' := h
          repeat (first | exact hq | exact ⟨_, rfl, hq⟩ | exact wpAny_pure hq | wp_step)) fun _ _ e => e)))
    | wp_step)
theorem ne_type_other {X Y : String} (hX : ∀ s' : Shared, s'.TypeIs (.type X) "type") (hY : ∀ s' : Shared, s'.TypeIs (.type Y) "type") (ne : (Value.type X == Value.type Y) = false) (hu : A.units + 1 < cLine) (h : Q (.bool true) s) : wpAny (model prog w) A (compareOp .NotEq (.type X) (.type Y)) Q E s := by
  have ne' : (Value.type Y == Value.type X) = false := by
    rw [beq_eq_false_iff_ne] at ne ⊢
    exact fun z => ne z.symm
  show wpAny _ A (richCompare .NotEq _ _) Q E s
  exact ne_decline (T := "type") (k := false) hX hY slot_type_ne slot_type_neR rfl (by rw [isSame_plain rfl, ne]) (obj_ne_other hX ne hu ⟨rfl, obj_ne_other hY ne' hu ⟨rfl, h⟩⟩)
end
end Kit

set_option Elab.async false
set_option linter.all false
set_option maxRecDepth 100000
set_option maxHeartbeats 4000000
namespace Kit
open PySem PySem.Spec PyProof.Rows L2 Evl
/-! ### any thing: none, bools, ints, texts, tuples, dicts, lists of data -/
inductive It (K : PySem.W.Frag) (H : Hp) : V → PyData → Prop
  | non : It K H .non .none
  | bl (b : Bool) : It K H (.bl b) (.bool b)
  | int (i : Int) : It K H (.int i) (.int i)
  | str (x : Str) : It K H (.str x) (.str x)
  | lst {a : Addr} {xs : List V} {ds : List PyData} (h : H a = some (.lst xs)) (hd : DpAll K H xs ds) : It K H (.ref a) (.list ds)
theorem It.ex {K : PySem.W.Frag} {H H' : Hp} {v : V} {d : PyData} (e : Ex H H') (h : It K H v d) : It K H' v d := by
  cases h with
  | non => exact .non
  | bl b => exact .bl b
  | int i => exact .int i
  | str x => exact .str x
  | lst h hd => exact .lst (e _ _ h) (DpAll.ex e _ _ hd)
theorem It.dp {K : PySem.W.Frag} {H : Hp} {v : V} {d : PyData} (h : It K H v d) : Dp K H v d := by
  cases h with
  | non => exact .non
  | bl b => exact .bl b
  | int i => exact .int i
  | str x => exact .str x
  | lst h hd => exact .lst (sq_of h) hd
def ItAll (K : PySem.W.Frag) (H : Hp) (vs : List V) (ds : List PyData) : Prop := Paired (It K H) vs ds
theorem ItAll.ex {K : PySem.W.Frag} {H H' : Hp} (e : Ex H H') : ∀ {vs : List V} {ds : List PyData}, ItAll K H vs ds → ItAll K H' vs ds
  | _, _, .nil => .nil
  | _, _, .cons h t => .cons (h.ex e) (ItAll.ex e t)
theorem ItAll.dp {K : PySem.W.Frag} {H : Hp} : ∀ {vs : List V} {ds : List PyData}, ItAll K H vs ds → DpAll K H vs ds
  | _, _, .nil => .nil
  | _, _, .cons h t => .cons h.dp (ItAll.dp t)
theorem ItAll.app {K : PySem.W.Frag} {H : Hp} : ∀ {vs ws : List V} {ds es : List PyData}, ItAll K H vs ds → ItAll K H ws es → ItAll K H (vs ++ ws) (ds ++ es)
  | _, _, _, _, .nil, q => q
  | _, _, _, _, .cons h t, q => .cons h (ItAll.app t q)
theorem ItAll.len {K : PySem.W.Frag} {H : Hp} {vs : List V} {ds : List PyData} (h : ItAll K H vs ds) : vs.length = ds.length := Paired.length h
theorem ita_ints {K : PySem.W.Frag} {H : Hp} : ∀ ns : List Int, ItAll K H (ns.map V.int) (ns.map PyData.int)
  | [] => .nil
  | n :: r => .cons (.int n) (ita_ints r)
def Fine (ds : List PyData) : Prop := ∀ d ∈ ds, d.canLay0 = true ∧ d.depth ≤ 5
theorem fine_nil : Fine [] := fun d h => by cases h
theorem fine_cons {d : PyData} {ds : List PyData} (h : d.canLay0 = true) (h2 : d.depth ≤ 5) (t : Fine ds) : Fine (d :: ds) := fun x hx => by
  rcases List.mem_cons.mp hx with e | e
  · rw [e]
    exact ⟨h, h2⟩
  · exact t x e
theorem fine_app {ds es : List PyData} (h : Fine ds) (h2 : Fine es) : Fine (ds ++ es) := fun x hx => (List.mem_append.mp hx).elim (h x) (h2 x)
theorem fine_ints : ∀ ns : List Int, Fine (ns.map PyData.int)
  | [] => fine_nil
  | n :: r => fine_cons rfl (Nat.zero_le _) (fine_ints r)
theorem Fine.sub {ds es : List PyData} (h : Fine ds) (s : ∀ x ∈ es, x ∈ ds) : Fine es := fun x hx => h x (s x hx)
theorem Fine.shaped {ds : List PyData} (h : Fine ds) : SeqAt.shaped (.list ds) = true := by
  have : PyData.canLayAll0 ds = true ∧ PyData.depthAll ds ≤ 5 := by
    induction ds with
    | nil => exact ⟨rfl, Nat.zero_le _⟩
    | cons d r ih =>
      obtain ⟨a, b⟩ := ih fun x hx => h x (List.mem_cons_of_mem _ hx)
      obtain ⟨c, e⟩ := h d List.mem_cons_self
      refine ⟨by simp [PyData.canLayAll0, a, c], ?_⟩
      simp [PyData.depthAll]
      omega
  simp [SeqAt.shaped, PyData.canLay0, this.1, PyData.depth]
  omega
inductive Th (K : PySem.W.Frag) (H : Hp) : V → Option (List PyData) → Prop
  | non : Th K H .non none
  | bl (b : Bool) : Th K H (.bl b) none
  | int (i : Int) : Th K H (.int i) none
  | str (x : Str) : Th K H (.str x) none
  | tup {a : Addr} {xs : List V} (h : H a = some (.tup xs)) : Th K H (.ref a) none
  | dct {a : Addr} {kvs : List (Key × V)} (h : H a = some (.dK kvs)) : Th K H (.ref a) none
  | lst {a : Addr} {xs : List V} {ds : List PyData} (h : H a = some (.lst xs)) (hd : ItAll K H xs ds) (hf : Fine ds) : Th K H (.ref a) (some ds)
def AT (K : PySem.W.Frag) (H : Hp) (v : V) : Prop := ∃ o, Th K H v o
section
variable {K : PySem.W.Frag} {σ : L2.St} {H H' : Hp} {te ta tb : TE} {t tr : TA}
theorem Th.ex {v : V} {o : Option (List PyData)} (e : Ex H H') (h : Th K H v o) : Th K H' v o := by
  cases h with
  | non => exact .non
  | bl b => exact .bl b
  | int i => exact .int i
  | str x => exact .str x
  | tup h => exact .tup (e _ _ h)
  | dct h => exact .dct (e _ _ h)
  | lst h hd hf => exact .lst (e _ _ h) (hd.ex e) hf
theorem AT.ex {v : V} (e : Ex H H') (h : AT K H v) : AT K H' v := h.imp fun _ x => x.ex e
def EvTh (K : PySem.W.Frag) (te : TE) (σ : L2.St) (H : Hp) : Prop := ∀ H1, Ex H H1 → ∀ Q : VK, (∀ v H2, Ex H1 H2 → AT K H2 v → Q v H2) → te σ H1 Q
def EvThA (K : PySem.W.Frag) (ta : TA) (σ : L2.St) (H : Hp) (n : Nat) : Prop := ∀ H1, Ex H H1 → ∀ Q : List V → Hp → Prop, (∀ vs H2, Ex H1 H2 → vs.length = n → (∀ v ∈ vs, AT K H2 v) → Q vs H2) → ta σ H1 Q
theorem tha_nil : EvThA K tNil σ H 0 := fun H1 _ _ q => q [] H1 (Ex.refl H1) rfl (by simp)
theorem tha_cons {n : Nat} (h : EvTh K te σ H) (hr : EvThA K tr σ H n) : EvThA K (tCons te tr) σ H (n + 1) := fun H1 e _ q =>
  h H1 e _ fun v H2 e2 hv => hr H2 (e.trans e2) _ fun vs H3 e3 hl hvs => q (v :: vs) H3 (e2.trans e3) (by simp [hl]) fun x hx => by
    rcases List.mem_cons.mp hx with z | z
    · rw [z]
      exact hv.ex e3
    · exact hvs x z
theorem th_non (h : Ev te σ H .non) : EvTh K te σ H := fun H1 e Q q => h H1 e Q fun H2 e2 => q _ H2 e2 ⟨_, .non⟩
theorem th_bl {b : Bool} (h : Ev te σ H (.bl b)) : EvTh K te σ H := fun H1 e Q q => h H1 e Q fun H2 e2 => q _ H2 e2 ⟨_, .bl b⟩
theorem th_int {i : Int} (h : Ev te σ H (.int i)) : EvTh K te σ H := fun H1 e Q q => h H1 e Q fun H2 e2 => q _ H2 e2 ⟨_, .int i⟩
theorem th_str {x : Str} (h : Ev te σ H (.str x)) : EvTh K te σ H := fun H1 e Q q => h H1 e Q fun H2 e2 => q _ H2 e2 ⟨_, .str x⟩
theorem th_U {xs : List V} (h : EvU te σ H xs) : EvTh K te σ H := fun H1 e Q q => h H1 e Q fun p H2 _ e2 h2 => q _ H2 e2 ⟨_, .tup h2⟩
theorem th_L {xs : List V} (h : EvL te σ H xs) (hd : ∃ ds, ItAll K H xs ds ∧ Fine ds) : EvTh K te σ H := fun H1 e Q q => h H1 e Q fun p H2 _ e2 h2 => q _ H2 e2 (by
  obtain ⟨ds, d, f⟩ := hd
  exact ⟨_, .lst h2 (d.ex (e.trans e2)) f⟩)
def EvIA (K : PySem.W.Frag) (ta : TA) (σ : L2.St) (H : Hp) (ds : List PyData) : Prop := ∀ H1, Ex H H1 → ∀ Q : List V → Hp → Prop, (∀ vs H2, Ex H1 H2 → ItAll K H2 vs ds → Q vs H2) → ta σ H1 Q
def EvI (K : PySem.W.Frag) (te : TE) (σ : L2.St) (H : Hp) (d : PyData) : Prop := ∀ H1, Ex H H1 → ∀ Q : VK, (∀ v H2, Ex H1 H2 → It K H2 v d → Q v H2) → te σ H1 Q
theorem ia_nil : EvIA K tNil σ H [] := fun H1 _ _ q => q [] H1 (Ex.refl H1) .nil
theorem ia_cons {d : PyData} {ds : List PyData} (h : EvI K te σ H d) (hr : EvIA K tr σ H ds) : EvIA K (tCons te tr) σ H (d :: ds) := fun H1 e _ q =>
  h H1 e _ fun v H2 e2 dv => hr H2 (e.trans e2) _ fun vs H3 e3 dvs => q (v :: vs) H3 (e2.trans e3) (.cons (dv.ex e3) dvs)
theorem it_of {v : V} {d : PyData} (h : Ev te σ H v) (k : It K H v d) : EvI K te σ H d := fun H1 e Q q => h H1 e Q fun H2 e2 => q v H2 e2 (k.ex (e.trans e2))
theorem it_D {ds : List PyData} (h : EvDA K t σ H ds) (hl : ds.length ≤ 100000) : EvI K (tLst t) σ H (.list ds) := fun H1 e Q q =>
  h H1 e _ fun vs H2 e2 dv => ⟨sz_of (by rw [DpAll.len dv]; exact hl), fun p hp => q _ _ (e2.trans (Ex.new hp)) (.lst upd_same (DpAll.ex (Ex.new hp) ds vs dv))⟩
theorem th_D {ds : List PyData} (h : EvIA K t σ H ds) (hf : Fine ds) (hl : ds.length ≤ 100000) : EvTh K (tLst t) σ H := fun H1 e Q q =>
  h H1 e _ fun vs H2 e2 dv => ⟨sz_of (by rw [dv.len]; exact hl), fun p hp => q _ _ (e2.trans (Ex.new hp)) ⟨_, .lst upd_same (dv.ex (Ex.new hp)) hf⟩⟩
theorem th_var {i : Nat} {v : V} (h : σ[i]? = some (some v)) (hv : AT K H v) : EvTh K (tVar i) σ H := fun H1 e Q q => ⟨v, h, q v H1 (Ex.refl _) (hv.ex e)⟩
theorem th_dnew : EvTh K tDNewK σ H := fun H1 e Q q p hp => q _ _ (Ex.new hp) ⟨_, .dct upd_same⟩
theorem th_disp {x : Str} {i : Int} : EvTh K (tDisp [(tC (.str x), tC (.int i))]) σ H := fun H1 e Q q p hp =>
  ⟨upd_same, [(.inr x, .int i)], rfl, Nat.le_of_ble_eq_true rfl, q _ _ (Ex.mut (Ex.new hp) hp) ⟨_, .dct upd_same⟩⟩
/-- [.., ..] of things: a new list -/
def EvTL (K : PySem.W.Frag) (te : TE) (σ : L2.St) (H : Hp) (n : Nat) : Prop := ∀ H1, Ex H H1 → ∀ Q : VK, (∀ p vs H2, H1 p = none → Ex H1 H2 → H2 p = some (.lst vs) → vs.length = n → (∀ v ∈ vs, AT K H2 v) → Q (.ref p) H2) → te σ H1 Q
theorem tl_lst {n : Nat} (h : EvThA K t σ H n) (hn : n ≤ 100000) : EvTL K (tLst t) σ H n := fun H1 e Q q =>
  h H1 e _ fun vs H2 e2 hl hv => ⟨sz_of (by omega), fun p hp => q p vs _ (fresh_back e2 hp) (e2.trans (Ex.new hp)) upd_same hl fun v z => (hv v z).ex (Ex.new hp)⟩
theorem tl_cat {a : Addr} {xs : List V} {n : Nat} (h : Ev ta σ H (.ref a)) (ha : H a = some (.lst xs)) (hx : ∀ v ∈ xs, AT K H v) (h2 : EvTL K tb σ H n) (hz : xs.length + n ≤ 1000) : EvTL K (tOp rCat ta tb) σ H (xs.length + n) := fun H1 e Q q =>
  h H1 e _ fun H2 e2 => h2 H2 (e.trans e2) _ fun p vs H3 _ e3 h3 hl hv =>
    ⟨a, p, xs, vs, rfl, rfl, e3 a _ (e2 a _ (e a _ ha)), h3, sz_of (by omega), fun l hl' => q l _ _ (fresh_back (e2.trans e3) hl') ((e2.trans e3).trans (Ex.new hl')) upd_same (by rw [List.length_append, hl]) fun v z => by
      rcases List.mem_append.mp z with z | z
      · exact (hx v z).ex (e.trans (e2.trans (e3.trans (Ex.new hl'))))
      · exact (hv v z).ex (Ex.new hl')⟩
/-- x + ys, x an old list -/
theorem el_catO {a : Addr} {xs ys : List V} (h : Ev ta σ H (.ref a)) (ha : H a = some (.lst xs)) (h2 : EvL tb σ H ys) (hz : xs.length + ys.length ≤ 1000) : EvL (tOp rCat ta tb) σ H (xs ++ ys) := fun H1 e Q q =>
  h H1 e _ fun H2 e2 => h2 H2 (e.trans e2) _ fun p H3 _ e3 h3 =>
    ⟨a, p, xs, ys, rfl, rfl, e3 a _ (e2 a _ (e a _ ha)), h3, sz_of (by omega), fun l hl' => q l _ (fresh_back (e2.trans e3) hl') ((e2.trans e3).trans (Ex.new hl')) upd_same⟩
end
/-! ### the type of any thing -/
def kTyp2 (x : V) (H : Hp) (Q : VK) : Prop := ∃ n, (zTyV x H = some n ∨ (n = "dict" ∧ ∃ a kvs, x = .ref a ∧ H a = some (.dK kvs))) ∧ Q (.ty n) H
def rNeTyG : R2 := fun x y H Q => ∃ m n, x = .ty m ∧ y = .ty n ∧ Meta m ∧ Meta n ∧ Q (.bl (!decide (m = n))) H
section
variable {X : Cx} {ta : TE} {a : Expr}
theorem rl_type2 (pins : List (Addr × Obj)) (st : Shared) (σ : L2.St) (H : Hp) (x : V) (u : Value) (Q : VK) (J : Inv X pins σ H st) (r : RelV x u) (h : kTyp2 x H Q) :
    wpAny (model X.prog X.w) X.A (call (.type "type") [u]) (EP X pins σ Q) X.xe st := by
  obtain ⟨n, e | ⟨rfl, a, kvs, rfl, ha⟩, q⟩ := h
  · exact rl_type pins st σ H x u Q J r ⟨n, e, q⟩
  · cases (show u = Value.ref a from r)
    obtain ⟨_, _, vs, _, o, es, ep, h1, h2, _⟩ := (show ObjOk X.prog X.w H st.heap a (.dK kvs) from J.hok a _ ha)
    exact call_type_of (Tx := "dict") ⟨o, h1, h2.1⟩ (by decide +kernel) ⟨.ty "dict", H, J, rfl, q⟩
theorem pe_typeOf2 {p pos : Pos} (hg : Gl X "type") (hm : X.mg "type" = none) (ha : PE X a ta) (na : starEach [a] X.env = (false, eval a X.env) :: starEach [] X.env := by rfl) :
    PE X (.Call (.Name "type" p) [a] [] pos) (tThenZ ta kTyp2) := pe_callTy (call_r1 rl_type2) hg hm (by decide +kernel) (pa_cons ha pa_nil na) (he := na)
theorem op_neTyG (hu : X.A.units + 1 < cLine) : OpR X (compareOp .NotEq) rNeTyG := by
  intro pins st σ H x y v u Q J rx ry h
  obtain ⟨m, n, rfl, rfl, hm, hn, q⟩ := h
  cases (show v = Value.type m from rx)
  cases (show u = Value.type n from ry)
  by_cases e : m = n
  · subst e
    exact ne_type_same hm hu ⟨.bl false, H, J, rfl, by simpa using q⟩
  · exact ne_type_other hm hn (by rw [beq_eq_false_iff_ne]; exact fun z => e (Value.type.inj z)) hu ⟨.bl true, H, J, rfl, by simpa [e] using q⟩
end
section
variable {K : PySem.W.Frag} {σ : L2.St} {H : Hp} {ta tb : TE}
/-- the name of a thing's type -/
theorem th_type {v : V} {o : Option (List PyData)} (h : Th K H v o) : ∃ n, (zTyV v H = some n ∨ (n = "dict" ∧ ∃ a kvs, v = .ref a ∧ H a = some (.dK kvs))) ∧ Meta n ∧ (n = "list" ↔ o.isSome = true) := by
  cases h with
  | non => exact ⟨"NoneType", .inl rfl, PySem.TypeEq.meta_NoneType, by simp⟩
  | bl b => exact ⟨"bool", .inl rfl, PySem.TypeEq.meta_bool, by simp⟩
  | int i => exact ⟨"int", .inl rfl, PySem.TypeEq.meta_int, by simp⟩
  | str x => exact ⟨"str", .inl rfl, PySem.TypeEq.meta_str, by simp⟩
  | tup h => exact ⟨"tuple", .inl (by simp [zTyV, h]), PySem.TypeEq.meta_tuple, by simp⟩
  | dct h => exact ⟨"dict", .inr ⟨rfl, _, _, rfl, h⟩, PySem.TypeEq.meta_dict, by simp⟩
  | lst h _ _ => exact ⟨"list", .inl (by simp [zTyV, h]), PySem.TypeEq.meta_list, by simp⟩
/-- type(v) != list -/
theorem ev_noList {v : V} {o : Option (List PyData)} (h : Ev ta σ H v) (hv : Th K H v o) : Ev (tOp rNeTyG (tThenZ ta kTyp2) (tC (.ty "list"))) σ H (.bl (!o.isSome)) := fun H1 e Q q => h H1 e _ fun H2 e2 => by
  obtain ⟨n, hn, mt, iff⟩ := th_type (hv.ex (e.trans e2))
  refine ⟨n, hn, n, "list", rfl, rfl, mt, PySem.TypeEq.meta_list, ?_⟩
  have : decide (n = "list") = o.isSome := by
    rw [Bool.eq_iff_iff, decide_eq_true_iff]
    exact iff
  rw [this]
  exact q H2 e2
theorem th_is {v : V} {o : Option (List PyData)} (h : Th K H v o) : ∃ n, TyX K H v (.type n) ∧ PySem.W.kitOne K (.type n) (.type "list") = some o.isSome := by
  cases h with
  | non => exact ⟨_, .base .non, rfl⟩
  | bl b => exact ⟨_, .base (.bl b), rfl⟩
  | int i => exact ⟨_, .base (.int i), rfl⟩
  | str x => exact ⟨_, .base (.str x), rfl⟩
  | tup h => exact ⟨_, .base (.tup h), rfl⟩
  | dct h => exact ⟨_, .base (.dK h), rfl⟩
  | lst h _ _ => exact ⟨_, .base (.lst h), rfl⟩
/-- isinstance(v, list) -/
theorem ev_isList {v : V} {o : Option (List PyData)} (h : Ev ta σ H v) (hv : Th K H v o) : Ev (tCB (rIsi K) (tCons ta (tCons (tC (.ty "list")) tNil))) σ H (.bl o.isSome) := fun H1 e Q q => h H1 e _ fun H2 e2 => by
  obtain ⟨n, ht, hk⟩ := th_is (hv.ex (e.trans e2))
  exact ⟨v, .ty "list", .type n, .type "list", o.isSome, rfl, .ty "list", ht, hk, q H2 e2⟩
def isI : PyData → Bool
  | .int _ => true
  | _ => false
theorem it_type {v : V} {d : PyData} (h : It K H v d) : ∃ n, zTyV v H = some n ∧ Meta n ∧ decide (n = "int") = isI d := by
  cases h with
  | non => exact ⟨"NoneType", rfl, PySem.TypeEq.meta_NoneType, by simp [isI]⟩
  | bl b => exact ⟨"bool", rfl, PySem.TypeEq.meta_bool, by simp [isI]⟩
  | int i => exact ⟨"int", rfl, PySem.TypeEq.meta_int, by simp [isI]⟩
  | str x => exact ⟨"str", rfl, PySem.TypeEq.meta_str, by simp [isI]⟩
  | lst h _ => exact ⟨"list", by simp [zTyV, h], PySem.TypeEq.meta_list, by simp [isI]⟩
/-- type(v) == int -/
theorem ev_isWhole {v : V} {d : PyData} (h : Ev ta σ H v) (hv : It K H v d) : Ev (tOp rEqTy (tThenZ ta kTyp) (tC (.ty "int"))) σ H (.bl (isI d)) := fun H1 e Q q => h H1 e _ fun H2 e2 => by
  obtain ⟨n, hn, mt, iff⟩ := it_type (hv.ex (e.trans e2))
  refine ⟨n, hn, n, "int", rfl, rfl, mt, PySem.TypeEq.meta_int, ?_⟩
  rw [iff]
  exact q H2 e2
def isB : PyData → Bool
  | .bool _ => true
  | _ => false
theorem it_isB {v : V} {d : PyData} (h : It K H v d) : ∃ n, TyX K H v (.type n) ∧ PySem.W.kitOne K (.type n) (.type "bool") = some (isB d) := by
  cases h with
  | non => exact ⟨_, .base .non, rfl⟩
  | bl b => exact ⟨_, .base (.bl b), rfl⟩
  | int i => exact ⟨_, .base (.int i), rfl⟩
  | str x => exact ⟨_, .base (.str x), rfl⟩
  | lst h _ => exact ⟨_, .base (.lst h), rfl⟩
theorem it_isI {v : V} {d : PyData} (h : It K H v d) : ∃ n, TyX K H v (.type n) ∧ PySem.W.kitOne K (.type n) (.type "int") = some (isI d || isB d) := by
  cases h with
  | non => exact ⟨_, .base .non, rfl⟩
  | bl b => exact ⟨_, .base (.bl b), rfl⟩
  | int i => exact ⟨_, .base (.int i), rfl⟩
  | str x => exact ⟨_, .base (.str x), rfl⟩
  | lst h _ => exact ⟨_, .base (.lst h), rfl⟩
/-- isinstance(v, bool) or not isinstance(v, int) -/
theorem et_noInt {v : V} {d : PyData} (h : Ev ta σ H v) (hv : It K H v d) : EvT (tOr (tB (tCB (rIsi K) (tCons ta (tCons (tC (.ty "bool")) tNil)))) (tNot (tB (tCB (rIsi K) (tCons ta (tCons (tC (.ty "int")) tNil)))))) σ H (!isI d) := by
  have one : Ev (tCB (rIsi K) (tCons ta (tCons (tC (.ty "bool")) tNil))) σ H (.bl (isB d)) := fun H1 e Q q => h H1 e _ fun H2 e2 => by
    obtain ⟨n, ht, hb⟩ := it_isB (hv.ex (e.trans e2))
    exact ⟨v, .ty "bool", _, .type "bool", _, rfl, .ty "bool", ht, hb, q H2 e2⟩
  have two : Ev (tCB (rIsi K) (tCons ta (tCons (tC (.ty "int")) tNil))) σ H (.bl (isI d || isB d)) := fun H1 e Q q => h H1 e _ fun H2 e2 => by
    obtain ⟨n, ht, hb⟩ := it_isI (hv.ex (e.trans e2))
    exact ⟨v, .ty "int", _, .type "int", _, rfl, .ty "int", ht, hb, q H2 e2⟩
  refine et_is (et_or (et_B one) fun _ => et_not (et_B two)) ?_
  cases d <;> rfl
end
/-! tuple(range(a, b, c)) -/
def tTupRgC (te : L2.St → Hp → (Int → Int → Int → Hp → Prop) → Prop) : TE := fun σ H Q => te σ H fun a b c H1 => ∃ n : Nat, (Builtin.Range.small a b c = true ∧ Builtin.Range.rangeSize a b c = n ∧ n ≤ 2 ^ 24) ∧ ∀ q, H1 q = none → Q (.ref q) (upd H1 q (.tup (rgC a c n)))
theorem pe_tupRgC {X : Cx} {e : Expr} {te : L2.St → Hp → (Int → Int → Int → Hp → Prop) → Prop} {p pos : Pos} (calm : X.calm = true) (hg : Gl X "tuple") (hm : X.mg "tuple" = none) (he : PRgC X e te) (na : starEach [e] X.env = (false, eval e X.env) :: starEach [] X.env := by rfl) : PE X (.Call (.Name "tuple" p) [e] [] pos) (tTupRgC te) := by
  refine ⟨fun pins st σ H Q J h => ?_⟩
  refine Call_ (ld_blt J hg hm boot_tuple (PyProof.Rows.callWith_type1 (args_cons (thn (he pins st σ H _ J h) fun x s1 ⟨r, a, b, c, t, u, v, H1, ex, hr, J1, n, ⟨o1, o2, o3⟩, q⟩ => args_nil ?_) na) na))
  subst ex
  refine call_tuple_range (n := n) (J1.ok.hd calm) hr o1 o2 o3 fun h' tk acc keep its => ?_
  have J2 : Inv X pins σ H1 { s1 with heap := h', toks := tk } := J1.kept keep
  refine ⟨.ref h'.objs.size, upd H1 h'.objs.size (.tup (rgC a c n)), J2.laid (t' := tk) (fun z o e => Heap.get?_push_of_some _ e) (Nat.le_refl _) (show ObjOk X.prog X.w _ _ _ (.tup (rgC a c n)) from ⟨?_, acc.toList, vals_rgC its, ?_⟩), rfl, q _ (J2.hok.fresh (Nat.le_refl _))⟩
  · unfold rgC
    rw [List.length_map, List.length_range, sizeLine_eq]
    omega
  · rw [Array.toArray_toList]
    exact IsTup.new _ _
theorem eu_down {σ : L2.St} {H : Hp} {ta : TA} {i j : Int} (h : EvA ta σ H [.int i, .int j, .int (-1)]) (hi : 0 ≤ i ∧ i ≤ 1000) (hj : -1 ≤ j ∧ j ≤ 1000) : EvU (tTupRgC (tRg3 ta)) σ H (rgC i (-1) (i - j).toNat) := fun H1 e Q q =>
  h H1 e _ fun H2 e2 => ⟨i, j, -1, rfl, ⟨by decide, by decide⟩, (i - j).toNat, ⟨(RgC.neg (by omega) (by omega) (by omega) (by omega)).2.2.1, (RgC.neg (by omega) (by omega) (by omega) (by omega)).2.2.2, by omega⟩, fun l hl => q l _ (fresh_back e2 hl) (e2.trans (Ex.new hl)) upd_same⟩
/-! xs.index(x) where the written part must be said -/
theorem pe_indexK {X : Cx} {K : PySem.W.Frag} {o e : Expr} {to te : TE} {apos cpos : Pos} (hK : X.K = K) (ho : PE X o to) (he : PE X e te) (b : attributeBase o "index" X.env (eval o X.env) = eval o X.env := by rfl)
    (few : ((backTo cpos (starEach [e] X.env)).all (fun x => !x.1) && (backToKw cpos (keywordEach [] X.env)).all (fun x => x.1.isSome) && decide ([e].length + ([] : List Keyword).length + (if ([] : List Keyword).isEmpty then 0 else 1) < 30)) = true := by rfl)
    (line : (apos.endLine == cpos.line) = true := by rfl) (st : starEach [e] X.env = (false, eval e X.env) :: starEach [] X.env := by rfl) (pl : (backTo cpos (starEach [] X.env)).any (·.1) = false := by rfl) :
    PE X (.Call (.Attribute o "index" apos) [e] [] cpos) (tBM K "list" (rIndex K) to (tCons te tNil)) := by
  subst hK
  exact pe_bm PySem.F.plainAttrs_list PySem.F.slot_list_index PySem.F.type_list_index mt_index ho (pa_cons he pa_nil st) b few line st pl
theorem pe_revLK {X : Cx} {K : PySem.W.Frag} {e : Expr} {te : TE} {k : Nat} {p1 p2 p3 pos : Pos} (hK : X.K = K) (he : PE X e te) : PE X (.Subscript e (.Slice none none (some (.UnaryOp .USub (.Constant (.int 1) k p1) p2)) p3) pos) (tRevL K te) := by
  subst hK
  exact pe_revL he
end Kit

set_option Elab.async false
set_option linter.all false
set_option maxRecDepth 100000
set_option maxHeartbeats 4000000
namespace Kit
open PySem PySem.Spec PyProof.Rows L2 Evl
/-! ### sorted(xs), xs a list of data, of any length -/
/-- zs: the items, each with what it holds -/
def rSortedD (K : PySem.W.Frag) : List V → Hp → VK → Prop := fun vs H Q => ∃ (a : Addr) (zs : List (V × PyData)), vs = [V.ref a] ∧ SqL K H a (zs.map (·.1)) ∧ (∀ z ∈ zs, Dp K H z.1 z.2) ∧ PySem.W.AllAlike (zs.map (·.2)) ∧ PySem.W.Sortable (zs.map (·.2)) ∧ (∀ z ∈ zs, z.2.depth ≤ 60) ∧
  ∀ p, H p = none → Q (.ref p) (upd H p (.lst ((zs.mergeSort (PySem.W.dataLe false (·.2))).map (·.1))))
theorem eachIs_rel {zs : List (V × PyData)} : ∀ {its : List Value}, Vals (zs.map (·.1)) its → PySem.W.EachIs (fun v z => RelV z.1 v) its zs := by
  induction zs with
  | nil =>
    intro its h
    cases h
    exact .nil
  | cons z zs ih =>
    intro its h
    cases h with
    | cons a t => exact .cons a (ih t)
theorem rel_eachIs {zs : List (V × PyData)} : ∀ {its : List Value}, PySem.W.EachIs (fun v z => RelV z.1 v) its zs → Vals (zs.map (·.1)) its := by
  induction zs with
  | nil =>
    intro its h
    cases h
    exact .nil
  | cons z zs ih =>
    intro its h
    cases h with
    | cons a t => exact .cons a (ih t)
section
variable {X : Cx}
theorem cr_sortedD (hu : X.A.units + 64 < cLine) : CallR X (.builtin "sorted") (rSortedD X.K) := by
  intro pins s σ H vs us Q I r h
  obtain ⟨a, zs, rfl, hs, hd, hal, hk, hdep, q⟩ := h
  obtain ⟨its, rv, hl, hz⟩ := I.list hs
  obtain ⟨u, rfl, ru⟩ := vals1 r
  obtain rfl : u = Value.ref a := ru
  have lz : zs.length = its.length := by
    have := rv.length
    rw [List.length_map] at this
    exact this
  have e := eachIs_rel rv
  have er : PySem.W.EachIs (fun v z => ∃ as, Reads s.heap v z.2 as) its zs := by
    refine (PySem.W.each_mem e).mono fun v z ⟨hv, hm⟩ => ?_
    exact Dp.reads I z.2 z.1 v (hd z hm) hv
  refine PySem.W.sorted_data (vs := its) (bs := zs) (enc := fun z : V × PyData => z.2) hl.isList e er hal hk (by rw [List.length_map] at hz; exact hz) (fun z hm => ?_) fun out ho eo => ?_
  · have := hdep z hm
    omega
  · have hf : H (s.heap.objs.size + 1) = none := I.hok.fresh (Nat.le_succ _)
    obtain ⟨n, hn⟩ := sortedAll_at s.heap its out.toArray
    refine ⟨.ref (s.heap.objs.size + 1), upd H (s.heap.objs.size + 1) (.lst ((zs.mergeSort (PySem.W.dataLe false (·.2))).map (·.1))), I.laid (t' := s.toks) (fun b o e => sortedAll_old e) (Nat.le_succ _) ⟨?_, out, n, rel_eachIs eo, hn⟩, rfl, q _ hf⟩
    rw [List.length_map, List.length_mergeSort]
    rw [List.length_map] at hz
    exact hz
end
section
variable {K : PySem.W.Frag} {σ : L2.St} {H : Hp} {ta : TE}
/-- sorted(xs) -/
theorem el_sortedD {a : Addr} {zs : List (V × PyData)} (h : Ev ta σ H (.ref a)) (ha : SqL K H a (zs.map (·.1))) (hd : ∀ z ∈ zs, Dp K H z.1 z.2) (hal : PySem.W.AllAlike (zs.map (·.2))) (hk : PySem.W.Sortable (zs.map (·.2))) (hdep : ∀ z ∈ zs, z.2.depth ≤ 60) :
    EvL (tCB (rSortedD K) (tCons ta tNil)) σ H ((zs.mergeSort (PySem.W.dataLe false (·.2))).map (·.1)) := fun H1 e Q q => h H1 e _ fun H2 e2 =>
  ⟨a, zs, rfl, ex_l (e.trans e2) ha, fun z hz => Dp.ex (e.trans e2) z.2 z.1 (hd z hz), hal, hk, hdep, fun p hp => q p _ (fresh_back e2 hp) (e2.trans (Ex.new hp)) upd_same⟩
end
/-- lists of ints -/
theorem sorted_rows {zs : List (V × List Int)} : ((zs.map fun z => (z.1, PyData.list (z.2.map PyData.int))).mergeSort (PySem.W.dataLe false (·.2))) = (zs.mergeSort fun x y => decide (x.2 ≤ y.2)).map fun z => (z.1, PyData.list (z.2.map PyData.int)) := by
  rw [← PySem.W.sort_maps (r := fun x y : V × List Int => decide (x.2 ≤ y.2))]
  intro x _ y _
  have := congrFun (congrFun (PySem.W.dataLe_rows (β := V × List Int) (·.2)) x) y
  exact this.symm
theorem rows_alike (zs : List (V × List Int)) : PySem.W.AllAlike ((zs.map fun z => (z.1, PyData.list (z.2.map PyData.int))).map (·.2)) := by
  rw [List.map_map]
  exact PySem.W.AllAlike.of (enc := fun z : V × List Int => PyData.list (z.2.map PyData.int)) fun b b' => by
    show PySem.W.alikeAll _ _ = true
    exact PySem.W.alike_ints _ _
theorem rows_sortable (zs : List (V × List Int)) : PySem.W.Sortable ((zs.map fun z => (z.1, PyData.list (z.2.map PyData.int))).map (·.2)) := by
  rw [List.map_map]
  exact PySem.W.Sortable.others (enc := fun z : V × List Int => PyData.list (z.2.map PyData.int)) fun b => ⟨nofun, fun xs h => by cases h⟩
end Kit

set_option Elab.async false
set_option linter.all false
set_option maxRecDepth 100000
set_option maxHeartbeats 4000000
namespace Kit
open PySem PySem.Spec PyProof.Rows L2 Evl
/-! ### xs[:0:-1]: all but the first, from behind -/
theorem pick_map (items : Array Value) : ∀ l : List Nat, (∀ x ∈ l, x < items.size) → l.filterMap (items[·]?) = l.map fun x => items.toList.getD x .none
  | [], _ => rfl
  | x :: l, h => by
    have hx := h x List.mem_cons_self
    have e : items[x]? = some (items.toList.getD x .none) := by
      rw [Array.getElem?_eq_getElem hx, List.getD_eq_getElem?_getD, List.getElem?_eq_getElem (by simpa using hx)]
      simp
    rw [List.filterMap_cons, e, pick_map items l fun y hy => h y (List.mem_cons_of_mem _ hy)]
    rfl
theorem pick0 {items : Array Value} (h : 0 < items.size) : slicePick items none (some 0) (some (-1)) = items.toList.tail.reverse.toArray := by
  unfold slicePick
  have eb : sliceBounds none (some 0) (some (-1)) items.size = ((items.size : Int) - 1, 0, -1) := by
    simp [sliceBounds]
    omega
  rw [eb]
  show ((sliceRange ((items.size : Int) - 1) 0 (-1)).filterMap (items[·]?)).toArray = _
  have er : sliceRange ((items.size : Int) - 1) 0 (-1) = (List.range (items.size - 1)).map fun k => items.size - 1 - k := by
    unfold sliceRange
    have h1 : ¬ ((-1 : Int) > 0) := by decide
    by_cases h2 : (items.size : Int) - 1 > 0
    · have e : ((items.size : Int) - 1 - 0 - -1 - 1) / (- -1) = ((items.size - 1 : Nat) : Int) := by
        rw [show (- -1 : Int) = 1 by decide, Int.ediv_one]
        omega
      simp only [h1, if_false, h2, if_true, e, Int.toNat_natCast]
      apply List.map_congr_left
      intro k hk
      have := List.mem_range.mp hk
      omega
    · have e : items.size = 1 := by omega
      simp [e]
  rw [er, pick_map items _ (fun x hx => by
    obtain ⟨k, hk, rfl⟩ := List.mem_map.mp hx
    omega), List.map_map]
  congr 1
  refine List.ext_getElem (by simp) fun i h3 h4 => ?_
  have hi : i < items.size - 1 := by simpa using h3
  rw [List.getElem_map, List.getElem_range, List.getElem_reverse, List.getElem_tail]
  show items.toList.getD (items.size - 1 - i) .none = _
  have hx : items.size - 1 - i < items.toList.length := by
    rw [Array.length_toList]
    omega
  rw [List.getD_eq_getElem?_getD, List.getElem?_eq_getElem hx]
  show items.toList[items.size - 1 - i] = _
  congr 1
  simp
  omega
def tRev0L (K : PySem.W.Frag) (te : TE) : TE := fun σ H Q => te σ H fun x H1 => ∃ a xs, x = .ref a ∧ SqL K H1 a xs ∧ xs ≠ [] ∧ ∀ p, H1 p = none → Q (.ref p) (upd H1 p (.lst xs.tail.reverse))
theorem pe_rev0L {X : Cx} {e : Expr} {te : TE} {k k0 : Nat} {p0 p1 p2 p3 pos : Pos} (he : PE X e te) : PE X (.Subscript e (.Slice none (some (.Constant (.int 0) k0 p0)) (some (.UnaryOp .USub (.Constant (.int 1) k p1) p2)) p3) pos) (tRev0L X.K te) := by
  refine ⟨fun pins s σ H Q I h => ?_⟩
  refine Subscript_ (thn (he.run pins s σ H _ I h) fun v s1 ⟨x, H1, I1, r1, q1⟩ => ?_)
  obtain ⟨a, xs, ex, hx, hne, q⟩ := q1
  subst ex
  cases r1
  have hst : PO X (some (.UnaryOp .USub (.Constant (.int 1) k p1) p2)) (tPart (tUn (rU fun i => .int (-i)) (tC (.int 1)))) := po_some (pe_un un_neg pe_int)
  have hup : PO X (some (.Constant (.int 0) k0 p0)) (tPart (tC (.int 0))) := po_some pe_int
  refine wpAny_Slice (thn (po_none.run pins s1 σ H1 (fun o H2 => o = none ∧ H2 = H1) I1 ⟨rfl, rfl⟩) fun vl s2 ⟨l, H2, I2, pl, el, e2⟩ => ?_)
  subst el e2
  refine thn (hup.run pins s2 σ H2 (fun o H3 => o = some 0 ∧ H3 = H2) I2 ⟨0, rfl, rfl, rfl⟩) fun vu s3 ⟨u, H3, I3, pu, eu, e3⟩ => ?_
  subst eu e3
  refine thn (hst.run pins s3 σ H3 (fun o H4 => o = some (-1) ∧ H4 = H3) I3 ⟨1, rfl, -1, rfl, rfl, rfl⟩) fun vs s4 ⟨o, H4, I4, ps, eo, e4⟩ => ?_
  subst eo e4
  have I5 : Inv X pins σ H4 { s4 with heap := s4.heap.push { cls := .type "slice", data := .fields #[vl, vu, vs] } } := I4.kept (t' := s4.toks) fun b ob q => Heap.get?_push_of_some _ q
  obtain ⟨its, r, ht, hz⟩ := I5.list hx
  have hlen := r.length
  show wpAny (model X.prog X.w) X.A (subscriptTail e (.Slice none (some (.Constant (.int 0) k0 p0)) (some (.UnaryOp .USub (.Constant (.int 1) k p1) p2)) p3) (.ref a) (.ref s4.heap.objs.size)) (EP X pins σ Q) X.xe { s4 with heap := s4.heap.push { cls := .type "slice", data := .fields #[vl, vu, vs] } }
  refine tail_any (ops := [.ref a, .ref s4.heap.objs.size]) ht.isList.typeIs (PySem.slot_list_getitem.lookup) ?_ (by with_unfolding_all rfl)
  refine wpAny_getItem_list_slice ht.isList (Heap.IsSliceOf.new _ vl vu vs) pl pu ps (by decide) ?_ (by rw [List.size_toArray]; omega)
  have hpos : 0 < its.length := by
    have := List.length_pos_iff.mpr hne
    omega
  rw [pick0 (by rw [List.size_toArray]; exact hpos)]
  refine ⟨.ref _, _, I5.laid (t' := s4.toks) (o := .lst xs.tail.reverse) (fun b ob q => Heap.get?_push_of_some _ q) (Nat.le_refl _) ?_, rfl, q _ (I5.hok.fresh (Nat.le_refl _))⟩
  refine ⟨by rw [List.length_reverse, List.length_tail]; omega, its.tail.reverse, 0, ?_, Heap.get?_push_size _ rfl⟩
  refine Vals.reverse ?_
  cases r with
  | nil => exact .nil
  | cons a t => exact t
theorem el_rev0 {K : PySem.W.Frag} {σ : L2.St} {H : Hp} {te : TE} {xs : List V} (h : EvL te σ H xs) (hne : xs ≠ []) : EvL (tRev0L K te) σ H xs.tail.reverse := fun H1 e Q q => h H1 e _ fun p H2 np e2 hp =>
  ⟨p, xs, rfl, sq_of hp, hne, fun l hl => q l _ (fresh_back e2 hl) (e2.trans (Ex.new hl)) upd_same⟩
end Kit

namespace K19
open PySem PySem.Spec PyProof.Rows L2 Evl Kit
def topS (i : Nat) : Stmt := PySem.Challenge.pw_newtables_k19_whole_records.main.body.getD i (.Pass ⟨0, 0, 0, 0⟩)
abbrev s_is_whole : Stmt := topS 13
abbrev n_is_whole : List Str := ["thing"]
theorem sc_is_whole : FnScope n_is_whole ["thing"] (defScope s_is_whole) := ⟨rfl, rfl, rfl, by decide +kernel, rfl, by decide +kernel, by decide +kernel⟩
abbrev s_is_within : Stmt := topS 14
abbrev n_is_within : List Str := ["thing", "least", "most"]
theorem sc_is_within : FnScope n_is_within ["thing", "least", "most"] (defScope s_is_within) := ⟨rfl, rfl, rfl, by decide +kernel, rfl, by decide +kernel, by decide +kernel⟩
abbrev s_is_order : Stmt := topS 15
abbrev n_is_order : List Str := ["thing", "item"]
theorem sc_is_order : FnScope n_is_order ["thing"] (defScope s_is_order) := ⟨rfl, rfl, rfl, by decide +kernel, rfl, by decide +kernel, by decide +kernel⟩
abbrev s_check_guests : Stmt := topS 16
abbrev n_check_guests : List Str := ["guests"]
theorem sc_check_guests : FnScope n_check_guests ["guests"] (defScope s_check_guests) := ⟨rfl, rfl, rfl, by decide +kernel, rfl, by decide +kernel, by decide +kernel⟩
abbrev s_check_weight : Stmt := topS 17
abbrev n_check_weight : List Str := ["weight"]
theorem sc_check_weight : FnScope n_check_weight ["weight"] (defScope s_check_weight) := ⟨rfl, rfl, rfl, by decide +kernel, rfl, by decide +kernel, by decide +kernel⟩
abbrev s_check_number : Stmt := topS 18
abbrev n_check_number : List Str := ["number", "least", "most"]
theorem sc_check_number : FnScope n_check_number ["number", "least", "most"] (defScope s_check_number) := ⟨rfl, rfl, rfl, by decide +kernel, rfl, by decide +kernel, by decide +kernel⟩
abbrev s_check_index : Stmt := topS 19
abbrev n_check_index : List Str := ["index", "many"]
theorem sc_check_index : FnScope n_check_index ["index", "many"] (defScope s_check_index) := ⟨rfl, rfl, rfl, by decide +kernel, rfl, by decide +kernel, by decide +kernel⟩
abbrev s_rising : Stmt := topS 20
abbrev n_rising : List Str := ["weight", "guests", "total", "guest"]
theorem sc_rising : FnScope n_rising ["weight", "guests"] (defScope s_rising) := ⟨rfl, rfl, rfl, by decide +kernel, rfl, by decide +kernel, by decide +kernel⟩
abbrev s_sums_by_tables : Stmt := topS 21
abbrev n_sums_by_tables : List Str := ["factors", "sums", "steep", "even", "part", "less", "more", "one", "other"]
theorem sc_sums_by_tables : FnScope n_sums_by_tables ["factors"] (defScope s_sums_by_tables) := ⟨rfl, rfl, rfl, by decide +kernel, rfl, by decide +kernel, by decide +kernel⟩
abbrev s_fraction : Stmt := topS 22
abbrev n_fraction : List Str := ["top", "bottom", "common"]
theorem sc_fraction : FnScope n_fraction ["top", "bottom"] (defScope s_fraction) := ⟨rfl, rfl, rfl, by decide +kernel, rfl, by decide +kernel, by decide +kernel⟩
abbrev s_is_seating : Stmt := topS 24
abbrev n_is_seating : List Str := ["thing"]
theorem sc_is_seating : FnScope n_is_seating ["thing"] (defScope s_is_seating) := ⟨rfl, rfl, rfl, by decide +kernel, rfl, by decide +kernel, by decide +kernel⟩
abbrev s_tables_of : Stmt := topS 25
abbrev n_tables_of : List Str := ["seating"]
theorem sc_tables_of : FnScope n_tables_of ["seating"] (defScope s_tables_of) := ⟨rfl, rfl, rfl, by decide +kernel, rfl, by decide +kernel, by decide +kernel⟩
abbrev s_record_list : Stmt := topS 26
abbrev n_record_list : List Str := ["seating", "table", "guest"]
theorem sc_record_list : FnScope n_record_list ["seating"] (defScope s_record_list) := ⟨rfl, rfl, rfl, by decide +kernel, rfl, by decide +kernel, by decide +kernel⟩
abbrev s_seating_of_records : Stmt := topS 27
abbrev n_seating_of_records : List Str := ["names", "tables", "guest"]
theorem sc_seating_of_records : FnScope n_seating_of_records ["names"] (defScope s_seating_of_records) := ⟨rfl, rfl, rfl, by decide +kernel, rfl, by decide +kernel, by decide +kernel⟩
abbrev s_check_seating : Stmt := topS 28
abbrev n_check_seating : List Str := ["seating"]
theorem sc_check_seating : FnScope n_check_seating ["seating"] (defScope s_check_seating) := ⟨rfl, rfl, rfl, by decide +kernel, rfl, by decide +kernel, by decide +kernel⟩
abbrev s_check_names : Stmt := topS 29
abbrev n_check_names : List Str := ["names"]
theorem sc_check_names : FnScope n_check_names ["names"] (defScope s_check_names) := ⟨rfl, rfl, rfl, by decide +kernel, rfl, by decide +kernel, by decide +kernel⟩
abbrev s_walk_left : Stmt := topS 30
abbrev n_walk_left : List Str := ["lefts", "guest", "walk"]
theorem sc_walk_left : FnScope n_walk_left ["lefts", "guest"] (defScope s_walk_left) := ⟨rfl, rfl, rfl, by decide +kernel, rfl, by decide +kernel, by decide +kernel⟩
abbrev s_tables_among : Stmt := topS 31
abbrev n_tables_among : List Str := ["lefts", "guests", "guest", "walks", "walk"]
theorem sc_tables_among : FnScope n_tables_among ["lefts", "guests"] (defScope s_tables_among) := ⟨rfl, rfl, rfl, by decide +kernel, rfl, by decide +kernel, by decide +kernel⟩
abbrev s_seating_with : Stmt := topS 32
abbrev n_seating_with : List Str := ["tables", "table", "seating", "at", "guest"]
theorem sc_seating_with : FnScope n_seating_with ["tables"] (defScope s_seating_with) := ⟨rfl, rfl, rfl, by decide +kernel, rfl, by decide +kernel, by decide +kernel⟩
abbrev s_is_coming : Stmt := topS 34
abbrev n_is_coming : List Str := ["thing", "guest", "item"]
theorem sc_is_coming : FnScope n_is_coming ["thing"] (defScope s_is_coming) := ⟨rfl, rfl, rfl, by decide +kernel, rfl, by decide +kernel, by decide +kernel⟩
abbrev s_coming_of : Stmt := topS 35
abbrev n_coming_of : List Str := ["seating", "rest", "items", "right"]
theorem sc_coming_of : FnScope n_coming_of ["seating"] (defScope s_coming_of) := ⟨rfl, rfl, rfl, by decide +kernel, rfl, by decide +kernel, by decide +kernel⟩
abbrev s_seating_by : Stmt := topS 36
abbrev n_seating_by : List Str := ["coming", "seating", "guest", "right"]
theorem sc_seating_by : FnScope n_seating_by ["coming"] (defScope s_seating_by) := ⟨rfl, rfl, rfl, by decide +kernel, rfl, by decide +kernel, by decide +kernel⟩
abbrev s_openers_of : Stmt := topS 37
abbrev n_openers_of : List Str := ["seating", "table"]
theorem sc_openers_of : FnScope n_openers_of ["seating"] (defScope s_openers_of) := ⟨rfl, rfl, rfl, by decide +kernel, rfl, by decide +kernel, by decide +kernel⟩
abbrev s_check_coming : Stmt := topS 38
abbrev n_check_coming : List Str := ["coming"]
theorem sc_check_coming : FnScope n_check_coming ["coming"] (defScope s_check_coming) := ⟨rfl, rfl, rfl, by decide +kernel, rfl, by decide +kernel, by decide +kernel⟩
abbrev s_total_weight : Stmt := topS 40
abbrev n_total_weight : List Str := ["guests", "weight"]
theorem sc_total_weight : FnScope n_total_weight ["guests", "weight"] (defScope s_total_weight) := ⟨rfl, rfl, rfl, by decide +kernel, rfl, by decide +kernel, by decide +kernel⟩
abbrev s_tables_share : Stmt := topS 41
abbrev n_tables_share : List Str := ["guests", "weight", "number"]
theorem sc_tables_share : FnScope n_tables_share ["guests", "weight", "number"] (defScope s_tables_share) := ⟨rfl, rfl, rfl, by decide +kernel, rfl, by decide +kernel, by decide +kernel⟩
abbrev s_weights_by_tables : Stmt := topS 42
abbrev n_weights_by_tables : List Str := ["guests", "weight", "guest"]
theorem sc_weights_by_tables : FnScope n_weights_by_tables ["guests", "weight"] (defScope s_weights_by_tables) := ⟨rfl, rfl, rfl, by decide +kernel, rfl, by decide +kernel, by decide +kernel⟩
abbrev s_by_tables : Stmt := topS 44
abbrev n_by_tables : List Str := ["guests"]
theorem sc_by_tables : FnScope n_by_tables ["guests"] (defScope s_by_tables) := ⟨rfl, rfl, rfl, by decide +kernel, rfl, by decide +kernel, by decide +kernel⟩
abbrev s_nth_seating : Stmt := topS 45
abbrev n_nth_seating : List Str := ["guests", "index", "free", "seating", "at"]
theorem sc_nth_seating : FnScope n_nth_seating ["guests", "index"] (defScope s_nth_seating) := ⟨rfl, rfl, rfl, by decide +kernel, rfl, by decide +kernel, by decide +kernel⟩
abbrev s_law_pouch : Stmt := topS 47
abbrev n_law_pouch : List Str := ["script", "at", "cell"]
theorem sc_law_pouch : FnScope n_law_pouch ["script", "at"] (defScope s_law_pouch) := ⟨rfl, rfl, rfl, by decide +kernel, rfl, by decide +kernel, by decide +kernel⟩
abbrev s_law_dip : Stmt := topS 48
abbrev n_law_dip : List Str := ["pouch", "wide", "taken", "mixed"]
theorem sc_law_dip : FnScope n_law_dip ["pouch", "wide"] (defScope s_law_dip) := ⟨rfl, rfl, rfl, by decide +kernel, rfl, by decide +kernel, by decide +kernel⟩
abbrev s_law_every : Stmt := topS 49
abbrev n_law_every : List Str := ["many", "found", "turn", "longer", "row", "one"]
theorem sc_law_every : FnScope n_law_every ["many"] (defScope s_law_every) := ⟨rfl, rfl, rfl, by decide +kernel, rfl, by decide +kernel, by decide +kernel⟩
abbrev s_law_weigh : Stmt := topS 50
abbrev n_law_weigh : List Str := ["heavy", "many", "found", "turn"]
theorem sc_law_weigh : FnScope n_law_weigh ["heavy", "many"] (defScope s_law_weigh) := ⟨rfl, rfl, rfl, by decide +kernel, rfl, by decide +kernel, by decide +kernel⟩
abbrev s_law_heavy : Stmt := topS 51
abbrev n_law_heavy : List Str := ["pouch"]
theorem sc_law_heavy : FnScope n_law_heavy ["pouch"] (defScope s_law_heavy) := ⟨rfl, rfl, rfl, by decide +kernel, rfl, by decide +kernel, by decide +kernel⟩
abbrev s_law_rise : Stmt := topS 52
abbrev n_law_rise : List Str := ["heavy", "many", "found", "turn"]
theorem sc_law_rise : FnScope n_law_rise ["heavy", "many"] (defScope s_law_rise) := ⟨rfl, rfl, rfl, by decide +kernel, rfl, by decide +kernel, by decide +kernel⟩
abbrev s_law_leasts : Stmt := topS 53
abbrev n_law_leasts : List Str := ["row", "k"]
theorem sc_law_leasts : FnScope n_law_leasts ["row"] (defScope s_law_leasts) := ⟨rfl, rfl, rfl, by decide +kernel, rfl, by decide +kernel, by decide +kernel⟩
abbrev s_law_all_right : Stmt := topS 54
abbrev n_law_all_right : List Str := ["many", "heavy", "rows", "row", "halls", "hall", "counts", "whole", "width", "top", "bottom"]
theorem sc_law_all_right : FnScope n_law_all_right ["many", "heavy"] (defScope s_law_all_right) := ⟨rfl, rfl, rfl, by decide +kernel, rfl, by decide +kernel, by decide +kernel⟩
abbrev s_law_one_right : Stmt := topS 55
abbrev n_law_one_right : List Str := ["row", "many", "places", "hall", "rings", "k", "ring", "low", "high"]
theorem sc_law_one_right : FnScope n_law_one_right ["row"] (defScope s_law_one_right) := ⟨rfl, rfl, rfl, by decide +kernel, rfl, by decide +kernel, by decide +kernel⟩
abbrev s_law_newcomer_right : Stmt := topS 56
abbrev n_law_newcomer_right : List Str := ["pouch", "row", "hall", "many", "entries", "k", "due"]
theorem sc_law_newcomer_right : FnScope n_law_newcomer_right ["pouch", "row"] (defScope s_law_newcomer_right) := ⟨rfl, rfl, rfl, by decide +kernel, rfl, by decide +kernel, by decide +kernel⟩
abbrev s_law : Stmt := topS 57
abbrev n_law : List Str := ["script", "at", "pouch", "many", "row", "found", "kept"]
theorem sc_law : FnScope n_law ["script"] (defScope s_law) := ⟨rfl, rfl, rfl, by decide +kernel, rfl, by decide +kernel, by decide +kernel⟩
/-! what the top has written -/
structure Tx (K : PySem.W.Frag) (mg : Str → Option Value) where
  f_is_whole : Addr
  d_is_whole : FuncData
  F_is_whole : Fun K "is_whole" "is_whole" s_is_whole f_is_whole d_is_whole
  g_is_whole : mg "is_whole" = some (.ref f_is_whole)
  b_is_whole : Binds K d_is_whole ["thing"] []
  f_is_within : Addr
  d_is_within : FuncData
  F_is_within : Fun K "is_within" "is_within" s_is_within f_is_within d_is_within
  g_is_within : mg "is_within" = some (.ref f_is_within)
  b_is_within : Binds K d_is_within ["thing", "least", "most"] []
  f_is_order : Addr
  d_is_order : FuncData
  F_is_order : Fun K "is_order" "is_order" s_is_order f_is_order d_is_order
  g_is_order : mg "is_order" = some (.ref f_is_order)
  b_is_order : Binds K d_is_order ["thing"] []
  f_check_guests : Addr
  d_check_guests : FuncData
  F_check_guests : Fun K "check_guests" "check_guests" s_check_guests f_check_guests d_check_guests
  g_check_guests : mg "check_guests" = some (.ref f_check_guests)
  b_check_guests : Binds K d_check_guests ["guests"] []
  f_check_weight : Addr
  d_check_weight : FuncData
  F_check_weight : Fun K "check_weight" "check_weight" s_check_weight f_check_weight d_check_weight
  g_check_weight : mg "check_weight" = some (.ref f_check_weight)
  b_check_weight : Binds K d_check_weight ["weight"] []
  f_check_number : Addr
  d_check_number : FuncData
  F_check_number : Fun K "check_number" "check_number" s_check_number f_check_number d_check_number
  g_check_number : mg "check_number" = some (.ref f_check_number)
  b_check_number : Binds K d_check_number ["number", "least", "most"] []
  f_check_index : Addr
  d_check_index : FuncData
  F_check_index : Fun K "check_index" "check_index" s_check_index f_check_index d_check_index
  g_check_index : mg "check_index" = some (.ref f_check_index)
  b_check_index : Binds K d_check_index ["index", "many"] []
  f_rising : Addr
  d_rising : FuncData
  F_rising : Fun K "rising" "rising" s_rising f_rising d_rising
  g_rising : mg "rising" = some (.ref f_rising)
  b_rising : Binds K d_rising ["weight", "guests"] []
  f_sums_by_tables : Addr
  d_sums_by_tables : FuncData
  F_sums_by_tables : Fun K "sums_by_tables" "sums_by_tables" s_sums_by_tables f_sums_by_tables d_sums_by_tables
  g_sums_by_tables : mg "sums_by_tables" = some (.ref f_sums_by_tables)
  b_sums_by_tables : Binds K d_sums_by_tables ["factors"] []
  f_fraction : Addr
  d_fraction : FuncData
  F_fraction : Fun K "fraction" "fraction" s_fraction f_fraction d_fraction
  g_fraction : mg "fraction" = some (.ref f_fraction)
  b_fraction : Binds K d_fraction ["top", "bottom"] []
  f_is_seating : Addr
  d_is_seating : FuncData
  F_is_seating : Fun K "is_seating" "is_seating" s_is_seating f_is_seating d_is_seating
  g_is_seating : mg "is_seating" = some (.ref f_is_seating)
  b_is_seating : Binds K d_is_seating ["thing"] []
  f_tables_of : Addr
  d_tables_of : FuncData
  F_tables_of : Fun K "tables_of" "tables_of" s_tables_of f_tables_of d_tables_of
  g_tables_of : mg "tables_of" = some (.ref f_tables_of)
  b_tables_of : Binds K d_tables_of ["seating"] []
  f_record_list : Addr
  d_record_list : FuncData
  F_record_list : Fun K "record_list" "record_list" s_record_list f_record_list d_record_list
  g_record_list : mg "record_list" = some (.ref f_record_list)
  b_record_list : Binds K d_record_list ["seating"] []
  f_seating_of_records : Addr
  d_seating_of_records : FuncData
  F_seating_of_records : Fun K "seating_of_records" "seating_of_records" s_seating_of_records f_seating_of_records d_seating_of_records
  g_seating_of_records : mg "seating_of_records" = some (.ref f_seating_of_records)
  b_seating_of_records : Binds K d_seating_of_records ["names"] []
  f_check_seating : Addr
  d_check_seating : FuncData
  F_check_seating : Fun K "check_seating" "check_seating" s_check_seating f_check_seating d_check_seating
  g_check_seating : mg "check_seating" = some (.ref f_check_seating)
  b_check_seating : Binds K d_check_seating ["seating"] []
  f_check_names : Addr
  d_check_names : FuncData
  F_check_names : Fun K "check_names" "check_names" s_check_names f_check_names d_check_names
  g_check_names : mg "check_names" = some (.ref f_check_names)
  b_check_names : Binds K d_check_names ["names"] []
  f_walk_left : Addr
  d_walk_left : FuncData
  F_walk_left : Fun K "walk_left" "walk_left" s_walk_left f_walk_left d_walk_left
  g_walk_left : mg "walk_left" = some (.ref f_walk_left)
  b_walk_left : Binds K d_walk_left ["lefts", "guest"] []
  f_tables_among : Addr
  d_tables_among : FuncData
  F_tables_among : Fun K "tables_among" "tables_among" s_tables_among f_tables_among d_tables_among
  g_tables_among : mg "tables_among" = some (.ref f_tables_among)
  b_tables_among : Binds K d_tables_among ["lefts", "guests"] []
  f_seating_with : Addr
  d_seating_with : FuncData
  F_seating_with : Fun K "seating_with" "seating_with" s_seating_with f_seating_with d_seating_with
  g_seating_with : mg "seating_with" = some (.ref f_seating_with)
  b_seating_with : Binds K d_seating_with ["tables"] []
  f_is_coming : Addr
  d_is_coming : FuncData
  F_is_coming : Fun K "is_coming" "is_coming" s_is_coming f_is_coming d_is_coming
  g_is_coming : mg "is_coming" = some (.ref f_is_coming)
  b_is_coming : Binds K d_is_coming ["thing"] []
  f_coming_of : Addr
  d_coming_of : FuncData
  F_coming_of : Fun K "coming_of" "coming_of" s_coming_of f_coming_of d_coming_of
  g_coming_of : mg "coming_of" = some (.ref f_coming_of)
  b_coming_of : Binds K d_coming_of ["seating"] []
  f_seating_by : Addr
  d_seating_by : FuncData
  F_seating_by : Fun K "seating_by" "seating_by" s_seating_by f_seating_by d_seating_by
  g_seating_by : mg "seating_by" = some (.ref f_seating_by)
  b_seating_by : Binds K d_seating_by ["coming"] []
  f_openers_of : Addr
  d_openers_of : FuncData
  F_openers_of : Fun K "openers_of" "openers_of" s_openers_of f_openers_of d_openers_of
  g_openers_of : mg "openers_of" = some (.ref f_openers_of)
  b_openers_of : Binds K d_openers_of ["seating"] []
  f_check_coming : Addr
  d_check_coming : FuncData
  F_check_coming : Fun K "check_coming" "check_coming" s_check_coming f_check_coming d_check_coming
  g_check_coming : mg "check_coming" = some (.ref f_check_coming)
  b_check_coming : Binds K d_check_coming ["coming"] []
  f_total_weight : Addr
  d_total_weight : FuncData
  F_total_weight : Fun K "total_weight" "total_weight" s_total_weight f_total_weight d_total_weight
  g_total_weight : mg "total_weight" = some (.ref f_total_weight)
  b_total_weight : Binds K d_total_weight ["guests", "weight"] []
  f_tables_share : Addr
  d_tables_share : FuncData
  F_tables_share : Fun K "tables_share" "tables_share" s_tables_share f_tables_share d_tables_share
  g_tables_share : mg "tables_share" = some (.ref f_tables_share)
  b_tables_share : Binds K d_tables_share ["guests", "weight", "number"] []
  f_weights_by_tables : Addr
  d_weights_by_tables : FuncData
  F_weights_by_tables : Fun K "weights_by_tables" "weights_by_tables" s_weights_by_tables f_weights_by_tables d_weights_by_tables
  g_weights_by_tables : mg "weights_by_tables" = some (.ref f_weights_by_tables)
  b_weights_by_tables : Binds K d_weights_by_tables ["guests", "weight"] []
  f_by_tables : Addr
  d_by_tables : FuncData
  F_by_tables : Fun K "by_tables" "by_tables" s_by_tables f_by_tables d_by_tables
  g_by_tables : mg "by_tables" = some (.ref f_by_tables)
  b_by_tables : Binds K d_by_tables ["guests"] []
  f_nth_seating : Addr
  d_nth_seating : FuncData
  F_nth_seating : Fun K "nth_seating" "nth_seating" s_nth_seating f_nth_seating d_nth_seating
  g_nth_seating : mg "nth_seating" = some (.ref f_nth_seating)
  b_nth_seating : Binds K d_nth_seating ["guests", "index"] []
  f_law_pouch : Addr
  d_law_pouch : FuncData
  F_law_pouch : Fun K "_law_pouch" "_law_pouch" s_law_pouch f_law_pouch d_law_pouch
  g_law_pouch : mg "_law_pouch" = some (.ref f_law_pouch)
  b_law_pouch : Binds K d_law_pouch ["script", "at"] []
  f_law_dip : Addr
  d_law_dip : FuncData
  F_law_dip : Fun K "_law_dip" "_law_dip" s_law_dip f_law_dip d_law_dip
  g_law_dip : mg "_law_dip" = some (.ref f_law_dip)
  b_law_dip : Binds K d_law_dip ["pouch", "wide"] []
  f_law_every : Addr
  d_law_every : FuncData
  F_law_every : Fun K "_law_every" "_law_every" s_law_every f_law_every d_law_every
  g_law_every : mg "_law_every" = some (.ref f_law_every)
  b_law_every : Binds K d_law_every ["many"] []
  f_law_weigh : Addr
  d_law_weigh : FuncData
  F_law_weigh : Fun K "_law_weigh" "_law_weigh" s_law_weigh f_law_weigh d_law_weigh
  g_law_weigh : mg "_law_weigh" = some (.ref f_law_weigh)
  b_law_weigh : Binds K d_law_weigh ["heavy", "many"] []
  f_law_heavy : Addr
  d_law_heavy : FuncData
  F_law_heavy : Fun K "_law_heavy" "_law_heavy" s_law_heavy f_law_heavy d_law_heavy
  g_law_heavy : mg "_law_heavy" = some (.ref f_law_heavy)
  b_law_heavy : Binds K d_law_heavy ["pouch"] []
  f_law_rise : Addr
  d_law_rise : FuncData
  F_law_rise : Fun K "_law_rise" "_law_rise" s_law_rise f_law_rise d_law_rise
  g_law_rise : mg "_law_rise" = some (.ref f_law_rise)
  b_law_rise : Binds K d_law_rise ["heavy", "many"] []
  f_law_leasts : Addr
  d_law_leasts : FuncData
  F_law_leasts : Fun K "_law_leasts" "_law_leasts" s_law_leasts f_law_leasts d_law_leasts
  g_law_leasts : mg "_law_leasts" = some (.ref f_law_leasts)
  b_law_leasts : Binds K d_law_leasts ["row"] []
  f_law_all_right : Addr
  d_law_all_right : FuncData
  F_law_all_right : Fun K "_law_all_right" "_law_all_right" s_law_all_right f_law_all_right d_law_all_right
  g_law_all_right : mg "_law_all_right" = some (.ref f_law_all_right)
  b_law_all_right : Binds K d_law_all_right ["many", "heavy"] []
  f_law_one_right : Addr
  d_law_one_right : FuncData
  F_law_one_right : Fun K "_law_one_right" "_law_one_right" s_law_one_right f_law_one_right d_law_one_right
  g_law_one_right : mg "_law_one_right" = some (.ref f_law_one_right)
  b_law_one_right : Binds K d_law_one_right ["row"] []
  f_law_newcomer_right : Addr
  d_law_newcomer_right : FuncData
  F_law_newcomer_right : Fun K "_law_newcomer_right" "_law_newcomer_right" s_law_newcomer_right f_law_newcomer_right d_law_newcomer_right
  g_law_newcomer_right : mg "_law_newcomer_right" = some (.ref f_law_newcomer_right)
  b_law_newcomer_right : Binds K d_law_newcomer_right ["pouch", "row"] []
  f_law : Addr
  d_law : FuncData
  F_law : Fun K "law" "law" s_law f_law d_law
  g_law : mg "law" = some (.ref f_law)
  b_law : Binds K d_law ["script"] []
  m_abs : mg "abs" = none
  m_all : mg "all" = none
  m_divmod : mg "divmod" = none
  m_enumerate : mg "enumerate" = none
  m_int : mg "int" = none
  m_len : mg "len" = none
  m_list : mg "list" = none
  m_max : mg "max" = none
  m_min : mg "min" = none
  m_range : mg "range" = none
  m_sorted : mg "sorted" = none
  m_sum : mg "sum" = none
  m_tuple : mg "tuple" = none
  m_type : mg "type" = none
  m_zip : mg "zip" = none
  c_MOST_GUESTS : ∃ u, mg "MOST_GUESTS" = some u ∧ RelV (.int 20) u
  c_MOST_WEIGHT : ∃ u, mg "MOST_WEIGHT" = some u ∧ RelV (.int 1000000000000) u
  i_factorial : mg "factorial" = some (.builtin "math.factorial")
  i_gcd : mg "gcd" = some (.builtin "math.gcd")
/-! readings that go by themselves -/
local macro_rules | `(tactic| walk_at "side") => `(tactic| first | with_reducible assumption | with_reducible rfl | omega | decide | (constructor <;> first | assumption | omega | decide))
local macro_rules | `(tactic| walk_at "ev") => `(tactic| first
  | ((with_reducible refine' ev_var ?e1); (case e1 => rfl))
  | (with_reducible exact ev_c)
  | ((with_reducible refine' ev_op ?e1 ?e2 rv_I0); (case e1 => walk_at "ev"); (case e2 => walk_at "ev"))
  | ((with_reducible refine' ev_op ?e1 ?e2 (rv_I ?e3)); (case e1 => walk_at "ev"); (case e2 => walk_at "ev"); (case e3 => walk_at "side"))
  | ((with_reducible refine' ev_op ?e1 ?e2 (rv_eq ?e3)); (case e1 => walk_at "ev"); (case e2 => walk_at "ev"); (case e3 => rfl))
  | ((with_reducible refine' ev_op ?e1 ?e2 (rv_ne ?e3)); (case e1 => walk_at "ev"); (case e2 => walk_at "ev"); (case e3 => rfl))
  | ((with_reducible refine' ev_op ?e1 ?e2 (rv_ixL ?e3 ?e4)); (case e1 => walk_at "ev"); (case e2 => walk_at "ev"); (case e3 => walk_at "sq"); (case e4 => walk_at "at"))
  | ((with_reducible refine' ev_op ?e1 ?e2 (rv_ixT ?e3 ?e4)); (case e1 => walk_at "ev"); (case e2 => walk_at "ev"); (case e3 => walk_at "sq"); (case e4 => walk_at "at"))
  | ((with_reducible refine' ev_op ?e1 ?e2 rv_isN); (case e1 => walk_at "ev"); (case e2 => walk_at "ev"))
  | ((with_reducible refine' ev_op ?e1 ?e2 rv_notN); (case e1 => walk_at "ev"); (case e2 => walk_at "ev"))
  | ((with_reducible refine' ev_op ?e1 ?e2 (rv_eqTy ?e3 ?e4)); (case e1 => walk_at "ev"); (case e2 => walk_at "ev"); (case e3 => exact PySem.TypeEq.meta_int); (case e4 => exact PySem.TypeEq.meta_int))
  | ((with_reducible refine' ev_un ?e1 ru_neg); (case e1 => walk_at "ev"))
  | ((with_reducible refine' ev_intI ?e1); (case e1 => walk_at "ev"))
  | ((with_reducible refine' ev_intB ?e1); (case e1 => walk_at "ev"))
  | ((with_reducible refine' ev_typeI ?e1); (case e1 => walk_at "ev"))
  | ((with_reducible refine' ev_abs ?e1); (case e1 => walk_at "ev"))
  | ((with_reducible refine' ev_max2 ?e1 ?e2); (case e1 => walk_at "ev"); (case e2 => walk_at "ev"))
  | ((with_reducible refine' ev_min2 ?e1 ?e2); (case e1 => walk_at "ev"); (case e2 => walk_at "ev"))
  | ((with_reducible refine' ev_gcd ?e1 ?e2); (case e1 => walk_at "ev"); (case e2 => walk_at "ev"))
  | ((with_reducible refine' ev_len ?e1 ?e2); (case e1 => walk_at "ev"); (case e2 => walk_at "sq"))
  | ((with_reducible refine' ev_chainI ?e1 ?e2 ?e3); (case e1 => walk_at "ev"); (case e2 => walk_at "ev"); (case e3 => walk_at "ev"))
  | ((with_reducible refine' ev_chain3I ?e1 ?e2 ?e3 ?e4); (case e1 => walk_at "ev"); (case e2 => walk_at "ev"); (case e3 => walk_at "ev"); (case e4 => walk_at "ev"))
  | ((with_reducible refine' ev_notV ?e1); (case e1 => walk_at "ev"))
  | ((with_reducible refine' ev_andV ?e1 ?e2); (case e1 => walk_at "ev"); (case e2 => (intro _; walk_at "ev")))
  | ((with_reducible refine' ev_orV ?e1 ?e2); (case e1 => walk_at "ev"); (case e2 => (intro _; walk_at "ev")))
  | ((with_reducible refine' ev_if ?e1 ?e2 ?e3); (case e1 => walk_at "et"); (case e2 => (intro _; walk_at "ev")); (case e3 => (intro _; walk_at "ev")))
  | ((with_reducible refine' ev_call ?e1 ?e2); (case e1 => walk_at "ea"); (case e2 => walk_at "call")))
local macro_rules | `(tactic| walk_at "ea") => `(tactic| first
  | (with_reducible exact ea_nil)
  | ((with_reducible refine' ea_cons ?e1 ?e2); (case e1 => walk_at "ev"); (case e2 => walk_at "ea")))
local macro_rules | `(tactic| walk_at "et") => `(tactic| first
  | ((with_reducible refine' et_test ?e1); (case e1 => walk_at "ev"))
  | ((with_reducible refine' et_B ?e1); (case e1 => walk_at "ev"))
  | ((with_reducible refine' et_not ?e1); (case e1 => walk_at "et"))
  | ((with_reducible refine' et_and ?e1 ?e2); (case e1 => walk_at "et"); (case e2 => (intro _; walk_at "et")))
  | ((with_reducible refine' et_or ?e1 ?e2); (case e1 => walk_at "et"); (case e2 => (intro _; walk_at "et"))))
local macro_rules | `(tactic| walk_at "eu") => `(tactic| first
  | ((with_reducible refine' eu_tup ?e1 ?e2); (case e1 => walk_at "ea"); (case e2 => exact Nat.le_of_ble_eq_true rfl))
  | ((with_reducible refine' eu_call ?e1 ?e2); (case e1 => walk_at "ea"); (case e2 => walk_at "callU")))
local macro_rules | `(tactic| walk_at "el") => `(tactic| first
  | ((with_reducible refine' el_call ?e1 ?e2); (case e1 => walk_at "ea"); (case e2 => walk_at "callL"))
  | ((with_reducible refine' el_lst ?e1 ?e2); (case e1 => walk_at "ea"); (case e2 => exact Nat.le_of_ble_eq_true rfl)))
local macro_rules | `(tactic| walk_at "sq") => `(tactic| first | assumption | exact sq_of (by assumption) | exact st_of (by assumption))
local macro_rules | `(tactic| walk_at "at") => `(tactic| first | assumption | rfl | (apply atI_nat; rfl))
local macro_rules | `(tactic| walk_at "call") => `(tactic| assumption)

/-! ### the pouch -/
/-- H without p -/
def Hm (p : Addr) (H : Hp) : Hp := fun b => if b = p then none else H b
theorem hm_p {p : Addr} {H : Hp} : Hm p H p = none := if_pos rfl
theorem hm_sub {p : Addr} {H : Hp} : Ex (Hm p H) H := fun a o h => by
  unfold Hm at h
  split at h
  · cases h
  · exact h
theorem hm_mono {p : Addr} {H H' : Hp} (e : Ex H H') : Ex (Hm p H) (Hm p H') := fun a o h => by
  unfold Hm at h ⊢
  split at h
  · cases h
  · rename_i ne
    rw [if_neg ne]
    exact e a o h
theorem ex_hm {p : Addr} {H0 H : Hp} (e : Ex H0 H) (h : H0 p = none) : Ex H0 (Hm p H) := fun a o ha => by
  unfold Hm
  rw [if_neg (ne_of_none ha h)]
  exact e a o ha
/-- a pouch after at most n mixed draws -/
def Po (p : Addr) (n : Nat) (H : Hp) : Prop := ∃ a b c : Int, H p = some (.lst [.int a, .int b, .int c]) ∧ (0 ≤ b ∧ b < 2 ^ 200) ∧ 0 ≤ c ∧ c ≤ n
theorem Po.ex {p : Addr} {n : Nat} {H H' : Hp} (h : Po p n H) (e : Ex H H') : Po p n H' := by
  obtain ⟨a, b, c, h1, h2⟩ := h
  exact ⟨a, b, c, e p _ h1, h2⟩
theorem Po.mono {p : Addr} {n m : Nat} {H : Hp} (h : Po p n H) (e : n ≤ m) : Po p m H := by
  obtain ⟨a, b, c, h1, h2, h3, h4⟩ := h
  exact ⟨a, b, c, h1, h2, h3, by omega⟩
theorem pow3_ok {i : Int} (h : i.natAbs < 2 ^ 250) : CPowX i 3 := by
  have := PyProof.Rows.intBits_le h
  unfold CPowX
  omega
theorem divw_ok {i j : Int} (h : 0 < j) (hb : j < 2 ^ 200) : CDivW i j := wide_div (b := 200) h (by omega) (by decide) (by decide)
theorem mulk_ok {i j : Int} (h : i.natAbs < 2 ^ 100000) (hb : j.natAbs < 2 ^ 100000) : CMulX i j := mulx_ok h hb (by decide)
def sp_law_pouch (K : PySem.W.Frag) : Sp := fun vs H Q _ => ∃ (s : Addr) (ns : List Int) (i : Nat), vs = [.ref s, .int (i : Int)] ∧ SqL K H s (ns.map V.int) ∧ i ≤ 100 ∧ ∀ p H', H p = none → Ex H H' → Po p 0 H' → Q (.ref p) H'
def sp_law_dip : Sp := fun vs H Q _ => ∃ (p : Addr) (n : Nat) (w : Int), vs = [.ref p, .int w] ∧ Po p n H ∧ n < 1000000000 ∧ 0 < w ∧ w < 2 ^ 200 ∧
  ∀ r H', 0 ≤ r → r < w → Po p (n + 1) H' → Ex (Hm p H) H' → Q (.int r) H'
section
variable {P : Program} {w : World} {K : PySem.W.Frag} {mg : Str → Option Value} {base : Heap}
theorem ok_law_dip (T : Tx K mg) : FnOk P w K mg base CX0 1 T.f_law_dip T.d_law_dip ["pouch", "wide"] sp_law_dip := by
  refine T.F_law_dip.ok sc_law_dip (fun vs H Q E h => ?_) (fun cdv A outer s H vs Q E hr h => ?_)
  · obtain ⟨p, n, w, rfl, _⟩ := h
    rfl
  · obtain ⟨p, n, w, rfl, ⟨a, b, c, hp, ⟨hb0, hb1⟩, hc0, hc1⟩, hn, hw0, hw1, k⟩ := h
    refine ⟨_, (pss_cons (ps_if (pt_cmpR op_gt (pe_ix ix_list (pv 0) pe_int (fun _ _ => rfl)) pe_int (nomark _)) (pss_cons (ps_set (i := 2) sc_law_dip.nd rfl (Or.inl rfl) (pe_op op_mod (pe_callTy call_intI (by rfl) T.m_int (by decide +kernel) (pa_cons (pe_ix ix_list (pv 0) pe_int (fun _ _ => rfl)) pa_nil)) (pv 1)))
      (pss_cons (ps_asg (pe_op op_fdivW (pe_ix ix_list (pv 0) pe_int (fun _ _ => rfl)) (pv 1)) (pg_sub (pv 0) pe_int set_list))
      (pss_one (ps_ret (pv 2))))) pss_nil)
      (pss_cons (ps_asg (pe_op op_add (pe_ix ix_list (pv 0) pe_int (fun _ _ => rfl)) pe_int) (pg_sub (pv 0) pe_int set_list))
      (pss_cons (ps_set (i := 3) sc_law_dip.nd rfl (Or.inl rfl) (pe_op op_mod (pe_op op_powX (pe_callTy call_intI (by rfl) T.m_int (by decide +kernel) (pa_cons (pe_op op_add (pe_ix ix_list (pv 0) pe_int (fun _ _ => rfl)) (pe_op op_mulX pe_int (pe_ix ix_list (pv 0) pe_int (fun _ _ => rfl)))) pa_nil)) pe_int) (pe_op op_add (pe_op op_powX pe_int pe_int) pe_int)))
      (pss_cons (ps_set (i := 3) sc_law_dip.nd rfl (Or.inl rfl) (pe_op op_mod (pe_op op_powX (pe_callTy call_intI (by rfl) T.m_int (by decide +kernel) (pa_cons (pe_op op_add (pv 3) (pe_op op_mulX pe_int (pe_ix ix_list (pv 0) pe_int (fun _ _ => rfl)))) pa_nil)) pe_int) (pe_op op_add (pe_op op_powX pe_int pe_int) pe_int)))
      (pss_one (ps_ret (pe_op op_mod (pe_callTy call_intI (by rfl) T.m_int (by decide +kernel) (pa_cons (pe_op op_fdivW (pv 3) pe_int) pa_nil)) (pv 1)))))))), ?_⟩
    have hp0 : Hm p H p = none := hm_p
    refine q_when (by walk_at "et") (fun hb H1 e1 => ?_) (fun hb H1 e1 => ?_)
    · have hp1 := e1 p _ hp
      refine q_asg (by walk_at "ev") fun H2 e2 => ?_
      have hp2 := e2 p _ hp1
      have hd : CDivW a w := divw_ok hw0 hw1
      refine q_setL (j := 0) hp2 (by walk_at "ev") (by walk_at "ev") ev_c (by show 0 < 3; decide) fun H3 e3 => ?_
      refine s_ret (by walk_at "ev") fun H4 e4 => ?_
      refine k _ _ (Int.emod_nonneg _ (by omega)) (Int.emod_lt_of_pos _ hw0) ⟨a / w, b, c, e4 p _ upd_same, ⟨hb0, hb1⟩, hc0, by omega⟩ ?_
      exact Ex.trans (Ex.mut (hm_sub.trans (e1.trans (e2.trans e3))) hp0) e4
    · have hp1 := e1 p _ hp
      refine q_setL (j := 2) hp1 (by walk_at "ev") (by walk_at "ev") ev_c (by show 2 < 3; decide) fun H2 e2 => ?_
      have hp2 : ∀ H3, Ex (upd H2 p (.lst ([V.int a, .int b, .int c].set 2 (.int (c + 1))))) H3 → H3 p = some (.lst [.int a, .int b, .int (c + 1)]) := fun H3 e => e p _ upd_same
      have hq := hp2 _ (Ex.refl _)
      have hm1 : CMulX 870022201 (c + 1) := mulx_ok (a := 64) (b := 64) (by decide) (by omega) (by decide)
      have hw1' : CPowX (b + 870022201 * (c + 1)) 3 := pow3_ok (by omega)
      have hw2 : CPowX 10 41 := ⟨by decide, by decide +kernel⟩
      refine q_asg (by walk_at "ev") fun H3 e3 => ?_
      have hq3 := hp2 _ e3
      have hm2 : CMulX 334214467 (c + 1) := mulx_ok (a := 64) (b := 64) (by decide) (by omega) (by decide)
      generalize hz : (b + 870022201 * (c + 1)) ^ (3 : Int).toNat % ((10 : Int) ^ (41 : Int).toNat + 37) = z
      have hz0 : 0 ≤ z := by
        rw [← hz]
        exact Int.emod_nonneg _ (by decide)
      have hz1 : z < (10 : Int) ^ (41 : Int).toNat + 37 := by
        rw [← hz]
        exact Int.emod_lt_of_pos _ (by decide)
      have hz2 : z < 2 ^ 200 := Int.lt_trans hz1 (by decide)
      have hw3 : CPowX (z + 334214467 * (c + 1)) 3 := pow3_ok (by omega)
      have hw4 : CPowX 10 39 := ⟨by decide, by decide +kernel⟩
      refine q_asg (by walk_at "ev") fun H4 e4 => ?_
      generalize (z + 334214467 * (c + 1)) ^ (3 : Int).toNat % ((10 : Int) ^ (39 : Int).toNat + 3) = y
      have hd : CDivW y 1048583 := divw_ok (by decide) (by decide)
      refine s_ret (by walk_at "ev") fun H5 e5 => ?_
      refine k _ _ (Int.emod_nonneg _ (by omega)) (Int.emod_lt_of_pos _ hw0) ⟨a, b, c + 1, hp2 _ (e3.trans (e4.trans e5)), ⟨hb0, hb1⟩, by omega, by omega⟩ ?_
      exact Ex.trans (Ex.mut (hm_sub.trans (e1.trans e2)) hp0) (e3.trans (e4.trans e5))
theorem ok_law_pouch (T : Tx K mg) : FnOk P w K mg base CX0 1 T.f_law_pouch T.d_law_pouch ["script", "at"] (sp_law_pouch K) := by
  refine T.F_law_pouch.ok sc_law_pouch (fun vs H Q E h => ?_) (fun cdv A outer s H vs Q E hr h => ?_)
  · obtain ⟨a, ns, i, rfl, _⟩ := h
    rfl
  · obtain ⟨a, ns, i, rfl, hs, hi, k⟩ := h
    refine ⟨_, (pss_cons (ps_set (i := 2) sc_law_pouch.nd rfl (Or.inl rfl) (pe_ifExp (pt_cmpR op_lt (pv 1) (pe_callB call_lenR (by rfl) T.m_len (by decide +kernel) (pa_cons (pv 0) pa_nil)) (nomark _)) (pe_ix ix_list (pv 0) (pv 1) (fun _ _ => rfl)) pe_int))
      (pss_one (ps_ret (pe_lst (pa_cons (pe_callB (call_maxR rfl) (by rfl) T.m_max (by decide +kernel) (pa_cons pe_int (pa_cons (pe_op op_sub (pe_callB call_absR (by rfl) T.m_abs (by decide +kernel) (pa_cons (pv 2) pa_nil)) (pe_op op_powX pe_int pe_int)) pa_nil))) (pa_cons (pe_op op_add (pe_op op_add (pe_op op_mulX (pe_op op_mod (pe_callTy call_intI (by rfl) T.m_int (by decide +kernel) (pa_cons (pv 2) pa_nil)) (pe_op op_add (pe_op op_powX pe_int pe_int) pe_int)) pe_int) (pe_op op_mulX pe_int (pv 1))) pe_int) (pa_cons pe_int pa_nil))))))), ?_⟩
    have hlen : (ns.map V.int).length = ns.length := List.length_map ..
    refine q_asg (v := .int (ns.getD i 0)) ?_ fun H1 e1 => ?_
    · refine ev_if (b := decide ((i : Int) < ((ns.map V.int).length : Int))) (by walk_at "et") (fun hb => ?_) (fun hb => ?_)
      · have hb := of_decide_eq_true hb
        rw [hlen] at hb
        have hlt : i < ns.length := by omega
        refine ev_op (ev_var rfl) (ev_var rfl) (rv_ixL hs (atI_nat (j := i) ?_))
        rw [List.getElem?_map, List.getElem?_eq_getElem hlt]
        simp [List.getD_eq_getElem?_getD, hlt]
      · have hb := of_decide_eq_false hb
        rw [hlen] at hb
        have e0 : ns.getD i 0 = 0 := by
          rw [List.getD_eq_getElem?_getD, List.getElem?_eq_none (by omega)]
          rfl
        rw [e0]
        exact ev_c
    · generalize ns.getD i 0 = z
      have hw1 : CPowX 10 18 := ⟨by decide, by decide +kernel⟩
      have hw2 : CPowX 10 38 := ⟨by decide, by decide +kernel⟩
      have hy0 : 0 ≤ z % ((10 : Int) ^ (38 : Int).toNat + 133) := Int.emod_nonneg _ (by decide)
      have hy1 : z % ((10 : Int) ^ (38 : Int).toNat + 133) < (10 : Int) ^ (38 : Int).toNat + 133 := Int.emod_lt_of_pos _ (by decide)
      have hy2 : z % ((10 : Int) ^ (38 : Int).toNat + 133) < 2 ^ 150 := Int.lt_trans hy1 (by decide)
      have hpos : 0 < (10 : Int) ^ (38 : Int).toNat + 133 := by decide
      have hm1 : CMulX (z % ((10 : Int) ^ (38 : Int).toNat + 133)) 107 := mulx_ok (a := 150) (b := 64) (by omega) (by decide) (by decide)
      have hm2 : CMulX 71 (i : Int) := mulx_ok (a := 64) (b := 64) (by decide) (by omega) (by decide)
      refine s_retL (el_lst (ea_cons (by walk_at "ev") (ea_cons (by walk_at "ev") (ea_cons ev_c ea_nil))) (Nat.le_of_ble_eq_true rfl)) fun p H2 hp e2 hl => ?_
      refine k p H2 (fresh_back e1 hp) (e1.trans e2) ⟨_, _, _, hl, ⟨?_, ?_⟩, by omega, by omega⟩
      · generalize z % ((10 : Int) ^ (38 : Int).toNat + 133) = y at hy0 hy2 ⊢
        omega
      · generalize z % ((10 : Int) ^ (38 : Int).toNat + 133) = y at hy0 hy2 ⊢
        omega
end

/-! ### expressions that draw -/
theorem hm_trans {p : Addr} {H H1 H2 : Hp} (a : Ex (Hm p H) H1) (b : Ex (Hm p H1) H2) : Ex (Hm p H) H2 := fun x o h => by
  have ne : x ≠ p := fun z => by
    subst z
    rw [hm_p] at h
    cases h
  have h1 := a x o h
  refine b x o ?_
  unfold Hm
  rw [if_neg ne]
  exact h1
theorem hm_next {p : Addr} {H0 H H1 : Hp} (h0 : H0 p = none) (e : Ex H0 H) (s : Ex (Hm p H) H1) : Ex H0 H1 := (ex_hm e h0).trans s
theorem hm_of {p : Addr} {H H1 : Hp} (e : Ex H H1) : Ex (Hm p H) H1 := hm_sub.trans e
theorem hm_at {p a : Addr} {H H1 : Hp} {o : HO} (s : Ex (Hm p H) H1) (ne : a ≠ p) (h : H a = some o) : H1 a = some o := s a o (by
  unfold Hm
  rw [if_neg ne]
  exact h)
theorem Po.ne {p l : Addr} {n : Nat} {H : Hp} (h : Po p n H) (hl : H l = none) : l ≠ p := fun z => by
  subst z
  obtain ⟨_, _, _, h1, _⟩ := h
  rw [hl] at h1
  cases h1
def EvP (p : Addr) (k : Nat) (te : TE) (σ : L2.St) (H0 : Hp) (R : V → Hp → Prop) : Prop := ∀ n H1, Ex H0 H1 → Po p n H1 → n + k ≤ 1000000000 →
  ∀ Q : VK, (∀ v H2, R v H2 → Po p (n + k) H2 → Ex (Hm p H1) H2 → Q v H2) → te σ H1 Q
def Stb (p : Addr) (R : V → Hp → Prop) : Prop := ∀ v H H', R v H → Ex (Hm p H) H' → R v H'
section
variable {K : PySem.W.Frag} {σ : L2.St} {H0 H : Hp} {p : Addr} {k k1 k2 : Nat} {te ta tb : TE} {R Ra Rb : V → Hp → Prop}
theorem ep_ev {v : V} (h : Ev te σ H0 v) : EvP p 0 te σ H0 (fun x _ => x = v) := fun n H1 e hp _ Q q => h H1 e Q fun H2 e2 => q v H2 rfl (hp.ex e2) (hm_of e2)
theorem ep_L {xs : List V} (h : EvL te σ H0 xs) : EvP p 0 te σ H0 (fun x H => ∃ l, l ≠ p ∧ x = .ref l ∧ H l = some (.lst xs)) := fun n H1 e hp _ Q q => h H1 e Q fun l H2 hl e2 h2 => q _ H2 ⟨l, hp.ne hl, rfl, h2⟩ (hp.ex e2) (hm_of e2)
theorem stb_L {xs : List V} : Stb p (fun x H => ∃ l, l ≠ p ∧ x = .ref l ∧ H l = some (.lst xs)) := fun v H H' ⟨l, ne, e, h⟩ s => ⟨l, ne, e, hm_at s ne h⟩
theorem stb_c {C : V → Prop} : Stb p (fun x _ => C x) := fun _ _ _ h _ => h
theorem ep_op {r : R2} (h0 : H0 p = none) (ha : EvP p k1 ta σ H0 Ra) (hb : EvP p k2 tb σ H0 Rb) (s1 : Stb p Ra) (s : Stb p R) (hr : ∀ x y H, Ra x H → Rb y H → ∃ z, R z H ∧ RV r x y H z) : EvP p (k1 + k2) (tOp r ta tb) σ H0 R :=
  fun n H1 e hp hn Q q => ha n H1 e hp (by omega) _ fun x H2 hx p2 e2 => hb (n + k1) H2 (hm_next h0 e e2) p2 (by omega) _ fun y H3 hy p3 e3 => by
    obtain ⟨z, hz, hv⟩ := hr x y H3 (s1 x H2 H3 hx e3) hy
    refine hv H3 (Ex.refl H3) Q fun H4 e4 => q z H4 (s z H3 H4 hz (hm_of e4)) ?_ (hm_trans (hm_trans e2 e3) (hm_of e4))
    rw [← Nat.add_assoc]
    exact p3.ex e4
theorem ep_dip {tw : TE} {E : XK} {C : Int → Prop} (h0 : H0 p = none) (hp : Ev ta σ H0 (.ref p)) (hw : EvP p k tw σ H0 (fun v _ => ∃ w, v = .int w ∧ 0 < w ∧ w < 2 ^ 200 ∧ C w)) :
    EvP p (k + 1) (tCall sp_law_dip [] E (tCons ta (tCons tw tNil))) σ H0 (fun v _ => ∃ r w, v = .int r ∧ 0 ≤ r ∧ r < w ∧ C w) :=
  fun n H1 e hpo hn Q q => hp H1 e _ fun H2 e2 => hw n H2 (e.trans e2) (hpo.ex e2) (by omega) _ fun y H3 hy p3 e3 => by
    obtain ⟨w, rfl, w0, w1, c⟩ := hy
    exact ⟨p, n + k, w, rfl, p3, by omega, w0, w1, fun r H' r0 r1 p4 e4 => q _ H' ⟨r, w, rfl, r0, r1, c⟩ p4 (hm_trans (hm_trans (hm_of e2) e3) e4)⟩
theorem ep_is {R' : V → Hp → Prop} (h : EvP p k te σ H0 R) (e : ∀ v H, R v H → R' v H) : EvP p k te σ H0 R' := fun n H1 a b c Q q => h n H1 a b c Q fun v H2 hv => q v H2 (e v H2 hv)
/-- the width is a pure int -/
theorem ep_dipI {tw : TE} {E : XK} {w : Int} (h0 : H0 p = none) (hp : Ev ta σ H0 (.ref p)) (hw : Ev tw σ H0 (.int w)) (w0 : 0 < w) (w1 : w < 2 ^ 200) :
    EvP p 1 (tCall sp_law_dip [] E (tCons ta (tCons tw tNil))) σ H0 (fun v _ => ∃ r, v = .int r ∧ 0 ≤ r ∧ r < w) :=
  ep_is (ep_dip (k := 0) (C := fun z => z = w) h0 hp (ep_is (ep_ev hw) fun v H e => ⟨w, e, w0, w1, rfl⟩)) fun v H ⟨r, z, e, r0, r1, e2⟩ => ⟨r, e, r0, e2 ▸ r1⟩
/-- a + b, b drawn -/
theorem ep_add {a : Int} {C : Int → Prop} (h0 : H0 p = none) (ha : Ev ta σ H0 (.int a)) (hb : EvP p k tb σ H0 (fun v _ => ∃ r, v = .int r ∧ C r)) : EvP p (0 + k) (tOp (rI0 fun i j => .int (i + j)) ta tb) σ H0 (fun v _ => ∃ r, v = .int (a + r) ∧ C r) :=
  ep_op h0 (ep_ev ha) hb stb_c stb_c fun x y H e ⟨r, e2, c⟩ => ⟨.int (a + r), ⟨r, rfl, c⟩, by
    subst e
    subst e2
    exact rv_I0⟩
theorem p_asg {i n : Nat} {D : Ends} (h : EvP p k te σ H0 R) (e : Ex H0 H) (hp : Po p n H) (hn : n + k ≤ 1000000000) (q : ∀ v H2, R v H2 → Po p (n + k) H2 → Ex (Hm p H) H2 → D.nx (σ.set i (some v)) H2) : tAsg te (gName i) D σ H := h n H e hp hn _ q
theorem pq_asg {i n : Nat} {D : Ends} {tz : TS} (h : EvP p k te σ H0 R) (e : Ex H0 H) (hp : Po p n H) (hn : n + k ≤ 1000000000) (q : ∀ v H2, R v H2 → Po p (n + k) H2 → Ex (Hm p H) H2 → tz D (σ.set i (some v)) H2) : tSeq (tAsg te (gName i)) tz D σ H := h n H e hp hn _ q
/-- tests that draw -/
def EtP (p : Addr) (k : Nat) (t : TT) (σ : L2.St) (H0 : Hp) (b : Bool) : Prop := ∀ n H1, Ex H0 H1 → Po p n H1 → n + k ≤ 1000000000 →
  ∀ Q : Bool → Hp → Prop, (∀ H2, Po p (n + k) H2 → Ex (Hm p H1) H2 → Q b H2) → t σ H1 Q
variable {t u : TT} {b c : Bool}
theorem tp_B (h : EvP p k te σ H0 (fun v _ => v = .bl b)) : EtP p k (tB te) σ H0 b := fun n H1 e hp hn Q q => h n H1 e hp hn _ fun v H2 hv p2 e2 => ⟨b, hv, q H2 p2 e2⟩
theorem tp_not (h : EtP p k t σ H0 b) : EtP p k (tNot t) σ H0 (!b) := fun n H1 e hp hn Q q => h n H1 e hp hn _ fun H2 p2 e2 => q H2 p2 e2
theorem tp_is (h : EtP p k t σ H0 b) (e : b = c) : EtP p k t σ H0 c := e ▸ h
theorem tp_or (h0 : H0 p = none) (h : EtP p k1 t σ H0 false) (h' : EtP p k2 u σ H0 b) : EtP p (k1 + k2) (tOr t u) σ H0 b := fun n H1 e hp hn Q q => h n H1 e hp (by omega) _ fun H2 p2 e2 => by
  show u σ H2 Q
  refine h' (n + k1) H2 (hm_next h0 e e2) p2 (by omega) Q fun H3 p3 e3 => q H3 ?_ (hm_trans e2 e3)
  rw [← Nat.add_assoc]
  exact p3
theorem tp_et (h : EvT t σ H0 b) : EtP p 0 t σ H0 b := fun n H1 e hp _ Q q => h H1 e Q fun H2 e2 => q H2 (hp.ex e2) (hm_of e2)
/-- a test that is false: what follows -/
theorem pq_no {n : Nat} {D : Ends} {tu tz : TS} (h : EtP p k t σ H0 false) (e : Ex H0 H) (hp : Po p n H) (hn : n + k ≤ 1000000000) (q : ∀ H2, Po p (n + k) H2 → Ex (Hm p H) H2 → tz D σ H2) : tSeq (tIfS t tu tNext) tz D σ H := h n H e hp hn _ q
theorem ps_no {n : Nat} {D : Ends} {tu : TS} (h : EtP p k t σ H0 false) (e : Ex H0 H) (hp : Po p n H) (hn : n + k ≤ 1000000000) (q : ∀ H2, Po p (n + k) H2 → Ex (Hm p H) H2 → D.nx σ H2) : tIfS t tu tNext D σ H := h n H e hp hn _ q
/-- pouch = _law_pouch(script, at) -/
theorem pq_pouch {ta : TA} {E : XK} {D : Ends} {tz : TS} {j i : Nat} {s : Addr} {ns : List Int} (h : EvA ta σ H [.ref s, .int (i : Int)]) (hs : SqL K H s (ns.map V.int)) (hi : i ≤ 100) (q : ∀ p H2, H p = none → Ex H H2 → Po p 0 H2 → tz D (σ.set j (some (.ref p))) H2) :
    tSeq (tAsg (tCall (sp_law_pouch K) [] E ta) (gName j)) tz D σ H := h H (Ex.refl H) _ fun H1 e1 => ⟨s, ns, i, rfl, ex_l e1 hs, hi, fun p H2 hp e2 hpo => q p H2 (fresh_back e1 hp) (e1.trans e2) hpo⟩
end


/-! ### lists of guests -/
def iz (xs : List Nat) : List Int := xs.map fun x : Nat => (x : Int)
def nv (xs : List Nat) : List V := (iz xs).map V.int
theorem nv_len (xs : List Nat) : (nv xs).length = xs.length := by simp [nv, iz]
theorem nv_get {xs : List Nat} {i x : Nat} (h : xs[i]? = some x) : (nv xs)[i]? = some (.int x) := by simp [nv, iz, h]
theorem nv_app (xs ys : List Nat) : nv (xs ++ ys) = nv xs ++ nv ys := by simp [nv, iz]
theorem nv_eq (xs : List Nat) : nv xs = xs.map fun x : Nat => V.int (x : Int) := by simp [nv, iz]
def Ord (h : List Nat) : Prop := h.Perm (List.range h.length) ∧ 1 ≤ h.length ∧ h.length ≤ 20
theorem el_mapI {K : PySem.W.Frag} {σ : L2.St} {H : Hp} {te tl : TE} {a : Addr} {xs : List V} {j : Nat} {vs : List Nat} (f : Nat → V) (h : Ev tl σ H (.ref a)) (hx : SqL K H a xs) (hz : xs.length ≤ 40000) (hw : ∀ x, wipe ((wipe σ vs).set j (some x)) vs = wipe σ vs)
    (he : ∀ (i : Nat) (x : V) H1, Ex H H1 → xs[i]? = some x → Ev te ((wipe σ vs).set j (some x)) H1 (f i)) : EvL (tLc (iList K tl) (gName j) tYes te vs) σ H ((List.range xs.length).map f) := by
  have e : (List.range xs.length).map f = given xs.length (fun _ => true) f := by
    unfold given
    rw [List.filter_eq_self.mpr (fun _ _ => rfl)]
  rw [e]
  exact el_lcL _ _ h hx hz hw (fun _ _ _ _ _ => et_yes) fun i x H1 e hi _ => he i x H1 e hi
def sp_is_whole (K : PySem.W.Frag) : Sp := fun vs H Q _ => ∃ (v : V) (d : PyData), vs = [v] ∧ It K H v d ∧ RetV (.bl (isI d)) H Q
theorem sv_whole {K : PySem.W.Frag} {H : Hp} {x : Int} : SpV (sp_is_whole K) ([.int x] ++ []) H (.bl true) := fun H1 _ Q q E => ⟨.int x, .int x, rfl, .int x, q⟩
theorem sv_wholeD {K : PySem.W.Frag} {H : Hp} {v : V} {d : PyData} (h : It K H v d) : SpV (sp_is_whole K) ([v] ++ []) H (.bl (isI d)) := fun H1 e Q q E => ⟨v, d, rfl, h.ex e, q⟩
local macro_rules | `(tactic| walk_at "call") => `(tactic| (with_reducible exact sv_whole))
def sp_ord (v : V) : Sp := fun vs H Q _ => ∃ (a : Addr) (h : List Nat), vs = [.ref a] ∧ H a = some (.lst (nv h)) ∧ Ord h ∧ RetV v H Q
theorem sv_ord {H : Hp} {v : V} {a : Addr} {h : List Nat} (ha : H a = some (.lst (nv h))) (o : Ord h) : SpV (sp_ord v) ([.ref a] ++ []) H v := fun H1 e Q q E => ⟨a, h, rfl, e a _ ha, o, q⟩
section
variable {P : Program} {w : World} {K : PySem.W.Frag} {mg : Str → Option Value} {base : Heap}
theorem ok_is_whole (T : Tx K mg) : FnOk P w K mg base CX0 1 T.f_is_whole T.d_is_whole ["thing"] (sp_is_whole K) := by
  refine T.F_is_whole.ok sc_is_whole (fun vs H Q E h => ?_) (fun cdv A outer s H vs Q E hr h => ?_)
  · obtain ⟨v, d, rfl, _⟩ := h
    rfl
  · obtain ⟨v, d, rfl, hv, k⟩ := h
    refine ⟨_, (pss_one (ps_ret (pe_cmpR op_eqTy (pe_typeOf (by rfl) T.m_type (pv 0)) (pe_bltn (v := .ty "int") (by rfl) T.m_int (by decide +kernel) rfl) (nomark _)))), ?_⟩
    exact s_ret (ev_isWhole (ev_var rfl) hv) fun H1 e1 => k _ e1
theorem range_iz (n : Nat) : rgV 0 (n : Int) = nv (List.range n) := by
  rw [nv_eq]
  unfold rgV
  simp
/-- the ints of data -/
def intsOf (ds : List PyData) : List Int := ds.map fun
  | .int i => i
  | _ => 0
def sortI (ns : List Int) : List Int := ns.mergeSort fun a b => decide (a ≤ b)
theorem sortI_perm (ns : List Int) : (sortI ns).Perm ns := List.mergeSort_perm ns _
theorem sortI_sorted (ns : List Int) : (sortI ns).Pairwise (· ≤ ·) := by
  have := List.pairwise_mergeSort (le := fun a b : Int => decide (a ≤ b)) (fun a b c h1 h2 => by
    have h1 := of_decide_eq_true h1
    have h2 := of_decide_eq_true h2
    exact decide_eq_true (by omega)) (fun a b => by
    rw [Bool.or_eq_true, decide_eq_true_iff, decide_eq_true_iff]
    omega) ns
  exact this.imp fun h => of_decide_eq_true h
theorem ints_of {K : PySem.W.Frag} {H : Hp} : ∀ {xs : List V} {ds : List PyData}, ItAll K H xs ds → ds.all isI = true → xs = (intsOf ds).map V.int
  | _, _, .nil, _ => rfl
  | _, _, .cons h t, ha => by
    rw [List.all_cons, Bool.and_eq_true] at ha
    have := ints_of t ha.2
    cases h with
    | int i =>
      rw [this]
      rfl
    | non => exact Bool.noConfusion ha.1
    | bl b => exact Bool.noConfusion ha.1
    | str x => exact Bool.noConfusion ha.1
    | lst _ _ => exact Bool.noConfusion ha.1
theorem ita_get {K : PySem.W.Frag} {H : Hp} : ∀ {xs : List V} {ds : List PyData} {i : Nat} {x : V}, ItAll K H xs ds → xs[i]? = some x → ∃ d, ds[i]? = some d ∧ It K H x d
  | _, _, 0, x, .cons h t, e => ⟨_, rfl, (Option.some.inj (show some _ = some x from e)) ▸ h⟩
  | _, _, i + 1, x, .cons h t, e => ita_get (i := i) t e
  | _, _, 0, x, .nil, e => by simp at e
  | _, _, i + 1, x, .nil, e => by simp at e
def lenOk (n : Nat) : Bool := decide ((1 : Int) ≤ (n : Int)) && decide ((n : Int) ≤ 20)
def sorts (ds : List PyData) : Bool := PyData.eqv (.list ((sortI (intsOf ds)).map PyData.int)) (.list ((iz (List.range ds.length)).map PyData.int))
/-- whether a thing is a list with 0, 1, .. once each -/
def judge : Option (List PyData) → Bool
  | none => false
  | some ds => lenOk ds.length && (ds.all isI && sorts ds)
def sp_any (K : PySem.W.Frag) : Sp := fun vs H Q _ => ∃ (v : V) (o : Option (List PyData)), vs = [v] ∧ Th K H v o ∧ RetV (.bl (judge o)) H Q
def sp_is_order (K : PySem.W.Frag) : Sp := fun vs H Q E => sp_ord (.bl true) vs H Q E ∨ sp_any K vs H Q E
theorem sv_order {K : PySem.W.Frag} {H : Hp} {a : Addr} {h : List Nat} (ha : H a = some (.lst (nv h))) (o : Ord h) : SpV (sp_is_order K) ([.ref a] ++ []) H (.bl true) := fun H1 e Q q E => .inl (sv_ord ha o H1 e Q q E)
theorem sv_any {K : PySem.W.Frag} {H : Hp} {v : V} {o : Option (List PyData)} (hv : Th K H v o) : SpV (sp_is_order K) ([v] ++ []) H (.bl (judge o)) := fun H1 e Q q E => .inr ⟨v, o, rfl, hv.ex e, q⟩
theorem judge_ord {h : List Nat} (o : Ord h) : judge (some ((iz h).map PyData.int)) = true := by
  have e : intsOf ((iz h).map PyData.int) = iz h := by
    unfold intsOf
    rw [List.map_map]
    exact List.map_id _
  have el : ((iz h).map PyData.int).length = h.length := by simp [iz]
  have s : sortI (iz h) = iz (List.range h.length) := List.Perm.eq_of_pairwise (le := fun a b : Int => a ≤ b) (fun a b _ _ h1 h2 => by omega) (sortI_sorted _) (by
    unfold iz
    rw [List.pairwise_map]
    exact List.Pairwise.imp (fun {a b} h => by omega) List.pairwise_lt_range) ((sortI_perm _).trans (o.1.map (fun x : Nat => (x : Int))))
  unfold judge sorts lenOk
  simp only
  rw [e, el, s, eqv_same (shaped_ints _)]
  have hl := o.2
  have : ((iz h).map PyData.int).all isI = true := by
    rw [List.all_map, List.all_eq_true]
    intro x _
    rfl
  rw [this]
  simp
  omega
theorem Ord.th {K : PySem.W.Frag} {H : Hp} {a : Addr} {h : List Nat} (ha : H a = some (.lst (nv h))) : Th K H (.ref a) (some ((iz h).map PyData.int)) := .lst ha (ita_ints _) (fine_ints _)
theorem ok_is_order (T : Tx K mg) : FnOk P w K mg base CX0 2 T.f_is_order T.d_is_order ["thing"] (sp_is_order K) := by
  refine FnOk.imp (sp := sp_any K) ?_ (fun vs H Q E h => ?_)
  · refine T.F_is_order.ok sc_is_order (fun vs H Q E h => ?_) (fun cdv A outer s H vs Q E hr h => ?_)
    · obtain ⟨v, o, rfl, _⟩ := h
      rfl
    · obtain ⟨v, o, rfl, hv, k⟩ := h
      refine ⟨_, (pss_cons (ps_if (PW.pt (pw_or (pt_cmpR (op_neTyG (hu_of hr)) (pe_typeOf2 (by rfl) T.m_type (pv 0)) (pe_bltn (v := .ty "list") (by rfl) T.m_list (by decide +kernel) rfl) (nomark _)) (pw_or1 (pt_not (pt_chain op_le op_le pe_int (pe_callB call_lenR (by rfl) T.m_len (by decide +kernel) (pa_cons (pv 0) pa_nil)) (pe_gc (by rfl) T.c_MOST_GUESTS)))))) (pss_one (ps_ret pe_bl)) pss_nil)
      (pss_cons (ps_if (pt_not (pt_val (pe_callB (cr_all rfl) (by rfl) T.m_all (by decide +kernel) (pa_cons (pe_lc (own := [("item", 1)]) (g := (gName 1)) (tt := tYes) rfl sc_is_order.nd (pi_list (pv 0)) (blkOk_by (own := [("item", 1)]) (N := n_is_order) (sc := defScope s_is_order) (by decide +kernel)) (fun _ _ _ _ _ => (pg_name (i := 1) sc_is_order.nd rfl (Or.inl rfl))) (fun _ _ _ _ _ => pts_nil) (fun _ _ _ _ _ => (pe_call (ok_is_whole T) (hr.mono (by decide)) (by rfl) T.g_is_whole T.F_is_whole.kp T.b_is_whole .nil pass0 (pa_cons (pv 1) pa_nil)))) pa_nil)))) (pss_one (ps_ret pe_bl)) pss_nil)
      (pss_one (ps_ret (pe_cmpR (op_eqD hr.units) (pe_callB cr_sorted (by rfl) T.m_sorted (by decide +kernel) (pa_cons (pv 0) pa_nil)) (pe_listRg rfl (by rfl) T.m_list (prg_1 (by rfl) T.m_range (pe_callB call_lenR (by rfl) T.m_len (by decide +kernel) (pa_cons (pv 0) pa_nil)))) (nomark _)))))), ?_⟩
      cases o with
      | none =>
        refine q_when (b := true) (et_is (et_or (b := false) (et_test (ev_noList (ev_var rfl) hv)) fun z => Bool.noConfusion z) rfl) (fun _ H1 e1 => ?_) fun hb => Bool.noConfusion hb
        exact s_ret ev_c fun H2 e2 => k _ (e1.trans e2)
      | some ds =>
        have hv0 := hv
        cases hv with
        | @lst a xs _ ha hd hf =>
          have hl : xs.length = ds.length := hd.len
          refine q_when (b := !lenOk ds.length) (et_is (et_or (et_test (ev_noList (ev_var rfl) hv0)) fun _ => et_not (et_test (ev_chainI ev_c (ev_len (ev_var rfl) (sq_of ha)) ev_c))) (by rw [hl]; rfl)) (fun hb H1 e1 => ?_) fun hb H1 e1 => ?_
          · have hb : lenOk ds.length = false := by simpa using hb
            have ej : judge (some ds) = false := by
              unfold judge
              simp only
              rw [hb]
              rfl
            rw [ej] at k
            exact s_ret ev_c fun H2 e2 => k _ (e1.trans e2)
          · have hb : lenOk ds.length = true := by simpa using hb
            have hn : 1 ≤ ds.length ∧ ds.length ≤ 20 := by
              unfold lenOk at hb
              simp at hb
              omega
            have h1 := e1 a _ ha
            refine q_when (b := !(ds.all isI)) (et_is (et_not (et_B (ev_allN (bs := ds.map isI) ?_))) (by rw [List.all_map]; rfl)) (fun hb2 H2 e2 => ?_) fun hb2 H2 e2 => ?_
            · have g := el_mapI (K := K) (te := tCall (sp_is_whole K) [] E0 (tCons (tVar 1) tNil)) (j := 1) (vs := [1]) (σ := start n_is_order [.ref a]) (H := H1) (fun i => V.bl (isI (ds.getD i .none))) (ev_var (i := 0) rfl) (sq_of h1) (by omega) (fun _ => rfl) fun i x H2 e2 hx => ?_
              · have e : (List.range xs.length).map (fun i => V.bl (isI (ds.getD i .none))) = (ds.map isI).map V.bl := by
                  rw [hl]
                  conv => rhs; rw [range_get ds .none]
                  rw [List.map_map, List.map_map]
                  rfl
                rw [e] at g
                exact g
              · obtain ⟨d, hd1, hd2⟩ := ita_get hd hx
                have gd : ds.getD i .none = d := by rw [List.getD_eq_getElem?_getD, hd1] <;> rfl
                show Ev _ _ _ (V.bl (isI (ds.getD i .none)))
                rw [gd]
                exact ev_call (ea_cons (ev_var rfl) ea_nil) (sv_wholeD (hd2.ex (e1.trans e2)))
            · have hb2 : ds.all isI = false := by simpa using hb2
              have ej : judge (some ds) = false := by
                unfold judge
                simp only
                rw [hb2, Bool.false_and, Bool.and_false]
              rw [ej] at k
              exact s_ret ev_c fun H3 e3 => k _ (e1.trans (e2.trans e3))
            · have hb2 : ds.all isI = true := by simpa using hb2
              have ex := ints_of hd hb2
              have il : (intsOf ds).length = ds.length := by simp [intsOf]
              have h2 := e2 a _ h1
              have sr : EvD K (tCB (rSorted K) (tCons (tVar 0) tNil)) (start n_is_order [.ref a]) H2 (.list ((sortI (intsOf ds)).map PyData.int)) :=
                ed_sorted (ns := intsOf ds) (ev_var rfl) (sq_of (by rw [← ex]; exact h2)) (by omega) (sortI_perm _) (sortI_sorted _)
              have rg : EvD K (tLstRg (tRg1 (tCB (rLenS K) (tCons (tVar 0) tNil)))) (start n_is_order [.ref a]) H2 (.list ((iz (List.range ds.length)).map PyData.int)) :=
                ed_ofL (xs := nv (List.range ds.length)) (by
                  have g := el_rg1 (σ := start n_is_order [.ref a]) (ev_len (K := K) (ta := tVar 0) (ev_var (i := 0) (v := .ref a) rfl) (sq_of h2)) (RgOk.of_le (by decide) (by omega) (by decide) (by omega))
                  rw [hl, range_iz] at g
                  exact g) (dpa_ints _)
              have ej : judge (some ds) = sorts ds := by
                unfold judge
                simp only
                rw [hb, hb2, Bool.true_and, Bool.true_and]
              rw [ej] at k
              exact s_ret (ev_eqD sr rg (shaped_ints _) (shaped_ints _)) fun H3 e3 => k _ (e1.trans (e2.trans e3))
  · rcases h with ⟨a, g, rfl, ha, o, k⟩ | h
    · refine ⟨.ref a, _, rfl, Ord.th ha, ?_⟩
      rw [judge_ord o]
      exact k
    · exact h
local macro_rules | `(tactic| walk_at "call") => `(tactic| ((with_reducible refine' sv_order ?c1 ?c2); (case c1 => assumption); (case c2 => assumption)))
theorem ok_is_seating (T : Tx K mg) : FnOk P w K mg base CX0 3 T.f_is_seating T.d_is_seating ["thing"] (sp_is_order K) := by
  refine T.F_is_seating.ok sc_is_seating (fun vs H Q E h => ?_) (fun cdv A outer s H vs Q E hr h => ?_)
  · rcases h with ⟨a, g, rfl, _⟩ | ⟨v, o, rfl, _⟩
    · rfl
    · rfl
  · rcases h with ⟨a, g, rfl, ha, o, k⟩ | ⟨v, o, rfl, hv, k⟩
    · refine ⟨_, (pss_one (ps_ret (pe_call (ok_is_order T) (hr.mono (by decide)) (by rfl) T.g_is_order T.F_is_order.kp T.b_is_order .nil pass0 (pa_cons (pv 0) pa_nil)))), ?_⟩
      exact s_ret (by walk_at "ev") fun H1 e1 => k _ e1
    · refine ⟨_, (pss_one (ps_ret (pe_call (ok_is_order T) (hr.mono (by decide)) (by rfl) T.g_is_order T.F_is_order.kp T.b_is_order .nil pass0 (pa_cons (pv 0) pa_nil)))), ?_⟩
      exact s_ret (ev_call (ea_cons (ev_var rfl) ea_nil) (sv_any hv)) fun H1 e1 => k _ e1
theorem ok_check_seating (T : Tx K mg) : FnOk P w K mg base CX0 4 T.f_check_seating T.d_check_seating ["seating"] (sp_ord .non) := by
  refine T.F_check_seating.ok sc_check_seating (fun vs H Q E h => ?_) (fun cdv A outer s H vs Q E hr h => ?_)
  · obtain ⟨a, h, rfl, _⟩ := h
    rfl
  · obtain ⟨a, h, rfl, ha, o, k⟩ := h
    refine ⟨_, (pss_one (ps_if (pt_not (pt_val (pe_call (ok_is_seating T) (hr.mono (by decide)) (by rfl) T.g_is_seating T.F_is_seating.kp T.b_is_seating .nil pass0 (pa_cons (pv 0) pa_nil)))) (pss_one ps_never) pss_nil)), ?_⟩
    exact s_when (b := false) (et_is (by walk_at "et") (by rfl)) (fun hb => Bool.noConfusion hb) fun _ H1 e1 => k _ e1
end
local macro_rules | `(tactic| walk_at "call") => `(tactic| (with_reducible exact sv_whole))
local macro_rules | `(tactic| walk_at "call") => `(tactic| ((with_reducible refine' sv_order ?c1 ?c2); (case c1 => assumption); (case c2 => assumption)))
local macro_rules | `(tactic| walk_at "call") => `(tactic| ((with_reducible refine' sv_ord ?c1 ?c2); (case c1 => assumption); (case c2 => assumption)))


local macro_rules | `(tactic| walk_at "call") => `(tactic| (with_reducible exact sv_whole))
local macro_rules | `(tactic| walk_at "call") => `(tactic| ((with_reducible refine' sv_order ?c1 ?c2); (case c1 => assumption); (case c2 => assumption)))
local macro_rules | `(tactic| walk_at "call") => `(tactic| ((with_reducible refine' sv_ord ?c1 ?c2); (case c1 => assumption); (case c2 => assumption)))

/-! ### rings: the mathematics -/
/-- r is a whole table of the seating h, from its first guest on to the left -/
structure Rg (h r : List Nat) : Prop where
  ne : 0 < r.length
  nd : r.Nodup
  st : ∀ i, i < r.length → ∃ x y, r[i]? = some x ∧ r[(i + 1) % r.length]? = some y ∧ h[x]? = some y
def rot (r : List Nat) (k : Nat) : List Nat := r.drop k ++ r.take k
theorem rot_len {r : List Nat} {k : Nat} (hk : k ≤ r.length) : (rot r k).length = r.length := by
  unfold rot
  rw [List.length_append, List.length_drop, List.length_take]
  omega
theorem rot_get {r : List Nat} {k i : Nat} (hk : k < r.length) (hi : i < r.length) : (rot r k)[i]? = r[(i + k) % r.length]? := by
  unfold rot
  by_cases h : i < r.length - k
  · rw [List.getElem?_append_left (by rw [List.length_drop]; exact h), List.getElem?_drop, Nat.mod_eq_of_lt (by omega), Nat.add_comm]
  · rw [List.getElem?_append_right (by rw [List.length_drop]; omega), List.length_drop, List.getElem?_take_of_lt (by omega)]
    have e : (i + k) % r.length = i - (r.length - k) := by
      rw [Nat.mod_eq_sub_mod (by omega), Nat.mod_eq_of_lt (by omega)]
      omega
    rw [e]
theorem rot_perm (r : List Nat) (k : Nat) : (rot r k).Perm r := by
  unfold rot
  exact List.perm_append_comm.trans (List.Perm.of_eq (List.take_append_drop k r))
theorem Rg.rot {h r : List Nat} (R : Rg h r) {k : Nat} (hk : k < r.length) : Rg h (rot r k) := by
  have hl := rot_len (r := r) (k := k) (by omega)
  refine ⟨by have := R.ne; omega, (rot_perm r k).nodup_iff.mpr R.nd, fun i hi => ?_⟩
  rw [hl] at hi ⊢
  obtain ⟨x, y, h1, h2, h3⟩ := R.st ((i + k) % r.length) (Nat.mod_lt _ R.ne)
  refine ⟨x, y, by rw [rot_get hk hi]; exact h1, ?_, h3⟩
  rw [rot_get hk (Nat.mod_lt _ R.ne), ← h2, Nat.mod_add_mod, Nat.mod_add_mod]
  congr 2
  omega
structure Rings (h : List Nat) (rs : List (List Nat)) : Prop where
  rg : ∀ r ∈ rs, Rg h r
  low : ∀ r ∈ rs, ∀ x ∈ r, r.headD 0 ≤ x
  asc : (rs.map (·.headD 0)).Pairwise (· < ·)
  all : rs.flatten.Perm (List.range h.length)
def leads (r : List Nat) : Bool := decide (∀ x ∈ r, r.headD 0 ≤ x)
theorem Rings.turn {h : List Nat} {rs : List (List Nat)} (R : Rings h rs) {g : Nat} (hg : g < h.length) : ∃ w : List Nat, (∃ r ∈ rs, ∃ k, r[k]? = some g ∧ w = rot r k) := by
  have hm : g ∈ rs.flatten := R.all.mem_iff.mpr (List.mem_range.mpr hg)
  obtain ⟨r, hr, hgr⟩ := List.mem_flatten.mp hm
  obtain ⟨k, hk⟩ := List.mem_iff_getElem?.mp hgr
  exact ⟨rot r k, r, hr, k, hk, rfl⟩
theorem Rings.walks {h : List Nat} {rs : List (List Nat)} (R : Rings h rs) : ∃ f : Nat → List Nat, ∀ g, g < h.length → ∃ r ∈ rs, ∃ k, r[k]? = some g ∧ f g = rot r k :=
  ⟨fun g => if hg : g < h.length then Classical.choose (R.turn hg) else [], fun g hg => by
    have := Classical.choose_spec (R.turn hg)
    simp only [dif_pos hg]
    exact this⟩
theorem head_rot {r : List Nat} {k g : Nat} (hk : r[k]? = some g) : (rot r k).headD 0 = g := by
  obtain ⟨hl, e⟩ := List.getElem?_eq_some_iff.mp hk
  unfold rot
  rw [List.drop_eq_getElem_cons hl]
  exact e
theorem leads_rot {r : List Nat} {k g : Nat} (hk : r[k]? = some g) (lo : ∀ x ∈ r, r.headD 0 ≤ x) (ne : 0 < r.length) : leads (rot r k) = decide (g = r.headD 0) := by
  unfold leads
  rw [head_rot hk]
  have hmem : ∀ x, x ∈ rot r k ↔ x ∈ r := fun x => (rot_perm r k).mem_iff
  have h0 : r.headD 0 ∈ r := by
    cases r with
    | nil => simp at ne
    | cons a l => simp
  have hg : g ∈ r := List.mem_of_getElem? hk
  apply decide_eq_decide.mpr
  constructor
  · intro a
    have := a _ ((hmem _).mpr h0)
    have := lo g hg
    omega
  · intro a x hx
    rw [a]
    exact lo x ((hmem x).mp hx)
theorem rot_zero (r : List Nat) : rot r 0 = r := by
  unfold rot
  simp
theorem nodup_flat {rs : List (List Nat)} (h : rs.flatten.Nodup) {r r' : List Nat} {x : Nat} (hr : r ∈ rs) (hr' : r' ∈ rs) (hx : x ∈ r) (hx' : x ∈ r') : r = r' := by
  induction rs with
  | nil => cases hr
  | cons a l ih =>
    rw [List.flatten_cons, List.nodup_append] at h
    obtain ⟨h1, h2, h3⟩ := h
    rcases List.mem_cons.mp hr with e | q
    · rcases List.mem_cons.mp hr' with e' | q'
      · rw [e, e']
      · exact absurd rfl (h3 x (e ▸ hx) x (List.mem_flatten.mpr ⟨r', q', hx'⟩))
    · rcases List.mem_cons.mp hr' with e' | q'
      · exact absurd rfl (h3 x (e' ▸ hx') x (List.mem_flatten.mpr ⟨r, q, hx⟩))
      · exact ih h2 q q'
theorem Rings.nodup {h : List Nat} {rs : List (List Nat)} (R : Rings h rs) : rs.flatten.Nodup := R.all.nodup_iff.mpr List.nodup_range
/-- the walks that begin with their least guest are the rings -/
theorem Rings.lead {h : List Nat} {rs : List (List Nat)} (R : Rings h rs) {f : Nat → List Nat} (hf : ∀ g, g < h.length → ∃ r ∈ rs, ∃ k, r[k]? = some g ∧ f g = rot r k) : ((List.range h.length).map f).filter leads = rs := by
  rw [List.filter_map]
  have hd : ∀ g, g < h.length → leads (f g) = decide (g ∈ rs.map (·.headD 0)) := fun g hg => by
    obtain ⟨r, hr, k, hk, e⟩ := hf g hg
    rw [e, leads_rot hk (R.low r hr) (R.rg r hr).ne]
    apply decide_eq_decide.mpr
    constructor
    · intro a
      exact List.mem_map.mpr ⟨r, hr, a.symm⟩
    · intro a
      obtain ⟨r', hr', e'⟩ := List.mem_map.mp a
      have h0 : g ∈ r' := by
        have := (R.rg r' hr').ne
        cases r' with
        | nil => simp at this
        | cons b l => simp at e'; simp [e']
      have := nodup_flat R.nodup hr hr' (List.mem_of_getElem? hk) h0
      rw [this]
      exact e'.symm
  have hs : (List.range h.length).filter (leads ∘ f) = rs.map (·.headD 0) := by
    have e : (List.range h.length).filter (leads ∘ f) = (List.range h.length).filter (fun g => decide (g ∈ rs.map (·.headD 0))) := List.filter_congr fun g hg => hd g (List.mem_range.mp hg)
    rw [e]
    refine List.Perm.eq_of_pairwise (le := fun a b : Nat => a < b) (fun a b _ _ h1 h2 => by omega) (List.Pairwise.filter _ List.pairwise_lt_range) R.asc ?_
    refine (List.perm_ext_iff_of_nodup (List.Pairwise.filter _ List.nodup_range) (R.asc.imp fun h => Nat.ne_of_lt h)).mpr fun g => ?_
    rw [List.mem_filter]
    constructor
    · intro a
      exact of_decide_eq_true a.2
    · intro a
      refine ⟨?_, decide_eq_true a⟩
      obtain ⟨r', hr', e'⟩ := List.mem_map.mp a
      refine R.all.mem_iff.mp (List.mem_flatten.mpr ⟨r', hr', ?_⟩)
      have := (R.rg r' hr').ne
      cases r' with
      | nil => simp at this
      | cons b l => simp at e'; simp [e']
  rw [hs, List.map_map]
  refine (List.map_congr_left fun r hr => ?_).trans (List.map_id _)
  have ne := (R.rg r hr).ne
  have hm : r.headD 0 < h.length := List.mem_range.mp (R.all.mem_iff.mp (List.mem_flatten.mpr ⟨r, hr, by
    cases r with
    | nil => simp at ne
    | cons b l => simp⟩))
  obtain ⟨r', hr', k, hk, e⟩ := hf (r.headD 0) hm
  have e2 := nodup_flat R.nodup hr' hr (List.mem_of_getElem? hk) (by
    cases r with
    | nil => simp at ne
    | cons b l => simp)
  subst e2
  have k0 : k = 0 := by
    have h0 : r'[0]? = some (r'.headD 0) := by
      cases r' with
      | nil => simp at ne
      | cons b l => simp
    exact nd_ix (R.rg r' hr').nd hk h0
  show f (r'.headD 0) = r'
  rw [e, k0, rot_zero]

/-! ### walk_left, tables_of -/
def sp_walk_left : Sp := fun vs H Q _ => ∃ (a : Addr) (h r : List Nat) (g : Nat), vs = [.ref a, .int g] ∧ H a = some (.lst (nv h)) ∧ Rg h r ∧ r[0]? = some g ∧ r.length ≤ 20 ∧ RetU (nv r) H Q
theorem su_walk {H : Hp} {a : Addr} {h r : List Nat} {g : Nat} (ha : H a = some (.lst (nv h))) (R : Rg h r) (h0 : r[0]? = some g) (hl : r.length ≤ 20) : SpU sp_walk_left ([.ref a, .int (g : Int)] ++ []) H (nv r) := fun H1 e Q q E => ⟨a, h, r, g, rfl, e a _ ha, R, h0, hl, q⟩
theorem take_next {α : Type} {l : List α} {i : Nat} {x : α} (h : l[i]? = some x) : l.take (i + 1) = l.take i ++ [x] := by
  rw [List.take_add_one, h]
  rfl
section
variable {P : Program} {w : World} {K : PySem.W.Frag} {mg : Str → Option Value} {base : Heap}
theorem ok_walk_left (T : Tx K mg) : FnOk P w K mg base CX0 1 T.f_walk_left T.d_walk_left ["lefts", "guest"] sp_walk_left := by
  refine T.F_walk_left.ok sc_walk_left (fun vs H Q E h => ?_) (fun cdv A outer s H vs Q E hr h => ?_)
  · obtain ⟨a, h, r, g, rfl, _⟩ := h
    rfl
  · obtain ⟨a, h, r, g, rfl, ha, R, h0, hl, k⟩ := h
    refine ⟨_, (pss_cons (ps_set (i := 2) sc_walk_left.nd rfl (Or.inl rfl) (pe_lst (pa_cons (pv 1) pa_nil)))
      (pss_cons (ps_while PassesOwn.never (pt_cmpR op_ne (pe_ix ix_list (pv 0) (pe_ix ix_list (pv 2) (pe_un un_neg pe_int) (fun _ _ => rfl)) (fun _ _ => rfl)) (pv 1) (nomark _)) (pss_one (ps_expr (pe_bm PySem.F.plainAttrs_list PySem.F.slot_list_append PySem.F.type_list_append mt_append (pv 2) (pa_cons (pe_ix ix_list (pv 0) (pe_ix ix_list (pv 2) (pe_un un_neg pe_int) (fun _ _ => rfl)) (fun _ _ => rfl)) pa_nil)))))
      (pss_one (ps_ret (pe_callTy call_tupR (by rfl) T.m_tuple (by decide +kernel) (pa_cons (pv 2) pa_nil)))))), ?_⟩
    refine q_asgL (by walk_at "el") fun p H1 hp e1 h1 => ?_
    refine q_while (fun m σ' H' => ∃ i, σ' = [some (.ref a), some (.int g), some (.ref p)] ∧ i < r.length ∧ Ex H H' ∧ H' p = some (.lst (nv (r.take (i + 1)))) ∧ m = r.length - i) r.length ⟨0, rfl, R.ne, e1, ?_, by omega⟩ ?_
    · rw [h1, take_next h0]
      rfl
    · rintro m σ' H' ⟨i, rfl, hi, e, hl', rfl⟩
      obtain ⟨x, y, hx, hy, hxy⟩ := R.st i hi
      have hlast : atI (nv (r.take (i + 1))) (-1) = some (.int (x : Int)) := by
        rw [take_next hx, nv_app]
        exact atI_last _ _
      have hax := e a _ ha
      have evx : ∀ H2, Ex H' H2 → Ev (tOp (rIxL K) (tVar 0) (tOp (rIxL K) (tVar 2) (tUn (rU fun i => .int (-i)) (tC (.int 1))))) [some (.ref a), some (.int g), some (.ref p)] H2 (.int (y : Int)) := fun H2 e2 =>
        ev_op (ev_var rfl) (ev_op (ev_var rfl) (ev_un ev_c ru_neg) (rv_ixL (sq_of (e2 p _ hl')) hlast)) (rv_ixL (sq_of (e2 a _ hax)) (atI_nat (nv_get hxy)))
      refine ⟨decide (i + 1 < r.length), et_is (et_test (ev_op (evx H' (Ex.refl _)) (ev_var rfl) (rv_ne rfl))) ?_, fun hb H2 e2 => ?_, fun hb H2 e2 => ?_⟩
      · rw [dec_int]
        by_cases hn : i + 1 < r.length
        · rw [Nat.mod_eq_of_lt hn] at hy
          have ne : y ≠ g := fun z => by
            subst z
            have := nd_ix R.nd hy h0
            omega
          have : ((y : Int) == (g : Int)) = false := by
            rw [beq_eq_false_iff_ne]
            omega
          rw [this]
          simp [hn]
        · have e0 : i + 1 = r.length := by omega
          rw [e0, Nat.mod_self, h0] at hy
          have : y = g := (Option.some.inj hy).symm
          subst this
          simp [hn]
      · have hn := of_decide_eq_true hb
        rw [Nat.mod_eq_of_lt hn] at hy
        have hl2 := e2 p _ hl'
        refine ⟨fun σ2 H3 => σ2 = [some (.ref a), some (.int g), some (.ref p)] ∧ Ex H H3 ∧ H3 p = some (.lst (nv (r.take (i + 1 + 1)))), fun σ2 H3 ⟨h1, h2, h3⟩ => ⟨r.length - (i + 1), by omega, i + 1, h1, hn, h2, h3, rfl⟩, ?_⟩
        refine s_app hl2 (ev_var rfl) (evx H2 e2) (by rw [nv_len, List.length_take]; omega) fun H3 e3 => ⟨rfl, Ex.mut (e.trans (e2.trans e3)) hp, ?_⟩
        rw [upd_same, take_next hy, nv_app]
        rfl
      · have hn := of_decide_eq_false hb
        have ht : r.take (i + 1) = r := List.take_of_length_le (by omega)
        rw [ht] at hl'
        exact s_retU (eu_tupOf (ev_var rfl) (sq_of (e2 p _ hl'))) fun q H3 hq e3 h3 => k q H3 (fresh_back (e.trans e2) hq) (e.trans (e2.trans e3)) h3
def sp_tables_of : Sp := fun vs H Q _ => ∃ (a : Addr) (h : List Nat) (rs : List (List Nat)), vs = [.ref a] ∧ H a = some (.lst (nv h)) ∧ Ord h ∧ Rings h rs ∧ (∀ p ws H2, H p = none → Ex H H2 → H2 p = some (.lst ws) → TL H2 ws (rs.map nv) → Q (.ref p) H2)
theorem Rings.short {h : List Nat} {rs : List (List Nat)} (R : Rings h rs) {r : List Nat} (hr : r ∈ rs) : r.length ≤ h.length := by
  have := List.Sublist.length_le (List.sublist_flatten_of_mem hr)
  rw [R.all.length_eq, List.length_range] at this
  exact this
theorem lead_val {r : List Nat} (ne : 0 < r.length) : ∃ (x : Nat) (l : List Int), iz r = (x : Int) :: l ∧ r[0]? = some x ∧ decide (V.int (x : Int) = V.int (l.foldl min (x : Int))) = leads r := by
  cases r with
  | nil => simp at ne
  | cons x l =>
    refine ⟨x, iz l, rfl, rfl, ?_⟩
    obtain ⟨h1, h2⟩ := foldl_min_spec (iz l) (x : Int)
    rw [dec_int]
    unfold leads
    rw [Bool.eq_iff_iff]
    simp only [beq_iff_eq, decide_eq_true_eq]
    constructor
    · intro e y hy
      show x ≤ y
      have := h2 (y : Int) (by
        rcases List.mem_cons.mp hy with q | q
        · rw [q]; simp
        · exact List.mem_cons_of_mem _ (List.mem_map.mpr ⟨y, q, rfl⟩))
      omega
    · intro hle
      have a := h2 (x : Int) (by simp)
      have b : ∀ z ∈ (x : Int) :: iz l, (x : Int) ≤ z := fun z hz => by
        rcases List.mem_cons.mp hz with q | q
        · omega
        · obtain ⟨y, hy, rfl⟩ := List.mem_map.mp q
          have : x ≤ y := hle y (by simp [hy])
          omega
      have := b _ h1
      omega
/-- tables_among: of all guests of a seating -/
def sp_tables_among : Sp := fun vs H Q _ => ∃ (a b : Addr) (h : List Nat) (rs : List (List Nat)), vs = [.ref a, .ref b] ∧ H a = some (.lst (nv h)) ∧ H b = some (.lst (nv (List.range h.length))) ∧ Ord h ∧ Rings h rs ∧ (∀ p ws H2, H p = none → Ex H H2 → H2 p = some (.lst ws) → TL H2 ws (rs.map nv) → Q (.ref p) H2)
theorem ok_tables_among (T : Tx K mg) : FnOk P w K mg base CX0 2 T.f_tables_among T.d_tables_among ["lefts", "guests"] sp_tables_among := by
  refine T.F_tables_among.ok sc_tables_among (fun vs H Q E h => ?_) (fun cdv A outer s H vs Q E hr h => ?_)
  · obtain ⟨a, b, h, rs, rfl, _⟩ := h
    rfl
  · obtain ⟨a, b, h, rs, rfl, ha, hb0, o, R, k⟩ := h
    refine ⟨_, (pss_cons (ps_setLc (i := 3) (own := [("guest", 2)]) (g := (gName 2)) (tt := tYes) rfl sc_tables_among.nd rfl rfl (sw_true rfl rfl rfl (by decide +kernel)) (pi_list (pv 1)) (blkOk_by (own := [("guest", 2)]) (N := n_tables_among) (sc := defScope s_tables_among) (by decide +kernel)) (fun _ _ _ _ _ => (pg_name (i := 2) sc_tables_among.nd rfl (Or.inl rfl))) (fun _ _ _ _ _ => pts_nil) (fun _ _ _ _ _ => (pe_call (ok_walk_left T) (hr.mono (by decide)) (by rfl) T.g_walk_left T.F_walk_left.kp T.b_walk_left .nil pass0 (pa_cons (pv 0) (pa_cons (pv 2) pa_nil)))))
      (pss_one (ps_ret (pe_lc (own := [("walk", 4)]) (g := (gName 4)) rfl sc_tables_among.nd (pi_list (pv 3)) (blkOk_by (own := [("walk", 4)]) (N := n_tables_among) (sc := defScope s_tables_among) (by decide +kernel)) (fun _ _ _ _ _ => (pg_name (i := 4) sc_tables_among.nd rfl (Or.inl rfl))) (fun _ _ _ _ _ => (pts_one (pt_cmpR op_eq (pe_ix (r := rIxT K) ix_tup (pv 4) pe_int (fun _ _ => rfl)) (pe_callB (id := "min") (r := rMinT K) (cr_minT rfl (hu_of hr)) (by rfl) T.m_min (by decide +kernel) (pa_cons (pv 4) pa_nil)) (nomark _)))) (fun _ _ _ _ _ => (pv 4)))))), ?_⟩
    obtain ⟨f, hf⟩ := R.walks
    have ho := o.2
    have e1 := Ex.refl H
    have h1 := ha
    refine q_asgLT (rs := (List.range h.length).map fun g => nv (f g)) ?_ fun p ws H2 hp e2 h2 ht => ?_
    · have g := elt_map (K := K) (te := tCall sp_walk_left [] E0 (tCons (tVar 0) (tCons (tVar 2) tNil))) (tl := tVar 1) (σ := [some (.ref a), some (.ref b), none, none, none]) (H := H) (j := 2) (vs := [2]) (xs := nv (List.range h.length)) (fun g => nv (f g)) (ev_var rfl) (sq_of hb0) (by rw [nv_len, List.length_range]; omega) (fun _ => rfl) fun i x H2 e2 hi0 => ?_
      · rw [nv_len, List.length_range] at g
        exact g
      · have hi : i < h.length := by
          have := (List.getElem?_eq_some_iff.mp hi0).1
          rw [nv_len, List.length_range] at this
          exact this
        have hx : x = .int (i : Int) := by
          have := nv_get (xs := List.range h.length) (i := i) (x := i) (by rw [List.getElem?_range hi])
          rw [this] at hi0
          exact (Option.some.inj hi0).symm
        subst hx
        obtain ⟨r, hr, kk, hk, e⟩ := hf i (by omega)
        have hkl := (List.getElem?_eq_some_iff.mp hk).1
        have hrs := R.short hr
        refine eu_call (by walk_at "ea") ?_
        have := su_walk (a := a) (g := i) (e2 a _ h1) ((R.rg r hr).rot hkl) (by rw [rot_get hkl (R.rg r hr).ne, Nat.zero_add, Nat.mod_eq_of_lt hkl]; exact hk) (by rw [rot_len (by omega)]; omega)
        rw [← e] at this
        exact this
    · have hlen := ht.len
      simp at hlen
      refine s_retLT (rs := rs.map nv) ?_ fun q vs H3 hq e3 h3 ht3 => k q vs H3 (fresh_back (e1.trans e2) hq) (e1.trans (e2.trans e3)) h3 ht3
      have g := elt_filter (K := K) (σ := [some (.ref a), some (.ref b), none, some (.ref p), none]) (H := H2) (tl := tVar 3) (j := 4) (vs := [4]) (t := tTest (tOp rEq (tOp (rIxT K) (tVar 4) (tC (.int 0))) (tCB (rMinT K) (tCons (tVar 4) tNil)))) (xs := ws) (rs := (List.range h.length).map fun g => nv (f g))
        (fun r => leads (r.map fun v => match v with | .int z => z.toNat | _ => 0)) (ev_var rfl) (sq_of h2) ht (by omega) (fun _ => rfl) (fun _ => rfl) fun b r H3 e3 hr hb => ?_
      · have e : ((List.range h.length).map fun g => nv (f g)).filter (fun r => leads (r.map fun v => match v with | .int z => z.toNat | _ => 0)) = rs.map nv := by
          rw [show ((List.range h.length).map fun g => nv (f g)) = ((List.range h.length).map f).map nv by rw [List.map_map]; rfl, List.filter_map]
          congr 1
          have : ((fun r : List V => leads (r.map fun v => match v with | .int z => z.toNat | _ => 0)) ∘ nv) = leads := by
            funext r
            show leads ((nv r).map _) = leads r
            rw [nv_eq, List.map_map]
            congr 1
            refine (List.map_congr_left fun x _ => ?_).trans (List.map_id _)
            simp
          rw [this]
          exact R.lead hf
        rw [e] at g
        exact g
      · obtain ⟨g, hg, rfl⟩ := List.mem_map.mp hr
        obtain ⟨r, hr, kk, hk, e⟩ := hf g (List.mem_range.mp hg)
        have hkl := (List.getElem?_eq_some_iff.mp hk).1
        have ne : 0 < (f g).length := by rw [e, rot_len (by omega)]; exact (R.rg r hr).ne
        obtain ⟨x, l, i1, i2, i3⟩ := lead_val ne
        have e5 : leads ((nv (f g)).map fun v => match v with | .int z => z.toNat | _ => 0) = leads (f g) := by
          rw [nv_eq, List.map_map]
          congr 1
          refine (List.map_congr_left fun x _ => ?_).trans (List.map_id _)
          simp
        rw [e5, ← i3]
        have hb2 : SqT K H3 b (((x : Int) :: l).map V.int) := st_of (by rw [hb]; unfold nv; rw [i1])
        exact et_test (ev_op (ev_op (ev_var rfl) ev_c (rv_ixT (st_of hb) (atI_nat (j := 0) (nv_get i2)))) (ev_minT (ev_var rfl) hb2) (rv_eq rfl))
theorem elt_among {H : Hp} {a : Addr} {h : List Nat} {rs : List (List Nat)} {σ : L2.St} {ta tb : TE} {E : XK} (h1 : Ev ta σ H (.ref a)) (h2 : EvL tb σ H (nv (List.range h.length))) (ha : H a = some (.lst (nv h))) (o : Ord h) (R : Rings h rs) : EvLT (tCall sp_tables_among [] E (tCons ta (tCons tb tNil))) σ H (rs.map nv) := fun H1 e Q q => h1 H1 e _ fun H2 e2 => h2 H2 (e.trans e2) _ fun b H3 nb e3 hb => ⟨a, b, h, rs, rfl, (e.trans (e2.trans e3)) a _ ha, hb, o, R, fun p ws H4 hp e4 h4 t => q p ws H4 (fresh_back (e2.trans e3) hp) ((e2.trans e3).trans e4) h4 t⟩
theorem ok_tables_of (T : Tx K mg) : FnOk P w K mg base CX0 5 T.f_tables_of T.d_tables_of ["seating"] sp_tables_of := by
  refine T.F_tables_of.ok sc_tables_of (fun vs H Q E h => ?_) (fun cdv A outer s H vs Q E hr h => ?_)
  · obtain ⟨a, h, rs, rfl, _⟩ := h
    rfl
  · obtain ⟨a, h, rs, rfl, ha, o, R, k⟩ := h
    refine ⟨_, (pss_cons (ps_expr (pe_call (ok_check_seating T) (hr.mono (by decide)) (by rfl) T.g_check_seating T.F_check_seating.kp T.b_check_seating .nil pass0 (pa_cons (pv 0) pa_nil)))
      (pss_one (ps_ret (pe_call (ok_tables_among T) (hr.mono (by decide)) (by rfl) T.g_tables_among T.F_tables_among.kp T.b_tables_among .nil pass0 (pa_cons (pv 0) (pa_cons (pe_listRg rfl (by rfl) T.m_list (prg_1 (by rfl) T.m_range (pe_callB call_lenR (by rfl) T.m_len (by decide +kernel) (pa_cons (pv 0) pa_nil)))) pa_nil)))))), ?_⟩
    have ho := o.2
    refine q_drop (by walk_at "ev") fun H1 e1 => ?_
    have h1 := e1 a _ ha
    refine s_retLT (rs := rs.map nv) (elt_among (ev_var rfl) ?_ h1 o R) fun q vs H3 hq e3 h3 ht3 => k q vs H3 (fresh_back e1 hq) (e1.trans e3) h3 ht3
    have g := el_rg1 (σ := start n_tables_of [.ref a]) (ev_len (K := K) (ta := tVar 0) (ev_var (i := 0) (v := .ref a) rfl) (sq_of h1)) (RgOk.of_le (by decide) (by rw [nv_len]; omega) (by decide) (by rw [nv_len]; omega))
    rw [nv_len, range_iz] at g
    exact g
end


local macro_rules | `(tactic| walk_at "call") => `(tactic| (with_reducible exact sv_whole))
local macro_rules | `(tactic| walk_at "call") => `(tactic| ((with_reducible refine' sv_order ?c1 ?c2); (case c1 => assumption); (case c2 => assumption)))
local macro_rules | `(tactic| walk_at "call") => `(tactic| ((with_reducible refine' sv_ord ?c1 ?c2); (case c1 => assumption); (case c2 => assumption)))

/-! ### rings by entries: the mathematics -/
def insr (pal one : Nat) (r : List Nat) : List Nat := if pal ∈ r ∧ pal ≠ one then r.take (r.idxOf pal + 1) ++ [one] ++ r.drop (r.idxOf pal + 1) else r
def rstep (rs : List (List Nat)) (one pal : Nat) : List (List Nat) := (if one = pal then rs ++ [[one]] else rs).map (insr pal one)
def ringsTo (e : List Nat) : Nat → List (List Nat)
  | 0 => []
  | i + 1 => rstep (ringsTo e i) i (e.getD i 0)
structure RI (m : Nat) (rs : List (List Nat)) : Prop where
  all : rs.flatten.Perm (List.range m)
  ne : ∀ r ∈ rs, 0 < r.length
  low : ∀ r ∈ rs, ∀ x ∈ r, r.headD 0 ≤ x
  asc : (rs.map (·.headD 0)).Pairwise (· < ·)
theorem insr_perm {pal one : Nat} {r : List Nat} (h : pal ∈ r) (ne : pal ≠ one) : (insr pal one r).Perm (one :: r) := by
  unfold insr
  rw [if_pos ⟨h, ne⟩, List.append_assoc]
  refine (List.Perm.append_left _ List.perm_append_comm).trans ?_
  rw [← List.append_assoc, List.take_append_drop]
  exact List.perm_append_comm
theorem insr_no {pal one : Nat} {r : List Nat} (h : pal ∉ r) : insr pal one r = r := if_neg fun q => h q.1
theorem insr_same {pal one : Nat} {r : List Nat} (h : pal = one) : insr pal one r = r := if_neg fun q => q.2 h
theorem insr_head {pal one : Nat} {r : List Nat} : (insr pal one r).headD 0 = r.headD 0 := by
  by_cases h : pal ∈ r ∧ pal ≠ one
  · unfold insr
    rw [if_pos h]
    cases r with
    | nil => simp at h
    | cons x l => simp
  · unfold insr
    rw [if_neg h]
theorem insr_len {pal one : Nat} {r : List Nat} (h : 0 < r.length) : 0 < (insr pal one r).length := by
  unfold insr
  split
  · simp
    omega
  · exact h
theorem insr_mem {pal one x : Nat} {r : List Nat} (h : x ∈ insr pal one r) : x ∈ r ∨ x = one := by
  by_cases q : pal ∈ r ∧ pal ≠ one
  · have := (insr_perm q.1 q.2).mem_iff.mp h
    rcases List.mem_cons.mp this with z | z
    · exact .inr z
    · exact .inl z
  · unfold insr at h
    rw [if_neg q] at h
    exact .inl h
theorem insr_all {pal one : Nat} (ne : pal ≠ one) : ∀ {rs : List (List Nat)}, rs.flatten.Nodup → pal ∈ rs.flatten → (rs.map (insr pal one)).flatten.Perm (one :: rs.flatten)
  | [], _, h => by simp at h
  | r :: l, nd, h => by
    rw [List.flatten_cons, List.nodup_append] at nd
    rw [List.map_cons, List.flatten_cons, List.flatten_cons]
    by_cases q : pal ∈ r
    · have hn : ∀ s ∈ l, pal ∉ s := fun s hs z => absurd rfl (nd.2.2 pal q pal (List.mem_flatten.mpr ⟨s, hs, z⟩))
      have e : l.map (insr pal one) = l := (List.map_congr_left fun s hs => insr_no (hn s hs)).trans (List.map_id _)
      rw [e]
      exact (List.Perm.append_right _ (insr_perm q ne))
    · rw [insr_no q]
      have h' : pal ∈ l.flatten := by
        rw [List.flatten_cons] at h
        rcases List.mem_append.mp h with z | z
        · exact absurd z q
        · exact z
      refine (List.Perm.append_left _ (insr_all ne nd.2.1 h')).trans ?_
      exact List.perm_middle
theorem RI.nd {m : Nat} {rs : List (List Nat)} (R : RI m rs) : rs.flatten.Nodup := R.all.nodup_iff.mpr List.nodup_range
theorem RI.mem {m x : Nat} {rs : List (List Nat)} (R : RI m rs) {r : List Nat} (hr : r ∈ rs) (hx : x ∈ r) : x < m := List.mem_range.mp (R.all.mem_iff.mp (List.mem_flatten.mpr ⟨r, hr, hx⟩))
theorem head_mem {r : List Nat} (h : 0 < r.length) : r.headD 0 ∈ r := by
  cases r with
  | nil => simp at h
  | cons x l => simp
theorem RI.step {one pal : Nat} {rs : List (List Nat)} (R : RI one rs) (h : pal ≤ one) : RI (one + 1) (rstep rs one pal) := by
  unfold rstep
  by_cases q : one = pal
  · rw [if_pos q]
    have e : (rs ++ [[one]]).map (insr pal one) = rs ++ [[one]] := (List.map_congr_left fun s _ => insr_same q.symm).trans (List.map_id _)
    rw [e]
    refine ⟨?_, ?_, ?_, ?_⟩
    · rw [List.flatten_append, List.range_succ]
      exact List.Perm.append_right _ R.all
    · intro r hr
      rcases List.mem_append.mp hr with z | z
      · exact R.ne r z
      · rw [List.mem_singleton.mp z]; simp
    · intro r hr
      rcases List.mem_append.mp hr with z | z
      · exact R.low r z
      · rw [List.mem_singleton.mp z]; simp
    · rw [List.map_append, List.pairwise_append]
      refine ⟨R.asc, by simp, fun a ha b hb => ?_⟩
      obtain ⟨r, hr, rfl⟩ := List.mem_map.mp ha
      have := R.mem hr (head_mem (R.ne r hr))
      simp at hb
      omega
  · rw [if_neg q]
    have hp : pal ∈ rs.flatten := R.all.mem_iff.mpr (List.mem_range.mpr (by omega))
    have eh : (rs.map (insr pal one)).map (·.headD 0) = rs.map (·.headD 0) := by
      rw [List.map_map]
      exact List.map_congr_left fun r _ => insr_head
    refine ⟨?_, ?_, ?_, ?_⟩
    · refine (insr_all (Ne.symm q) R.nd hp).trans ?_
      rw [List.range_succ]
      exact (List.Perm.cons _ R.all).trans (List.perm_append_comm (l₁ := [one]))
    · intro r hr
      obtain ⟨s, hs, rfl⟩ := List.mem_map.mp hr
      exact insr_len (R.ne s hs)
    · intro r hr x hx
      obtain ⟨s, hs, rfl⟩ := List.mem_map.mp hr
      rw [insr_head]
      rcases insr_mem hx with z | z
      · exact R.low s hs x z
      · have := R.mem hs (head_mem (R.ne s hs))
        omega
    · rw [eh]
      exact R.asc
theorem ringsTo_ok {e : List Nat} (h : ∀ (i x : Nat), e[i]? = some x → x ≤ i) : ∀ m, m ≤ e.length → RI m (ringsTo e m)
  | 0, _ => ⟨List.Perm.refl _, by simp [ringsTo], by simp [ringsTo], by simp [ringsTo]⟩
  | m + 1, hm => by
    have ih := ringsTo_ok h m (by omega)
    refine ih.step ?_
    have : e[m]? = some (e.getD m 0) := by
      rw [List.getD_eq_getElem?_getD, List.getElem?_eq_getElem (by omega)]
      rfl
    exact h m _ this
/-! the seating of rings -/
def succ (rs : List (List Nat)) (x : Nat) : Nat := match rs.find? (fun r => decide (x ∈ r)) with
  | some r => r.getD ((r.idxOf x + 1) % r.length) 0
  | none => 0
theorem succ_at {rs : List (List Nat)} (nd : rs.flatten.Nodup) {r : List Nat} (hr : r ∈ rs) {i x : Nat} (hx : r[i]? = some x) : succ rs x = r.getD ((i + 1) % r.length) 0 := by
  have hm := List.mem_of_getElem? hx
  have hf : rs.find? (fun r => decide (x ∈ r)) = some r := by
    cases hq : rs.find? (fun r => decide (x ∈ r)) with
    | none => exact absurd (decide_eq_true hm) (by simpa using List.find?_eq_none.mp hq r hr)
    | some s =>
      have h1 := List.mem_of_find?_eq_some hq
      have h2 := List.find?_some hq
      rw [nodup_flat nd h1 hr (of_decide_eq_true h2) hm]
  have ndr : r.Nodup := List.Pairwise.sublist (List.sublist_flatten_of_mem hr) nd
  have hi : r.idxOf x = i := by
    have hl := List.idxOf_lt_length_of_mem hm
    have := List.getElem_idxOf hl
    have h1 : r[r.idxOf x]? = some x := by rw [List.getElem?_eq_getElem hl, this]
    exact nd_ix ndr h1 hx
  unfold succ
  rw [hf]
  show r.getD ((r.idxOf x + 1) % r.length) 0 = _
  rw [hi]
def seat (rs : List (List Nat)) (n : Nat) : List Nat := (List.range n).map (succ rs)
theorem seat_rg {rs : List (List Nat)} {n : Nat} (hp : rs.flatten.Perm (List.range n)) {r : List Nat} (hr : r ∈ rs) (ne : 0 < r.length) : Rg (seat rs n) r := by
  have nd : rs.flatten.Nodup := hp.nodup_iff.mpr List.nodup_range
  refine ⟨ne, List.Pairwise.sublist (List.sublist_flatten_of_mem hr) nd, fun i hi => ?_⟩
  have hx : r[i]? = some r[i] := List.getElem?_eq_getElem hi
  have hm := Nat.mod_lt (i + 1) ne
  refine ⟨r[i], r[(i + 1) % r.length], hx, List.getElem?_eq_getElem hm, ?_⟩
  have hn : r[i] < n := List.mem_range.mp (hp.mem_iff.mp (List.mem_flatten.mpr ⟨r, hr, List.getElem_mem hi⟩))
  unfold seat
  rw [List.getElem?_map, List.getElem?_range hn]
  show some (succ rs r[i]) = _
  rw [succ_at nd hr hx, List.getD_eq_getElem?_getD, List.getElem?_eq_getElem hm]
  rfl
theorem seat_len (rs : List (List Nat)) (n : Nat) : (seat rs n).length = n := by simp [seat]
theorem map_rot {rs : List (List Nat)} (nd : rs.flatten.Nodup) {r : List Nat} (hr : r ∈ rs) (ne : 0 < r.length) : r.map (succ rs) = rot r (1 % r.length) := by
  have hk := Nat.mod_lt 1 ne
  refine List.ext_getElem? fun i => ?_
  by_cases hi : i < r.length
  · have hx : r[i]? = some r[i] := List.getElem?_eq_getElem hi
    have hm := Nat.mod_lt (i + 1) ne
    rw [List.getElem?_map, hx, rot_get hk hi, Nat.add_mod_mod]
    show some (succ rs r[i]) = _
    rw [succ_at nd hr hx, List.getD_eq_getElem?_getD, List.getElem?_eq_getElem hm]
    rfl
  · rw [List.getElem?_eq_none (by simp; omega), List.getElem?_eq_none (by rw [rot_len (by omega)]; omega)]
theorem flat_map_perm {g : Nat → Nat} : ∀ {rs : List (List Nat)}, (∀ r ∈ rs, (r.map g).Perm r) → (rs.flatten.map g).Perm rs.flatten
  | [], _ => List.Perm.refl _
  | r :: l, h => by
    rw [List.flatten_cons, List.map_append]
    exact List.Perm.append (h r (by simp)) (flat_map_perm fun s hs => h s (by simp [hs]))
theorem seat_perm {rs : List (List Nat)} {n : Nat} (hp : rs.flatten.Perm (List.range n)) (hne : ∀ r ∈ rs, 0 < r.length) : (seat rs n).Perm (List.range n) := by
  have nd : rs.flatten.Nodup := hp.nodup_iff.mpr List.nodup_range
  unfold seat
  refine ((hp.symm.map (succ rs)).trans (flat_map_perm fun r hr => ?_)).trans hp
  rw [map_rot nd hr (hne r hr)]
  exact rot_perm r _
theorem RI.rings {m : Nat} {rs : List (List Nat)} (R : RI m rs) : Rings (seat rs m) rs := ⟨fun r hr => seat_rg R.all hr (R.ne r hr), R.low, R.asc, by rw [seat_len]; exact R.all⟩
theorem seat_ord {rs : List (List Nat)} {n : Nat} (hp : rs.flatten.Perm (List.range n)) (hne : ∀ r ∈ rs, 0 < r.length) (h1 : 1 ≤ n) (h2 : n ≤ 20) : Ord (seat rs n) := by
  unfold Ord
  rw [seat_len]
  exact ⟨seat_perm hp hne, h1, h2⟩

/-! ### coming lists: the mathematics -/
def Cm (c : List Nat) : Prop := 1 ≤ c.length ∧ c.length ≤ 20 ∧ ∀ (i x : Nat), c[i]? = some x → x ≤ i
theorem Cm.get {c : List Nat} (h : Cm c) (k : Nat) : c.getD k 0 ≤ k := by
  rw [List.getD_eq_getElem?_getD]
  cases e : c[k]? with
  | none => exact Nat.zero_le _
  | some x => exact h.2.2 k x e
/-- one more guest at the left of x, or alone -/
def sits (h : List Nat) (k x : Nat) : List Nat := if x = k then h ++ [k] else ((h ++ [k]).set k (h.getD x 0)).set x k
def sby (c : List Nat) : Nat → List Nat
  | 0 => []
  | k + 1 => sits (sby c k) k (c.getD k 0)
theorem sits_len {h : List Nat} {k x : Nat} : (sits h k x).length = h.length + 1 := by
  unfold sits
  split <;> simp
theorem sby_len (c : List Nat) : ∀ k, (sby c k).length = k
  | 0 => rfl
  | k + 1 => by
    show (sits _ _ _).length = _
    rw [sits_len, sby_len c k]
theorem sby_take (c : List Nat) {w : Nat} (hw : w ≤ c.length) : ∀ k, k ≤ w → sby (c.take w) k = sby c k
  | 0, _ => rfl
  | k + 1, h => by
    show sits (sby (c.take w) k) k _ = sits (sby c k) k _
    rw [sby_take c hw k (by omega)]
    congr 1
    rw [List.getD_eq_getElem?_getD, List.getD_eq_getElem?_getD, List.getElem?_take]
    rw [if_pos (by omega)]
theorem insr_at {pal one : Nat} {r : List Nat} {j : Nat} (nd : r.Nodup) (hj : r[j]? = some pal) (ne : pal ≠ one) : insr pal one r = r.take (j + 1) ++ [one] ++ r.drop (j + 1) := by
  have hm := List.mem_of_getElem? hj
  have e : r.idxOf pal = j := by
    have hl := List.idxOf_lt_length_of_mem hm
    have h1 : r[r.idxOf pal]? = some pal := by rw [List.getElem?_eq_getElem hl, List.getElem_idxOf hl]
    exact nd_ix nd h1 hj
  unfold insr
  rw [if_pos ⟨hm, ne⟩, e]
theorem ins_get {r : List Nat} {j one t : Nat} (hj : j < r.length) : (r.take (j + 1) ++ [one] ++ r.drop (j + 1))[t]? = if t ≤ j then r[t]? else if t = j + 1 then some one else r[t - 1]? := by
  have l1 : (r.take (j + 1)).length = j + 1 := by rw [List.length_take]; omega
  split
  · rename_i h
    rw [List.getElem?_append_left (by simp; omega), List.getElem?_append_left (by omega), List.getElem?_take, if_pos (by omega)]
  · split
    · rename_i h1 h2
      subst h2
      rw [List.getElem?_append_left (by simp; omega), List.getElem?_append_right (by omega), l1, Nat.sub_self]
      rfl
    · rename_i h1 h2
      rw [List.getElem?_append_right (by simp; omega), List.getElem?_drop]
      congr 1
      simp
      omega
theorem ins_len {r : List Nat} {j one : Nat} (hj : j < r.length) : (r.take (j + 1) ++ [one] ++ r.drop (j + 1)).length = r.length + 1 := by
  simp
  omega
theorem mod_next {i L : Nat} (h : i < L) : (i + 1) % L = if i + 1 = L then 0 else i + 1 := by
  split
  · rename_i e
    rw [e, Nat.mod_self]
  · exact Nat.mod_eq_of_lt (by omega)
theorem getD_of {r : List Nat} {i x : Nat} (h : r[i]? = some x) : r.getD i 0 = x := by
  rw [List.getD_eq_getElem?_getD, h]
  rfl
/-- the left neighbours when one more guest has sat down -/
theorem succ_step {one pal : Nat} {rs : List (List Nat)} (R : RI one rs) (lt : pal < one) : succ (rstep rs one pal) pal = one ∧ succ (rstep rs one pal) one = succ rs pal ∧ ∀ x, x < one → x ≠ pal → succ (rstep rs one pal) x = succ rs x := by
  have ne : pal ≠ one := by omega
  have R2 := R.step (pal := pal) (by omega)
  have nd2 := R2.nd
  have nd := R.nd
  have e : rstep rs one pal = rs.map (insr pal one) := by
    unfold rstep
    rw [if_neg (by omega)]
  have hp : pal ∈ rs.flatten := R.all.mem_iff.mpr (List.mem_range.mpr lt)
  obtain ⟨r, hr, hpr⟩ := List.mem_flatten.mp hp
  obtain ⟨j, hj⟩ := List.mem_iff_getElem?.mp hpr
  have jl := (List.getElem?_eq_some_iff.mp hj).1
  have ndr : r.Nodup := List.Pairwise.sublist (List.sublist_flatten_of_mem hr) nd
  have ei := insr_at (one := one) ndr hj ne
  have mem2 : r.take (j + 1) ++ [one] ++ r.drop (j + 1) ∈ rstep rs one pal := by
    rw [e, ← ei]
    exact List.mem_map.mpr ⟨r, hr, rfl⟩
  have L := ins_len (one := one) jl
  have G := fun t => ins_get (one := one) (t := t) jl
  generalize hq : r.take (j + 1) ++ [one] ++ r.drop (j + 1) = q at *
  have atj : q[j]? = some pal := by rw [G, if_pos (Nat.le_refl _)]; exact hj
  have atj1 : q[j + 1]? = some one := by rw [G, if_neg (by omega), if_pos rfl]
  have s1 := succ_at nd2 mem2 atj
  have s2 := succ_at nd2 mem2 atj1
  have s0 := succ_at nd hr hj
  refine ⟨?_, ?_, ?_⟩
  · rw [s1, L, mod_next (by omega), if_neg (by omega)]
    exact getD_of atj1
  · rw [s2, L, s0, mod_next (by omega), mod_next jl]
    by_cases z : j + 1 = r.length
    · rw [if_pos (by omega), if_pos z, List.getD_eq_getElem?_getD, List.getD_eq_getElem?_getD, G, if_pos (by omega)]
    · rw [if_neg (by omega), if_neg z, List.getD_eq_getElem?_getD, List.getD_eq_getElem?_getD, G, if_neg (by omega), if_neg (by omega)]
      rfl
  · intro x hx nx
    have hxm : x ∈ rs.flatten := R.all.mem_iff.mpr (List.mem_range.mpr hx)
    obtain ⟨s, hs, hxs⟩ := List.mem_flatten.mp hxm
    obtain ⟨i, hi⟩ := List.mem_iff_getElem?.mp hxs
    have il := (List.getElem?_eq_some_iff.mp hi).1
    have t0 := succ_at nd hs hi
    by_cases hps : pal ∈ s
    · have : s = r := nodup_flat nd hs hr hps hpr
      subst this
      rw [t0, mod_next il]
      rcases Nat.lt_trichotomy i j with h | h | h
      · have t1 := succ_at nd2 mem2 (i := i) (x := x) (by rw [G, if_pos (by omega)]; exact hi)
        rw [t1, L, mod_next (by omega), if_neg (by omega), if_neg (by omega), List.getD_eq_getElem?_getD, List.getD_eq_getElem?_getD, G, if_pos (by omega)]
      · subst h
        rw [hj] at hi
        exact absurd (Option.some.inj hi).symm nx
      · have t1 := succ_at nd2 mem2 (i := i + 1) (x := x) (by
          rw [G, if_neg (by omega), if_neg (by omega)]
          exact hi)
        rw [t1, L, mod_next (by omega)]
        by_cases z : i + 1 = s.length
        · rw [if_pos (by omega), if_pos z, List.getD_eq_getElem?_getD, List.getD_eq_getElem?_getD, G, if_pos (by omega)]
        · rw [if_neg (by omega), if_neg z, List.getD_eq_getElem?_getD, List.getD_eq_getElem?_getD, G, if_neg (by omega), if_neg (by omega)]
          rfl
    · have mem3 : s ∈ rstep rs one pal := by
        rw [e]
        exact List.mem_map.mpr ⟨s, hs, insr_no hps⟩
      rw [succ_at nd2 mem3 hi, t0]
theorem succ_open {one : Nat} {rs : List (List Nat)} (R : RI one rs) : succ (rstep rs one one) one = one ∧ ∀ x, x < one → succ (rstep rs one one) x = succ rs x := by
  have R2 := R.step (pal := one) (Nat.le_refl _)
  have nd2 := R2.nd
  have nd := R.nd
  have e : rstep rs one one = rs ++ [[one]] := by
    unfold rstep
    rw [if_pos rfl]
    exact (List.map_congr_left fun s _ => insr_same rfl).trans (List.map_id _)
  refine ⟨?_, fun x hx => ?_⟩
  · have := succ_at nd2 (r := [one]) (by rw [e]; simp) (i := 0) (x := one) rfl
    rw [this]
    simp
  · have hxm : x ∈ rs.flatten := R.all.mem_iff.mpr (List.mem_range.mpr hx)
    obtain ⟨s, hs, hxs⟩ := List.mem_flatten.mp hxm
    obtain ⟨i, hi⟩ := List.mem_iff_getElem?.mp hxs
    rw [succ_at nd2 (r := s) (by rw [e]; simp [hs]) hi, succ_at nd hs hi]
theorem sby_seat {c : List Nat} (h : ∀ (i x : Nat), c[i]? = some x → x ≤ i) : ∀ k, k ≤ c.length → sby c k = seat (ringsTo c k) k
  | 0, _ => rfl
  | k + 1, hk => by
    have ih := sby_seat h k (by omega)
    have R := ringsTo_ok h k (by omega)
    have hx : c.getD k 0 ≤ k := by
      have : c[k]? = some (c.getD k 0) := by
        rw [List.getD_eq_getElem?_getD, List.getElem?_eq_getElem (by omega)]
        rfl
      exact h k _ this
    show sits (sby c k) k (c.getD k 0) = (List.range (k + 1)).map (succ (rstep (ringsTo c k) k (c.getD k 0)))
    rw [ih]
    generalize c.getD k 0 = x at *
    generalize ringsTo c k = rs at *
    have sl := seat_len rs k
    refine List.ext_getElem? fun i => ?_
    rw [List.getElem?_map]
    unfold sits
    by_cases hxk : x = k
    · subst hxk
      obtain ⟨s1, s2⟩ := succ_open R
      rw [if_pos rfl]
      rcases Nat.lt_trichotomy i x with q | q | q
      · rw [List.getElem?_append_left (by omega), List.getElem?_range (by omega)]
        unfold seat
        rw [List.getElem?_map, List.getElem?_range q]
        show some _ = some _
        rw [s2 i q]
      · subst q
        rw [List.getElem?_append_right (by omega), sl, Nat.sub_self, List.getElem?_range (by omega)]
        show some i = some _
        rw [s1]
      · rw [List.getElem?_eq_none (by simp [sl]; omega), List.getElem?_eq_none (by simp; omega)]
        rfl
    · have xl : x < k := by omega
      obtain ⟨s1, s2, s3⟩ := succ_step R xl
      rw [if_neg hxk]
      have hgx : (seat rs k).getD x 0 = succ rs x := by
        refine getD_of ?_
        unfold seat
        rw [List.getElem?_map, List.getElem?_range xl]
        rfl
      rw [hgx, List.getElem?_set, List.getElem?_set]
      by_cases q1 : x = i
      · subst q1
        rw [if_pos rfl, if_pos (by simp [sl]; omega), List.getElem?_range (by omega)]
        show some k = some _
        rw [s1]
      · rw [if_neg q1]
        rcases Nat.lt_trichotomy i k with q | q | q
        · rw [if_neg (by omega), List.getElem?_append_left (by omega), List.getElem?_range (by omega)]
          unfold seat
          rw [List.getElem?_map, List.getElem?_range q]
          show some _ = some _
          rw [s3 i q (fun z => q1 z.symm)]
        · subst q
          rw [if_pos rfl, if_pos (by simp [sl]), List.getElem?_range (by omega)]
          show some _ = some _
          rw [s2]
        · rw [if_neg (by omega), List.getElem?_eq_none (by simp [sl]; omega), List.getElem?_eq_none (by simp; omega)]
          rfl
theorem sby_lt {c : List Nat} (h : ∀ (i x : Nat), c[i]? = some x → x ≤ i) {k : Nat} (hk : k ≤ c.length) {y : Nat} (hy : y ∈ sby c k) : y < k := by
  rw [sby_seat h k hk] at hy
  have R := ringsTo_ok h k hk
  have := (seat_perm R.all R.ne).mem_iff.mp hy
  exact List.mem_range.mp this
/-- the last guest's right neighbour, and the others without it -/
theorem sits_last {h : List Nat} {k x : Nat} (hl : h.length = k) (hlt : ∀ y ∈ h, y < k) (hx : x ≤ k) :
    (sits h k x)[x]? = some k ∧ (∀ m, m < x → (sits h k x)[m]? ≠ some k) ∧ ((sits h k x).set x ((sits h k x).getD k 0)).dropLast = h := by
  have at' : ∀ (m y : Nat), h[m]? = some y → y < k := fun m y hy => hlt y (List.mem_of_getElem? hy)
  unfold sits
  by_cases hxk : x = k
  · subst hxk
    rw [if_pos rfl]
    have g : (h ++ [x])[x]? = some x := by
      rw [List.getElem?_append_right (by omega), hl, Nat.sub_self]
      rfl
    refine ⟨g, fun m hm z => ?_, ?_⟩
    · rw [List.getElem?_append_left (by omega)] at z
      have := at' m x z
      omega
    · rw [getD_of g, List.set_append_right _ _ (by omega), hl, Nat.sub_self]
      simp
  · have xl : x < k := by omega
    rw [if_neg hxk]
    have l1 : ((h ++ [k]).set k (h.getD x 0)).length = k + 1 := by simp [hl]
    refine ⟨by rw [List.getElem?_set, if_pos rfl, if_pos (by omega)], fun m hm z => ?_, ?_⟩
    · rw [List.getElem?_set, if_neg (by omega), List.getElem?_set, if_neg (by omega), List.getElem?_append_left (by omega)] at z
      have := at' m k z
      omega
    · have g : (((h ++ [k]).set k (h.getD x 0)).set x k).getD k 0 = h.getD x 0 := by
        refine getD_of ?_
        rw [List.getElem?_set, if_neg (by omega), List.getElem?_set, if_pos rfl, if_pos (by simp [hl])]
      rw [g, List.set_set]
      have e1 : (h ++ [k]).set k (h.getD x 0) = h ++ [h.getD x 0] := by
        rw [List.set_append_right _ _ (by omega), hl, Nat.sub_self]
        rfl
      rw [e1, List.set_append_left _ _ (by omega), List.dropLast_concat]
      refine List.ext_getElem (by simp) fun i h1 h2 => ?_
      rw [List.getElem_set]
      split
      · rename_i q
        subst q
        exact getD_of (List.getElem?_eq_getElem h2)
      · rfl
/-- who opened the tables -/
theorem rings_heads (c : List Nat) : ∀ k, (ringsTo c k).map (·.headD 0) = (List.range k).filter fun i => decide (c.getD i 0 = i)
  | 0 => rfl
  | k + 1 => by
    have ih := rings_heads c k
    rw [List.range_succ, List.filter_append, ← ih]
    show (rstep (ringsTo c k) k (c.getD k 0)).map (·.headD 0) = _
    have eh : ∀ rs : List (List Nat), (rs.map (insr (c.getD k 0) k)).map (·.headD 0) = rs.map (·.headD 0) := fun rs => by
      rw [List.map_map]
      exact List.map_congr_left fun r _ => insr_head
    unfold rstep
    rw [eh]
    by_cases h : c.getD k 0 = k
    · have q : decide (c.getD k 0 = k) = true := decide_eq_true h
      rw [if_pos h.symm, List.map_append, List.filter_cons, q]
      rfl
    · have q : decide (c.getD k 0 = k) = false := decide_eq_false h
      rw [if_neg (fun z => h z.symm), List.filter_cons, q]
      simp

/-! ### every list of guests has its tables -/
theorem sby_ext {c : List Nat} {x : Nat} : sby (c ++ [x]) c.length = sby c c.length ∧ sby (c ++ [x]) (c.length + 1) = sits (sby c c.length) c.length x := by
  have h := sby_take (c ++ [x]) (w := c.length) (by simp) c.length (Nat.le_refl _)
  rw [List.take_append_of_le_length (Nat.le_refl _), List.take_length] at h
  refine ⟨h.symm, ?_⟩
  show sits (sby (c ++ [x]) c.length) c.length ((c ++ [x]).getD c.length 0) = _
  rw [← h, List.getD_eq_getElem?_getD, List.getElem?_append_right (Nat.le_refl _), Nat.sub_self]
  rfl
theorem sits_app {h : List Nat} {k x : Nat} (hl : h.length = k) (ne : x ≠ k) : sits h k x = (h ++ [h.getD x 0]).set x k := by
  unfold sits
  rw [if_neg ne]
  congr 1
  rw [List.set_append_right _ _ (by omega), hl, Nat.sub_self]
  rfl
theorem Cm.ord {c : List Nat} (o : Cm c) : Ord (sby c c.length) := by
  rw [sby_seat o.2.2 _ (Nat.le_refl _)]
  have R := ringsTo_ok o.2.2 c.length (Nat.le_refl _)
  exact seat_ord R.all R.ne o.1 o.2.1
theorem Cm.rings {c : List Nat} (o : Cm c) : Rings (sby c c.length) (ringsTo c c.length) := by
  rw [sby_seat o.2.2 _ (Nat.le_refl _)]
  exact (ringsTo_ok o.2.2 c.length (Nat.le_refl _)).rings
theorem perm_end {A B R : List Nat} {n y : Nat} (h : (A ++ n :: B ++ [y]).Perm (R ++ [n])) : (A ++ y :: B).Perm R := by
  have a : (A ++ y :: B ++ [n]).Perm (A ++ n :: B ++ [y]) := by
    rw [List.append_assoc, List.append_assoc]
    refine List.Perm.append_left A ?_
    show (y :: (B ++ [n])).Perm (n :: (B ++ [y]))
    refine (List.Perm.cons y (List.perm_append_singleton n B)).trans ?_
    refine (List.Perm.swap n y B).trans ?_
    exact List.Perm.cons n (List.perm_append_singleton y B).symm
  exact (List.perm_append_right_iff [n]).mp (a.trans h)
/-- every seating comes about by a coming list -/
theorem ord_sby : ∀ (n : Nat) (h : List Nat), h.Perm (List.range n) → ∃ c : List Nat, c.length = n ∧ (∀ (i x : Nat), c[i]? = some x → x ≤ i) ∧ sby c n = h
  | 0, h, p => ⟨[], rfl, fun i x z => by simp at z, by rw [List.range_zero] at p; rw [List.Perm.eq_nil p]; rfl⟩
  | n + 1, h, p => by
    have hl : h.length = n + 1 := by
      have := p.length_eq
      rwa [List.length_range] at this
    have nm : n ∈ h := p.mem_iff.mpr (List.mem_range.mpr (Nat.lt_succ_self n))
    have ne : h ≠ [] := fun z => by
      rw [z] at hl
      simp at hl
    obtain ⟨h0, y, rfl⟩ : ∃ h0 y, h = h0 ++ [y] := ⟨_, _, (List.dropLast_concat_getLast ne).symm⟩
    have l0 : h0.length = n := by
      rw [List.length_append, List.length_singleton] at hl
      omega
    rw [List.range_succ] at p
    have ext : ∀ (c : List Nat) (x : Nat), c.length = n → (∀ (i x : Nat), c[i]? = some x → x ≤ i) → x ≤ n → ∀ (i z : Nat), (c ++ [x])[i]? = some z → z ≤ i := fun c x cl cm xn i z hz => by
      rw [List.getElem?_append] at hz
      split at hz
      · exact cm i z hz
      · have hj := (List.getElem?_eq_some_iff.mp hz).1
        rw [List.length_singleton] at hj
        have e0 : i - c.length = 0 := by omega
        rw [e0] at hz
        have : x = z := by simpa using hz
        omega
    by_cases hy : y = n
    · subst hy
      obtain ⟨c, cl, cm, cs⟩ := ord_sby y h0 ((List.perm_append_right_iff [y]).mp p)
      refine ⟨c ++ [y], by rw [List.length_append, cl]; rfl, ext c y cl cm (Nat.le_refl _), ?_⟩
      have e := (sby_ext (c := c) (x := y)).2
      rw [cl] at e
      rw [e, cs]
      unfold sits
      rw [if_pos rfl]
    · have n0 : n ∈ h0 := by
        rcases List.mem_append.mp nm with z | z
        · exact z
        · exact absurd (List.mem_singleton.mp z).symm hy
      obtain ⟨A, B, rfl⟩ := List.append_of_mem n0
      have pe := perm_end p
      obtain ⟨c, cl, cm, cs⟩ := ord_sby n _ pe
      have al : A.length < n := by
        rw [List.length_append, List.length_cons] at l0
        omega
      refine ⟨c ++ [A.length], by rw [List.length_append, cl]; rfl, ext c _ cl cm (by omega), ?_⟩
      have e := (sby_ext (c := c) (x := A.length)).2
      rw [cl] at e
      rw [e, cs, sits_app (by rw [List.length_append, List.length_cons]; rw [List.length_append, List.length_cons] at l0; exact l0) (by omega)]
      have g : (A ++ y :: B).getD A.length 0 = y := by
        rw [List.getD_eq_getElem?_getD, List.getElem?_append_right (Nat.le_refl _), Nat.sub_self]
        rfl
      rw [g, List.append_assoc, List.set_append_right _ _ (Nat.le_refl _), Nat.sub_self, List.append_assoc]
      rfl
theorem ord_cm {h : List Nat} (o : Ord h) : ∃ c, Cm c ∧ c.length = h.length ∧ sby c c.length = h := by
  obtain ⟨c, cl, cm, cs⟩ := ord_sby h.length h o.1
  exact ⟨c, ⟨by rw [cl]; exact o.2.1, by rw [cl]; exact o.2.2, cm⟩, cl, by rw [cl]; exact cs⟩
/-- who has come last leaves -/
theorem ord_rings {h : List Nat} (o : Ord h) : ∃ rs, Rings h rs ∧ rs.length ≤ h.length := by
  obtain ⟨c, oc, cl, rfl⟩ := ord_cm o
  refine ⟨ringsTo c c.length, oc.rings, ?_⟩
  have e := congrArg List.length (rings_heads c c.length)
  rw [List.length_map] at e
  have l := List.length_filter_le (fun i => decide (c.getD i 0 = i)) (List.range c.length)
  rw [List.length_range] at l
  rw [sby_len]
  omega


local macro_rules | `(tactic| walk_at "call") => `(tactic| (with_reducible exact sv_whole))
local macro_rules | `(tactic| walk_at "call") => `(tactic| ((with_reducible refine' sv_order ?c1 ?c2); (case c1 => assumption); (case c2 => assumption)))
local macro_rules | `(tactic| walk_at "call") => `(tactic| ((with_reducible refine' sv_ord ?c1 ?c2); (case c1 => assumption); (case c2 => assumption)))

theorem given_at {n : Nat} (v : Nat → V) : given n (fun _ => true) v = (List.range n).map v := by
  unfold given
  rw [List.filter_eq_self.mpr fun _ _ => rfl]
theorem et_tru {K : PySem.W.Frag} {σ : L2.St} {H : Hp} {ta : TE} {a : Addr} {xs : List V} (h : Ev ta σ H (.ref a)) (hx : SqL K H a xs) : EvT (fun σ H Q => ta σ H fun x H' => ∃ k, TruV K x H' k ∧ Q k H') σ H (!xs.isEmpty) := fun H1 e Q q => h H1 e _ fun H2 e2 => ⟨_, .inl ⟨xs, ex_l (e.trans e2) hx, rfl⟩, q H2 e2⟩
section
variable {K : PySem.W.Frag} {σ : L2.St} {H : Hp} {ta te : TE} {tr : TA} {D : Ends}
theorem nv_flat (r : List Nat) : (nv r).all flatV = true := by
  rw [nv_eq, List.all_map, List.all_eq_true]
  intro x _
  rfl
theorem nv_in (r : List Nat) (x : Nat) : inV (.int x) (nv r) = decide (x ∈ r) := by
  unfold inV
  rw [nv_eq, List.any_map, Bool.eq_iff_iff, List.any_eq_true, decide_eq_true_iff]
  constructor
  · rintro ⟨y, hy, e⟩
    have : ((y : Int) == (x : Int)) = true := e
    have := eq_of_beq this
    have : y = x := by omega
    exact this ▸ hy
  · intro h
    exact ⟨x, h, beq_self_eq_true _⟩
theorem s_dropBM {r : V → List V → Hp → VK → Prop} {l : Addr} {xs : List V} (hl : H l = some (.lst xs)) (ha : Ev ta σ H (.ref l)) (k : ∀ H1, Ex H H1 → tr σ H1 fun vs H2 => r (.ref l) vs H2 fun _ H3 => D.nx σ H3) : tDrop (tBM K "list" r ta tr) D σ H :=
  ha H (Ex.refl H) _ fun H1 e1 => ⟨Or.inl ⟨rfl, xs, sq_of (e1 l _ hl)⟩, k H1 e1⟩
theorem ev_index {l : Addr} {r : List Nat} {x : Nat} (hl : H l = some (.lst (nv r))) (ha : Ev ta σ H (.ref l)) (he : Ev te σ H (.int (x : Int))) (hx : x ∈ r) : Ev (tBM K "list" (rIndex K) ta (tCons te tNil)) σ H (.int (r.idxOf x : Nat)) := fun H1 e Q q =>
  ha H1 e _ fun H2 e2 => ⟨Or.inl ⟨rfl, _, sq_of (e2 l _ (e l _ hl))⟩, he H2 (e.trans e2) _ fun H3 e3 => by
    have hlt := List.idxOf_lt_length_of_mem hx
    refine ⟨l, nv r, .int x, r.idxOf x, .int x, rfl, rfl, sq_of (e3 l _ (e2 l _ (e l _ hl))), rfl, nv_flat r, nv_get (by rw [List.getElem?_eq_getElem hlt, List.getElem_idxOf hlt]), beq_self_eq_true _, fun m z hm hz => ?_, q H3 (e2.trans e3)⟩
    have hml : m < r.length := by omega
    have := nv_get (List.getElem?_eq_getElem hml)
    rw [hz] at this
    have ez := Option.some.inj this
    subst ez
    show ((r[m] : Int) == (x : Int)) = false
    rw [beq_eq_false_iff_ne]
    intro ee
    have ee' : r[m] = x := by omega
    have h1 : r.idxOf x ≤ m := by
      have hh : r.findIdx (· == x) ≤ m := by
        refine Nat.le_of_not_lt fun hlt2 => ?_
        have := List.not_of_lt_findIdx hlt2
        rw [ee'] at this
        simp at this
      exact hh
    omega⟩
end

/-! ### is_within of anything, is_coming of anything -/
def inD (l m : Int) : PyData → Bool
  | .int i => decide (l ≤ i) && decide (i ≤ m)
  | _ => false
def sp_is_within (K : PySem.W.Frag) : Sp := fun vs H Q _ => ∃ (v : V) (d : PyData) (l m : Int), vs = [v, .int l, .int m] ∧ It K H v d ∧ RetV (.bl (inD l m d)) H Q
theorem sv_within {K : PySem.W.Frag} {H : Hp} {v : V} {d : PyData} {l m : Int} (h : It K H v d) : SpV (sp_is_within K) ([v, .int l, .int m] ++ []) H (.bl (inD l m d)) := fun H1 e Q q E => ⟨v, d, l, m, rfl, h.ex e, q⟩
theorem sv_between {K : PySem.W.Frag} {H : Hp} {x l m : Int} : SpV (sp_is_within K) ([.int x, .int l, .int m] ++ []) H (.bl (decide (l ≤ x) && decide (x ≤ m))) := fun H1 _ Q q E => ⟨.int x, .int x, l, m, rfl, .int x, q⟩
def allIn : Nat → List PyData → Bool
  | _, [] => true
  | k, d :: r => inD 0 (k : Int) d && allIn (k + 1) r
/-- whether a thing is a coming list -/
def judgeC : Option (List PyData) → Bool
  | none => false
  | some ds => lenOk ds.length && allIn 0 ds
theorem allIn_eq : ∀ (k : Nat) (ds : List PyData), allIn k ds = ((List.range ds.length).map fun i => inD 0 ((k + i : Nat) : Int) (ds.getD i .none)).all id
  | _, [] => rfl
  | k, d :: r => by
    rw [List.length_cons, List.range_succ_eq_map, List.map_cons, List.all_cons, List.map_map]
    show (inD 0 (k : Int) d && allIn (k + 1) r) = (inD 0 ((k + 0 : Nat) : Int) d && _)
    rw [allIn_eq (k + 1) r, Nat.add_zero]
    congr 3
    funext i
    show inD 0 ((k + 1 + i : Nat) : Int) (r.getD i .none) = inD 0 ((k + (i + 1) : Nat) : Int) (r.getD i .none)
    rw [show k + 1 + i = k + (i + 1) by omega]
theorem allIn_isI : ∀ {k : Nat} {ds : List PyData}, allIn k ds = true → ds.all isI = true
  | _, [], _ => rfl
  | k, d :: r, h => by
    have h : (inD 0 (k : Int) d && allIn (k + 1) r) = true := h
    rw [Bool.and_eq_true] at h
    rw [List.all_cons, Bool.and_eq_true]
    refine ⟨?_, allIn_isI h.2⟩
    cases d <;> first | rfl | exact Bool.noConfusion h.1
def sp_anyC (K : PySem.W.Frag) : Sp := fun vs H Q _ => ∃ (v : V) (o : Option (List PyData)), vs = [v] ∧ Th K H v o ∧ RetV (.bl (judgeC o)) H Q
theorem sv_anyC {K : PySem.W.Frag} {H : Hp} {v : V} {o : Option (List PyData)} (hv : Th K H v o) : SpV (sp_anyC K) ([v] ++ []) H (.bl (judgeC o)) := fun H1 e Q q E => ⟨v, o, rfl, hv.ex e, q⟩
theorem allIn_cm : ∀ {c : List Nat} {k : Nat}, (∀ (i x : Nat), c[i]? = some x → x ≤ k + i) → allIn k ((iz c).map PyData.int) = true
  | [], _, _ => rfl
  | x :: r, k, h => by
    show (inD 0 (k : Int) (.int (x : Int)) && allIn (k + 1) ((iz r).map PyData.int)) = true
    have h0 := h 0 x rfl
    rw [allIn_cm (c := r) (k := k + 1) fun i y hy => by have := h (i + 1) y hy; omega]
    show ((decide ((0 : Int) ≤ (x : Int)) && decide ((x : Int) ≤ (k : Int))) && true) = true
    rw [decide_eq_true (by omega), decide_eq_true (by omega)]
    rfl
theorem judgeC_cm {c : List Nat} (o : Cm c) : judgeC (some ((iz c).map PyData.int)) = true := by
  have el : ((iz c).map PyData.int).length = c.length := by simp [iz]
  have e := allIn_cm (c := c) (k := 0) fun i x hx => by have := o.2.2 i x hx; omega
  have o1 := o.1
  have o2 := o.2.1
  unfold judgeC lenOk
  simp only
  rw [el, e, decide_eq_true (by omega), decide_eq_true (by omega)]
  rfl
theorem th_row {K : PySem.W.Frag} {H : Hp} {a : Addr} {h : List Nat} (ha : H a = some (.lst (nv h))) : Th K H (.ref a) (some ((iz h).map PyData.int)) := .lst ha (ita_ints _) (fine_ints _)
theorem sv_coming {K : PySem.W.Frag} {H : Hp} {a : Addr} {c : List Nat} (ha : H a = some (.lst (nv c))) (o : Cm c) : SpV (sp_anyC K) ([.ref a] ++ []) H (.bl true) := by
  have := sv_anyC (K := K) (th_row ha)
  rw [judgeC_cm o] at this
  exact this
def sp_com (v : V) : Sp := fun vs H Q _ => ∃ (a : Addr) (c : List Nat), vs = [.ref a] ∧ H a = some (.lst (nv c)) ∧ Cm c ∧ RetV v H Q
theorem sv_com {H : Hp} {v : V} {a : Addr} {c : List Nat} (ha : H a = some (.lst (nv c))) (o : Cm c) : SpV (sp_com v) ([.ref a] ++ []) H v := fun H1 e Q q E => ⟨a, c, rfl, e a _ ha, o, q⟩
def sp_check_number : Sp := fun vs H Q _ => ∃ x lo hi : Int, vs = [.int x, .int lo, .int hi] ∧ lo ≤ x ∧ x ≤ hi ∧ RetV .non H Q
theorem sv_check_number {H : Hp} {lo hi x : Int} (h0 : lo ≤ x) (h1 : x ≤ hi) : SpV sp_check_number ([.int x, .int lo, .int hi] ++ []) H .non := fun H1 _ Q q E => ⟨x, lo, hi, rfl, h0, h1, q⟩
def sp_seating_by : Sp := fun vs H Q _ => ∃ (a : Addr) (c : List Nat), vs = [.ref a] ∧ H a = some (.lst (nv c)) ∧ Cm c ∧ RetL (nv (sby c c.length)) H Q
theorem sl_seating_by {H : Hp} {a : Addr} {c : List Nat} (ha : H a = some (.lst (nv c))) (o : Cm c) : SpL sp_seating_by ([.ref a] ++ []) H (nv (sby c c.length)) := fun H1 e Q q E => ⟨a, c, rfl, e a _ ha, o, q⟩
def sp_coming_of : Sp := fun vs H Q _ => ∃ (a : Addr) (c : List Nat), vs = [.ref a] ∧ H a = some (.lst (nv (sby c c.length))) ∧ Cm c ∧ RetL (nv c) H Q
theorem sl_coming_of {H : Hp} {a : Addr} {c : List Nat} (ha : H a = some (.lst (nv (sby c c.length)))) (o : Cm c) : SpL sp_coming_of ([.ref a] ++ []) H (nv c) := fun H1 e Q q E => ⟨a, c, rfl, e a _ ha, o, q⟩
def opens (c : List Nat) : List Nat := (List.range c.length).filter fun i => decide (c.getD i 0 = i)
theorem Cm.take {c : List Nat} (o : Cm c) {w : Nat} (h1 : 1 ≤ w) (h2 : w ≤ c.length) : Cm (c.take w) := by
  have l : (c.take w).length = w := by rw [List.length_take]; omega
  have o2 := o.2.1
  refine ⟨by omega, by omega, fun i x h => ?_⟩
  rw [List.getElem?_take] at h
  by_cases q : i < w
  · rw [if_pos q] at h
    exact o.2.2 i x h
  · rw [if_neg q] at h
    cases h
theorem cut_to {f : List Nat} {hi : Nat} (h : hi ≤ f.length) : cutV (nv f) none (some (hi : Int)) = nv (f.take hi) := by
  unfold cutV
  rw [HT.sIx_none, HT.sIx_nat, nv_len, Nat.min_eq_left h, Nat.sub_zero, List.drop_zero, nv_eq, nv_eq, List.map_take]
theorem last_some {xs : List V} {i : Nat} (h : xs.length = i + 1) : xs[xs.length - 1]? = some (xs.getD i .non) := by
  rw [h, show i + 1 - 1 = i by omega, List.getD_eq_getElem?_getD, List.getElem?_eq_getElem (by omega)]
  rfl
theorem idx_first {l : List Nat} {k x : Nat} (h1 : l[x]? = some k) (h2 : ∀ m, m < x → l[m]? ≠ some k) : l.idxOf k = x := by
  have hm := List.mem_of_getElem? h1
  have hl := List.idxOf_lt_length_of_mem hm
  have h3 : l[l.idxOf k]? = some k := by rw [List.getElem?_eq_getElem hl, List.getElem_idxOf hl]
  have le : l.idxOf k ≤ x := by
    rcases Nat.lt_or_ge x (l.idxOf k) with q | q
    · have := List.not_of_lt_findIdx (p := (· == k)) (xs := l) (i := x) (by simpa [List.idxOf] using q)
      have xl := (List.getElem?_eq_some_iff.mp h1).1
      have ex := (List.getElem?_eq_some_iff.mp h1).2
      simp [ex] at this
    · exact q
  rcases Nat.lt_or_eq_of_le le with q | q
  · exact absurd h3 (h2 _ q)
  · exact q
section
variable {K : PySem.W.Frag} {σ : L2.St} {H : Hp} {ta te tl : TE} {D : Ends} {tz : TS}
theorem el_by1 {c : List Nat} {E : XK} (h : EvL ta σ H (nv c)) (o : Cm c) : EvL (tCall sp_seating_by [] E (tCons ta tNil)) σ H (nv (sby c c.length)) := fun H1 e Q q => h H1 e _ fun b H2 nb e2 hb => ⟨b, c, rfl, hb, o, fun r H3 nr e3 hr => q r H3 (fresh_back e2 nr) (e2.trans e3) hr⟩
theorem s_pop0 {l : Addr} {xs : List V} {y : V} (hl : H l = some (.lst xs)) (hy : xs[xs.length - 1]? = some y) (ha : Ev ta σ H (.ref l)) (k : ∀ H1, Ex H H1 → D.nx σ (upd H1 l (.lst xs.dropLast))) : tDrop (tBM0 K "list" rPop ta) D σ H :=
  ha H (Ex.refl H) _ fun H1 e1 => ⟨Or.inl ⟨rfl, xs, sq_of (e1 l _ hl)⟩, ⟨l, xs, y, rfl, rfl, e1 l _ hl, hy, k H1 e1⟩⟩
/-- [e for x in a new list of tuples] -/
theorem el_mapLT {j : Nat} {vs : List Nat} {rs : List (List V)} (f : List V → V) (h : EvLT tl σ H rs) (hz : rs.length ≤ 40000) (hw : ∀ x, wipe ((wipe σ vs).set j (some x)) vs = wipe σ vs)
    (he : ∀ (b : Addr) (r : List V) H1, Ex H H1 → H1 b = some (.tup r) → r ∈ rs → Ev te ((wipe σ vs).set j (some (.ref b))) H1 (f r)) : EvL (tLc (iList K tl) (gName j) tYes te vs) σ H (rs.map f) := fun H0 e Q q =>
  h H0 e _ fun p ws H1 np e1 hp t => by
    have tl1 := t.len
    have g := el_mapI (K := K) (te := te) (tl := fun _ H' Q => Q (.ref p) H') (σ := σ) (H := H1) (a := p) (xs := ws) (j := j) (vs := vs) (fun i => f (rs.getD i [])) (fun H2 _ Q q => q H2 (Ex.refl _)) (sq_of hp) (by omega) hw fun i x H2 e2 hx => by
      obtain ⟨b, r, rfl, hb, hr⟩ := t.get hx
      have er : rs.getD i [] = r := by
        rw [List.getD_eq_getElem?_getD, hr]
        rfl
      rw [er]
      exact he b r H2 (e.trans (e1.trans e2)) (e2 b _ hb) (List.mem_of_getElem? hr)
    have em : (List.range ws.length).map (fun i => f (rs.getD i [])) = rs.map f := by
      rw [tl1]
      conv => rhs; rw [range_get rs []]
      rw [List.map_map]
      rfl
    rw [em] at g
    exact g H1 (Ex.refl _) Q fun r H2 nr e2 hr => q r H2 (fresh_back e1 nr) (e1.trans e2) hr
end
section
variable {P : Program} {w : World} {K : PySem.W.Frag} {mg : Str → Option Value} {base : Heap}
theorem ok_is_within (T : Tx K mg) : FnOk P w K mg base CX0 2 T.f_is_within T.d_is_within ["thing", "least", "most"] (sp_is_within K) := by
  refine T.F_is_within.ok sc_is_within (fun vs H Q E h => ?_) (fun cdv A outer s H vs Q E hr h => ?_)
  · obtain ⟨v, d, l, m, rfl, _⟩ := h
    rfl
  · obtain ⟨v, d, l, m, rfl, hv, k⟩ := h
    refine ⟨_, (pss_one (ps_ret (pe_and (pe_call (ok_is_whole T) (hr.mono (by decide)) (by rfl) T.g_is_whole T.F_is_whole.kp T.b_is_whole .nil pass0 (pa_cons (pv 0) pa_nil)) (pe_one (pe_chain op_le op_le (pv 1) (pv 0) (pv 2)))))), ?_⟩
    cases hd : isI d with
    | false =>
      have e : inD l m d = false := by cases d <;> first | rfl | exact Bool.noConfusion hd
      rw [e] at k
      have wh := ev_call (E := E0) (ea_cons (ev_var (i := 0) (v := v) (σ := start n_is_within [v, .int l, .int m]) (H := H) rfl) ea_nil) (sv_wholeD hv)
      rw [hd] at wh
      exact s_ret (ev_is (ev_andV (b := false) wh fun z => Bool.noConfusion z) rfl) fun H1 e1 => k _ e1
    | true =>
      cases hv with
      | int i =>
        refine s_ret (v := .bl (inD l m (.int i))) (ev_is (by walk_at "ev") (by rfl)) fun H1 e1 => k _ e1
      | non => exact Bool.noConfusion hd
      | bl b => exact Bool.noConfusion hd
      | str x => exact Bool.noConfusion hd
      | lst _ _ => exact Bool.noConfusion hd
local macro_rules | `(tactic| walk_at "call") => `(tactic| (with_reducible exact sv_between))
theorem ok_is_coming (T : Tx K mg) : FnOk P w K mg base CX0 3 T.f_is_coming T.d_is_coming ["thing"] (sp_anyC K) := by
  refine T.F_is_coming.ok sc_is_coming (fun vs H Q E h => ?_) (fun cdv A outer s H vs Q E hr h => ?_)
  · obtain ⟨v, o, rfl, _⟩ := h
    rfl
  · obtain ⟨v, o, rfl, hv, k⟩ := h
    refine ⟨_, (pss_cons (ps_if (PW.pt (pw_or (pt_cmpR (op_neTyG (hu_of hr)) (pe_typeOf2 (by rfl) T.m_type (pv 0)) (pe_bltn (v := .ty "list") (by rfl) T.m_list (by decide +kernel) rfl) (nomark _)) (pw_or1 (pt_not (pt_chain op_le op_le pe_int (pe_callB call_lenR (by rfl) T.m_len (by decide +kernel) (pa_cons (pv 0) pa_nil)) (pe_gc (by rfl) T.c_MOST_GUESTS)))))) (pss_one (ps_ret pe_bl)) pss_nil)
      (pss_one (ps_ret (pe_callB (cr_all rfl) (by rfl) T.m_all (by decide +kernel) (pa_cons (pe_lc (own := [("guest", 1), ("item", 2)]) (g := (gTup _ 2 (gCons (gName 1) (gCons (gName 2) gNil)))) (tt := tYes) rfl sc_is_coming.nd (pi_enum (by rfl) T.m_enumerate (pa_cons (pv 0) pa_nil)) (blkOk_by (own := [("guest", 1), ("item", 2)]) (N := n_is_coming) (sc := defScope s_is_coming) (by decide +kernel)) (fun _ _ _ _ _ => (pg_tup rfl (pgs_cons (pg_name (i := 1) sc_is_coming.nd rfl (Or.inl rfl)) (pgs_cons (pg_name (i := 2) sc_is_coming.nd rfl (Or.inl rfl)) pgs_nil)))) (fun _ _ _ _ _ => pts_nil) (fun _ _ _ _ _ => (pe_call (ok_is_within T) (hr.mono (by decide)) (by rfl) T.g_is_within T.F_is_within.kp T.b_is_within .nil pass0 (pa_cons (pv 2) (pa_cons pe_int (pa_cons (pv 1) pa_nil)))))) pa_nil))))), ?_⟩
    cases o with
    | none =>
      refine q_when (b := true) (et_is (et_or (b := false) (et_test (ev_noList (ev_var rfl) hv)) fun z => Bool.noConfusion z) rfl) (fun _ H1 e1 => ?_) fun hb => Bool.noConfusion hb
      exact s_ret ev_c fun H2 e2 => k _ (e1.trans e2)
    | some ds =>
      have hv0 := hv
      cases hv with
      | @lst a xs _ ha hd hf =>
        have hl : xs.length = ds.length := hd.len
        refine q_when (b := !lenOk ds.length) (et_is (et_or (et_test (ev_noList (ev_var rfl) hv0)) fun _ => et_not (et_test (ev_chainI ev_c (ev_len (ev_var rfl) (sq_of ha)) ev_c))) (by rw [hl]; rfl)) (fun hb H1 e1 => ?_) fun hb H1 e1 => ?_
        · have hb : lenOk ds.length = false := by simpa using hb
          have ej : judgeC (some ds) = false := by
            unfold judgeC
            simp only
            rw [hb]
            rfl
          rw [ej] at k
          exact s_ret ev_c fun H2 e2 => k _ (e1.trans e2)
        · have hb : lenOk ds.length = true := by simpa using hb
          have hn : 1 ≤ ds.length ∧ ds.length ≤ 20 := by
            unfold lenOk at hb
            simp at hb
            omega
          have h1 := e1 a _ ha
          have ej : judgeC (some ds) = ((List.range ds.length).map fun i : Nat => inD 0 (i : Int) (ds.getD i .none)).all id := by
            unfold judgeC
            simp only
            rw [hb, allIn_eq, Bool.true_and]
            congr 2
            funext i
            rw [Nat.zero_add]
          rw [ej] at k
          refine s_ret (ev_allN (K := K) ?_) fun H2 e2 => k _ (e1.trans e2)
          have g := el_en (K := K) (te := tCall (sp_is_within K) [] E0 (tCons (tVar 2) (tCons (tC (.int 0)) (tCons (tVar 1) tNil)))) (ta := tCons (tVar 0) tNil) (t := tYes) (i := 1) (j := 2) (vs := [1, 2]) (H := H1) (σ := start n_is_coming [.ref a]) (a := a) (xs := xs) (fun _ => true) (fun i : Nat => V.bl (inD 0 (i : Int) (ds.getD i .none))) (ea_cons (ev_var (i := 0) rfl) ea_nil) (sq_of h1) (by omega) (fun _ _ => rfl) (fun n x H2 e2 hx => et_yes) fun n x H2 e2 hx _ => ?_
          · have e : given xs.length (fun _ => true) (fun i : Nat => V.bl (inD 0 (i : Int) (ds.getD i .none))) = (((List.range ds.length).map fun i : Nat => inD 0 (i : Int) (ds.getD i .none))).map V.bl := by
              rw [given_at, hl, List.map_map]
              rfl
            rw [e] at g
            exact g
          · obtain ⟨d, hd1, hd2⟩ := ita_get hd hx
            have gd : ds.getD n .none = d := by rw [List.getD_eq_getElem?_getD, hd1] <;> rfl
            show Ev _ _ _ (V.bl (inD 0 (n : Int) (ds.getD n .none)))
            rw [gd]
            exact ev_call (ea_cons (ev_var rfl) (ea_cons ev_c (ea_cons (ev_var rfl) ea_nil))) (sv_within (hd2.ex (e1.trans e2)))
theorem ok_check_coming (T : Tx K mg) : FnOk P w K mg base CX0 4 T.f_check_coming T.d_check_coming ["coming"] (sp_com .non) := by
  refine T.F_check_coming.ok sc_check_coming (fun vs H Q E h => ?_) (fun cdv A outer s H vs Q E hr h => ?_)
  · obtain ⟨a, h, rfl, _⟩ := h
    rfl
  · obtain ⟨a, h, rfl, ha, o, k⟩ := h
    refine ⟨_, (pss_one (ps_if (pt_not (pt_val (pe_call (ok_is_coming T) (hr.mono (by decide)) (by rfl) T.g_is_coming T.F_is_coming.kp T.b_is_coming .nil pass0 (pa_cons (pv 0) pa_nil)))) (pss_one ps_never) pss_nil)), ?_⟩
    exact s_when (b := false) (et_is (et_not (et_B (ev_call (ea_cons (ev_var rfl) ea_nil) (sv_coming ha o)))) (by rfl)) (fun hb => Bool.noConfusion hb) fun _ H1 e1 => k _ e1
theorem ok_check_number (T : Tx K mg) : FnOk P w K mg base CX0 3 T.f_check_number T.d_check_number ["number", "least", "most"] sp_check_number := by
  refine T.F_check_number.ok sc_check_number (fun vs H Q E h => ?_) (fun cdv A outer s H vs Q E hr h => ?_)
  · obtain ⟨x, lo, hi, rfl, _⟩ := h
    rfl
  · obtain ⟨x, lo, hi, rfl, h0, h1, k⟩ := h
    refine ⟨_, (pss_one (ps_if (pt_not (pt_val (pe_call (ok_is_within T) (hr.mono (by decide)) (by rfl) T.g_is_within T.F_is_within.kp T.b_is_within .nil pass0 (pa_cons (pv 0) (pa_cons (pv 1) (pa_cons (pv 2) pa_nil)))))) (pss_one ps_never) pss_nil)), ?_⟩
    refine s_when (by walk_at "et") (fun hb H1 e1 => ?_) fun hb H1 e1 => k _ e1
    rw [decide_eq_true h0, decide_eq_true h1] at hb
    cases hb
theorem ok_seating_by (T : Tx K mg) : FnOk P w K mg base CX0 5 T.f_seating_by T.d_seating_by ["coming"] sp_seating_by := by
  refine T.F_seating_by.ok sc_seating_by (fun vs H Q E h => ?_) (fun cdv A outer s H vs Q E hr h => ?_)
  · obtain ⟨a, c, rfl, _⟩ := h
    rfl
  · obtain ⟨a, c, rfl, ha, o, k⟩ := h
    refine ⟨_, (pss_cons (ps_expr (pe_call (ok_check_coming T) (hr.mono (by decide)) (by rfl) T.g_check_coming T.F_check_coming.kp T.b_check_coming .nil pass0 (pa_cons (pv 0) pa_nil)))
      (pss_cons (ps_set (i := 1) sc_seating_by.nd rfl (Or.inl rfl) (pe_lst pa_nil))
      (pss_cons (ps_for PassesOwn.never rfl (pi_enum (by rfl) T.m_enumerate (pa_cons (pv 0) pa_nil)) (pg_tup rfl (pgs_cons (pg_name (i := 2) sc_seating_by.nd rfl (Or.inl rfl)) (pgs_cons (pg_name (i := 3) sc_seating_by.nd rfl (Or.inl rfl)) pgs_nil))) (pss_cons (ps_expr (pe_bm PySem.F.plainAttrs_list PySem.F.slot_list_append PySem.F.type_list_append mt_append (pv 1) (pa_cons (pv 2) pa_nil)))
      (pss_one (ps_if (pt_cmpR op_ne (pv 3) (pv 2) (nomark _)) (pss_cons (ps_asg (pe_ix ix_list (pv 1) (pv 3) (fun _ _ => rfl)) (pg_sub (pv 1) (pv 2) set_list))
      (pss_one (ps_asg (pv 2) (pg_sub (pv 1) (pv 3) set_list)))) pss_nil))))
      (pss_one (ps_ret (pv 1)))))), ?_⟩
    have o2 := o.2.1
    refine q_drop (ev_call (ea_cons (ev_var rfl) ea_nil) (sv_com ha o)) fun H1 e1 => ?_
    refine q_asgL (xs := []) (el_lst ea_nil (Nat.le_of_ble_eq_true rfl)) fun p H2 hp e2 hp2 => ?_
    have np : H p = none := fresh_back e1 hp
    have ha2 := e2 a _ (e1 a _ ha)
    have lc := nv_len c
    refine q_forEn (ea_cons (ev_var rfl) ea_nil) (sq_of ha2) (fun i σ' H' => ∃ y z, σ' = [some (.ref a), some (.ref p), y, z] ∧ Ex H H' ∧ H' p = some (.lst (nv (sby c i)))) (fun H3 e3 => ⟨none, none, rfl, e1.trans (e2.trans e3), e3 p _ hp2⟩) (fun n σ' H' _ ⟨y, z, _, e, _⟩ => sq_of (e a _ ha)) ?_ ?_
    · rintro i x σ' H' H3 hx ⟨y, z, rfl, e, hl⟩ e3
      rw [nv_eq, List.getElem?_map] at hx
      obtain ⟨q, hq, rfl⟩ := Option.map_eq_some_iff.mp hx
      have hqi := o.2.2 i q hq
      have ci : c.getD i 0 = q := getD_of hq
      have il := (List.getElem?_eq_some_iff.mp hq).1
      have hl3 := e3 p _ hl
      have sl := sby_len c i
      refine q_app (xs := nv (sby c i)) hl3 (ev_var rfl) (ev_var rfl) (by rw [nv_len]; omega) fun H4 e4 => ?_
      have es : nv (sby c i) ++ [V.int (i : Int)] = nv (sby c i ++ [i]) := by rw [nv_app]; rfl
      rw [es]
      have eX : Ex H (upd H4 p (.lst (nv (sby c i ++ [i])))) := Ex.mut (e.trans (e3.trans e4)) np
      refine s_when (b := decide (q ≠ i)) (et_is (et_test (ev_op (ev_var rfl) (ev_var rfl) (rv_ne rfl))) ?_) (fun hb H5 e5 => ?_) fun hb H5 e5 => ?_
      · rw [Bool.eq_iff_iff]
        simp only [Bool.not_eq_true', decide_eq_false_iff_not, decide_eq_true_eq]
        constructor
        · intro h1 h2
          exact h1 (by rw [h2])
        · intro h1 h2
          exact h1 (by have := V.int.inj h2; omega)
      · have nq := of_decide_eq_true hb
        have ql : q < i := by omega
        have h5 := e5 p _ upd_same
        have at1 : (sby c i ++ [i])[q]? = some ((sby c i).getD q 0) := by
          rw [List.getElem?_append_left (by omega), List.getD_eq_getElem?_getD, List.getElem?_eq_getElem (by omega)]
          rfl
        refine q_setL (j := i) h5 (ev_op (ev_var rfl) (ev_var rfl) (rv_ixL (K := K) (sq_of h5) (atI_nat (nv_get at1)))) (ev_var rfl) (ev_var rfl) (by rw [nv_len]; simp; omega) fun H6 e6 => ?_
        have es2 : (nv (sby c i ++ [i])).set i (V.int (((sby c i).getD q 0 : Nat) : Int)) = nv ((sby c i ++ [i]).set i ((sby c i).getD q 0)) := by rw [nv_eq, nv_eq, List.map_set]
        rw [es2]
        refine s_setL (j := q) upd_same (ev_var rfl) (ev_var rfl) (ev_var rfl) (by rw [nv_len]; simp; omega) fun H7 e7 => ?_
        have es3 : (nv ((sby c i ++ [i]).set i ((sby c i).getD q 0))).set q (V.int (i : Int)) = nv (sby c (i + 1)) := by
          rw [nv_eq, nv_eq, ← List.map_set]
          congr 1
          show _ = sits (sby c i) i (c.getD i 0)
          unfold sits
          rw [ci, if_neg nq]
        rw [es3]
        exact ⟨_, _, rfl, Ex.mut ((Ex.mut (eX.trans (e5.trans e6)) np).trans e7) np, upd_same⟩
      · have eq : q = i := by simpa using hb
        refine ⟨_, _, rfl, eX.trans e5, ?_⟩
        have h5 := e5 p _ (upd_same (H := H4) (a := p) (o := .lst (nv (sby c i ++ [i]))))
        rw [h5]
        congr 2
        show _ = nv (sits (sby c i) i (c.getD i 0))
        unfold sits
        rw [ci, if_pos eq]
    · rintro σ' H' ⟨y, z, rfl, e, hl⟩
      rw [lc] at hl
      exact s_ret (ev_var rfl) fun H3 e3 => k p H3 np (e.trans e3) (e3 p _ hl)
theorem ok_coming_of (T : Tx K mg) : FnOk P w K mg base CX0 5 T.f_coming_of T.d_coming_of ["seating"] sp_coming_of := by
  refine T.F_coming_of.ok sc_coming_of (fun vs H Q E h => ?_) (fun cdv A outer s H vs Q E hr h => ?_)
  · obtain ⟨a, c, rfl, _⟩ := h
    rfl
  · obtain ⟨a, c, rfl, ha, o, k⟩ := h
    refine ⟨_, (pss_cons (ps_expr (pe_call (ok_check_seating T) (hr.mono (by decide)) (by rfl) T.g_check_seating T.F_check_seating.kp T.b_check_seating .nil pass0 (pa_cons (pv 0) pa_nil)))
      (pss_cons (ps_set (i := 1) sc_coming_of.nd rfl (Or.inl rfl) (pe_callTy call_listR (by rfl) T.m_list (by decide +kernel) (pa_cons (pv 0) pa_nil)))
      (pss_cons (ps_set (i := 2) sc_coming_of.nd rfl (Or.inl rfl) (pe_lst pa_nil))
      (pss_cons (ps_while PassesOwn.never (pt_truth (pv 1) (by intro _; rfl)) (pss_cons (ps_set (i := 3) sc_coming_of.nd rfl (Or.inl rfl) (pe_bm PySem.F.plainAttrs_list PySem.F.slot_list_index PySem.F.type_list_index mt_index (pv 1) (pa_cons (pe_op op_sub (pe_callB call_lenR (by rfl) T.m_len (by decide +kernel) (pa_cons (pv 1) pa_nil)) pe_int) pa_nil)))
      (pss_cons (ps_expr (pe_bm PySem.F.plainAttrs_list PySem.F.slot_list_append PySem.F.type_list_append mt_append (pv 2) (pa_cons (pv 3) pa_nil)))
      (pss_cons (ps_asg (pe_ix ix_list (pv 1) (pe_un un_neg pe_int) (fun _ _ => rfl)) (pg_sub (pv 1) (pv 3) set_list))
      (pss_one (ps_expr (pe_bm0 PySem.F.plainAttrs_list PySem.F.slot_list_pop PySem.F.type_list_pop mt_pop (pv 1))))))))
      (pss_one (ps_ret (pe_revL (pv 2)))))))), ?_⟩
    have oo := o.ord
    have o2 := o.2.1
    have sl := sby_len c c.length
    refine q_drop (ev_call (ea_cons (ev_var rfl) ea_nil) (sv_ord ha oo)) fun H1 e1 => ?_
    have ha1 := e1 a _ ha
    refine q_asgL (xs := nv (sby c c.length)) (el_list (ev_var rfl) (sq_of ha1)) fun b H2 nb e2 hb => ?_
    refine q_asgL (xs := []) (el_lst ea_nil (Nat.le_of_ble_eq_true rfl)) fun p H3 np e3 hp => ?_
    have fb : H b = none := fresh_back e1 nb
    have fp : H p = none := fresh_back (e1.trans e2) np
    have pb : p ≠ b := fun z => by
      subst z
      rw [hb] at np
      cases np
    refine q_while (fun m σ' H' => ∃ (i : Nat) (y : Option V), σ' = [some (.ref a), some (.ref b), some (.ref p), y] ∧ Ex H H' ∧ H' b = some (.lst (nv (sby c i))) ∧ H' p = some (.lst (nv (c.drop i).reverse)) ∧ i ≤ c.length ∧ m = i) c.length ⟨c.length, none, rfl, e1.trans (e2.trans e3), e3 b _ hb, by rw [hp, List.drop_length]; rfl, Nat.le_refl _, rfl⟩ ?_
    rintro m σ' H' ⟨i, y, rfl, e, hb', hp', hi, hm⟩
    subst hm
    have si := sby_len c m
    have lb := nv_len (sby c m)
    refine ⟨decide (m ≠ 0), et_is (et_tru (K := K) (ev_var rfl) (sq_of hb')) ?_, fun hz H4 e4 => ?_, fun hz H4 e4 => ?_⟩
    · have : (nv (sby c m)).length = m := by rw [lb, si]
      cases hq : nv (sby c m) with
      | nil =>
        rw [hq] at this
        have : m = 0 := this.symm
        subst this
        rfl
      | cons x l =>
        rw [hq] at this
        have : m ≠ 0 := by
          have : l.length + 1 = m := this
          omega
        rw [decide_eq_true this]
        rfl
    · have hz := of_decide_eq_true hz
      obtain ⟨i, rfl⟩ : ∃ i, m = i + 1 := ⟨m - 1, by omega⟩
      have ci := o.get i
      have hlt : ∀ y ∈ sby c i, y < i := fun y hy => sby_lt o.2.2 (by omega) hy
      obtain ⟨t1, t2, t3⟩ := sits_last (sby_len c i) hlt ci
      have es : sby c (i + 1) = sits (sby c i) i (c.getD i 0) := rfl
      rw [← es] at t1 t2 t3
      have hb4 := e4 b _ hb'
      have hp4 := e4 p _ hp'
      have ix := idx_first t1 t2
      have xl := (List.getElem?_eq_some_iff.mp t1).1
      have iv := ev_index (K := K) (ta := tVar 1) (te := tOp (rI0 fun i j => .int (i - j)) (tCB (rLenS K) (tCons (tVar 1) tNil)) (tC (.int 1))) (σ := [some (.ref a), some (.ref b), some (.ref p), y]) (x := i) hb4 (ev_var (i := 1) rfl) (ev_is (ev_op (ev_len (ev_var (i := 1) (v := .ref b) rfl) (sq_of hb4)) ev_c rv_I0) (by rw [lb, si]; congr 1; omega)) (List.mem_of_getElem? t1)
      rw [ix] at iv
      refine ⟨fun σ2 H8 => σ2 = [some (.ref a), some (.ref b), some (.ref p), some (.int ((c.getD i 0 : Nat) : Int))] ∧ Ex H H8 ∧ H8 b = some (.lst (nv (sby c i))) ∧ H8 p = some (.lst (nv (c.drop i).reverse)), fun σ2 H8 ⟨h1, h2, h3, h4⟩ => ⟨i, by omega, i, _, h1, h2, h3, h4, by omega, rfl⟩, ?_⟩
      refine q_asg iv fun H5 e5 => ?_
      have hb5 := e5 b _ hb4
      have hp5 := e5 p _ hp4
      refine q_app (xs := nv (c.drop (i + 1)).reverse) hp5 (ev_var rfl) (ev_var rfl) (by rw [nv_len]; simp; omega) fun H6 e6 => ?_
      have ep : nv (c.drop (i + 1)).reverse ++ [V.int ((c.getD i 0 : Nat) : Int)] = nv (c.drop i).reverse := by
        have hci : c[i]? = some (c.getD i 0) := by
          rw [List.getD_eq_getElem?_getD, List.getElem?_eq_getElem (by omega)]
          rfl
        obtain ⟨hk, hv⟩ := List.getElem?_eq_some_iff.mp hci
        rw [List.drop_eq_getElem_cons hk, List.reverse_cons, nv_app, hv]
        rfl
      rw [ep]
      have hb6 : (upd H6 p (.lst (nv (c.drop i).reverse))) b = some (.lst (nv (sby c (i + 1)))) := by
        rw [upd_ne (Ne.symm pb)]
        exact e6 b _ hb5
      have eX : Ex H (upd H6 p (.lst (nv (c.drop i).reverse))) := Ex.mut (e.trans (e4.trans (e5.trans e6))) fp
      have lastv : atI (nv (sby c (i + 1))) (-1) = some (.int (((sby c (i + 1)).getD i 0 : Nat) : Int)) := by
        have ne : sby c (i + 1) ≠ [] := fun z => by
          rw [z] at si
          simp at si
        obtain ⟨r, x, hr⟩ : ∃ r x, sby c (i + 1) = r ++ [x] := ⟨_, _, (List.dropLast_concat_getLast ne).symm⟩
        have rl : r.length = i := by
          rw [hr] at si
          simp at si
          exact si
        rw [hr, nv_app]
        have : (r ++ [x]).getD i 0 = x := getD_of (by rw [List.getElem?_append_right (by omega), rl, Nat.sub_self]; rfl)
        rw [this]
        exact atI_last _ _
      refine q_setL (j := c.getD i 0) hb6 (ev_op (ev_var rfl) (ev_un ev_c ru_neg) (rv_ixL (K := K) (sq_of hb6) lastv)) (ev_var rfl) (ev_var rfl) (by rw [lb]; exact xl) fun H7 e7 => ?_
      have es2 : (nv (sby c (i + 1))).set (c.getD i 0) (V.int (((sby c (i + 1)).getD i 0 : Nat) : Int)) = nv ((sby c (i + 1)).set (c.getD i 0) ((sby c (i + 1)).getD i 0)) := by rw [nv_eq, nv_eq, List.map_set]
      rw [es2]
      have l7 : (nv ((sby c (i + 1)).set (c.getD i 0) ((sby c (i + 1)).getD i 0))).length = i + 1 := by rw [nv_len, List.length_set, si]
      refine s_pop0 (xs := nv ((sby c (i + 1)).set (c.getD i 0) ((sby c (i + 1)).getD i 0))) (y := (nv ((sby c (i + 1)).set (c.getD i 0) ((sby c (i + 1)).getD i 0))).getD i .non) upd_same ?_ (ev_var rfl) fun H8 e8 => ⟨rfl, ?_, ?_, ?_⟩
      · exact last_some l7
      · exact Ex.mut ((Ex.mut (eX.trans e7) fb).trans e8) fb
      · rw [upd_same]
        congr 2
        rw [nv_eq, ← List.map_dropLast, t3, ← nv_eq]
      · rw [upd_ne pb]
        refine e8 p _ ?_
        rw [upd_ne pb]
        exact e7 p _ upd_same
    · have hz : m = 0 := by simpa using hz
      subst hz
      have hp4 := e4 p _ hp'
      refine s_retL (el_rev (K := K) (ev_var rfl) (sq_of hp4)) fun q H5 nq e5 h5 => k q H5 (fresh_back (e.trans e4) nq) (e.trans (e4.trans e5)) ?_
      rw [h5, nv_eq, ← List.map_reverse, List.reverse_reverse, List.drop_zero, nv_eq]
end


local macro_rules | `(tactic| walk_at "call") => `(tactic| (with_reducible exact sv_whole))
local macro_rules | `(tactic| walk_at "call") => `(tactic| ((with_reducible refine' sv_order ?c1 ?c2); (case c1 => assumption); (case c2 => assumption)))
local macro_rules | `(tactic| walk_at "call") => `(tactic| ((with_reducible refine' sv_ord ?c1 ?c2); (case c1 => assumption); (case c2 => assumption)))

/-! ### seating_with -/
/-- a table at b: a list or a tuple -/
def Tb (H : Hp) (v : V) (r : List Nat) : Prop := ∃ b, v = .ref b ∧ (H b = some (.lst (nv r)) ∨ H b = some (.tup (nv r)))
theorem Tb.ex {H H' : Hp} {v : V} {r : List Nat} (e : Ex H H') (h : Tb H v r) : Tb H' v r := by
  obtain ⟨b, rfl, h | h⟩ := h
  · exact ⟨b, rfl, .inl (e b _ h)⟩
  · exact ⟨b, rfl, .inr (e b _ h)⟩
theorem nv_setN {c : List Nat} {x y : Nat} : (nv c).set x (.int y) = nv (c.set x y) := by
  rw [nv_eq, nv_eq, List.map_set]
theorem nv_rep (n : Nat) : (List.replicate n [V.int 0]).flatten = nv (List.replicate n 0) := by
  rw [nv_eq, List.map_replicate]
  induction n with
  | zero => rfl
  | succ k ih =>
    rw [List.replicate_succ, List.flatten_cons, ih, List.replicate_succ]
    rfl
theorem nv_inj {a b : List Nat} (h : a = b) : nv a = nv b := by rw [h]
def sp_seating_with : Sp := fun vs H Q _ => ∃ (a : Addr) (ws : List V) (rs : List (List Nat)) (h : List Nat), vs = [.ref a] ∧ H a = some (.lst ws) ∧ Paired (Tb H) ws rs ∧ rs.flatten.Perm (List.range h.length) ∧ (∀ r ∈ rs, Rg h r) ∧ h.length ≤ 20 ∧ RetL (nv h) H Q
theorem paired_get {α β : Type} {F : α → β → Prop} : ∀ {l : List α} {m : List β} {i : Nat} {x : α}, Paired F l m → l[i]? = some x → ∃ y, m[i]? = some y ∧ F x y
  | _, _, 0, x, .cons h t, hx => ⟨_, rfl, (Option.some.inj (by simpa using hx)) ▸ h⟩
  | _, _, i + 1, x, .cons h t, hx => by
    obtain ⟨y, h1, h2⟩ := paired_get (i := i) t (by simpa using hx)
    exact ⟨y, by simpa using h1, h2⟩
  | _, _, 0, x, .nil, hx => by simp at hx
  | _, _, i + 1, x, .nil, hx => by simp at hx
theorem sum_len : ∀ rs : List (List Nat), ((rs.map fun r => (r.length : Int))).sum = (rs.flatten.length : Int)
  | [] => rfl
  | r :: l => by
    rw [List.map_cons, List.sum_cons, sum_len l, List.flatten_cons, List.length_append]
    omega
theorem flat_next {rs : List (List Nat)} {i : Nat} {r : List Nat} (h : rs[i]? = some r) : (rs.take (i + 1)).flatten = (rs.take i).flatten ++ r := by
  rw [take_next h, List.flatten_append]
  simp
section
variable {P : Program} {w : World} {K : PySem.W.Frag} {mg : Str → Option Value} {base : Heap}
theorem ok_seating_with (T : Tx K mg) : FnOk P w K mg base CX0 1 T.f_seating_with T.d_seating_with ["tables"] sp_seating_with := by
  refine T.F_seating_with.ok sc_seating_with (fun vs H Q E h => ?_) (fun cdv A outer s H vs Q E hr h => ?_)
  · obtain ⟨a, ws, rs, h, rfl, _⟩ := h
    rfl
  · obtain ⟨a, ws, rs, h, rfl, ha, ht, hp, hR, hn, k⟩ := h
    refine ⟨_, (pss_cons (ps_set (i := 2) sc_seating_with.nd rfl (Or.inl rfl) (pe_op op_rep (pe_lst (pa_cons pe_int pa_nil)) (pe_callB (cr_sum rfl) (by rfl) T.m_sum (by decide +kernel) (pa_cons (pe_lc (own := [("table", 1)]) (g := (gName 1)) (tt := tYes) rfl sc_seating_with.nd (pi_list (pv 0)) (blkOk_by (own := [("table", 1)]) (N := n_seating_with) (sc := defScope s_seating_with) (by decide +kernel)) (fun _ _ _ _ _ => (pg_name (i := 1) sc_seating_with.nd rfl (Or.inl rfl))) (fun _ _ _ _ _ => pts_nil) (fun _ _ _ _ _ => (pe_callB (id := "len") (r := rLenS K) call_lenR (by rfl) T.m_len (by decide +kernel) (pa_cons (pv 1) pa_nil)))) pa_nil))))
      (pss_cons (ps_for PassesOwn.never rfl (pi_list (pv 0)) (pg_name (i := 1) sc_seating_with.nd rfl (Or.inl rfl)) (pss_one (ps_for PassesOwn.never rfl (pi_enumS (by rfl) T.m_enumerate (pa_cons (pv 1) pa_nil)) (pg_tup rfl (pgs_cons (pg_name (i := 3) sc_seating_with.nd rfl (Or.inl rfl)) (pgs_cons (pg_name (i := 4) sc_seating_with.nd rfl (Or.inl rfl)) pgs_nil))) (pss_one (ps_asg (pe_ix ix_seq (pv 1) (pe_op op_mod (pe_op op_add (pv 3) pe_int) (pe_callB call_lenR (by rfl) T.m_len (by decide +kernel) (pa_cons (pv 1) pa_nil))) (fun _ _ => rfl)) (pg_sub (pv 2) (pv 4) set_list))))))
      (pss_one (ps_ret (pv 2))))), ?_⟩
    have hlen : ws.length = rs.length := Paired.length ht
    have hfl : rs.flatten.length = h.length := by rw [hp.length_eq, List.length_range]
    have short : ∀ r ∈ rs, r.length ≤ h.length := fun r hr => by
      have := List.Sublist.length_le (List.sublist_flatten_of_mem hr)
      omega
    have many : rs.length ≤ h.length := by
      have : ∀ l : List (List Nat), (∀ r ∈ l, 0 < r.length) → l.length ≤ l.flatten.length := fun l => by
        induction l with
        | nil => intro _; simp
        | cons r l ih =>
          intro hl
          have := ih fun x hx => hl x (by simp [hx])
          have := hl r (by simp)
          rw [List.flatten_cons, List.length_append, List.length_cons]
          omega
      have := this rs fun r hr => (hR r hr).ne
      omega
    have e0 : ((List.range ws.length).map fun i => V.int ((rs.getD i []).length : Int)) = (rs.map fun r => (r.length : Int)).map V.int := by
      rw [hlen, List.map_map]
      conv => rhs; rw [range_get rs []]
      rw [List.map_map]
      rfl
    refine q_asgL (xs := nv (List.replicate h.length 0)) ?_ fun p H1 hp1 e1 h1 => ?_
    · rw [← nv_rep, ← Int.toNat_natCast h.length]
      refine el_rep (by walk_at "el") ?_ (by omega) (by omega) (by simp)
      rw [← hfl, ← sum_len rs]
      refine ev_sumN (ns := rs.map fun r => (r.length : Int)) ?_
      rw [← e0]
      refine el_mapI _ (ev_var rfl) (sq_of ha) (by omega) (fun _ => rfl) fun i x H1 e1 hx => ?_
      obtain ⟨r, hr, b, rfl, hb⟩ := paired_get ht hx
      have g : rs.getD i [] = r := by rw [List.getD_eq_getElem?_getD, hr] <;> rfl
      rw [g, ← nv_len r]
      rcases hb with hb | hb
      · exact ev_len (K := K) (ev_var rfl) (sq_of (e1 b _ hb))
      · exact ev_lenT (K := K) (ev_var rfl) (st_of (e1 b _ hb))
    have pa : p ≠ a := fun z => by
      subst z
      rw [ha] at hp1
      cases hp1
    refine q_forLn (xs := ws) (K := K) (ev_var rfl) (sq_of (e1 a _ ha)) (fun i σ' H' => ∃ (c : List Nat) (y1 y3 y4 : Option V), σ' = [some (.ref a), y1, some (.ref p), y3, y4] ∧ Ex H H' ∧ H' p = some (.lst (nv c)) ∧ c.length = h.length ∧ ∀ x ∈ (rs.take i).flatten, c[x]? = h[x]?)
      (fun H2 e2 => ⟨List.replicate h.length 0, none, none, none, rfl, e1.trans e2, e2 p _ h1, by simp, by simp⟩) (fun i σ' H' _ ⟨_, _, _, _, _, e, _⟩ => sq_of (e a _ ha)) ?_ ?_
    · rintro i v σ' H' hv ⟨c, y1, y3, y4, rfl, e, hc, hcl, hdone⟩
      obtain ⟨r, hr, b, rfl, hb⟩ := paired_get ht hv
      have hrm : r ∈ rs := List.mem_of_getElem? hr
      have R := hR r hrm
      have bp : ∀ o, H b = some o → b ≠ p := fun o ho z => by
        subst z
        rw [hp1] at ho
        cases ho
      have hrl := short r hrm
      have body : ∀ (D : Ends), (∀ σ' H', (∃ (c : List Nat) (y1 y3 y4 : Option V), σ' = [some (.ref a), y1, some (.ref p), y3, y4] ∧ Ex H H' ∧ H' p = some (.lst (nv c)) ∧ c.length = h.length ∧ ∀ x ∈ (rs.take (i + 1)).flatten, c[x]? = h[x]?) → D.nx σ' H') → ∀ (G : Hp → Prop) (hG : (∀ H, G H → SqL K H b (nv r)) ∨ (∀ H, G H → SqT K H b (nv r))), (∀ H2, Ex H H2 → G H2) → tFor (iEnumS K (tCons (tVar 1) tNil)) (gTup K 2 (gCons (gName 3) (gCons (gName 4) gNil)))
          (tAsg (tOp (rIx K) (tVar 1) (tOp (rI (fun _ j => 0 < j) fun i j => .int (i % j)) (tOp (rI0 fun i j => .int (i + j)) (tVar 3) (tC (.int 1))) (tCB (rLenS K) (tCons (tVar 1) tNil)))) (gSub (tVar 2) (tVar 4) rSetL))
          D
          [some (.ref a), some (.ref b), some (.ref p), y3, y4] H' := fun D hD G hG hg => by
        refine s_forEnS (xs := nv r) (ea_cons (ev_var rfl) ea_nil) G hG (fun H2 e2 => hg H2 (e.trans e2)) (fun m σ' H2 => ∃ (c : List Nat) (y3 y4 : Option V), σ' = [some (.ref a), some (.ref b), some (.ref p), y3, y4] ∧ Ex H H2 ∧ H2 p = some (.lst (nv c)) ∧ c.length = h.length ∧ ∀ x ∈ (rs.take i).flatten ++ r.take m, c[x]? = h[x]?)
          (fun H2 e2 => ⟨c, y3, y4, rfl, e.trans e2, e2 p _ hc, hcl, by simpa using hdone⟩) (fun m σ' H2 _ ⟨_, _, _, _, e2, _⟩ => hg H2 e2) ?_ ?_
        · rintro m x σ' H2 H3 hx ⟨c, y3, y4, rfl, e2, hc2, hcl2, hd2⟩ e3
          have hml : m < r.length := by
            have := (List.getElem?_eq_some_iff.mp hx).1
            rw [nv_len] at this
            exact this
          obtain ⟨x0, y0, hx0, hy0, hxy⟩ := R.st m hml
          have ex0 : x = .int (x0 : Int) := by
            have := nv_get hx0
            rw [hx] at this
            exact Option.some.inj this
          subst ex0
          have hgH := hg H3 (e2.trans e3)
          have el : ((m : Int) + 1) % ((nv r).length : Int) = (((m + 1) % r.length : Nat) : Int) := by
            rw [nv_len]
            have := Int.natCast_emod (m + 1) r.length
            simpa using this.symm
          have evl : Ev (tCB (rLenS K) (tCons (tVar 1) tNil)) [some (.ref a), some (.ref b), some (.ref p), some (.int (m : Int)), some (.int (x0 : Int))] H3 (.int ((nv r).length : Int)) := by
            rcases hG with hG | hG
            · exact ev_len (K := K) (ev_var rfl) (hG _ hgH)
            · exact ev_lenT (K := K) (ev_var rfl) (hG _ hgH)
          have hix : RV (rIx K) (.ref b) (.int (((m + 1) % r.length : Nat) : Int)) H3 (.int (y0 : Int)) := fun H4 e4 Q q => by
            rcases hG with hG | hG
            · exact .inl ⟨b, nv r, _, _, rfl, rfl, ex_l e4 (hG _ hgH), atI_nat (nv_get hy0), q H4 (Ex.refl H4)⟩
            · exact .inr (.inl ⟨b, nv r, _, _, rfl, rfl, ex_t e4 (hG _ hgH), atI_nat (nv_get hy0), q H4 (Ex.refl H4)⟩)
          have hx0l : x0 < h.length := (List.getElem?_eq_some_iff.mp hxy).1
          refine s_setL (j := x0) (e3 p _ hc2) (ev_op (ev_var rfl) (ev_op (ev_op (ev_var rfl) ev_c rv_I0) evl (rv_I (by rw [nv_len]; omega))) (by rw [el]; exact hix)) (ev_var rfl) (ev_var rfl) (by rw [nv_len]; omega) fun H4 e4 => ?_
          refine ⟨c.set x0 y0, _, _, rfl, Ex.mut (e2.trans (e3.trans e4)) hp1, ?_, by simp [hcl2], ?_⟩
          · rw [upd_same, nv_setN]
          · intro z hz
            by_cases ez : z = x0
            · rw [ez, List.getElem?_set_self (by omega)]
              exact hxy.symm
            · rw [List.getElem?_set_ne (Ne.symm ez)]
              refine hd2 z ?_
              rw [take_next hx0] at hz
              simp at hz ⊢
              rcases hz with hz | hz | hz
              · exact .inl hz
              · exact .inr hz
              · exact absurd hz ez
        · rintro σ' H2 ⟨c, y3, y4, rfl, e2, hc2, hcl2, hd2⟩
          refine hD _ _ ⟨c, _, _, _, rfl, e2, hc2, hcl2, ?_⟩
          rw [flat_next hr]
          rw [nv_len, List.take_of_length_le (Nat.le_refl _)] at hd2
          exact hd2
      rcases hb with hb | hb
      · exact body _ (fun _ _ q => q) (fun H2 => H2 b = some (.lst (nv r))) (.inl fun _ q => sq_of q) (fun H2 e2 => e2 b _ hb)
      · exact body _ (fun _ _ q => q) (fun H2 => H2 b = some (.tup (nv r))) (.inr fun _ q => st_of q) (fun H2 e2 => e2 b _ hb)
    · rintro σ' H' ⟨c, y1, y3, y4, rfl, e, hc, hcl, hdone⟩
      rw [hlen, List.take_of_length_le (Nat.le_refl _)] at hdone
      have eq : c = h := by
        refine List.ext_getElem? fun x => ?_
        by_cases hx : x < h.length
        · exact hdone x (hp.mem_iff.mpr (List.mem_range.mpr hx))
        · rw [List.getElem?_eq_none (by omega), List.getElem?_eq_none (by omega)]
      subst eq
      exact s_ret (ev_var rfl) fun H2 e2 => k p H2 hp1 (e.trans e2) (e2 p _ hc)
end


local macro_rules | `(tactic| walk_at "call") => `(tactic| (with_reducible exact sv_whole))
local macro_rules | `(tactic| walk_at "call") => `(tactic| ((with_reducible refine' sv_order ?c1 ?c2); (case c1 => assumption); (case c2 => assumption)))
local macro_rules | `(tactic| walk_at "call") => `(tactic| ((with_reducible refine' sv_ord ?c1 ?c2); (case c1 => assumption); (case c2 => assumption)))

/-! ### two walks in one comprehension; record_list -/
theorem it_gen {J : It} {n : Nat} {G : Hp → Prop} {Y : Nat → Hp → V → Hp → Prop} (w : Walk J n G Y) {S : Hp} {Qd : Hp → Prop} {B : (Hp → Prop) → V → Hp → Prop} (Pv : Nat → Hp → Prop) (h0 : Pv 0 S) (hG : ∀ i H, i ≤ n → Pv i H → G H)
    (hs : ∀ i x H H', i < n → Pv i H → Y i H x H' → B (Pv (i + 1)) x H') (hd : ∀ H, Pv n H → Qd H) :
    ∃ W : Nat → Nat → Hp → Prop, (∃ m, W 0 m S) ∧ ∀ i m H, W i m H →
      (J.stop i H ∧ Qd H) ∨ (J.go i H ∧ ∃ Nx : Hp → Prop, (∀ H', Nx H' → ∃ m', m' < m ∧ W (i + 1) m' H') ∧ ∀ x H', J.yld i H x H' → B Nx x H') := by
  refine ⟨fun i m H => m = n - i ∧ i ≤ n ∧ Pv i H, ⟨n, by simp, Nat.zero_le _, h0⟩, ?_⟩
  rintro i m H ⟨rfl, hi, p⟩
  have q := hG i H hi p
  by_cases hlt : i < n
  · exact .inr ⟨w.goes i H hlt q, Pv (i + 1), fun H' p' => ⟨n - (i + 1), by omega, rfl, hlt, p'⟩, fun x H' y => hs i x H H' hlt p (w.yields i H x H' hlt q y)⟩
  · have e : i = n := by omega
    subst e
    exact .inl ⟨w.stops H q, hd H p⟩
theorem elt_rev {K : PySem.W.Frag} {σ : L2.St} {H : Hp} {ta : TE} {rs : List (List V)} (h : EvLT ta σ H rs) : EvLT (tRevL K ta) σ H rs.reverse := fun H1 e Q q => h H1 e _ fun p vs H2 _ e2 h2 ht =>
  ⟨p, vs, rfl, sq_of h2, fun l hl => q l vs.reverse _ (fresh_back e2 hl) (e2.trans (Ex.new hl)) upd_same (ht.rev.ex (Ex.new hl))⟩
theorem flatV_next {rs : List (List V)} {i : Nat} {r : List V} (h : rs[i]? = some r) : (rs.take (i + 1)).flatten = (rs.take i).flatten ++ r := by
  rw [take_next h, List.flatten_append]
  simp
/-- [x for t in ts for x in t], ts a list of tuples -/
theorem el_lc2 {K : PySem.W.Frag} {σ : L2.St} {H : Hp} {tl : TE} {j l : Nat} {vs vs1 : List Nat} {rs : List (List V)} (h : EvLT tl σ H rs) (hz : rs.flatten.length ≤ 40000)
    (hw : ∀ x, wipe ((wipe σ vs).set j (some x)) vs = wipe σ vs) (hj : ∀ x, ((wipe σ vs).set j (some x))[j]? = some (some x))
    (hw1 : ∀ x y, wipe ((wipe ((wipe σ vs).set j (some x)) vs1).set l (some y)) vs1 = wipe ((wipe σ vs).set j (some x)) vs1) (hl : ∀ x y, ((wipe ((wipe σ vs).set j (some x)) vs1).set l (some y))[l]? = some (some y)) :
    EvL (tLc2 (iList K tl) (gName j) tYes (iTup K (tVar j)) (gName l) tYes (tVar l) vs vs1) σ H rs.flatten := fun H0 e Q q => h H0 e _ fun a ws H1 ha e1 h1 ht => ⟨a, rfl, ⟨ws, sq_of h1⟩, fun Dl hD => by
  have hlen := ht.len
  refine it_gen walk_list (fun i H' => Ex H1 H' ∧ H' Dl = some (.lst (rs.take i).flatten)) ⟨Ex.new hD, upd_same⟩ (fun i H' _ p => sq_of (p.1 a _ h1)) ?_ fun H' p => ?_
  · rintro i x Hh H' hi ⟨p1, p2⟩ ⟨rfl, hx⟩
    obtain ⟨b, r, rfl, hb, hr⟩ := ht.get hx
    have hlr : (rs.take (i + 1)).flatten.length ≤ 40000 := by
      have : (rs.take (i + 1)).flatten.length ≤ rs.flatten.length := by
        conv => rhs; rw [← List.take_append_drop (i + 1) rs, List.flatten_append, List.length_append]
        omega
      omega
    rw [flatV_next hr, List.length_append] at hlr
    refine ⟨hw _, ?_⟩
    simp only [tYes, ↓reduceIte]
    refine ⟨.ref b, hj _, b, rfl, ⟨r, st_of (p1 b _ hb)⟩, ?_⟩
    refine it_gen (walk_tup (K := K) (a := b) (xs := r)) (fun m H2 => Ex H1 H2 ∧ H2 Dl = some (.lst ((rs.take i).flatten ++ r.take m))) ⟨p1, by rw [p2]; simp⟩ (fun m H2 _ p => st_of (p.1 b _ hb)) ?_ fun H2 p => ?_
    · rintro m y H2 H3 hm ⟨p3, p4⟩ ⟨rfl, hy⟩
      refine ⟨hw1 _ _, ?_⟩
      simp only [tYes, ↓reduceIte]
      refine ⟨y, hl _ _, _, p4, sz_lt (by rw [List.length_append, List.length_take]; omega), Ex.mut p3 hD, ?_⟩
      rw [upd_same, take_next hy, List.append_assoc]
    · obtain ⟨p3, p4⟩ := p
      refine ⟨p3, ?_⟩
      rw [p4, flatV_next hr, List.take_of_length_le (Nat.le_refl _)]
  · obtain ⟨p1, p2⟩ := p
    rw [hlen, List.take_of_length_le (Nat.le_refl _)] at p2
    exact q Dl H' (fresh_back e1 hD) (e1.trans p1) p2⟩
theorem flat_nv : ∀ rs : List (List Nat), (rs.map nv).flatten = nv rs.flatten
  | [] => rfl
  | r :: l => by rw [List.map_cons, List.flatten_cons, flat_nv l, List.flatten_cons, nv_app]
theorem elt_tables {σ : L2.St} {H : Hp} {ta : TE} {E : XK} {a : Addr} {h : List Nat} {rs : List (List Nat)} (hv : Ev ta σ H (.ref a)) (ha : H a = some (.lst (nv h))) (o : Ord h) (R : Rings h rs) : EvLT (tCall sp_tables_of [] E (tCons ta tNil)) σ H (rs.map nv) := fun H1 e Q q =>
  hv H1 e _ fun H2 e2 => ⟨a, h, rs, rfl, e2 a _ (e a _ ha), o, R, fun p ws H3 hp e3 h3 ht => q p ws H3 (fresh_back e2 hp) (e2.trans e3) h3 ht⟩
def sp_record_list : Sp := fun vs H Q _ => ∃ (a : Addr) (h : List Nat) (rs : List (List Nat)), vs = [.ref a] ∧ H a = some (.lst (nv h)) ∧ Ord h ∧ Rings h rs ∧ RetL (nv rs.reverse.flatten) H Q
theorem sl_record {H : Hp} {a : Addr} {h : List Nat} {rs : List (List Nat)} (ha : H a = some (.lst (nv h))) (o : Ord h) (R : Rings h rs) : SpL sp_record_list ([.ref a] ++ []) H (nv rs.reverse.flatten) := fun H1 e Q q E => ⟨a, h, rs, rfl, e a _ ha, o, R, q⟩
section
variable {P : Program} {w : World} {K : PySem.W.Frag} {mg : Str → Option Value} {base : Heap}
theorem ok_record_list (T : Tx K mg) : FnOk P w K mg base CX0 6 T.f_record_list T.d_record_list ["seating"] sp_record_list := by
  refine T.F_record_list.ok sc_record_list (fun vs H Q E h => ?_) (fun cdv A outer s H vs Q E hr h => ?_)
  · obtain ⟨a, h, rs, rfl, _⟩ := h
    rfl
  · obtain ⟨a, h, rs, rfl, ha, o, R, k⟩ := h
    refine ⟨_, (pss_one (ps_ret (pe_lc2 (wi1 := iTup K (tVar 1)) (own := [("table", 1), ("guest", 2)]) (vs1 := [2]) (g := (gName 1)) (g1 := (gName 2)) (tt := tYes) (tt1 := tYes) rfl sc_record_list.nd (pi_list (pe_revLK (K := K) rfl (pe_call (ok_tables_of T) (hr.mono (by decide)) (by rfl) T.g_tables_of T.F_tables_of.kp T.b_tables_of .nil pass0 (pa_cons (pv 0) pa_nil)))) (blkOk_by (own := [("table", 1), ("guest", 2)]) (N := n_record_list) (sc := defScope s_record_list) (by decide +kernel)) (by decide) (fun _ _ _ _ _ => (pg_name (i := 1) sc_record_list.nd rfl (Or.inl rfl))) (fun _ _ _ _ _ => pts_nil) (fun _ _ _ _ _ => (pi_tup (pv 1))) (fun _ _ _ _ _ => (pg_name (i := 2) sc_record_list.nd rfl (Or.inl rfl))) (fun _ _ _ _ _ => pts_nil) (fun _ _ _ _ _ => (pv 2))))), ?_⟩
    have hfl : rs.reverse.flatten.length ≤ 20 := by
      have h1 : rs.reverse.flatten.length = rs.flatten.length := (List.Perm.flatten (List.reverse_perm rs)).length_eq
      have h2 := R.all.length_eq
      rw [List.length_range] at h2
      have := o.2.2
      omega
    refine s_retL (xs := nv rs.reverse.flatten) ?_ fun p H1 hp e1 h1 => k p H1 hp e1 h1
    rw [← flat_nv, List.map_reverse]
    refine el_lc2 (elt_rev (elt_tables (ev_var rfl) ha o R)) (by rw [← List.map_reverse, flat_nv, nv_len]; omega) (fun _ => rfl) (fun _ => rfl) (fun _ _ => rfl) (fun _ _ => rfl)
/-! renamed -/
end


local macro_rules | `(tactic| walk_at "call") => `(tactic| (with_reducible exact sv_whole))
local macro_rules | `(tactic| walk_at "call") => `(tactic| ((with_reducible refine' sv_order ?c1 ?c2); (case c1 => assumption); (case c2 => assumption)))
local macro_rules | `(tactic| walk_at "call") => `(tactic| ((with_reducible refine' sv_ord ?c1 ?c2); (case c1 => assumption); (case c2 => assumption)))

section
variable {P : Program} {w : World} {K : PySem.W.Frag} {mg : Str → Option Value} {base : Heap}
theorem ok_check_names (T : Tx K mg) : FnOk P w K mg base CX0 4 T.f_check_names T.d_check_names ["names"] (sp_ord .non) := by
  refine T.F_check_names.ok sc_check_names (fun vs H Q E h => ?_) (fun cdv A outer s H vs Q E hr h => ?_)
  · obtain ⟨a, h, rfl, _⟩ := h
    rfl
  · obtain ⟨a, h, rfl, ha, o, k⟩ := h
    refine ⟨_, (pss_one (ps_if (pt_not (pt_val (pe_call (ok_is_order T) (hr.mono (by decide)) (by rfl) T.g_is_order T.F_is_order.kp T.b_is_order .nil pass0 (pa_cons (pv 0) pa_nil)))) (pss_one ps_never) pss_nil)), ?_⟩
    exact s_when (b := false) (et_is (by walk_at "et") (by rfl)) (fun hb => Bool.noConfusion hb) fun _ H1 e1 => k _ e1
end

/-! ### a list of new lists -/
structure LL (H0 : Hp) (p : Addr) (H : Hp) (bs : List Addr) (rs : List (List Nat)) : Prop where
  self : H p = some (.lst (bs.map V.ref))
  nd : bs.Nodup
  np : p ∉ bs
  fp : H0 p = none
  fr : ∀ b ∈ bs, H0 b = none
  len : bs.length = rs.length
  at_ : ∀ (i : Nat) (b : Addr) (r : List Nat), bs[i]? = some b → rs[i]? = some r → H b = some (.lst (nv r))
theorem LL.ex {H0 H H' : Hp} {p : Addr} {bs : List Addr} {rs : List (List Nat)} (L : LL H0 p H bs rs) (e : Ex H H') : LL H0 p H' bs rs :=
  ⟨e p _ L.self, L.nd, L.np, L.fp, L.fr, L.len, fun i b r h1 h2 => e b _ (L.at_ i b r h1 h2)⟩
theorem LL.get {H0 H : Hp} {p : Addr} {bs : List Addr} {rs : List (List Nat)} (L : LL H0 p H bs rs) {i : Nat} {r : List Nat} (h : rs[i]? = some r) : ∃ b, bs[i]? = some b ∧ H b = some (.lst (nv r)) ∧ b ≠ p ∧ H0 b = none := by
  have hi := (List.getElem?_eq_some_iff.mp h).1
  have hb : bs[i]? = some (bs[i]'(by rw [L.len]; exact hi)) := List.getElem?_eq_getElem _
  refine ⟨_, hb, L.at_ i _ r hb h, fun z => L.np ?_, L.fr _ (List.mem_of_getElem? hb)⟩
  rw [← z]
  exact List.mem_of_getElem? hb
theorem LL.nil {H0 H : Hp} {p : Addr} (h : H p = some (.lst [])) (fp : H0 p = none) : LL H0 p H [] [] :=
  ⟨h, List.nodup_nil, by simp, fp, by simp, rfl, fun i b r h1 => by simp at h1⟩
theorem LL.push {H0 H H' : Hp} {p q : Addr} {bs : List Addr} {rs : List (List Nat)} {r : List Nat} (L : LL H0 p H bs rs) (e0 : Ex H0 H) (e : Ex H H') (hq : H q = none) (h' : H' q = some (.lst (nv r))) : LL H0 p (upd H' p (.lst (bs.map V.ref ++ [.ref q]))) (bs ++ [q]) (rs ++ [r]) := by
  have nq : q ∉ bs := fun hm => by
    obtain ⟨i, hi⟩ := List.mem_iff_getElem?.mp hm
    have hl := (List.getElem?_eq_some_iff.mp hi).1
    have := L.at_ i q _ hi (List.getElem?_eq_getElem (by rw [← L.len]; exact hl))
    rw [hq] at this
    cases this
  have qp : q ≠ p := fun z => by
    have := L.self
    rw [← z, hq] at this
    cases this
  refine ⟨by rw [upd_same]; simp, ?_, ?_, L.fp, ?_, by simp [L.len], ?_⟩
  · exact List.nodup_append.mpr ⟨L.nd, by simp, fun a ha b hb z => nq (by
      rw [List.mem_singleton] at hb
      rw [← hb, ← z]
      exact ha)⟩
  · simp [L.np, Ne.symm qp]
  · intro b hb
    rcases List.mem_append.mp hb with h | h
    · exact L.fr b h
    · rw [List.mem_singleton] at h
      rw [h]
      exact fresh_back e0 hq
  · intro i b s h1 h2
    by_cases hi : i < bs.length
    · rw [List.getElem?_append_left hi] at h1
      rw [List.getElem?_append_left (by rw [← L.len]; exact hi)] at h2
      have hb := L.at_ i b s h1 h2
      rw [upd_ne (fun z => L.np (by rw [← z]; exact List.mem_of_getElem? h1))]
      exact e b _ hb
    · rw [List.getElem?_append_right (by omega)] at h1
      rw [List.getElem?_append_right (by rw [← L.len]; omega)] at h2
      have i0 : i - bs.length = 0 := by
        have := (List.getElem?_eq_some_iff.mp h1).1
        simp at this
        omega
      rw [i0] at h1
      rw [← L.len, i0] at h2
      have b1 : q = b := Option.some.inj h1
      have r1 : r = s := Option.some.inj h2
      rw [← b1, ← r1, upd_ne qp]
      exact h'
theorem LL.put {H0 H : Hp} {p b : Addr} {bs : List Addr} {rs : List (List Nat)} {r : List Nat} {i : Nat} (L : LL H0 p H bs rs) (hb : bs[i]? = some b) : LL H0 p (upd H b (.lst (nv r))) bs (rs.set i r) := by
  have bp : p ≠ b := fun z => L.np (by rw [z]; exact List.mem_of_getElem? hb)
  refine ⟨by rw [upd_ne bp]; exact L.self, L.nd, L.np, L.fp, L.fr, by simp [L.len], fun j c s h1 h2 => ?_⟩
  by_cases hj : i = j
  · subst hj
    have hl : i < rs.length := by rw [← L.len]; exact (List.getElem?_eq_some_iff.mp hb).1
    rw [List.getElem?_set_self hl] at h2
    rw [hb] at h1
    rw [← Option.some.inj h1, ← Option.some.inj h2, upd_same]
  · rw [List.getElem?_set_ne hj] at h2
    have : c ≠ b := fun z => by
      subst z
      exact hj (nd_ix L.nd hb h1)
    rw [upd_ne this]
    exact L.at_ j c s h1 h2
theorem LL.tb {H0 H : Hp} {p : Addr} {bs : List Addr} {rs : List (List Nat)} (L : LL H0 p H bs rs) : Paired (Tb H) (bs.map V.ref) rs := by
  have : ∀ (bs : List Addr) (rs : List (List Nat)), bs.length = rs.length → (∀ (i : Nat) (b : Addr) (r : List Nat), bs[i]? = some b → rs[i]? = some r → H b = some (.lst (nv r))) → Paired (Tb H) (bs.map V.ref) rs := fun bs => by
    induction bs with
    | nil => 
      intro rs hl _
      cases rs with
      | nil => exact .nil
      | cons r l => simp at hl
    | cons b bs ih =>
      intro rs hl ha
      cases rs with
      | nil => simp at hl
      | cons r l =>
        refine .cons ⟨b, rfl, .inl (ha 0 b r rfl rfl)⟩ (ih l (by simpa using hl) fun i c s h1 h2 => ha (i + 1) c s (by simpa using h1) (by simpa using h2))
  exact this bs rs L.len L.at_
/-- xs.append of a list among others -/
theorem set_end {α : Type} (l : List α) (x y : α) : (l ++ [x]).set l.length y = l ++ [y] := by
  rw [List.set_append_right _ _ (Nat.le_refl _)]
  simp
theorem paired_imp {α β : Type} {F G : α → β → Prop} (f : ∀ a b, F a b → G a b) : ∀ {l : List α} {m : List β}, Paired F l m → Paired G l m
  | _, _, .nil => .nil
  | _, _, .cons h t => .cons (f _ _ h) (paired_imp f t)
/-! the tables of a record -/
def cstep (ts : List (List Nat)) (g : Nat) : List (List Nat) :=
  match ts.getLast? with
  | none => [[g]]
  | some r => if g < r.headD 0 then ts ++ [[g]] else ts.dropLast ++ [r ++ [g]]
def cuts (f : List Nat) : List (List Nat) := f.foldl cstep []
theorem cuts_next {f : List Nat} {i x : Nat} (h : f[i]? = some x) : cuts (f.take (i + 1)) = cstep (cuts (f.take i)) x := by
  unfold cuts
  rw [take_next h, List.foldl_append]
  rfl
theorem cstep_end (l : List (List Nat)) (r : List Nat) (g : Nat) : cstep (l ++ [r]) g = if g < r.headD 0 then l ++ [r] ++ [[g]] else l ++ [r ++ [g]] := by
  unfold cstep
  rw [List.getLast?_concat, List.dropLast_concat]
theorem cstep_nil (g : Nat) : cstep [] g = [[g]] := rfl
theorem list_end {α : Type} (l : List α) : l = [] ∨ ∃ i x, l = i ++ [x] := by
  rcases List.eq_nil_or_concat l with h | ⟨i, x, h⟩
  · exact .inl h
  · exact .inr ⟨i, x, by simpa using h⟩
theorem cstep_flat (ts : List (List Nat)) (g : Nat) : (cstep ts g).flatten = ts.flatten ++ [g] := by
  rcases list_end ts with h | ⟨i, x, h⟩
  · rw [h]
    rfl
  · rw [h, cstep_end]
    by_cases q : g < x.headD 0
    · rw [if_pos q]; simp
    · rw [if_neg q]; simp
theorem cstep_ne {ts : List (List Nat)} (g : Nat) (h : ∀ r ∈ ts, 0 < r.length) : ∀ r ∈ cstep ts g, 0 < r.length := by
  rcases list_end ts with e | ⟨i, x, e⟩
  · rw [e]
    intro r hr
    rw [List.mem_singleton.mp hr]
    simp
  · rw [e] at h
    rw [e, cstep_end]
    by_cases q : g < x.headD 0
    · rw [if_pos q]
      intro r hr
      rcases List.mem_append.mp hr with k | k
      · exact h r k
      · rw [List.mem_singleton.mp k]; simp
    · rw [if_neg q]
      intro r hr
      rcases List.mem_append.mp hr with k | k
      · exact h r (List.mem_append.mpr (.inl k))
      · rw [List.mem_singleton.mp k]; simp
theorem cuts_inv (f : List Nat) : ∀ (ts : List (List Nat)), (∀ r ∈ ts, 0 < r.length) → (f.foldl cstep ts).flatten = ts.flatten ++ f ∧ ∀ r ∈ f.foldl cstep ts, 0 < r.length := by
  induction f with
  | nil => intro ts h; simpa using h
  | cons x l ih =>
    intro ts h
    obtain ⟨h1, h2⟩ := ih (cstep ts x) (cstep_ne x h)
    refine ⟨?_, h2⟩
    rw [List.foldl_cons, h1, cstep_flat]
    simp
theorem cuts_flat (f : List Nat) : (cuts f).flatten = f := by
  have := (cuts_inv f [] (by simp)).1
  rw [List.flatten_nil, List.nil_append] at this
  exact this
theorem cuts_ne (f : List Nat) : ∀ r ∈ cuts f, 0 < r.length := (cuts_inv f [] (by simp)).2
theorem cuts_len (f : List Nat) : (cuts f).length ≤ f.length := by
  have : ∀ l : List (List Nat), (∀ r ∈ l, 0 < r.length) → l.length ≤ l.flatten.length := fun l => by
    induction l with
    | nil => intro _; simp
    | cons r l ih =>
      intro hl
      have := ih fun x hx => hl x (by simp [hx])
      have := hl r (by simp)
      rw [List.flatten_cons, List.length_append, List.length_cons]
      omega
  have h := this (cuts f) (cuts_ne f)
  rw [cuts_flat] at h
  exact h
def sp_of_records : Sp := fun vs H Q _ => ∃ (a : Addr) (f h : List Nat), vs = [.ref a] ∧ H a = some (.lst (nv f)) ∧ Ord f ∧ h.length = f.length ∧ (∀ r ∈ cuts f, Rg h r) ∧ RetL (nv h) H Q
theorem sl_with {H : Hp} {a : Addr} {ws : List V} {rs : List (List Nat)} {h : List Nat} (ha : H a = some (.lst ws)) (ht : Paired (Tb H) ws rs) (hp : rs.flatten.Perm (List.range h.length)) (hR : ∀ r ∈ rs, Rg h r) (hn : h.length ≤ 20) : SpL sp_seating_with ([.ref a] ++ []) H (nv h) := fun H1 e Q q E =>
  ⟨a, ws, rs, h, rfl, e a _ ha, paired_imp (fun _ _ x => Tb.ex e x) ht, hp, hR, hn, q⟩
theorem sl_of_records {H : Hp} {a : Addr} {f h : List Nat} (ha : H a = some (.lst (nv f))) (o : Ord f) (hl : h.length = f.length) (hR : ∀ r ∈ cuts f, Rg h r) : SpL sp_of_records ([.ref a] ++ []) H (nv h) := fun H1 e Q q E => ⟨a, f, h, rfl, e a _ ha, o, hl, hR, q⟩
section
variable {P : Program} {w : World} {K : PySem.W.Frag} {mg : Str → Option Value} {base : Heap}
theorem ok_seating_of_records (T : Tx K mg) : FnOk P w K mg base CX0 5 T.f_seating_of_records T.d_seating_of_records ["names"] sp_of_records := by
  refine T.F_seating_of_records.ok sc_seating_of_records (fun vs H Q E h => ?_) (fun cdv A outer s H vs Q E hr h => ?_)
  · obtain ⟨a, f, h, rfl, _⟩ := h
    rfl
  · obtain ⟨a, f, h, rfl, ha, o, hl, hR, k⟩ := h
    refine ⟨_, (pss_cons (ps_expr (pe_call (ok_check_names T) (hr.mono (by decide)) (by rfl) T.g_check_names T.F_check_names.kp T.b_check_names .nil pass0 (pa_cons (pv 0) pa_nil)))
      (pss_cons (ps_set (i := 1) sc_seating_of_records.nd rfl (Or.inl rfl) (pe_lst pa_nil))
      (pss_cons (ps_for PassesOwn.never rfl (pi_list (pv 0)) (pg_name (i := 2) sc_seating_of_records.nd rfl (Or.inl rfl)) (pss_one (ps_if (PW.pt (pw_or (pt_not (pt_truth (pv 1) (by intro _; rfl))) (pw_or1 (pt_cmpR op_lt (pv 2) (pe_ix ix_list (pe_ix ix_list (pv 1) (pe_un un_neg pe_int) (fun _ _ => rfl)) pe_int (fun _ _ => rfl)) (nomark _))))) (pss_one (ps_expr (pe_bm PySem.F.plainAttrs_list PySem.F.slot_list_append PySem.F.type_list_append mt_append (pv 1) (pa_cons (pe_lst (pa_cons (pv 2) pa_nil)) pa_nil)))) (pss_one (ps_expr (pe_bm PySem.F.plainAttrs_list PySem.F.slot_list_append PySem.F.type_list_append mt_append (pe_ix ix_list (pv 1) (pe_un un_neg pe_int) (fun _ _ => rfl)) (pa_cons (pv 2) pa_nil)))))))
      (pss_one (ps_ret (pe_call (ok_seating_with T) (hr.mono (by decide)) (by rfl) T.g_seating_with T.F_seating_with.kp T.b_seating_with .nil pass0 (pa_cons (pv 1) pa_nil))))))), ?_⟩
    have ho := o.2.2
    refine q_drop (by walk_at "ev") fun H1 e1 => ?_
    have h1 := e1 a _ ha
    refine q_asgL (by walk_at "el") fun p H2 hp e2 h2 => ?_
    have hp0 := fresh_back e1 hp
    refine q_forLn (xs := nv f) (K := K) (ev_var rfl) (sq_of (e2 a _ h1)) (fun i σ' H' => ∃ (bs : List Addr) (y : Option V), σ' = [some (.ref a), some (.ref p), y] ∧ Ex H H' ∧ LL H p H' bs (cuts (f.take i)))
      (fun H3 e3 => ⟨[], none, rfl, e1.trans (e2.trans e3), LL.nil (e3 p _ h2) hp0⟩) (fun i σ' H' _ ⟨_, _, _, e, _⟩ => sq_of (e a _ ha)) ?_ ?_
    · rintro i v σ' H' hv ⟨bs, y, rfl, e, L⟩
      have hil : i < f.length := by
        have := (List.getElem?_eq_some_iff.mp hv).1
        rw [nv_len] at this
        exact this
      obtain ⟨x, hx⟩ : ∃ x, f[i]? = some x := ⟨f[i], List.getElem?_eq_getElem hil⟩
      have ev : v = .int (x : Int) := by
        have := nv_get hx
        rw [hv] at this
        exact Option.some.inj this
      subst ev
      have hn := cuts_next hx
      have hne := cuts_ne (f.take i)
      have hle := cuts_len (f.take i)
      rw [List.length_take] at hle
      rcases list_end (cuts (f.take i)) with hz | ⟨ini, r, hz⟩
      · rw [hz] at L hn
        have b0 : bs = [] := List.eq_nil_of_length_eq_zero (by rw [L.len]; rfl)
        subst b0
        refine s_if (b := true) (et_is (et_or (et_not (et_tru (K := K) (ev_var rfl) (sq_of L.self))) (b := true) (fun hb => by cases hb)) rfl) (fun _ H3 e3 => ?_) (fun hb => Bool.noConfusion hb)
        refine s_appL (e3 p _ L.self) (ev_var rfl) (by walk_at "el") (by simp) fun q H4 hq e4 h4 => ?_
        exact ⟨[q], _, rfl, Ex.mut (e.trans (e3.trans e4)) hp0, by
          rw [hn, cstep_nil]
          exact (L.ex e3).push (e.trans e3) e4 hq h4⟩
      · rw [hz] at L hn hne hle
        have hrl := hne r (by simp)
        obtain ⟨b, hb, hbv, hbp, hb0⟩ := L.get (i := ini.length) (r := r) (by simp)
        obtain ⟨c, r', er⟩ : ∃ c r', r = c :: r' := by
          cases r with
          | nil => simp at hrl
          | cons c l => exact ⟨c, l, rfl⟩
        have hbl : bs.length = ini.length + 1 := by rw [L.len]; simp
        obtain ⟨bi, eb⟩ : ∃ bi, bs = bi ++ [b] := by
          rcases list_end bs with z | ⟨bi, b', z⟩
          · rw [z] at hbl; simp at hbl
          · refine ⟨bi, ?_⟩
            rw [z] at hb hbl
            have : bi.length = ini.length := by simpa using hbl
            rw [← this] at hb
            simp at hb
            rw [z, hb]
        have last : ∀ H3, Ex H' H3 → Ev (tOp (rIxL K) (tVar 1) (tUn (rU fun i => .int (-i)) (tC (.int 1)))) [some (.ref a), some (.ref p), some (.int (x : Int))] H3 (.ref b) := fun H3 e3 =>
          ev_op (ev_var rfl) (ev_un ev_c ru_neg) (rv_ixL (sq_of (e3 p _ L.self)) (by rw [eb, List.map_append]; exact atI_last _ _))
        have ne : (!(bs.map V.ref).isEmpty) = true := by rw [eb]; simp
        refine s_if (b := decide (x < c)) (et_is (et_or (et_not (et_tru (K := K) (ev_var rfl) (sq_of L.self))) (fun _ => et_test (ev_op (ev_var rfl) (ev_op (last H' (Ex.refl _)) ev_c (rv_ixL (K := K) (sq_of hbv) (atI_nat (j := 0) (nv_get (by rw [er]; rfl))))) rv_I0))) (by rw [ne]; simp)) (fun hc H3 e3 => ?_) (fun hc H3 e3 => ?_)
        · have hc := of_decide_eq_true hc
          refine s_appL (e3 p _ L.self) (ev_var rfl) (by walk_at "el") (by rw [List.length_map, hbl]; rw [List.length_append] at hle; simp at hle; omega) fun q H4 hq e4 h4 => ?_
          refine ⟨bs ++ [q], _, rfl, Ex.mut (e.trans (e3.trans e4)) hp0, ?_⟩
          rw [hn, cstep_end, if_pos (by rw [er]; exact hc)]
          exact (L.ex e3).push (e.trans e3) e4 hq h4
        · have hc := of_decide_eq_false hc
          refine s_app (e3 b _ hbv) (last H3 e3) (ev_var rfl) (by
            rw [nv_len]
            have h1 : (ini ++ [r]).flatten.length = (f.take i).length := by rw [← hz, cuts_flat]
            rw [List.flatten_append, List.length_append, List.length_take] at h1
            simp at h1
            omega) fun H4 e4 => ?_
          refine ⟨bs, _, rfl, Ex.mut (e.trans (e3.trans e4)) hb0, ?_⟩
          rw [hn, cstep_end, if_neg (by rw [er]; exact hc)]
          have g := ((L.ex e3).ex e4).put (r := r ++ [x]) hb
          rw [set_end, nv_app] at g
          exact g
    · rintro σ' H' ⟨bs, y, rfl, e, L⟩
      rw [nv_len, List.take_of_length_le (Nat.le_refl _)] at L
      refine s_retL (el_call (by walk_at "ea") (sl_with L.self L.tb (by rw [cuts_flat, hl]; exact o.1) hR (by omega))) fun q H3 hq e3 h3 => k q H3 (fresh_back e hq) (e.trans e3) h3
end


local macro_rules | `(tactic| walk_at "call") => `(tactic| (with_reducible exact sv_whole))
local macro_rules | `(tactic| walk_at "call") => `(tactic| ((with_reducible refine' sv_order ?c1 ?c2); (case c1 => assumption); (case c2 => assumption)))
local macro_rules | `(tactic| walk_at "call") => `(tactic| ((with_reducible refine' sv_ord ?c1 ?c2); (case c1 => assumption); (case c2 => assumption)))

def cd (a b : Int) : Int := ((Nat.gcd a.natAbs b.natAbs : Nat) : Int)
theorem cd_pos {a b : Int} (h : 0 < b) : 0 < cd a b := by
  unfold cd
  have := Nat.gcd_pos_of_pos_right a.natAbs (show 0 < b.natAbs by omega)
  omega
theorem cd_le {a b : Int} (h : 0 < b) : cd a b ≤ b := by
  unfold cd
  have := Nat.le_of_dvd (show 0 < b.natAbs by omega) (Nat.gcd_dvd_right a.natAbs b.natAbs)
  omega
theorem cd_dvd1 {a b : Int} : cd a b ∣ a := Int.ofNat_dvd_left.mpr (Nat.gcd_dvd_left a.natAbs b.natAbs)
theorem cd_dvd2 {a b : Int} : cd a b ∣ b := Int.ofNat_dvd_left.mpr (Nat.gcd_dvd_right a.natAbs b.natAbs)
/-! ### checks -/
def sp_check1 (lo hi : Int) : Sp := fun vs H Q _ => ∃ x : Int, vs = [.int x] ∧ lo ≤ x ∧ x ≤ hi ∧ RetV .non H Q
theorem sv_check1 {H : Hp} {lo hi x : Int} (h0 : lo ≤ x) (h1 : x ≤ hi) : SpV (sp_check1 lo hi) ([.int x] ++ []) H .non := fun H1 _ Q q E => ⟨x, rfl, h0, h1, q⟩
def sp_fraction : Sp := fun vs H Q _ => ∃ a b : Int, vs = [.int a, .int b] ∧ 0 < b ∧ b.natAbs < 2 ^ 8000 ∧ RetU [.int (a / cd a b), .int (b / cd a b)] H Q
theorem su_fraction {H : Hp} {a b : Int} (h0 : 0 < b) (h1 : b.natAbs < 2 ^ 8000) : SpU sp_fraction ([.int a, .int b] ++ []) H [.int (a / cd a b), .int (b / cd a b)] := fun H1 _ Q q E => ⟨a, b, rfl, h0, h1, q⟩
section
variable {P : Program} {w : World} {K : PySem.W.Frag} {mg : Str → Option Value} {base : Heap}
theorem ok_check_guests (T : Tx K mg) : FnOk P w K mg base CX0 3 T.f_check_guests T.d_check_guests ["guests"] (sp_check1 1 20) := by
  refine T.F_check_guests.ok sc_check_guests (fun vs H Q E h => ?_) (fun cdv A outer s H vs Q E hr h => ?_)
  · obtain ⟨x, rfl, _⟩ := h
    rfl
  · obtain ⟨x, rfl, h0, h1, k⟩ := h
    refine ⟨_, (pss_one (ps_if (pt_not (pt_val (pe_call (ok_is_within T) (hr.mono (by decide)) (by rfl) T.g_is_within T.F_is_within.kp T.b_is_within .nil pass0 (pa_cons (pv 0) (pa_cons pe_int (pa_cons (pe_gc (by rfl) T.c_MOST_GUESTS) pa_nil)))))) (pss_one ps_never) pss_nil)), ?_⟩
    exact s_when (b := false) (et_is (et_not (et_B (ev_call (ea_cons (ev_var rfl) (ea_cons ev_c (ea_cons ev_c ea_nil))) (sv_between (K := K))))) (by rw [decide_eq_true h0, decide_eq_true h1]; rfl)) (fun hb => Bool.noConfusion hb) fun _ H1 e1 => k _ e1
theorem ok_check_weight (T : Tx K mg) : FnOk P w K mg base CX0 3 T.f_check_weight T.d_check_weight ["weight"] (sp_check1 1 1000000000000) := by
  refine T.F_check_weight.ok sc_check_weight (fun vs H Q E h => ?_) (fun cdv A outer s H vs Q E hr h => ?_)
  · obtain ⟨x, rfl, _⟩ := h
    rfl
  · obtain ⟨x, rfl, h0, h1, k⟩ := h
    refine ⟨_, (pss_one (ps_if (pt_not (pt_val (pe_call (ok_is_within T) (hr.mono (by decide)) (by rfl) T.g_is_within T.F_is_within.kp T.b_is_within .nil pass0 (pa_cons (pv 0) (pa_cons pe_int (pa_cons (pe_gc (by rfl) T.c_MOST_WEIGHT) pa_nil)))))) (pss_one ps_never) pss_nil)), ?_⟩
    exact s_when (b := false) (et_is (et_not (et_B (ev_call (ea_cons (ev_var rfl) (ea_cons ev_c (ea_cons ev_c ea_nil))) (sv_between (K := K))))) (by rw [decide_eq_true h0, decide_eq_true h1]; rfl)) (fun hb => Bool.noConfusion hb) fun _ H1 e1 => k _ e1
theorem ok_fraction (T : Tx K mg) : FnOk P w K mg base CX0 1 T.f_fraction T.d_fraction ["top", "bottom"] sp_fraction := by
  refine T.F_fraction.ok sc_fraction (fun vs H Q E h => ?_) (fun cdv A outer s H vs Q E hr h => ?_)
  · obtain ⟨a, b, rfl, _⟩ := h
    rfl
  · obtain ⟨a, b, rfl, h0, h1, k⟩ := h
    refine ⟨_, (pss_cons (ps_set (i := 2) sc_fraction.nd rfl (Or.inl rfl) (pe_callBfun cr_gcd (by rfl) T.i_gcd (pa_cons (pv 0) (pa_cons (pv 1) pa_nil))))
      (pss_one (ps_ret (pe_tup (pa_cons (pe_op op_fdivW (pv 0) (pv 2)) (pa_cons (pe_op op_fdivW (pv 1) (pv 2)) pa_nil)))))), ?_⟩
    refine q_asg (by walk_at "ev") fun H1 e1 => ?_
    have hd : ∀ x : Int, CDivW x (cd a b) := fun x => wide_div (cd_pos h0) (Nat.lt_of_le_of_lt (by have := cd_le (a := a) h0; have := cd_pos (a := a) h0; omega) h1) (by decide) (by decide)
    have hd1 := hd a
    have hd2 := hd b
    refine s_retU (by walk_at "eu") fun p H2 hp e2 h2 => k p H2 (fresh_back e1 hp) (e1.trans e2) h2
end

/-! ### rising products -/
def rise (w : Int) : Nat → Int
  | 0 => 1
  | n + 1 => rise w n * (w + n)
theorem rise_pos {w : Int} (h : 1 ≤ w) : ∀ n, 0 < rise w n
  | 0 => by
    show (0 : Int) < 1
    decide
  | n + 1 => Int.mul_pos (rise_pos h n) (by omega)

/-! ### numbers -/
theorem rise_le {w : Int} (h : w.natAbs < 2 ^ 130) : ∀ n : Nat, n ≤ 100 → (rise w n).natAbs ≤ 2 ^ (131 * n)
  | 0, _ => by
    show (1 : Int).natAbs ≤ 2 ^ 0
    decide
  | n + 1, hn => by
    have ih := rise_le h n (by omega)
    show (rise w n * (w + n)).natAbs ≤ _
    rw [Int.natAbs_mul, Nat.mul_succ, Nat.pow_add]
    exact Nat.mul_le_mul ih (by omega)
def sp_pow : Sp := fun vs H Q _ => ∃ b t : Int, vs = [.int b, .int t] ∧ b.natAbs < 2 ^ 130 ∧ 0 ≤ t ∧ t ≤ 40 ∧ RetV (.int (b ^ t.toNat)) H Q
theorem sv_pow {H : Hp} {b t : Int} (hb : b.natAbs < 2 ^ 130) (h0 : 0 ≤ t) (h1 : t ≤ 40) : SpV sp_pow ([.int b, .int t] ++ []) H (.int (b ^ t.toNat)) := fun H1 _ Q q E => ⟨b, t, rfl, hb, h0, h1, q⟩
def sp_rise : Sp := fun vs H Q _ => ∃ (b : Int) (n : Nat), vs = [.int b, .int n] ∧ b.natAbs < 2 ^ 130 ∧ n ≤ 40 ∧ RetV (.int (rise b n)) H Q
theorem sv_rise {H : Hp} {b : Int} {n : Nat} (hb : b.natAbs < 2 ^ 130) (h1 : n ≤ 40) : SpV sp_rise ([.int b, .int (n : Int)] ++ []) H (.int (rise b n)) := fun H1 _ Q q E => ⟨b, n, rfl, hb, h1, q⟩
local macro_rules | `(tactic| walk_at "call") => `(tactic| ((with_reducible refine' sv_pow ?c1 ?c2 ?c3); (case c1 => walk_at "side"); (case c2 => walk_at "side"); (case c3 => walk_at "side")))
local macro_rules | `(tactic| walk_at "call") => `(tactic| ((with_reducible refine' sv_rise ?c1 ?c2); (case c1 => walk_at "side"); (case c2 => walk_at "side")))

section
variable {P : Program} {w : World} {K : PySem.W.Frag} {mg : Str → Option Value} {base : Heap}
theorem ok_law_weigh (T : Tx K mg) : FnOk P w K mg base CX0 1 T.f_law_weigh T.d_law_weigh ["heavy","many"] sp_pow := by
  refine T.F_law_weigh.ok sc_law_weigh (fun vs H Q E h => ?_) (fun cdv A outer s H vs Q E hr h => ?_)
  · obtain ⟨b, t, rfl, _⟩ := h
    rfl
  · obtain ⟨b, t, rfl, hb, ht0, ht1, k⟩ := h
    refine ⟨_, (pss_cons (ps_set (i := 2) sc_law_weigh.nd rfl (Or.inl rfl) pe_int)
      (pss_cons (ps_for PassesOwn.never rfl (pi_range1 (by rfl) T.m_range (pa_cons (pv 1) pa_nil)) (pg_name (i := 3) sc_law_weigh.nd rfl (Or.inl rfl)) (pss_one (ps_set (i := 2) sc_law_weigh.nd rfl (Or.inl rfl) (pe_op op_mulX (pv 2) (pv 0)))))
      (pss_one (ps_ret (pv 2))))), ?_⟩
    refine q_asg ev_c fun H1 e1 => ?_
    refine q_forR1 (n := t) (by walk_at "ea") ⟨ht0, by omega⟩ (fun i σ' H' => ∃ y, σ' = [some (.int b), some (.int t), some (.int (b ^ i)), y] ∧ Ex H H') (fun H2 e2 => ⟨none, by rw [Int.pow_zero]; rfl, e1.trans e2⟩) ?_ ?_
    · rintro i σ' H' hi ⟨y, rfl, e⟩
      have hm : CMulX (b ^ i) b := mulx_ok (lt_of_le2 (natAbs_pow_le hb i)) hb (by omega)
      exact s_asg (by walk_at "ev") fun H2 e2 => ⟨_, by rw [Int.pow_succ]; rfl, e.trans e2⟩
    · rintro σ' H' ⟨y, rfl, e⟩
      exact s_ret (by walk_at "ev") fun H2 e2 => k _ (e.trans e2)

theorem ok_rising (T : Tx K mg) : FnOk P w K mg base CX0 1 T.f_rising T.d_rising ["weight","guests"] sp_rise := by
  refine T.F_rising.ok sc_rising (fun vs H Q E h => ?_) (fun cdv A outer s H vs Q E hr h => ?_)
  · obtain ⟨b, n, rfl, _⟩ := h
    rfl
  · obtain ⟨b, n, rfl, hb, hn, k⟩ := h
    refine ⟨_, (pss_cons (ps_set (i := 2) sc_rising.nd rfl (Or.inl rfl) pe_int)
      (pss_cons (ps_for PassesOwn.never rfl (pi_range1 (by rfl) T.m_range (pa_cons (pv 1) pa_nil)) (pg_name (i := 3) sc_rising.nd rfl (Or.inl rfl)) (pss_one (ps_set (i := 2) sc_rising.nd rfl (Or.inl rfl) (pe_op op_mulX (pv 2) (pe_op op_add (pv 0) (pv 3))))))
      (pss_one (ps_ret (pv 2))))), ?_⟩
    refine q_asg ev_c fun H1 e1 => ?_
    refine q_forR1 (n := (n : Int)) (by walk_at "ea") ⟨by omega, by omega⟩ (fun i σ' H' => ∃ y, σ' = [some (.int b), some (.int n), some (.int (rise b i)), y] ∧ Ex H H') (fun H2 e2 => ⟨none, rfl, e1.trans e2⟩) ?_ ?_
    · rintro i σ' H' hi ⟨y, rfl, e⟩
      have hs : (b + (i : Int)).natAbs < 2 ^ 131 := by omega
      have hm : CMulX (rise b i) (b + (i : Int)) := mulx_ok (lt_of_le2 (rise_le hb i (by omega))) hs (by omega)
      exact s_asg (by walk_at "ev") fun H2 e2 => ⟨_, rfl, e.trans e2⟩
    · rintro σ' H' ⟨y, rfl, e⟩
      exact s_ret (by walk_at "ev") fun H2 e2 => k _ (e.trans e2)

theorem ok_law_rise (T : Tx K mg) : FnOk P w K mg base CX0 1 T.f_law_rise T.d_law_rise ["heavy","many"] sp_rise := by
  refine T.F_law_rise.ok sc_law_rise (fun vs H Q E h => ?_) (fun cdv A outer s H vs Q E hr h => ?_)
  · obtain ⟨b, n, rfl, _⟩ := h
    rfl
  · obtain ⟨b, n, rfl, hb, hn, k⟩ := h
    refine ⟨_, (pss_cons (ps_set (i := 2) sc_law_rise.nd rfl (Or.inl rfl) pe_int)
      (pss_cons (ps_for PassesOwn.never rfl (pi_range1 (by rfl) T.m_range (pa_cons (pv 1) pa_nil)) (pg_name (i := 3) sc_law_rise.nd rfl (Or.inl rfl)) (pss_one (ps_set (i := 2) sc_law_rise.nd rfl (Or.inl rfl) (pe_op op_mulX (pv 2) (pe_op op_add (pv 0) (pv 3))))))
      (pss_one (ps_ret (pv 2))))), ?_⟩
    refine q_asg ev_c fun H1 e1 => ?_
    refine q_forR1 (n := (n : Int)) (by walk_at "ea") ⟨by omega, by omega⟩ (fun i σ' H' => ∃ y, σ' = [some (.int b), some (.int n), some (.int (rise b i)), y] ∧ Ex H H') (fun H2 e2 => ⟨none, rfl, e1.trans e2⟩) ?_ ?_
    · rintro i σ' H' hi ⟨y, rfl, e⟩
      have hs : (b + (i : Int)).natAbs < 2 ^ 131 := by omega
      have hm : CMulX (rise b i) (b + (i : Int)) := mulx_ok (lt_of_le2 (rise_le hb i (by omega))) hs (by omega)
      exact s_asg (by walk_at "ev") fun H2 e2 => ⟨_, rfl, e.trans e2⟩
    · rintro σ' H' ⟨y, rfl, e⟩
      exact s_ret (by walk_at "ev") fun H2 e2 => k _ (e.trans e2)

end
def sp_check_index : Sp := fun vs H Q _ => ∃ x n : Int, vs = [.int x, .int n] ∧ 0 ≤ x ∧ x < n ∧ RetV .non H Q
theorem sv_check_index {H : Hp} {x n : Int} (h0 : 0 ≤ x) (h1 : x < n) : SpV sp_check_index ([.int x, .int n] ++ []) H .non := fun H1 _ Q q E => ⟨x, n, rfl, h0, h1, q⟩
section
variable {P : Program} {w : World} {K : PySem.W.Frag} {mg : Str → Option Value} {base : Heap}
theorem ok_check_index (T : Tx K mg) : FnOk P w K mg base CX0 3 T.f_check_index T.d_check_index ["index", "many"] sp_check_index := by
  refine T.F_check_index.ok sc_check_index (fun vs H Q E h => ?_) (fun cdv A outer s H vs Q E hr h => ?_)
  · obtain ⟨x, n, rfl, _⟩ := h
    rfl
  · obtain ⟨x, n, rfl, h0, h1, k⟩ := h
    refine ⟨_, (pss_one (ps_if (pt_not (pt_val (pe_call (ok_is_within T) (hr.mono (by decide)) (by rfl) T.g_is_within T.F_is_within.kp T.b_is_within .nil pass0 (pa_cons (pv 0) (pa_cons pe_int (pa_cons (pe_op op_sub (pv 1) pe_int) pa_nil)))))) (pss_one ps_never) pss_nil)), ?_⟩
    exact s_when (b := false) (et_is (et_not (et_B (ev_call (ea_cons (ev_var rfl) (ea_cons ev_c (ea_cons (ev_op (ev_var rfl) ev_c rv_I0) ea_nil))) (sv_between (K := K))))) (by rw [decide_eq_true h0, decide_eq_true (show x ≤ n - 1 by omega)]; rfl)) (fun hb => Bool.noConfusion hb) fun _ H1 e1 => k _ e1
end
def sp_total : Sp := fun vs H Q _ => ∃ (n : Nat) (w : Int), vs = [.int n, .int w] ∧ 1 ≤ n ∧ n ≤ 20 ∧ 1 ≤ w ∧ w ≤ 1000000000000 ∧ RetV (.int (rise w n)) H Q
theorem sv_total {H : Hp} {n : Nat} {w : Int} (h0 : 1 ≤ n) (h1 : n ≤ 20) (h2 : 1 ≤ w) (h3 : w ≤ 1000000000000) : SpV sp_total ([.int (n : Int), .int w] ++ []) H (.int (rise w n)) := fun H1 _ Q q E => ⟨n, w, rfl, h0, h1, h2, h3, q⟩
local macro_rules | `(tactic| walk_at "call") => `(tactic| (with_reducible exact sv_whole))
local macro_rules | `(tactic| walk_at "call") => `(tactic| ((with_reducible refine' sv_ord ?c1 ?c2); (case c1 => assumption); (case c2 => assumption)))

local macro_rules | `(tactic| walk_at "call") => `(tactic| ((with_reducible refine' sv_pow ?c1 ?c2 ?c3); (case c1 => walk_at "side"); (case c2 => walk_at "side"); (case c3 => walk_at "side")))
local macro_rules | `(tactic| walk_at "call") => `(tactic| ((with_reducible refine' sv_rise ?c1 ?c2); (case c1 => walk_at "side"); (case c2 => walk_at "side")))
local macro_rules | `(tactic| walk_at "call") => `(tactic| (with_reducible exact sv_between))
local macro_rules | `(tactic| walk_at "call") => `(tactic| ((with_reducible refine' sv_check1 ?c1 ?c2); (case c1 => walk_at "side"); (case c2 => walk_at "side")))
local macro_rules | `(tactic| walk_at "call") => `(tactic| ((with_reducible refine' sv_check_number ?c1 ?c2); (case c1 => walk_at "side"); (case c2 => walk_at "side")))
local macro_rules | `(tactic| walk_at "callU") => `(tactic| ((with_reducible refine' su_fraction ?c1 ?c2); (case c1 => walk_at "side"); (case c2 => walk_at "side")))

local macro_rules | `(tactic| walk_at "call") => `(tactic| ((with_reducible refine' sv_check1 ?c1 ?c2); (case c1 => walk_at "side"); (case c2 => walk_at "side")))
section
variable {P : Program} {w : World} {K : PySem.W.Frag} {mg : Str → Option Value} {base : Heap}
theorem ok_total_weight (T : Tx K mg) : FnOk P w K mg base CX0 4 T.f_total_weight T.d_total_weight ["guests", "weight"] sp_total := by
  refine T.F_total_weight.ok sc_total_weight (fun vs H Q E h => ?_) (fun cdv A outer s H vs Q E hr h => ?_)
  · obtain ⟨n, x, rfl, _⟩ := h
    rfl
  · obtain ⟨n, x, rfl, h0, h1, h2, h3, k⟩ := h
    refine ⟨_, (pss_cons (ps_expr (pe_call (ok_check_guests T) (hr.mono (by decide)) (by rfl) T.g_check_guests T.F_check_guests.kp T.b_check_guests .nil pass0 (pa_cons (pv 0) pa_nil)))
      (pss_cons (ps_expr (pe_call (ok_check_weight T) (hr.mono (by decide)) (by rfl) T.g_check_weight T.F_check_weight.kp T.b_check_weight .nil pass0 (pa_cons (pv 1) pa_nil)))
      (pss_one (ps_ret (pe_call (ok_rising T) (hr.mono (by decide)) (by rfl) T.g_rising T.F_rising.kp T.b_rising .nil pass0 (pa_cons (pv 1) (pa_cons (pv 0) pa_nil))))))), ?_⟩
    refine q_drop (by walk_at "ev") fun H1 e1 => ?_
    refine q_drop (by walk_at "ev") fun H2 e2 => ?_
    exact s_ret (by walk_at "ev") fun H3 e3 => k _ (e1.trans (e2.trans e3))
end
local macro_rules | `(tactic| walk_at "call") => `(tactic| (with_reducible exact sv_whole))
local macro_rules | `(tactic| walk_at "call") => `(tactic| ((with_reducible refine' sv_ord ?c1 ?c2); (case c1 => assumption); (case c2 => assumption)))

local macro_rules | `(tactic| walk_at "call") => `(tactic| ((with_reducible refine' sv_pow ?c1 ?c2 ?c3); (case c1 => walk_at "side"); (case c2 => walk_at "side"); (case c3 => walk_at "side")))
local macro_rules | `(tactic| walk_at "call") => `(tactic| ((with_reducible refine' sv_rise ?c1 ?c2); (case c1 => walk_at "side"); (case c2 => walk_at "side")))
local macro_rules | `(tactic| walk_at "call") => `(tactic| (with_reducible exact sv_between))
local macro_rules | `(tactic| walk_at "call") => `(tactic| ((with_reducible refine' sv_check1 ?c1 ?c2); (case c1 => walk_at "side"); (case c2 => walk_at "side")))
local macro_rules | `(tactic| walk_at "call") => `(tactic| ((with_reducible refine' sv_check_number ?c1 ?c2); (case c1 => walk_at "side"); (case c2 => walk_at "side")))
local macro_rules | `(tactic| walk_at "callU") => `(tactic| ((with_reducible refine' su_fraction ?c1 ?c2); (case c1 => walk_at "side"); (case c2 => walk_at "side")))

def sums (w : Int) : Nat → List Int
  | 0 => [1]
  | n + 1 => List.zipWith (· + ·) ((sums w n).map (· * (n : Int)) ++ [0]) (0 :: (sums w n).map (· * w))
theorem sums_len (w : Int) : ∀ n, (sums w n).length = n + 1
  | 0 => rfl
  | n + 1 => by
    show (List.zipWith (· + ·) ((sums w n).map (· * (n : Int)) ++ [0]) (0 :: (sums w n).map (· * w))).length = _
    have ih := sums_len w n
    simp [ih]
/-- how many seatings of n guests have t tables -/
def stir : Nat → Nat → Nat
  | 0, 0 => 1
  | 0, _ + 1 => 0
  | n + 1, 0 => n * stir n 0
  | n + 1, t + 1 => n * stir n (t + 1) + stir n t
theorem stir_big : ∀ n t, n < t → stir n t = 0
  | 0, t + 1, _ => rfl
  | n + 1, t + 1, h => by
    show n * stir n (t + 1) + stir n t = 0
    rw [stir_big n (t + 1) (by omega), stir_big n t (by omega)]
    simp
theorem sums_get (w : Int) : ∀ n t, t ≤ n → (sums w n)[t]? = some ((stir n t : Int) * w ^ t)
  | 0, 0, _ => by
    show some (1 : Int) = some (((1 : Nat) : Int) * w ^ 0)
    rw [Int.pow_zero]
    rfl
  | n + 1, 0, _ => by
    have ih := sums_get w n 0 (by omega)
    have hl := sums_len w n
    show (List.zipWith (· + ·) ((sums w n).map (· * (n : Int)) ++ [0]) (0 :: (sums w n).map (· * w)))[0]? = some (((n * stir n 0 : Nat) : Int) * w ^ 0)
    rw [List.getElem?_zipWith, List.getElem?_append_left (by rw [List.length_map]; omega), List.getElem?_map, ih]
    simp
    grind
  | n + 1, t + 1, h => by
    have hl := sums_len w n
    have ih := sums_get w n t (by omega)
    show (List.zipWith (· + ·) ((sums w n).map (· * (n : Int)) ++ [0]) (0 :: (sums w n).map (· * w)))[t + 1]? = some (((n * stir n (t + 1) + stir n t : Nat) : Int) * w ^ (t + 1))
    rw [List.getElem?_zipWith, List.getElem?_cons_succ, List.getElem?_map, ih]
    by_cases ht : t + 1 ≤ n
    · have ih2 := sums_get w n (t + 1) ht
      rw [List.getElem?_append_left (by rw [List.length_map]; omega), List.getElem?_map, ih2]
      simp
      rw [Int.pow_succ]
      grind
    · have e : t = n := by omega
      subst e
      rw [List.getElem?_append_right (by rw [List.length_map]; omega), List.length_map, hl, stir_big t (t + 1) (by omega)]
      simp
      rw [Int.pow_succ]
      grind
theorem sums_small {w : Int} (h0 : 0 ≤ w) (h1 : w ≤ 2 ^ 42) : ∀ n, n ≤ 20 → ∀ x ∈ sums w n, 0 ≤ x ∧ x ≤ 2 ^ (43 * n)
  | 0, _, x, hx => by
    have e : x = 1 := by simpa [sums] using hx
    subst e
    decide
  | n + 1, hn, x, hx => by
    have ih := sums_small h0 h1 n (by omega)
    have hp : (0 : Int) ≤ 2 ^ (43 * n) := Int.pow_nonneg (by decide)
    have e43 : (2 : Int) ^ (43 * (n + 1)) = 2 ^ (43 * n) * 2 ^ 43 := by rw [Nat.mul_succ, Int.pow_add]
    rw [e43]
    have hx : x ∈ List.zipWith (· + ·) ((sums w n).map (· * (n : Int)) ++ [0]) (0 :: (sums w n).map (· * w)) := hx
    obtain ⟨i, hi⟩ := List.mem_iff_getElem?.mp hx
    rw [List.getElem?_zipWith] at hi
    have one : ∀ a, ((sums w n).map (· * (n : Int)) ++ [0])[i]? = some a → 0 ≤ a ∧ a ≤ 2 ^ (43 * n) * 20 := fun a ha => by
      rcases List.mem_append.mp (List.mem_iff_getElem?.mpr ⟨i, ha⟩) with h | h
      · obtain ⟨y, hy, rfl⟩ := List.mem_map.mp h
        obtain ⟨y0, y1⟩ := ih y hy
        exact ⟨Int.mul_nonneg y0 (by omega), Int.mul_le_mul y1 (by omega) (by omega) hp⟩
      · have : a = 0 := by simpa using h
        omega
    have two : ∀ b, (0 :: (sums w n).map (· * w))[i]? = some b → 0 ≤ b ∧ b ≤ 2 ^ (43 * n) * 2 ^ 42 := fun b hb => by
      rcases List.mem_cons.mp (List.mem_iff_getElem?.mpr ⟨i, hb⟩) with h | h
      · omega
      · obtain ⟨y, hy, rfl⟩ := List.mem_map.mp h
        obtain ⟨y0, y1⟩ := ih y hy
        exact ⟨Int.mul_nonneg y0 h0, Int.mul_le_mul y1 h1 h0 hp⟩
    cases ha : ((sums w n).map (· * (n : Int)) ++ [0])[i]? with
    | none =>
      rw [ha] at hi
      cases hi
    | some a =>
      cases hb : (0 :: (sums w n).map (· * w))[i]? with
      | none =>
        rw [ha, hb] at hi
        cases hi
      | some b =>
        rw [ha, hb] at hi
        have e : a + b = x := Option.some.inj hi
        have A := one a ha
        have B := two b hb
        omega

local macro_rules | `(tactic| walk_at "call") => `(tactic| (with_reducible exact sv_whole))
local macro_rules | `(tactic| walk_at "call") => `(tactic| ((with_reducible refine' sv_ord ?c1 ?c2); (case c1 => assumption); (case c2 => assumption)))

local macro_rules | `(tactic| walk_at "call") => `(tactic| ((with_reducible refine' sv_pow ?c1 ?c2 ?c3); (case c1 => walk_at "side"); (case c2 => walk_at "side"); (case c3 => walk_at "side")))
local macro_rules | `(tactic| walk_at "call") => `(tactic| ((with_reducible refine' sv_rise ?c1 ?c2); (case c1 => walk_at "side"); (case c2 => walk_at "side")))
local macro_rules | `(tactic| walk_at "call") => `(tactic| (with_reducible exact sv_between))
local macro_rules | `(tactic| walk_at "call") => `(tactic| ((with_reducible refine' sv_check1 ?c1 ?c2); (case c1 => walk_at "side"); (case c2 => walk_at "side")))
local macro_rules | `(tactic| walk_at "call") => `(tactic| ((with_reducible refine' sv_check_number ?c1 ?c2); (case c1 => walk_at "side"); (case c2 => walk_at "side")))
local macro_rules | `(tactic| walk_at "callU") => `(tactic| ((with_reducible refine' su_fraction ?c1 ?c2); (case c1 => walk_at "side"); (case c2 => walk_at "side")))

section
variable {P : Program} {w : World} {K : PySem.W.Frag} {mg : Str → Option Value} {base : Heap}
/-- the product of all (f.1 * x + f.2) -/
def sstep (ns : List Int) (f : Int × Int) : List Int := List.zipWith (· + ·) (ns.map (· * f.2) ++ [0]) (0 :: ns.map (· * f.1))
def sumsF (fs : List (Int × Int)) : List Int := fs.foldl sstep [1]
theorem sumsF_take {fs : List (Int × Int)} {i : Nat} {f : Int × Int} (h : fs[i]? = some f) : sumsF (fs.take (i + 1)) = sstep (sumsF (fs.take i)) f := by
  unfold sumsF
  rw [List.take_add_one, h, List.foldl_append]
  rfl
theorem sstep_len (ns : List Int) (f : Int × Int) : (sstep ns f).length = ns.length + 1 := by
  simp [sstep]
theorem foldS_len : ∀ (fs : List (Int × Int)) (ns : List Int), (fs.foldl sstep ns).length = ns.length + fs.length
  | [], _ => rfl
  | f :: r, ns => by
    rw [List.foldl_cons, foldS_len r, sstep_len, List.length_cons]
    omega
theorem sumsF_len (fs : List (Int × Int)) : (sumsF fs).length = fs.length + 1 := by
  unfold sumsF
  rw [foldS_len, List.length_singleton]
  omega
def FOk (fs : List (Int × Int)) : Prop := fs.length ≤ 40 ∧ ∀ f ∈ fs, 0 ≤ f.1 ∧ f.1 ≤ 2 ^ 42 ∧ 0 ≤ f.2 ∧ f.2 ≤ 2 ^ 42
theorem sstep_small {ns : List Int} {f : Int × Int} {B : Int} (hB : 0 ≤ B) (h : ∀ x ∈ ns, 0 ≤ x ∧ x ≤ B) (h0 : 0 ≤ f.1) (h1 : f.1 ≤ 2 ^ 42) (h2 : 0 ≤ f.2) (h3 : f.2 ≤ 2 ^ 42) : ∀ x ∈ sstep ns f, 0 ≤ x ∧ x ≤ B * 2 ^ 43 := fun x hx => by
  obtain ⟨i, hi⟩ := List.mem_iff_getElem?.mp hx
  unfold sstep at hi
  rw [List.getElem?_zipWith] at hi
  have two : ∀ (g : Int), 0 ≤ g → g ≤ 2 ^ 42 → ∀ y ∈ ns.map (· * g), 0 ≤ y ∧ y ≤ B * 2 ^ 42 := fun g g0 g1 y hy => by
    obtain ⟨z, hz, rfl⟩ := List.mem_map.mp hy
    obtain ⟨z0, z1⟩ := h z hz
    exact ⟨Int.mul_nonneg z0 g0, Int.mul_le_mul z1 g1 g0 hB⟩
  have A : ∀ a, (ns.map (· * f.2) ++ [0])[i]? = some a → 0 ≤ a ∧ a ≤ B * 2 ^ 42 := fun a ha => by
    rcases List.mem_append.mp (List.mem_iff_getElem?.mpr ⟨i, ha⟩) with h | h
    · exact two _ h2 h3 a h
    · have : a = 0 := by simpa using h
      subst this
      exact ⟨Int.le_refl _, Int.mul_nonneg hB (by decide)⟩
  have C : ∀ b, (0 :: ns.map (· * f.1))[i]? = some b → 0 ≤ b ∧ b ≤ B * 2 ^ 42 := fun b hb => by
    rcases List.mem_cons.mp (List.mem_iff_getElem?.mpr ⟨i, hb⟩) with h | h
    · subst h
      exact ⟨Int.le_refl _, Int.mul_nonneg hB (by decide)⟩
    · exact two _ h0 h1 b h
  cases ha : (ns.map (· * f.2) ++ [0])[i]? with
  | none =>
    rw [ha] at hi
    cases hi
  | some a =>
    cases hb : (0 :: ns.map (· * f.1))[i]? with
    | none =>
      rw [ha, hb] at hi
      cases hi
    | some b =>
      rw [ha, hb] at hi
      have e : a + b = x := Option.some.inj hi
      have p := A a ha
      have q := C b hb
      omega
theorem foldS_small : ∀ (fs : List (Int × Int)), (∀ f ∈ fs, 0 ≤ f.1 ∧ f.1 ≤ 2 ^ 42 ∧ 0 ≤ f.2 ∧ f.2 ≤ 2 ^ 42) → ∀ (ns : List Int) (k : Nat), (∀ x ∈ ns, 0 ≤ x ∧ x ≤ 2 ^ (43 * k)) → ∀ x ∈ fs.foldl sstep ns, 0 ≤ x ∧ x ≤ 2 ^ (43 * (k + fs.length))
  | [], _, ns, k, h => h
  | f :: r, hf, ns, k, h => by
    obtain ⟨a, b, c, d⟩ := hf f List.mem_cons_self
    have e43 : (2 : Int) ^ (43 * (k + 1)) = 2 ^ (43 * k) * 2 ^ 43 := by rw [Nat.mul_succ, Int.pow_add]
    have ih := foldS_small r (fun g hg => hf g (List.mem_cons_of_mem _ hg)) (sstep ns f) (k + 1) (fun x hx => by
      rw [e43]
      exact sstep_small (Int.pow_nonneg (by decide)) h a b c d x hx)
    rw [show k + (f :: r).length = k + 1 + r.length by rw [List.length_cons]; omega]
    exact ih
theorem sumsF_small {fs : List (Int × Int)} (h : FOk fs) : ∀ x ∈ sumsF fs, 0 ≤ x ∧ x ≤ 2 ^ (43 * fs.length) := by
  have q := foldS_small fs h.2 [1] 0 (fun x hx => by
    have e : x = 1 := by simpa using hx
    subst e
    decide)
  rw [Nat.zero_add] at q
  exact q
theorem FOk.take {fs : List (Int × Int)} (h : FOk fs) (i : Nat) : FOk (fs.take i) := ⟨by
  have := h.1
  rw [List.length_take]
  omega, fun f hf => h.2 f (List.mem_of_mem_take hf)⟩
def twoV (f : Int × Int) : List V := [.int f.1, .int f.2]
def sp_sums_by_tables : Sp := fun vs H Q _ => ∃ (a : Addr) (ws : List V) (fs : List (Int × Int)), vs = [.ref a] ∧ H a = some (.lst ws) ∧ TL H ws (fs.map twoV) ∧ FOk fs ∧ RetL ((sumsF fs).map V.int) H Q
def mulV (g : Int) : V → V
  | .int x => .int (x * g)
  | v => v
def addV : V → V → V
  | .int x, .int y => .int (x + y)
  | v, _ => v
theorem map_mulV (g : Int) (ns : List Int) : (ns.map V.int).map (mulV g) = (ns.map (· * g)).map V.int := by
  rw [List.map_map, List.map_map]
  rfl
theorem zip_addV : ∀ ns ms : List Int, List.zipWith addV (ns.map V.int) (ms.map V.int) = (List.zipWith (· + ·) ns ms).map V.int
  | [], _ => rfl
  | _ :: _, [] => rfl
  | x :: r, y :: s => congrArg (V.int (x + y) :: ·) (zip_addV r s)
theorem ok_sums_by_tables (T : Tx K mg) : FnOk P w K mg base CX0 1 T.f_sums_by_tables T.d_sums_by_tables ["factors"] sp_sums_by_tables := by
  refine T.F_sums_by_tables.ok sc_sums_by_tables (fun vs H Q E h => ?_) (fun cdv A outer s H vs Q E hr h => ?_)
  · obtain ⟨a, ws, fs, rfl, _⟩ := h
    rfl
  · obtain ⟨a, ws, fs, rfl, ha, ht, hf, k⟩ := h
    refine ⟨_, (pss_cons (ps_set (i := 1) sc_sums_by_tables.nd rfl (Or.inl rfl) (pe_lst (pa_cons pe_int pa_nil)))
      (pss_cons (ps_for PassesOwn.never rfl (pi_list (pv 0)) (pg_tup rfl (pgs_cons (pg_name (i := 2) sc_sums_by_tables.nd rfl (Or.inr rfl)) (pgs_cons (pg_name (i := 3) sc_sums_by_tables.nd rfl (Or.inr rfl)) pgs_nil))) (pss_cons (ps_set (i := 5) sc_sums_by_tables.nd rfl (Or.inl rfl) (pe_op op_cat (pe_lc (own := [("part", 4)]) (g := (gName 4)) (tt := tYes) rfl sc_sums_by_tables.nd (pi_list (pv 1)) (blkOk_by (own := [("part", 4)]) (N := n_sums_by_tables) (sc := defScope s_sums_by_tables) (by decide +kernel)) (fun _ _ _ _ _ => (pg_name (i := 4) sc_sums_by_tables.nd rfl (Or.inl rfl))) (fun _ _ _ _ _ => pts_nil) (fun _ _ _ _ _ => (pe_op op_mulX (pv 4) (pv 3)))) (pe_lst (pa_cons pe_int pa_nil))))
      (pss_cons (ps_set (i := 6) sc_sums_by_tables.nd rfl (Or.inl rfl) (pe_op op_cat (pe_lst (pa_cons pe_int pa_nil)) (pe_lc (own := [("part", 4)]) (g := (gName 4)) (tt := tYes) rfl sc_sums_by_tables.nd (pi_list (pv 1)) (blkOk_by (own := [("part", 4)]) (N := n_sums_by_tables) (sc := defScope s_sums_by_tables) (by decide +kernel)) (fun _ _ _ _ _ => (pg_name (i := 4) sc_sums_by_tables.nd rfl (Or.inl rfl))) (fun _ _ _ _ _ => pts_nil) (fun _ _ _ _ _ => (pe_op op_mulX (pv 4) (pv 2))))))
      (pss_one (ps_setLc (i := 1) (own := [("one", 7), ("other", 8)]) (g := (gTup _ 2 (gCons (gName 7) (gCons (gName 8) gNil)))) (tt := tYes) rfl sc_sums_by_tables.nd rfl rfl (sw_true rfl rfl rfl (by decide +kernel)) (pi_zip (by rfl) T.m_zip (pa_cons (pv 5) (pa_cons (pv 6) pa_nil))) (blkOk_by (own := [("one", 7), ("other", 8)]) (N := n_sums_by_tables) (sc := defScope s_sums_by_tables) (by decide +kernel)) (fun _ _ _ _ _ => (pg_tup rfl (pgs_cons (pg_name (i := 7) sc_sums_by_tables.nd rfl (Or.inl rfl)) (pgs_cons (pg_name (i := 8) sc_sums_by_tables.nd rfl (Or.inl rfl)) pgs_nil)))) (fun _ _ _ _ _ => pts_nil) (fun _ _ _ _ _ => (pe_op op_add (pv 7) (pv 8))))))))
      (pss_one (ps_ret (pv 1))))), ?_⟩
    have hwl : ws.length = fs.length := by rw [ht.len, List.length_map]
    have hfl := hf.1
    refine q_asgL (by walk_at "el") fun p H1 hp e1 h1 => ?_
    refine q_forL (ev_var rfl) (sq_of (e1 a _ ha))
      (fun i σ' H' => ∃ q y2 y3 y5 y6, σ' = [some (.ref a), some (.ref q), y2, y3, none, y5, y6, none, none] ∧ H q = none ∧ Ex H H' ∧ H' q = some (.lst ((sumsF (fs.take i)).map V.int)))
      (fun H2 e2 => ⟨p, none, none, none, none, rfl, hp, e1.trans e2, e2 p _ h1⟩) (fun i σ' H' _ ⟨q, y2, y3, y5, y6, _, _, e, _⟩ => sq_of (e a _ ha)) ?_ ?_
    · rintro i x σ' H' hx ⟨q, y2, y3, y5, y6, rfl, hq, e, hl⟩
      obtain ⟨b, r, rfl, hb, hr2⟩ := ht.get hx
      obtain ⟨f, hfi, rfl⟩ : ∃ f, fs[i]? = some f ∧ twoV f = r := by
        rw [List.getElem?_map] at hr2
        exact Option.map_eq_some_iff.mp hr2
      have him : i < fs.length := (List.getElem?_eq_some_iff.mp hfi).1
      obtain ⟨fa, fb, fc, fd⟩ := hf.2 f (List.mem_iff_getElem?.mpr ⟨i, hfi⟩)
      have hsm := sumsF_small (hf.take i)
      have hlen := sumsF_len (fs.take i)
      have hti : (fs.take i).length = i := by
        rw [List.length_take]
        omega
      rw [hti] at hsm hlen
      have cm : ∀ (g : Int), g.natAbs < 2 ^ 64 → ∀ (j : Nat) (y : V), ((sumsF (fs.take i)).map V.int)[j]? = some y → ∃ z, y = .int z ∧ CMulX z g := fun g hg j y hy => by
        rw [List.getElem?_map] at hy
        cases hz : (sumsF (fs.take i))[j]? with
        | none =>
          rw [hz] at hy
          cases hy
        | some z =>
          rw [hz] at hy
          obtain ⟨z0, z1⟩ := hsm z (List.mem_iff_getElem?.mpr ⟨j, hz⟩)
          have hp2 : (2 : Int) ^ (43 * i) = ((2 ^ (43 * i) : Nat) : Int) := by simp
          rw [hp2] at z1
          exact ⟨z, (Option.some.inj hy).symm, mulx_ok (lt_of_le2 (k := 43 * i) (by omega)) hg (by omega)⟩
      refine ⟨b, [.int f.1, .int f.2], rfl, st_of (e b _ hb), rfl, .int f.1, [.int f.2], rfl, .int f.2, [], rfl, rfl, ?_⟩
      refine q_asgL (el_cat (el_map (mulV f.2) (ev_var rfl) (sq_of hl) (by rw [List.length_map]; omega) (fun _ => rfl) fun j y H2 e2 hy => ?_) (by walk_at "el") (by simp; omega)) fun p5 H2 hp5 e2 h2 => ?_
      · obtain ⟨z, rfl, hc⟩ := cm f.2 (by omega) j y hy
        exact ev_op (ev_var rfl) (ev_var rfl) (rv_I hc)
      have hl2 := e2 q _ hl
      refine q_asgL (el_cat (by walk_at "el") (el_map (mulV f.1) (ev_var rfl) (sq_of hl2) (by rw [List.length_map]; omega) (fun _ => rfl) fun j y H3 e3 hy => ?_) (by simp; omega)) fun p6 H3 hp6 e3 h3 => ?_
      · obtain ⟨z, rfl, hc⟩ := cm f.1 (by omega) j y hy
        exact ev_op (ev_var rfl) (ev_var rfl) (rv_I hc)
      rw [map_mulV] at h2 h3
      have g2 : H3 p5 = some (.lst (((sumsF (fs.take i)).map (· * f.2) ++ [0]).map V.int)) := by
        rw [List.map_append]
        exact e3 p5 _ h2
      have g3 : H3 p6 = some (.lst ((0 :: (sumsF (fs.take i)).map (· * f.1)).map V.int)) := h3
      refine s_asgL (el_zip addV (by walk_at "ea") (sq_of g2) (sq_of g3) (by simp) (by simp; omega) (fun _ _ => rfl) fun j a b H4 e4 ha hb => ?_) fun p2 H4 hp2 e4 h4 => ?_
      · rw [List.getElem?_map] at ha hb
        obtain ⟨a', _, rfl⟩ := Option.map_eq_some_iff.mp ha
        obtain ⟨b', _, rfl⟩ := Option.map_eq_some_iff.mp hb
        exact ev_op (ev_var rfl) (ev_var rfl) rv_I0
      · rw [zip_addV] at h4
        exact ⟨p2, _, _, _, _, rfl, fresh_back (e.trans (e2.trans e3)) hp2, e.trans (e2.trans (e3.trans e4)), by rw [sumsF_take hfi]; exact h4⟩
    · rintro σ' H' ⟨q, y2, y3, y5, y6, rfl, hq, e, hl⟩
      rw [hwl, List.take_length] at hl
      refine s_ret (ev_var rfl) fun H2 e2 => k q H2 hq (e.trans e2) (e2 q _ hl)

theorem el_call1LT {σ : L2.St} {H : Hp} {te : TE} {sp : Sp} {dvs ys : List V} {xs : List (List V)} {E : XK} (h : EvLT te σ H xs) (hs : ∀ p ws H1, Ex H H1 → H1 p = some (.lst ws) → TL H1 ws xs → SpL sp ([.ref p] ++ dvs) H1 ys) : EvL (tCall sp dvs E (tCons te tNil)) σ H ys := fun H1 e Q q =>
  h H1 e _ fun p ws H2 _ e2 h2 hw => hs p ws H2 (e.trans e2) h2 hw H2 (Ex.refl _) Q (fun l H3 hl e3 h3 => q l H3 (fresh_back e2 hl) (e2.trans e3) h3) E
theorem sl_sums {H : Hp} {a : Addr} {ws : List V} {fs : List (Int × Int)} (ha : H a = some (.lst ws)) (ht : TL H ws (fs.map twoV)) (hf : FOk fs) : SpL sp_sums_by_tables ([.ref a] ++ []) H ((sumsF fs).map V.int) := fun H1 e Q q E => ⟨a, ws, fs, rfl, e a _ ha, ht.ex e, hf, q⟩
/-- the factors of weights_by_tables -/
def facs (w : Int) (n : Nat) : List (Int × Int) := (List.range n).map fun i : Nat => (w, (i : Int))
theorem fok_facs {w : Int} {n : Nat} (hn : n ≤ 20) (h0 : 0 ≤ w) (h1 : w ≤ 2 ^ 42) : FOk (facs w n) := ⟨by
  unfold facs
  rw [List.length_map, List.length_range]
  omega, fun f hf => by
  obtain ⟨i, hi, rfl⟩ := List.mem_map.mp hf
  have := List.mem_range.mp hi
  exact ⟨h0, h1, by show (0 : Int) ≤ (i : Int); omega, by show (i : Int) ≤ 2 ^ 42; omega⟩⟩

theorem sumsF_facs (w : Int) : ∀ n, sumsF (facs w n) = sums w n
  | 0 => rfl
  | n + 1 => by
    have ih := sumsF_facs w n
    unfold sumsF facs at ih ⊢
    rw [List.range_succ, List.map_append, List.foldl_append, ih]
    rfl
def sp_weights_by_tables : Sp := fun vs H Q _ => ∃ (n : Nat) (w : Int), vs = [.int n, .int w] ∧ n ≤ 20 ∧ 0 ≤ w ∧ w ≤ 2 ^ 42 ∧ RetL ((sums w n).map V.int) H Q
theorem sl_wbt {H : Hp} {n : Nat} {w : Int} (h0 : n ≤ 20) (h1 : 0 ≤ w) (h2 : w ≤ 2 ^ 42) : SpL sp_weights_by_tables ([.int (n : Int), .int w] ++ []) H ((sums w n).map V.int) := fun H1 _ Q q E => ⟨n, w, rfl, h0, h1, h2, q⟩
theorem ok_weights_by_tables (T : Tx K mg) : FnOk P w K mg base CX0 2 T.f_weights_by_tables T.d_weights_by_tables ["guests", "weight"] sp_weights_by_tables := by
  refine T.F_weights_by_tables.ok sc_weights_by_tables (fun vs H Q E h => ?_) (fun cdv A outer s H vs Q E hr h => ?_)
  · obtain ⟨n, x, rfl, _⟩ := h
    rfl
  · obtain ⟨n, x, rfl, hn, hx0, hx1, k⟩ := h
    refine ⟨_, (pss_one (ps_ret (pe_call (ok_sums_by_tables T) (hr.mono (by decide)) (by rfl) T.g_sums_by_tables T.F_sums_by_tables.kp T.b_sums_by_tables .nil pass0 (pa_cons (pe_lc (own := [("guest", 2)]) (g := (gName 2)) (tt := tYes) rfl sc_weights_by_tables.nd (pi_range1 (by rfl) T.m_range (pa_cons (pv 0) pa_nil)) (blkOk_by (own := [("guest", 2)]) (N := n_weights_by_tables) (sc := defScope s_weights_by_tables) (by decide +kernel)) (fun _ _ _ _ _ => (pg_name (i := 2) sc_weights_by_tables.nd rfl (Or.inl rfl))) (fun _ _ _ _ _ => pts_nil) (fun _ _ _ _ _ => (pe_tup (pa_cons (pv 1) (pa_cons (pv 2) pa_nil))))) pa_nil)))), ?_⟩
    have lt := elt_R1 (te := tTup (tCons (tVar 1) (tCons (tVar 2) tNil))) (ta := tCons (tVar 0) tNil) (j := 2) (vs := [2]) (H := H) (σ := start n_weights_by_tables [.int (n : Int), .int x]) (n := (n : Int)) (fun i : Nat => twoV (x, (i : Int))) (ea_cons (ev_var (i := 0) rfl) ea_nil) ⟨by omega, by omega⟩ (fun _ => rfl) (fun i H1 e hi => eu_tup (ea_cons (ev_var rfl) (ea_cons (ev_var rfl) ea_nil)) (Nat.le_of_ble_eq_true rfl))
    have e : (List.range (n : Int).toNat).map (fun i : Nat => twoV (x, (i : Int))) = (facs x n).map twoV := by
      unfold facs
      rw [List.map_map]
      rfl
    rw [e] at lt
    refine s_retL (el_call1LT lt fun p ws H1 e1 h1 hw => sl_sums h1 hw (fok_facs hn hx0 hx1)) fun p H1 hp e1 h1 => k p H1 hp e1 ?_
    rw [sumsF_facs] at h1
    exact h1

local macro_rules | `(tactic| walk_at "callL") => `(tactic| ((with_reducible refine' sl_wbt ?c1 ?c2 ?c3); (case c1 => walk_at "side"); (case c2 => walk_at "side"); (case c3 => walk_at "side")))
/-- what tables_share gives -/
def shareT (n t : Nat) (w : Int) : List V := [.int ((stir n t : Int) * w ^ t / cd ((stir n t : Int) * w ^ t) (rise w n)), .int (rise w n / cd ((stir n t : Int) * w ^ t) (rise w n))]
def sp_tables_share : Sp := fun vs H Q _ => ∃ (n t : Nat) (w : Int), vs = [.int n, .int w, .int t] ∧ 1 ≤ n ∧ n ≤ 20 ∧ t ≤ n ∧ 1 ≤ w ∧ w ≤ 1000000000000 ∧ RetU (shareT n t w) H Q
theorem su_share {H : Hp} {n t : Nat} {w : Int} (h0 : 1 ≤ n) (h1 : n ≤ 20) (h2 : t ≤ n) (h3 : 1 ≤ w) (h4 : w ≤ 1000000000000) : SpU sp_tables_share ([.int (n : Int), .int w, .int (t : Int)] ++ []) H (shareT n t w) := fun H1 _ Q q E => ⟨n, t, w, rfl, h0, h1, h2, h3, h4, q⟩
theorem ok_tables_share (T : Tx K mg) : FnOk P w K mg base CX0 4 T.f_tables_share T.d_tables_share ["guests", "weight", "number"] sp_tables_share := by
  refine T.F_tables_share.ok sc_tables_share (fun vs H Q E h => ?_) (fun cdv A outer s H vs Q E hr h => ?_)
  · obtain ⟨n, t, x, rfl, _⟩ := h
    rfl
  · obtain ⟨n, t, x, rfl, hn0, hn, ht, hx0, hx1, k⟩ := h
    refine ⟨_, (pss_cons (ps_expr (pe_call (ok_check_guests T) (hr.mono (by decide)) (by rfl) T.g_check_guests T.F_check_guests.kp T.b_check_guests .nil pass0 (pa_cons (pv 0) pa_nil)))
      (pss_cons (ps_expr (pe_call (ok_check_weight T) (hr.mono (by decide)) (by rfl) T.g_check_weight T.F_check_weight.kp T.b_check_weight .nil pass0 (pa_cons (pv 1) pa_nil)))
      (pss_cons (ps_expr (pe_call (ok_check_number T) (hr.mono (by decide)) (by rfl) T.g_check_number T.F_check_number.kp T.b_check_number .nil pass0 (pa_cons (pv 2) (pa_cons pe_int (pa_cons (pv 0) pa_nil)))))
      (pss_one (ps_ret (pe_call (ok_fraction T) (hr.mono (by decide)) (by rfl) T.g_fraction T.F_fraction.kp T.b_fraction .nil pass0 (pa_cons (pe_ix ix_list (pe_call (ok_weights_by_tables T) (hr.mono (by decide)) (by rfl) T.g_weights_by_tables T.F_weights_by_tables.kp T.b_weights_by_tables .nil pass0 (pa_cons (pv 0) (pa_cons (pv 1) pa_nil))) (pv 2) (fun _ _ => rfl)) (pa_cons (pe_call (ok_rising T) (hr.mono (by decide)) (by rfl) T.g_rising T.F_rising.kp T.b_rising .nil pass0 (pa_cons (pv 1) (pa_cons (pv 0) pa_nil))) pa_nil)))))))), ?_⟩
    refine q_drop (by walk_at "ev") fun H1 e1 => ?_
    refine q_drop (by walk_at "ev") fun H2 e2 => ?_
    refine q_drop (by walk_at "ev") fun H3 e3 => ?_
    have hr0 := rise_pos hx0 n
    have hr1 : (rise x n).natAbs < 2 ^ 8000 := lt2_mono (lt_of_le2 (rise_le (by omega) n (by omega))) (by omega)
    have hg : ((sums x n).map V.int)[t]? = some (.int ((stir n t : Int) * x ^ t)) := by
      rw [List.getElem?_map, sums_get x n t ht]
      rfl
    have ev1 : Ev (tOp (rIxL K) (tCall sp_weights_by_tables [] E0 (tCons (tVar 0) (tCons (tVar 1) tNil))) (tVar 2)) [some (V.int n), some (.int x), some (.int t)] H3 (.int ((stir n t : Int) * x ^ t)) :=
      ev_opL1 (el_call (by walk_at "ea") (sl_wbt hn (by omega) (by omega))) (fun H4 e4 => ev_var rfl) fun p H4 hp e4 => rv_ixL (sq_of hp) (atI_nat hg)
    refine s_retU (eu_call (ea_cons ev1 (ea_cons (by walk_at "ev") ea_nil)) (su_fraction hr0 hr1)) fun p H4 hp e4 h4 => k p H4 (fresh_back (e1.trans (e2.trans e3)) hp) (e1.trans (e2.trans (e3.trans e4))) h4

end

section
variable {P : Program} {w : World} {K : PySem.W.Frag} {mg : Str → Option Value} {base : Heap}
def sp_by_tables : Sp := fun vs H Q _ => ∃ n : Nat, vs = [.int (n : Int)] ∧ 1 ≤ n ∧ n ≤ 20 ∧ RetL ((sums 1 n).map V.int) H Q
theorem sl_by_tables {H : Hp} {n : Nat} (h0 : 1 ≤ n) (h1 : n ≤ 20) : SpL sp_by_tables ([.int (n : Int)] ++ []) H ((sums 1 n).map V.int) := fun H1 _ Q q E => ⟨n, rfl, h0, h1, q⟩
theorem ok_by_tables (T : Tx K mg) : FnOk P w K mg base CX0 4 T.f_by_tables T.d_by_tables ["guests"] sp_by_tables := by
  refine T.F_by_tables.ok sc_by_tables (fun vs H Q E h => ?_) (fun cdv A outer s H vs Q E hr h => ?_)
  · obtain ⟨n, rfl, _⟩ := h
    rfl
  · obtain ⟨n, rfl, h0, h1, k⟩ := h
    refine ⟨_, (pss_cons (ps_expr (pe_call (ok_check_guests T) (hr.mono (by decide)) (by rfl) T.g_check_guests T.F_check_guests.kp T.b_check_guests .nil pass0 (pa_cons (pv 0) pa_nil)))
      (pss_one (ps_ret (pe_call (ok_weights_by_tables T) (hr.mono (by decide)) (by rfl) T.g_weights_by_tables T.F_weights_by_tables.kp T.b_weights_by_tables .nil pass0 (pa_cons (pv 0) (pa_cons pe_int pa_nil)))))), ?_⟩
    refine q_drop (ev_call (ea_cons (ev_var rfl) ea_nil) (sv_check1 (by omega) (by omega))) fun H1 e1 => ?_
    exact s_retL (el_call (ea_cons (ev_var rfl) (ea_cons ev_c ea_nil)) (sl_wbt h1 (by decide) (by decide))) fun p H2 hp e2 h2 => k p H2 (fresh_back e1 hp) (e1.trans e2) h2
end


local macro_rules | `(tactic| walk_at "call") => `(tactic| (with_reducible exact sv_whole))
local macro_rules | `(tactic| walk_at "call") => `(tactic| ((with_reducible refine' sv_order ?c1 ?c2); (case c1 => assumption); (case c2 => assumption)))
local macro_rules | `(tactic| walk_at "call") => `(tactic| ((with_reducible refine' sv_ord ?c1 ?c2); (case c1 => assumption); (case c2 => assumption)))

theorem nv_at {l : List Nat} {i : Nat} (h : i < l.length) : (nv l)[i]? = some (.int ((l.getD i 0 : Nat) : Int)) := nv_get (by
  rw [List.getD_eq_getElem?_getD, List.getElem?_eq_getElem h]
  rfl)

/-! ### _law_mixed, _law_entries -/
theorem q_parLL {σ : L2.St} {H : Hp} {ta tb : TE} {tz : TS} {D : Ends} {i j : Nat} {xs ys : List V} (ha : EvL ta σ H xs) (hb : EvL tb σ H ys) (k : ∀ p q H1, H p = none → H q = none → p ≠ q → Ex H H1 → H1 p = some (.lst xs) → H1 q = some (.lst ys) → tz D ((σ.set i (some (.ref p))).set j (some (.ref q))) H1) :
    tSeq (tPar i j (tCons ta (tCons tb tNil))) tz D σ H := ha H (Ex.refl H) _ fun p H1 hp e1 h1 => hb H1 e1 _ fun q H2 hq e2 h2 => ⟨_, _, rfl, k p q H2 hp (fresh_back e1 hq) (ne_of_none h1 hq) (e1.trans e2) (e2 p _ h1) h2⟩
theorem eqv_nil (xs : List V) (ns : List Int) : PyData.eqv (.list (ns.map PyData.int)) (.list []) = ns.isEmpty := by
  cases ns with
  | nil => decide
  | cons n l => rfl
theorem nv_erase (L : List Nat) (k : Nat) : (nv L).eraseIdx k = nv (L.eraseIdx k) := by
  rw [nv_eq, nv_eq, List.eraseIdx_eq_take_drop_succ, List.eraseIdx_eq_take_drop_succ, List.map_append, List.map_take, List.map_drop]
theorem shaped_nil : SeqAt.shaped (.list []) = true := by decide
theorem s_appE {K : PySem.W.Frag} {σ : L2.St} {H : Hp} {ta te : TE} {D : Ends} {l : Addr} {xs : List V} (hl : H l = some (.lst xs)) (ha : Ev ta σ H (.ref l)) (k : ∀ H1, Ex H H1 → te σ H1 fun v H2 => rAppend (.ref l) [v] H2 fun _ H3 => D.nx σ H3) : tDrop (tBM K "list" rAppend ta (tCons te tNil)) D σ H :=
  ha H (Ex.refl H) _ fun H1 e1 => ⟨Or.inl ⟨rfl, xs, sq_of (e1 l _ hl)⟩, k H1 e1⟩
theorem t_popAt {K : PySem.W.Frag} {σ : L2.St} {H : Hp} {ta te : TE} {Q : VK} {l : Addr} {xs : List V} (hl : H l = some (.lst xs)) (ha : Ev ta σ H (.ref l)) (k : ∀ H1, Ex H H1 → te σ H1 fun v H2 => rPopAt (.ref l) [v] H2 Q) : tBM K "list" rPopAt ta (tCons te tNil) σ H Q :=
  ha H (Ex.refl H) _ fun H1 e1 => ⟨Or.inl ⟨rfl, xs, sq_of (e1 l _ hl)⟩, k H1 e1⟩
theorem seq_at {j n : Nat} (h : j < n) : seqIndex? (j : Int) n = some j := by
  unfold seqIndex?
  have h1 : ¬ ((j : Int) < 0) := by omega
  have h2 : (0 : Int) ≤ j := by omega
  have h3 : (j : Int) < n := by omega
  simp [h1, h2, h3]
theorem erase_perm {L : List Nat} {j : Nat} (hj : j < L.length) : (L[j] :: L.eraseIdx j).Perm L := by
  have e2 : L.take j ++ L[j] :: L.drop (j + 1) = L := by rw [← List.drop_eq_getElem_cons hj, List.take_append_drop]
  rw [List.eraseIdx_eq_take_drop_succ]
  exact List.perm_middle.symm.trans (List.Perm.of_eq e2)

/-! ### orders -/
section
variable {K : PySem.W.Frag} {σ : L2.St} {H : Hp} {ta tb te : TE} {D : Ends} {tz : TS}
theorem et_lst {a : Addr} {xs : List V} (h : Ev ta σ H (.ref a)) (ha : H a = some (.lst xs)) : EvT (fun σ H Q => ta σ H fun x H' => ∃ k, TruV K x H' k ∧ Q k H') σ H (!xs.isEmpty) := fun H1 e Q q => h H1 e _ fun H2 e2 => ⟨_, Or.inl ⟨xs, sq_of (e2 a _ (e a _ ha)), rfl⟩, q H2 e2⟩
end
theorem fac_le20 {k : Nat} (h : k ≤ 20) : fac k < 2 ^ 64 := Nat.lt_of_le_of_lt (fac_mono h) fac20
def nthS : Nat → List Nat → Nat → List Nat
  | 0, _, _ => []
  | k + 1, free, i => free.getD (i / fac k) 0 :: nthS k (free.eraseIdx (i / fac k)) (i % fac k)
def sp_nth_seating : Sp := fun vs H Q _ => ∃ g i : Nat, vs = [.int (g : Int), .int (i : Int)] ∧ 1 ≤ g ∧ g ≤ 20 ∧ i < fac g ∧ RetL (nv (nthS g (List.range g) i)) H Q
theorem sl_nth_seating {H : Hp} {g i : Nat} (h0 : 1 ≤ g) (h1 : g ≤ 20) (h2 : i < fac g) : SpL sp_nth_seating ([.int (g : Int), .int (i : Int)] ++ []) H (nv (nthS g (List.range g) i)) := fun H1 _ Q q E => ⟨g, i, rfl, h0, h1, h2, q⟩
def fr (h : List Nat) : Nat → List Nat
  | 0 => List.range h.length
  | k + 1 => (fr h k).eraseIdx ((fr h k).idxOf (h.getD k 0))
def si (h : List Nat) : Nat → Nat
  | 0 => 0
  | k + 1 => si h k * (fr h k).length + (fr h k).idxOf (h.getD k 0)
theorem fr_perm {h : List Nat} (o : Ord h) : ∀ k, k ≤ h.length → (fr h k).Perm (h.drop k)
  | 0, _ => o.1.symm
  | k + 1, hk => by
    have ih := fr_perm o k (by omega)
    have hd : h.drop k = h.getD k 0 :: h.drop (k + 1) := by
      rw [List.drop_eq_getElem_cons (show k < h.length by omega), List.getD_eq_getElem?_getD, List.getElem?_eq_getElem (show k < h.length by omega)]
      rfl
    rw [hd] at ih
    have hm : h.getD k 0 ∈ fr h k := ih.mem_iff.mpr List.mem_cons_self
    have hlt := List.idxOf_lt_length_of_mem hm
    have ep := erase_perm hlt
    rw [List.getElem_idxOf hlt] at ep
    exact (ep.trans ih).cons_inv
theorem fr_len {h : List Nat} (o : Ord h) {k : Nat} (hk : k ≤ h.length) : (fr h k).length = h.length - k := by
  rw [(fr_perm o k hk).length_eq, List.length_drop]
theorem fr_mem {h : List Nat} (o : Ord h) {k : Nat} (hk : k < h.length) : h.getD k 0 ∈ fr h k := by
  refine (fr_perm o k (by omega)).mem_iff.mpr ?_
  rw [List.drop_eq_getElem_cons hk, List.getD_eq_getElem?_getD, List.getElem?_eq_getElem hk]
  exact List.mem_cons_self
theorem si_lt {h : List Nat} (o : Ord h) : ∀ k, k ≤ h.length → (si h k + 1) * fac (h.length - k) ≤ fac h.length
  | 0, _ => by
    show (0 + 1) * fac (h.length - 0) ≤ _
    rw [Nat.zero_add, Nat.one_mul, Nat.sub_zero]
    exact Nat.le_refl _
  | k + 1, hk => by
    have ih := si_lt o k (by omega)
    have hm := fr_mem o (show k < h.length by omega)
    have hlt := List.idxOf_lt_length_of_mem hm
    have hl := fr_len o (show k ≤ h.length by omega)
    obtain ⟨r, hr⟩ : ∃ r, h.length - k = r + 1 := ⟨h.length - k - 1, by omega⟩
    rw [hr] at ih hl
    rw [hl] at hlt
    rw [si, hl, show h.length - (k + 1) = r by omega]
    rw [fac_succ] at ih
    have a : si h k * (r + 1) + (fr h k).idxOf (h.getD k 0) + 1 ≤ (si h k + 1) * (r + 1) := by
      rw [Nat.add_mul, Nat.one_mul]
      omega
    refine Nat.le_trans (Nat.mul_le_mul_right _ a) (Nat.le_trans (Nat.le_of_eq ?_) ih)
    rw [Nat.mul_assoc, Nat.mul_comm (r + 1)]
theorem si_fac {h : List Nat} (o : Ord h) {k : Nat} (hk : k ≤ h.length) : si h k < fac h.length := by
  have a := si_lt o k hk
  have b := fac_pos (h.length - k)
  have := Nat.le_mul_of_pos_right (si h k + 1) b
  omega
def sp_seating_index : Sp := fun vs H Q _ => ∃ (a : Addr) (h : List Nat), vs = [.ref a] ∧ H a = some (.lst (nv h)) ∧ Ord h ∧ RetV (.int (si h h.length : Int)) H Q
theorem sv_seating_index {H : Hp} {a : Addr} {h : List Nat} (ha : H a = some (.lst (nv h))) (o : Ord h) : SpV sp_seating_index ([.ref a] ++ []) H (.int (si h h.length : Int)) := fun H1 e Q q E => ⟨a, h, rfl, e a _ ha, o, q⟩
section
variable {P : Program} {w : World} {K : PySem.W.Frag} {mg : Str → Option Value} {base : Heap}
theorem ok_nth_seating (T : Tx K mg) : FnOk P w K mg base CX0 5 T.f_nth_seating T.d_nth_seating ["guests", "index"] sp_nth_seating := by
  refine T.F_nth_seating.ok sc_nth_seating (fun vs H Q E h => ?_) (fun cdv A outer s H vs Q E hr h => ?_)
  · obtain ⟨g, i, rfl, _⟩ := h
    rfl
  · obtain ⟨g, i, rfl, h0, h1, h2, k⟩ := h
    refine ⟨_, (pss_cons (ps_expr (pe_call (ok_check_guests T) (hr.mono (by decide)) (by rfl) T.g_check_guests T.F_check_guests.kp T.b_check_guests .nil pass0 (pa_cons (pv 0) pa_nil)))
      (pss_cons (ps_expr (pe_call (ok_check_index T) (hr.mono (by decide)) (by rfl) T.g_check_index T.F_check_index.kp T.b_check_index .nil pass0 (pa_cons (pv 1) (pa_cons (pe_callBfun cr_factorial (by rfl) T.i_factorial (pa_cons (pv 0) pa_nil)) pa_nil))))
      (pss_cons (ps_set (i := 2) sc_nth_seating.nd rfl (Or.inl rfl) (pe_listRg rfl (by rfl) T.m_list (prg_1 (by rfl) T.m_range (pv 0))))
      (pss_cons (ps_set (i := 3) sc_nth_seating.nd rfl (Or.inl rfl) (pe_lst pa_nil))
      (pss_cons (ps_while PassesOwn.never (pt_truth (pv 2) (by intro _; rfl)) (pss_cons (ps_asg (pe_callB (id := "divmod") (r := rDivmod) call_divmodR (by rfl) T.m_divmod (by decide +kernel) (pa_cons (pv 1) (pa_cons (pe_callBfun cr_factorial (by rfl) T.i_factorial (pa_cons (pe_op op_sub (pe_callB call_lenR (by rfl) T.m_len (by decide +kernel) (pa_cons (pv 2) pa_nil)) pe_int) pa_nil)) pa_nil))) (pg_tup rfl (pgs_cons (pg_name (i := 4) sc_nth_seating.nd rfl (Or.inl rfl)) (pgs_cons (pg_name (i := 1) sc_nth_seating.nd rfl (Or.inl rfl)) pgs_nil))))
      (pss_one (ps_expr (pe_bm PySem.F.plainAttrs_list PySem.F.slot_list_append PySem.F.type_list_append mt_append (pv 3) (pa_cons (pe_bm PySem.F.plainAttrs_list PySem.F.slot_list_pop PySem.F.type_list_pop mt_popAt (pv 2) (pa_cons (pv 4) pa_nil)) pa_nil))))))
      (pss_one (ps_ret (pv 3)))))))), ?_⟩
    refine q_drop (ev_call (ea_cons (ev_var rfl) ea_nil) (sv_check1 (by omega) (by omega))) fun H1 e1 => ?_
    refine q_drop (ev_call (ea_cons (ev_var rfl) (ea_cons (ev_fac (ev_var rfl) (by omega)) ea_nil)) (sv_check_index (by omega) (by omega))) fun H2 e2 => ?_
    refine q_asgL (xs := nv (List.range g)) ?_ fun a H3 na e3 h3 => ?_
    · have q := el_rg1 (σ := start n_nth_seating [.int (g : Int), .int (i : Int)]) (H := H2) (tb := tVar 0) (b := (g : Int)) (ev_var rfl) (RgOk.of_le (by decide) (by omega) (by decide) (by omega))
      rw [range_iz] at q
      exact q
    refine q_asgL (xs := nv []) (el_lst ea_nil (Nat.le_of_ble_eq_true rfl)) fun b H4 nb e4 h4 => ?_
    have na0 := fresh_back (e1.trans e2) na
    have nb0 := fresh_back (e1.trans (e2.trans e3)) nb
    have ab : a ≠ b := ne_of_none h3 nb
    refine q_while (fun m σ' H' => ∃ (L F : List Nat) (x : Nat) (y4 : Option V), σ' = [some (.int (g : Int)), some (.int (x : Int)), some (.ref a), some (.ref b), y4] ∧ H' a = some (.lst (nv L)) ∧ H' b = some (.lst (nv F)) ∧ Ex H H' ∧ L.length = m ∧ F.length + m = g ∧ x < fac m ∧ F ++ nthS m L x = nthS g (List.range g) i) g
      ⟨List.range g, [], i, none, rfl, e4 a _ h3, h4, e1.trans (e2.trans (e3.trans e4)), List.length_range, by simp, h2, rfl⟩ ?_
    rintro m σ' H' ⟨L, F, x, y4, rfl, hL, hF, e, hm, hfm, hx, hr⟩
    refine ⟨!(nv L).isEmpty, et_lst (ev_var rfl) hL, fun hb H5 e5 => ?_, fun hb H5 e5 => ?_⟩
    · obtain ⟨m', rfl⟩ : ∃ m', m = m' + 1 := by
        cases m with
        | zero =>
          rw [List.length_eq_zero_iff.mp hm] at hb
          cases hb
        | succ m' => exact ⟨m', rfl⟩
      have f64 := fac_le20 (show m' ≤ 20 by omega)
      have fp := fac_pos m'
      have hq : x / fac m' < m' + 1 := (Nat.div_lt_iff_lt_mul fp).mpr (by rw [fac_succ, Nat.mul_comm] at hx; exact hx)
      rw [nthS] at hr
      generalize hqv : x / fac m' = qv at hq hr
      refine ⟨_, fun σ2 H2 h => ⟨m', by omega, h⟩, ?_⟩
      have hL5 := e5 a _ hL
      have ln : ∀ (y : Option V), Ev (tOp (rI0 fun i j => .int (i - j)) (tCB (rLenS K) (tCons (tVar 2) tNil)) (tC (.int 1))) [some (.int (g : Int)), some (.int (x : Int)), some (.ref a), some (.ref b), y] H5 (.int ((m' : Nat) : Int)) := fun y => by
        have := ev_len (K := K) (ta := tVar 2) (σ := [some (.int (g : Int)), some (.int (x : Int)), some (.ref a), some (.ref b), y]) (ev_var (i := 2) rfl) (sq_of hL5)
        rw [nv_len, hm] at this
        exact ev_is (ev_op this ev_c rv_I0) (congrArg V.int (by omega))
      have dm := eu_divmod (a := x) (b := fac m') (σ := [some (.int (g : Int)), some (.int (x : Int)), some (.ref a), some (.ref b), y4]) (H := H5) (ta := tVar 1) (ev_var (i := 1) rfl) (ev_fac (ln y4) (by omega)) fp (Nat.lt_trans f64 (Nat.pow_lt_pow_right (by decide) (by decide)))
      rw [hqv] at dm
      refine q_tup2U (K := K) dm fun H6 e6 => ?_
      have hL6 := e6 a _ hL5
      have hF6 := e6 b _ (e5 b _ hF)
      refine s_appE hF6 (ev_var rfl) fun H7 e7 => ?_
      refine t_popAt (e7 a _ hL6) (ev_var rfl) fun H8 e8 => ?_
      refine (ev_var (i := 4) (v := .int ((qv : Nat) : Int)) rfl) H8 (Ex.refl _) _ fun H9 e9 => ?_
      have hL9 := e9 a _ (e8 a _ (e7 a _ hL6))
      have hF9 := e9 b _ (e8 b _ (e7 b _ hF6))
      have hj : qv < L.length := by omega
      refine ⟨a, nv L, _, qv, _, rfl, rfl, hL9, by omega, by omega, by rw [nv_len]; exact seq_at hj, nv_at hj, b, nv F, _, rfl, rfl, ?_, sz_lt (by rw [nv_len]; omega), ?_⟩
      · rw [upd_ne ab.symm]
        exact hF9
      · refine ⟨L.eraseIdx (qv), F ++ [L.getD (qv) 0], x % fac m', _, rfl, ?_, ?_, ?_, ?_, ?_, Nat.mod_lt _ fp, ?_⟩
        · rw [upd_ne ab, upd_same, nv_erase]
        · rw [upd_same, nv_app]
          rfl
        · exact Ex.mut (Ex.mut (e.trans (e5.trans (e6.trans (e7.trans (e8.trans e9))))) na0) nb0
        · rw [List.length_eraseIdx_of_lt hj]
          omega
        · rw [List.length_append, List.length_cons, List.length_nil]
          omega
        · rw [List.append_assoc]
          exact hr
    · have m0 : m = 0 := by
        cases L with
        | nil => exact hm.symm
        | cons z l => simp [nv, iz] at hb
      subst m0
      rw [nthS, List.append_nil] at hr
      subst hr
      exact s_ret (ev_var rfl) fun H6 e6 => k b H6 nb0 (e.trans (e5.trans e6)) (e6 b _ (e5 b _ hF))
end
def siL : List Nat → List Nat → Nat → Nat
  | [], _, a => a
  | x :: h, L, a => siL h (L.eraseIdx (L.idxOf x)) (a * L.length + L.idxOf x)
theorem siL_nthS : ∀ (k : Nat) (L : List Nat) (i a : Nat), L.Nodup → L.length = k → i < fac k → siL (nthS k L i) L a = a * fac k + i
  | 0, L, i, a, _, _, h => by
    have : fac 0 = 1 := by decide +kernel
    show a = a * fac 0 + i
    rw [this]
    omega
  | k + 1, L, i, a, nd, hl, h => by
    have fp := fac_pos k
    rw [fac_succ] at h
    have hq : i / fac k < L.length := by
      rw [hl]
      exact (Nat.div_lt_iff_lt_mul fp).mpr (by rw [Nat.mul_comm]; exact h)
    have hx : L.getD (i / fac k) 0 = L[i / fac k] := by rw [List.getD_eq_getElem?_getD, List.getElem?_eq_getElem hq]; rfl
    rw [nthS, siL, hx, List.Nodup.idxOf_getElem nd _ hq, siL_nthS k _ _ _ (nd.sublist (List.eraseIdx_sublist _ _)) (by rw [List.length_eraseIdx_of_lt hq]; omega) (Nat.mod_lt _ fp), hl, fac_succ]
    have := Nat.div_add_mod i (fac k)
    grind
theorem si_siL {h : List Nat} : ∀ j, j ≤ h.length → siL (h.drop j) (fr h j) (si h j) = siL h (List.range h.length) 0
  | 0, _ => rfl
  | j + 1, hj => by
    rw [← si_siL j (by omega), List.drop_eq_getElem_cons (show j < h.length by omega), siL]
    have e : h.getD j 0 = h[j] := by rw [List.getD_eq_getElem?_getD, List.getElem?_eq_getElem (show j < h.length by omega)]; rfl
    rw [fr, si, e]
theorem nthS_len : ∀ (k : Nat) (L : List Nat) (i : Nat), (nthS k L i).length = k
  | 0, _, _ => rfl
  | k + 1, L, i => by rw [nthS, List.length_cons, nthS_len k]
theorem si_nthS {g i : Nat} (h : i < fac g) : si (nthS g (List.range g) i) g = i := by
  have a := si_siL (h := nthS g (List.range g) i) g (by rw [nthS_len]; exact Nat.le_refl _)
  rw [List.drop_eq_nil_of_le (by rw [nthS_len]; exact Nat.le_refl _), nthS_len, siL, siL_nthS g _ i 0 List.nodup_range List.length_range h, Nat.zero_mul, Nat.zero_add] at a
  exact a
theorem nthS_perm : ∀ (k : Nat) (L : List Nat) (i : Nat), L.length = k → i < fac k → (nthS k L i).Perm L
  | 0, L, i, hl, _ => by
    rw [List.length_eq_zero_iff.mp hl]
    exact List.Perm.refl _
  | k + 1, L, i, hl, h => by
    have fp := fac_pos k
    rw [fac_succ] at h
    have hq : i / fac k < L.length := by
      rw [hl]
      exact (Nat.div_lt_iff_lt_mul fp).mpr (by rw [Nat.mul_comm]; exact h)
    have hx : L.getD (i / fac k) 0 = L[i / fac k] := by rw [List.getD_eq_getElem?_getD, List.getElem?_eq_getElem hq]; rfl
    rw [nthS, hx]
    exact (List.Perm.cons _ (nthS_perm k _ _ (by rw [List.length_eraseIdx_of_lt hq]; omega) (Nat.mod_lt _ fp))).trans (erase_perm hq)
theorem ord_nthS {g i : Nat} (h1 : 1 ≤ g) (h2 : g ≤ 20) (h : i < fac g) : Ord (nthS g (List.range g) i) := by
  refine ⟨?_, by rw [nthS_len]; exact h1, by rw [nthS_len]; exact h2⟩
  rw [nthS_len]
  exact nthS_perm g _ i List.length_range h
theorem siL_add : ∀ (h L : List Nat) (a : Nat), h.length = L.length → (∀ x ∈ h, x ∈ L) → h.Nodup → siL h L a = a * fac h.length + siL h L 0
  | [], _, a, _, _, _ => by
    have : fac 0 = 1 := by decide +kernel
    show a = a * fac 0 + 0
    rw [this]
    omega
  | x :: h, L, a, hl, hm, nd => by
    have xm := hm x List.mem_cons_self
    have hlt := List.idxOf_lt_length_of_mem xm
    have le : (L.eraseIdx (L.idxOf x)).length = h.length := by
      rw [List.length_eraseIdx_of_lt hlt]
      rw [List.length_cons] at hl
      omega
    have nx : x ∉ h := (List.nodup_cons.mp nd).1
    have me : ∀ y ∈ h, y ∈ L.eraseIdx (L.idxOf x) := fun y hy => by
      have ep := erase_perm hlt
      rw [List.getElem_idxOf hlt] at ep
      have := ep.mem_iff.mpr (hm y (List.mem_cons_of_mem _ hy))
      rcases List.mem_cons.mp this with z | z
      · rw [z] at hy
        exact absurd hy nx
      · exact z
    rw [siL, siL, siL_add h _ (a * L.length + L.idxOf x) le.symm me (List.nodup_cons.mp nd).2, siL_add h _ (0 * L.length + L.idxOf x) le.symm me (List.nodup_cons.mp nd).2, List.length_cons, fac_succ, ← hl, List.length_cons]
    grind
theorem nthS_siL : ∀ (h L : List Nat), h.length = L.length → (∀ x ∈ h, x ∈ L) → h.Nodup → siL h L 0 < fac h.length ∧ nthS h.length L (siL h L 0) = h
  | [], _, _, _, _ => by
    refine ⟨?_, rfl⟩
    show 0 < fac 0
    decide +kernel
  | x :: h, L, hl, hm, nd => by
    have xm := hm x List.mem_cons_self
    have hlt := List.idxOf_lt_length_of_mem xm
    have le : (L.eraseIdx (L.idxOf x)).length = h.length := by
      rw [List.length_eraseIdx_of_lt hlt]
      rw [List.length_cons] at hl
      omega
    have nx : x ∉ h := (List.nodup_cons.mp nd).1
    have me : ∀ y ∈ h, y ∈ L.eraseIdx (L.idxOf x) := fun y hy => by
      have ep := erase_perm hlt
      rw [List.getElem_idxOf hlt] at ep
      have := ep.mem_iff.mpr (hm y (List.mem_cons_of_mem _ hy))
      rcases List.mem_cons.mp this with z | z
      · rw [z] at hy
        exact absurd hy nx
      · exact z
    obtain ⟨i1, i2⟩ := nthS_siL h _ le.symm me (List.nodup_cons.mp nd).2
    have e : siL (x :: h) L 0 = L.idxOf x * fac h.length + siL h (L.eraseIdx (L.idxOf x)) 0 := by
      rw [siL, siL_add h _ _ le.symm me (List.nodup_cons.mp nd).2, Nat.zero_mul, Nat.zero_add]
    have fp := fac_pos h.length
    have d : (L.idxOf x * fac h.length + siL h (L.eraseIdx (L.idxOf x)) 0) / fac h.length = L.idxOf x := by
      rw [Nat.add_comm, Nat.add_mul_div_right _ _ fp, Nat.div_eq_of_lt i1, Nat.zero_add]
    have m : (L.idxOf x * fac h.length + siL h (L.eraseIdx (L.idxOf x)) 0) % fac h.length = siL h (L.eraseIdx (L.idxOf x)) 0 := by
      rw [Nat.add_comm, Nat.add_mul_mod_self_right, Nat.mod_eq_of_lt i1]
    constructor
    · rw [e, List.length_cons, fac_succ, Nat.mul_comm (fac h.length)]
      have : (L.idxOf x + 1) * fac h.length ≤ (h.length + 1) * fac h.length := Nat.mul_le_mul_right _ (by rw [List.length_cons] at hl; omega)
      rw [Nat.add_mul, Nat.one_mul] at this
      omega
    · rw [e, List.length_cons, nthS, d, m, i2, List.getD_eq_getElem?_getD, List.getElem?_eq_getElem hlt]
      show L[L.idxOf x] :: h = x :: h
      rw [List.getElem_idxOf hlt]
theorem nthS_si {h : List Nat} (o : Ord h) : nthS h.length (List.range h.length) (si h h.length) = h := by
  have a := si_siL (h := h) h.length (Nat.le_refl _)
  rw [List.drop_eq_nil_of_le (Nat.le_refl _), siL] at a
  rw [a]
  have nd : h.Nodup := o.1.nodup_iff.mpr List.nodup_range
  exact (nthS_siL h (List.range h.length) List.length_range.symm (fun x hx => o.1.mem_iff.mp hx) nd).2


local macro_rules | `(tactic| walk_at "call") => `(tactic| (with_reducible exact sv_whole))
local macro_rules | `(tactic| walk_at "call") => `(tactic| ((with_reducible refine' sv_ord ?c1 ?c2); (case c1 => assumption); (case c2 => assumption)))

local macro_rules | `(tactic| walk_at "call") => `(tactic| ((with_reducible refine' sv_pow ?c1 ?c2 ?c3); (case c1 => walk_at "side"); (case c2 => walk_at "side"); (case c3 => walk_at "side")))
local macro_rules | `(tactic| walk_at "call") => `(tactic| ((with_reducible refine' sv_rise ?c1 ?c2); (case c1 => walk_at "side"); (case c2 => walk_at "side")))
local macro_rules | `(tactic| walk_at "call") => `(tactic| (with_reducible exact sv_between))
local macro_rules | `(tactic| walk_at "call") => `(tactic| ((with_reducible refine' sv_check1 ?c1 ?c2); (case c1 => walk_at "side"); (case c2 => walk_at "side")))
local macro_rules | `(tactic| walk_at "call") => `(tactic| ((with_reducible refine' sv_check_number ?c1 ?c2); (case c1 => walk_at "side"); (case c2 => walk_at "side")))
local macro_rules | `(tactic| walk_at "callU") => `(tactic| ((with_reducible refine' su_fraction ?c1 ?c2); (case c1 => walk_at "side"); (case c2 => walk_at "side")))

local macro_rules | `(tactic| walk_at "callL") => `(tactic| ((with_reducible refine' sl_wbt ?c1 ?c2 ?c3); (case c1 => walk_at "side"); (case c2 => walk_at "side"); (case c3 => walk_at "side")))
local macro_rules | `(tactic| walk_at "callU") => `(tactic| ((with_reducible refine' su_share ?c1 ?c2 ?c3 ?c4 ?c5); (case c1 => walk_at "side"); (case c2 => walk_at "side"); (case c3 => walk_at "side"); (case c4 => walk_at "side"); (case c5 => walk_at "side")))


def Lb (H : Hp) (v : V) (r : List Nat) : Prop := ∃ b, v = .ref b ∧ H b = some (.lst (nv r))
theorem Lb.ex {H H' : Hp} {v : V} {r : List Nat} (e : Ex H H') (h : Lb H v r) : Lb H' v r := by
  obtain ⟨b, rfl, h⟩ := h
  exact ⟨b, rfl, e b _ h⟩

/-! ### _law_cut -/
def EvLB (te : TE) (σ : L2.St) (H : Hp) (rs : List (List Nat)) : Prop := ∀ H1, Ex H H1 → ∀ Q : VK, (∀ p vs H2, H1 p = none → Ex H1 H2 → H2 p = some (.lst vs) → Paired (Lb H2) vs rs → Q (.ref p) H2) → te σ H1 Q
theorem s_retLB {te : TE} {σ : L2.St} {H : Hp} {D : Ends} {rs : List (List Nat)} (h : EvLB te σ H rs) (k : ∀ p vs H1, H p = none → Ex H H1 → H1 p = some (.lst vs) → Paired (Lb H1) vs rs → D.rt (.ref p) H1) : tRet te D σ H := h H (Ex.refl H) _ k
def Lc (Dl : Addr) (H : Hp) (v : V) (r : List Nat) : Prop := ∃ b, v = .ref b ∧ b ≠ Dl ∧ H b = some (.lst (nv r))
theorem Lc.ex {Dl : Addr} {H H' : Hp} {v : V} {r : List Nat} (e : Ex H H') (h : Lc Dl H v r) : Lc Dl H' v r := by
  obtain ⟨b, rfl, n, h⟩ := h
  exact ⟨b, rfl, n, e b _ h⟩
theorem Lc.upd {Dl : Addr} {H : Hp} {o : HO} {v : V} {r : List Nat} (h : Lc Dl H v r) : Lc Dl (upd H Dl o) v r := by
  obtain ⟨b, rfl, n, h⟩ := h
  exact ⟨b, rfl, n, by rw [upd_ne n]; exact h⟩
theorem Lc.lb {Dl : Addr} {H : Hp} {v : V} {r : List Nat} (h : Lc Dl H v r) : Lb H v r := by
  obtain ⟨b, rfl, n, h⟩ := h
  exact ⟨b, rfl, h⟩

/-! ### _law_right: rules -/
theorem LL.lb {H0 H : Hp} {p : Addr} {bs : List Addr} {rs : List (List Nat)} (L : LL H0 p H bs rs) : Paired (Lb H) (bs.map V.ref) rs := by
  have : ∀ (bs : List Addr) (rs : List (List Nat)), bs.length = rs.length → (∀ (i : Nat) (b : Addr) (r : List Nat), bs[i]? = some b → rs[i]? = some r → H b = some (.lst (nv r))) → Paired (Lb H) (bs.map V.ref) rs := fun bs => by
    induction bs with
    | nil =>
      intro rs hl _
      cases rs with
      | nil => exact .nil
      | cons r l => simp at hl
    | cons b bs ih =>
      intro rs hl ha
      cases rs with
      | nil => simp at hl
      | cons r l => exact .cons ⟨b, rfl, ha 0 b r rfl rfl⟩ (ih l (by simpa using hl) fun i c s h1 h2 => ha (i + 1) c s (by simpa using h1) (by simpa using h2))
  exact this bs rs L.len L.at_
theorem LL.weak {H0 H1 H : Hp} {p : Addr} {bs : List Addr} {rs : List (List Nat)} (L : LL H1 p H bs rs) (e : Ex H0 H1) : LL H0 p H bs rs := ⟨L.self, L.nd, L.np, fresh_back e L.fp, fun b hb => fresh_back e (L.fr b hb), L.len, L.at_⟩
def di (r : List Nat) : PyData := .list ((iz r).map PyData.int)
def dt (r : List Nat) : PyData := .tuple ((iz r).map PyData.int)
theorem canLay_ints : ∀ ms : List Int, PyData.canLayAll0 (ms.map PyData.int) = true
  | [] => rfl
  | m :: r => by simp [PyData.canLayAll0, PyData.canLay0, canLay_ints r]
theorem depth_ints : ∀ ms : List Int, PyData.depthAll (ms.map PyData.int) = 0
  | [] => rfl
  | m :: r => by simp [PyData.depthAll, PyData.depth, depth_ints r]
theorem canLay_dts : ∀ rs : List (List Nat), PyData.canLayAll0 (rs.map dt) = true
  | [] => rfl
  | m :: r => by simp [PyData.canLayAll0, PyData.canLay0, dt, canLay_ints, canLay_dts r]
theorem depth_dts : ∀ rs : List (List Nat), PyData.depthAll (rs.map dt) ≤ 1
  | [] => by simp [PyData.depthAll]
  | m :: r => by
    have := depth_dts r
    simp [PyData.depthAll, PyData.depth, dt, depth_ints]
    omega
theorem shaped_two (r s : List Nat) : SeqAt.shaped (.list [di r, di s]) = true := by
  simp [SeqAt.shaped, PyData.canLay0, PyData.canLayAll0, di, canLay_ints, PyData.depth, PyData.depthAll, depth_ints]
theorem shaped_kept (r : List Nat) (rs : List (List Nat)) : SeqAt.shaped (.list [di r, .list (rs.map dt)]) = true := by
  have := depth_dts rs
  simp [SeqAt.shaped, PyData.canLay0, PyData.canLayAll0, di, canLay_ints, canLay_dts, PyData.depth, PyData.depthAll, depth_ints]
  omega
theorem shaped_di (r : List Nat) : SeqAt.shaped (di r) = true := shaped_ints _
section
variable {K : PySem.W.Frag} {σ : L2.St} {H H' : Hp} {ta tb te : TE} {D : Ends} {tz : TS}
theorem dpa_nv (r : List Nat) : DpAll K H (nv r) ((iz r).map PyData.int) := dpa_ints _
theorem dpa_TL : ∀ {ws : List V} {rs : List (List Nat)}, TL H ws (rs.map nv) → DpAll K H ws (rs.map dt)
  | [], [], _ => .nil
  | _ :: _, r :: _, .cons ⟨b, e, h⟩ t => by
    subst e
    exact .cons (.tup (st_of h) (dpa_nv r)) (dpa_TL t)
theorem dp_L {a : Addr} {r : List Nat} (h : H a = some (.lst (nv r))) : Dp K H (.ref a) (di r) := .lst (sq_of h) (dpa_nv r)
theorem ed_L {r : List Nat} (h : EvL te σ H (nv r)) : EvD K te σ H (di r) := ed_ofL h (dpa_nv r)
theorem ed_two {r s : List Nat} (h : EvD K ta σ H (di r)) (h2 : EvD K tb σ H (di s)) : EvD K (tLst (tCons ta (tCons tb tNil))) σ H (.list [di r, di s]) := ed_lst (eda_cons h (eda_cons h2 eda_nil)) (Nat.le_of_ble_eq_true rfl)
theorem el_callK {sp : Sp} {gV : List V → List V → List V} {E : XK} {t tk : TA} {vs zs xs : List V} (h : EvA t σ H vs) (hk : EvA tk σ H zs) (hs : SpL sp (gV vs zs) H xs) : EvL (tCallK sp gV E t tk) σ H xs := fun H1 e Q q =>
  h H1 e _ fun H2 e2 => hk H2 (e.trans e2) _ fun H3 e3 => hs H3 ((e.trans e2).trans e3) Q (fun l H4 hl e4 h4 => q l H4 (fresh_back (e2.trans e3) hl) ((e2.trans e3).trans e4) h4) E
theorem el_catV {a b : Addr} {xs ys : List V} (h : Ev ta σ H (.ref a)) (h2 : Ev tb σ H (.ref b)) (ha : H a = some (.lst xs)) (hb : H b = some (.lst ys)) (hl : xs.length + ys.length ≤ 100000) : EvL (tOp rCat ta tb) σ H (xs ++ ys) := fun H1 e Q q =>
  h H1 e _ fun H2 e2 => h2 H2 (e.trans e2) _ fun H3 e3 => ⟨a, b, xs, ys, rfl, rfl, e3 a _ (e2 a _ (e a _ ha)), e3 b _ (e2 b _ (e b _ hb)), sz_of hl, fun l hl => q l _ (fresh_back (e2.trans e3) hl) ((e2.trans e3).trans (Ex.new hl)) upd_same⟩
theorem q_parLLT {i j : Nat} {xs : List V} {rs : List (List V)} (h : EvL ta σ H xs) (h2 : EvLT tb σ H rs) (k : ∀ p q ws H1, H p = none → H q = none → Ex H H1 → H1 p = some (.lst xs) → H1 q = some (.lst ws) → TL H1 ws rs → tz D ((σ.set i (some (.ref p))).set j (some (.ref q))) H1) :
    tSeq (tPar i j (tCons ta (tCons tb tNil))) tz D σ H := h H (Ex.refl H) _ fun p H1 hp e1 h1 => h2 H1 e1 _ fun q ws H2 hq e2 h3 ht => ⟨_, _, rfl, k p q ws H2 hp (fresh_back e1 hq) (e1.trans e2) (e2 p _ h1) h3 ht⟩
theorem q_parDL {i j : Nat} {d : PyData} {ys : List V} (h : EvD K ta σ H d) (h2 : EvL tb σ H ys) (k : ∀ v q H1, H q = none → Ex H H1 → Dp K H1 v d → H1 q = some (.lst ys) → tz D ((σ.set i (some v)).set j (some (.ref q))) H1) :
    tSeq (tPar i j (tCons ta (tCons tb tNil))) tz D σ H := h H (Ex.refl H) _ fun v H1 e1 h1 => h2 H1 e1 _ fun q H2 hq e2 h3 => ⟨_, _, rfl, k v q H2 (fresh_back e1 hq) (e1.trans e2) (Dp.ex e2 d v h1) h3⟩
/-- a call whose argument is a new list of new lists -/
theorem el_call1LB {sp : Sp} {dvs ys : List V} {rs : List (List Nat)} {E : XK} (h : EvLB te σ H rs) (hs : ∀ p ws H1, Ex H H1 → H1 p = some (.lst ws) → Paired (Lb H1) ws rs → SpL sp ([.ref p] ++ dvs) H1 ys) : EvL (tCall sp dvs E (tCons te tNil)) σ H ys := fun H1 e Q q =>
  h H1 e _ fun p ws H2 _ e2 h2 hw => hs p ws H2 (e.trans e2) h2 hw H2 (Ex.refl _) Q (fun l H3 hl e3 h3 => q l H3 (fresh_back e2 hl) (e2.trans e3) h3) E
/-- [[..] for r in rs], rs an old list of lists -/
theorem elb_map {a : Addr} {ws : List V} {rs : List (List Nat)} {j : Nat} {vs : List Nat} (F : List Nat → List Nat) (h : Ev ta σ H (.ref a)) (ha : H a = some (.lst ws)) (hr : Paired (Lb H) ws rs) (hz : ws.length ≤ 40000) (hw : ∀ x, wipe ((wipe σ vs).set j (some x)) vs = wipe σ vs)
    (he : ∀ (b : Addr) (r : List Nat) H1, Ex H H1 → r ∈ rs → H1 b = some (.lst (nv r)) → EvL te ((wipe σ vs).set j (some (.ref b))) H1 (nv (F r))) : EvLB (tLc (iList K ta) (gName j) tYes te vs) σ H (rs.map F) := fun H0 e Q q => h H0 e _ fun H1 e1 => ⟨a, rfl, ⟨ws, sq_of (e1 a _ (e a _ ha))⟩, fun Dl hD =>
  lc_list (xs := ws) (fun i H' => Ex H1 H' ∧ ∃ us, H' Dl = some (.lst us) ∧ Paired (Lc Dl H') us ((rs.map F).take i)) ⟨Ex.new hD, [], upd_same, .nil⟩ (fun i H' _ p => sq_of (p.1 a _ (e1 a _ (e a _ ha)))) (fun i x H' hi p => by
    obtain ⟨p1, us, p2, p3⟩ := p
    obtain ⟨r, hr1, b, rfl, hb⟩ := paired_get hr hi
    have hl := Paired.length hr
    have hil := (List.getElem?_eq_some_iff.mp hi).1
    have ul : us.length = i := by
      have := Paired.length p3
      rw [List.length_take, List.length_map] at this
      omega
    show wipe ((wipe σ vs).set j (some (.ref b))) vs = wipe σ vs ∧ te ((wipe σ vs).set j (some (.ref b))) H' fun y H4 => ∃ acc, H4 Dl = some (.lst acc) ∧ acc.length < sizeLine ∧ _
    refine ⟨hw _, he b r H1 (e.trans e1) (List.mem_of_getElem? hr1) (e1 b _ (e b _ hb)) H' p1 _ fun l H4 hl4 e4 h4 => ?_⟩
    have lD : l ≠ Dl := fun z => by
      subst z
      rw [hl4] at p2
      cases p2
    refine ⟨us, e4 Dl _ p2, sz_lt (by omega), Ex.mut (p1.trans e4) hD, _, upd_same, ?_⟩
    have gz : (rs.map F)[i]? = some (F r) := by rw [List.getElem?_map, hr1]; rfl
    rw [List.take_add_one, gz]
    exact Paired.snoc (paired_imp (fun _ _ z => (z.ex e4).upd) p3) ⟨l, rfl, lD, by rw [upd_ne lD]; exact h4⟩) (fun H' p => by
      obtain ⟨p1, us, p2, p3⟩ := p
      rw [List.take_of_length_le (by rw [List.length_map]; have := Paired.length hr; omega)] at p3
      exact q Dl us H' (fresh_back e1 hD) (e1.trans p1) p2 (paired_imp (fun _ _ z => z.lb) p3))⟩
end

/-! ### the law: constants -/
def rgB (h r : List Nat) : Bool := decide (0 < r.length) && decide r.Nodup && (List.range r.length).all fun i => match r[i]?, r[(i + 1) % r.length]? with
  | some x, some y => h[x]? == some y
  | _, _ => false
theorem rg_of {h r : List Nat} (e : rgB h r = true) : Rg h r := by
  unfold rgB at e
  rw [Bool.and_eq_true, Bool.and_eq_true, decide_eq_true_iff, decide_eq_true_iff, List.all_eq_true] at e
  refine ⟨e.1.1, e.1.2, fun i hi => ?_⟩
  have := e.2 i (List.mem_range.mpr hi)
  cases h1 : r[i]? with
  | none => rw [h1] at this; cases this
  | some x =>
    cases h2 : r[(i + 1) % r.length]? with
    | none => rw [h1, h2] at this; cases this
    | some y =>
      rw [h1, h2] at this
      exact ⟨x, y, rfl, rfl, eq_of_beq this⟩
def ringsB (h : List Nat) (rs : List (List Nat)) : Bool := (rs.all fun r => rgB h r && leads r) && decide ((rs.map (·.headD 0)).Pairwise (· < ·)) && rs.flatten.isPerm (List.range h.length)
theorem rings_of {h : List Nat} {rs : List (List Nat)} (e : ringsB h rs = true) : Rings h rs := by
  unfold ringsB at e
  rw [Bool.and_eq_true, Bool.and_eq_true, decide_eq_true_iff, List.all_eq_true] at e
  refine ⟨fun r hr => ?_, fun r hr => ?_, e.1.2, List.isPerm_iff.mp e.2⟩
  · exact rg_of (Bool.and_eq_true_iff.mp (e.1.1 r hr)).1
  · exact of_decide_eq_true (Bool.and_eq_true_iff.mp (e.1.1 r hr)).2
def ordB (h : List Nat) : Bool := h.isPerm (List.range h.length) && decide (1 ≤ h.length) && decide (h.length ≤ 20)
theorem ord_of {h : List Nat} (e : ordB h = true) : Ord h := by
  unfold ordB at e
  rw [Bool.and_eq_true, Bool.and_eq_true, decide_eq_true_iff, decide_eq_true_iff] at e
  exact ⟨List.isPerm_iff.mp e.1.1, e.1.2, e.2⟩
def EvLBA (ta : TA) (σ : L2.St) (H : Hp) (rs : List (List Nat)) : Prop := ∀ H1, Ex H H1 → ∀ Q : List V → Hp → Prop, (∀ vs H2, Ex H1 H2 → Paired (Lb H2) vs rs → Q vs H2) → ta σ H1 Q
def EvLTA (ta : TA) (σ : L2.St) (H : Hp) (rs : List (List V)) : Prop := ∀ H1, Ex H H1 → ∀ Q : List V → Hp → Prop, (∀ vs H2, Ex H1 H2 → TL H2 vs rs → Q vs H2) → ta σ H1 Q
section
variable {K : PySem.W.Frag} {σ : L2.St} {H H' : Hp} {ta tb tc te : TE} {tr : TA} {D : Ends} {tz : TS} {r : List Nat} {rs ss : List (List Nat)}
theorem lba_nil : EvLBA tNil σ H [] := fun H1 _ _ q => q [] H1 (Ex.refl _) .nil
theorem lba_cons (h : EvL te σ H (nv r)) (hr : EvLBA tr σ H rs) : EvLBA (tCons te tr) σ H (r :: rs) := fun H1 e _ q => h H1 e _ fun p H2 _ e2 h2 => hr H2 (e.trans e2) _ fun vs H3 e3 hv => q _ H3 (e2.trans e3) (.cons ⟨p, rfl, e3 p _ h2⟩ hv)
theorem elb_lst (h : EvLBA tr σ H rs) (hl : rs.length ≤ 1000) : EvLB (tLst tr) σ H rs := fun H1 e Q q => h H1 e _ fun vs H2 e2 hv => ⟨sz_of (by have := Paired.length hv; omega), fun l hl => q l vs _ (fresh_back e2 hl) (e2.trans (Ex.new hl)) upd_same (paired_imp (fun _ _ x => Lb.ex (Ex.new hl) x) hv)⟩
theorem lta_nil : EvLTA tNil σ H [] := fun H1 _ _ q => q [] H1 (Ex.refl _) .nil
theorem lta_cons {x : List V} {xs : List (List V)} (h : EvU te σ H x) (hr : EvLTA tr σ H xs) : EvLTA (tCons te tr) σ H (x :: xs) := fun H1 e _ q => h H1 e _ fun p H2 _ e2 h2 => hr H2 (e.trans e2) _ fun vs H3 e3 hv => q _ H3 (e2.trans e3) (.cons ⟨p, rfl, e3 p _ h2⟩ hv)
theorem elt_lst {xs : List (List V)} (h : EvLTA tr σ H xs) (hl : xs.length ≤ 1000) : EvLT (tLst tr) σ H xs := fun H1 e Q q => h H1 e _ fun vs H2 e2 hv => ⟨sz_of (by have := hv.len; omega), fun l hl => q l vs _ (fresh_back e2 hl) (e2.trans (Ex.new hl)) upd_same (hv.ex (Ex.new hl))⟩
theorem dp_LB : ∀ {vs : List V} {rs : List (List Nat)}, Paired (Lb H) vs rs → DpAll K H vs (rs.map di)
  | _, _, .nil => .nil
  | _, _, .cons ⟨b, e, h⟩ t => by
    subst e
    exact .cons (dp_L h) (dp_LB t)
theorem ed_LB (h : EvLB te σ H rs) : EvD K te σ H (.list (rs.map di)) := fun H1 e Q q => h H1 e Q fun p vs H2 _ e2 h2 hv => q _ H2 e2 (.lst (sq_of h2) (dp_LB hv))
theorem elb_cat {a : Addr} {ws : List V} (h : Ev ta σ H (.ref a)) (ha : H a = some (.lst ws)) (hw : Paired (Lb H) ws rs) (h2 : EvLB tb σ H ss) (hl : rs.length + ss.length ≤ 1000) : EvLB (tOp rCat ta tb) σ H (rs ++ ss) := fun H1 e Q q =>
  h H1 e _ fun H2 e2 => h2 H2 (e.trans e2) _ fun p vs H3 _ e3 h3 hv => by
    have hw3 := paired_imp (fun _ _ x => Lb.ex (e.trans (e2.trans e3)) x) hw
    have l1 := Paired.length hw3
    have l2 := Paired.length hv
    have app : ∀ {l : List V} {m : List (List Nat)} {l' : List V} {m' : List (List Nat)} {G : Hp}, Paired (Lb G) l m → Paired (Lb G) l' m' → Paired (Lb G) (l ++ l') (m ++ m') := fun {l m l' m' G} h h' => by
      induction h with
      | nil => exact h'
      | cons a _ ih => exact .cons a ih
    exact ⟨a, p, ws, vs, rfl, rfl, e3 a _ (e2 a _ (e a _ ha)), h3, sz_of (by omega), fun l hl => q l _ _ (fresh_back (e2.trans e3) hl) ((e2.trans e3).trans (Ex.new hl)) upd_same (paired_imp (fun _ _ x => Lb.ex (Ex.new hl) x) (app hw3 hv))⟩
theorem q_asgLB {i : Nat} (h : EvLB te σ H rs) (k : ∀ p vs H1, H p = none → Ex H H1 → H1 p = some (.lst vs) → Paired (Lb H1) vs rs → tz D (σ.set i (some (.ref p))) H1) : tSeq (tAsg te (gName i)) tz D σ H := h H (Ex.refl H) _ k
theorem el_call2LL {sp : Sp} {dvs xs ys zs : List V} {E : XK} (h : EvL ta σ H xs) (h2 : EvL tb σ H ys) (hs : ∀ p q H1, Ex H H1 → H1 p = some (.lst xs) → H1 q = some (.lst ys) → SpL sp ([.ref p, .ref q] ++ dvs) H1 zs) : EvL (tCall sp dvs E (tCons ta (tCons tb tNil))) σ H zs := fun H1 e Q q =>
  h H1 e _ fun p H2 _ e2 hp => h2 H2 (e.trans e2) _ fun p' H3 _ e3 hp' => hs p p' H3 ((e.trans e2).trans e3) (e3 p _ hp) hp' H3 (Ex.refl _) Q (fun l H4 hl e4 h4 => q l H4 (fresh_back (e2.trans e3) hl) ((e2.trans e3).trans e4) h4) E
theorem el_i4 {a b c d : Nat} : EvL (tLst (tCons (tC (.int a)) (tCons (tC (.int b)) (tCons (tC (.int c)) (tCons (tC (.int d)) tNil))))) σ H (nv [a, b, c, d]) := el_lst (ea_cons ev_c (ea_cons ev_c (ea_cons ev_c (ea_cons ev_c ea_nil)))) (Nat.le_of_ble_eq_true rfl)
theorem el_i1 {a : Nat} : EvL (tLst (tCons (tC (.int a)) tNil)) σ H (nv [a]) := el_lst (ea_cons ev_c ea_nil) (Nat.le_of_ble_eq_true rfl)
end

/-! ### _law_every -/
def ext (m : Nat) (row : List Nat) : List (List Nat) := ((List.range m).filter fun one => !decide (one ∈ row)).map fun one => row ++ [one]
def grow (m : Nat) (rows : List (List Nat)) : List (List Nat) := (rows.map (ext m)).flatten
def everyTo (m : Nat) : Nat → List (List Nat)
  | 0 => [[]]
  | k + 1 => grow m (everyTo m k)
def every (m : Nat) : List (List Nat) := everyTo m m
theorem every_small : ∀ m : Nat, m < 6 → ∀ k : Nat, k < 6 → k ≤ m → (everyTo m k).length ≤ 120 ∧ ∀ r ∈ everyTo m k, r.length ≤ 5 := by decide +kernel
theorem grow_next {m i : Nat} {rows : List (List Nat)} {r : List Nat} (h : rows[i]? = some r) : grow m (rows.take (i + 1)) = grow m (rows.take i) ++ ext m r := by
  unfold grow
  rw [List.take_add_one, h, List.map_append, List.flatten_append]
  simp
theorem lb_lc {g : Addr} {H : Hp} {us : List V} {rows : List (List Nat)} (hu : H g = some (.lst us)) (hp : Paired (Lc g H) us rows) {v : V} {r : List Nat} (h : Lb H v r) (ne : r ≠ []) : Lc g H v r := by
  obtain ⟨b, rfl, hb⟩ := h
  refine ⟨b, rfl, fun z => ?_, hb⟩
  subst z
  rw [hu] at hb
  have e : us = nv r := by
    have := Option.some.inj hb
    injection this
  cases r with
  | nil => exact ne rfl
  | cons x l =>
    cases hp with
    | nil => simp [nv, iz] at e
    | cons a _ =>
      obtain ⟨c, rfl, _⟩ := a
      have := (List.cons.inj e).1
      cases this
theorem paired_app {α β : Type} {F : α → β → Prop} : ∀ {l l' : List α} {m m' : List β}, Paired F l m → Paired F l' m' → Paired F (l ++ l') (m ++ m')
  | _, _, _, _, .nil, h => h
  | _, _, _, _, .cons a t, h => .cons a (paired_app t h)
section
variable {K : PySem.W.Frag} {σ : L2.St} {H : Hp} {ta tb te : TE} {t : TT} {D : Ends} {tz : TS}
/-- [a new list for i in range(n) if t] -/
theorem elb_R1f {tn : TA} {j : Nat} {vs : List Nat} {n : Int} (f : Nat → Bool) (F : Nat → List Nat) (h : EvA tn σ H [.int n]) (hn : 0 ≤ n ∧ n ≤ 40000) (hw : ∀ x, wipe ((wipe σ vs).set j (some x)) vs = wipe σ vs)
    (ht : ∀ (i : Nat) H1, Ex H H1 → (i : Int) < n → EvT t ((wipe σ vs).set j (some (.int (i : Int)))) H1 (f i)) (he : ∀ (i : Nat) H1, Ex H H1 → (i : Int) < n → f i = true → EvL te ((wipe σ vs).set j (some (.int (i : Int)))) H1 (nv (F i))) :
    EvLB (tLc (iRng1 tn) (gName j) t te vs) σ H (((List.range n.toNat).filter f).map F) := fun H0 e Q q => h H0 e _ fun H1 e1 => ⟨n, rfl, by omega, by omega, fun Dl hD =>
  lc_range (lo := 0) (n := n.toNat) (fun i H' => Ex H1 H' ∧ ∃ us, H' Dl = some (.lst us) ∧ Paired (Lc Dl H') us (((List.range i).filter f).map F)) ⟨Ex.new hD, [], upd_same, .nil⟩ (fun i H' hi p => by
    obtain ⟨p1, us, p2, p3⟩ := p
    have e0 : (0 : Int) + (i : Int) = (i : Int) := Int.zero_add _
    have ul : us.length ≤ i := by
      have := Paired.length p3
      rw [List.length_map] at this
      have := List.length_filter_le f (List.range i)
      rw [List.length_range] at this
      omega
    show wipe ((wipe σ vs).set j (some (.int ((0 : Int) + (i : Int))))) vs = wipe σ vs ∧ t ((wipe σ vs).set j (some (.int ((0 : Int) + (i : Int))))) H' fun b H3 => if b = true then te ((wipe σ vs).set j (some (.int ((0 : Int) + (i : Int))))) H3 fun y H4 => ∃ acc, H4 Dl = some (.lst acc) ∧ acc.length < sizeLine ∧ (Ex H1 (upd H4 Dl (.lst (acc ++ [y]))) ∧ ∃ us, (upd H4 Dl (.lst (acc ++ [y]))) Dl = some (.lst us) ∧ Paired (Lc Dl (upd H4 Dl (.lst (acc ++ [y])))) us (((List.range (i + 1)).filter f).map F)) else (Ex H1 H3 ∧ ∃ us, H3 Dl = some (.lst us) ∧ Paired (Lc Dl H3) us (((List.range (i + 1)).filter f).map F))
    rw [e0]
    refine ⟨hw _, ht i H1 (e.trans e1) (by omega) H' p1 _ fun H3 e3 => ?_⟩
    have nx : ((List.range (i + 1)).filter f).map F = ((List.range i).filter f).map F ++ (([i].filter f).map F) := by rw [List.range_succ, List.filter_append, List.map_append]
    rw [nx]
    cases hf : f i with
    | true =>
      rw [if_pos rfl]
      refine he i H1 (e.trans e1) (by omega) hf H3 (p1.trans e3) _ fun l H4 hl4 e4 h4 => ?_
      have lD : l ≠ Dl := fun z => by
        subst z
        rw [e3 l _ p2] at hl4
        cases hl4
      refine ⟨us, e4 Dl _ (e3 Dl _ p2), sz_lt (by omega), Ex.mut (p1.trans (e3.trans e4)) hD, _, upd_same, ?_⟩
      have : [i].filter f = [i] := by simp [hf]
      rw [this]
      exact Paired.snoc (paired_imp (fun _ _ z => (z.ex (e3.trans e4)).upd) p3) ⟨l, rfl, lD, by rw [upd_ne lD]; exact h4⟩
    | false =>
      rw [if_neg (by simp)]
      refine ⟨p1.trans e3, us, e3 Dl _ p2, ?_⟩
      have : [i].filter f = [] := by simp [hf]
      rw [this, List.map_nil, List.append_nil]
      exact paired_imp (fun _ _ z => z.ex e3) p3) (fun H' p => by
      obtain ⟨p1, us, p2, p3⟩ := p
      exact q Dl us H' (fresh_back e1 hD) (e1.trans p1) p2 (paired_imp (fun _ _ z => z.lb) p3))⟩
theorem el_catLL {a : Addr} {xs ys : List V} (h : Ev ta σ H (.ref a)) (ha : H a = some (.lst xs)) (h2 : EvL tb σ H ys) (hz : xs.length + ys.length ≤ 1000) : EvL (tOp rCat ta tb) σ H (xs ++ ys) := el_catL h ha h2 hz
end
def sp_law_every : Sp := fun vs H Q _ => ∃ m : Nat, vs = [.int (m : Int)] ∧ m ≤ 5 ∧ ∀ p ws H', H p = none → Ex H H' → H' p = some (.lst ws) → Paired (Lb H') ws (every m) → Q (.ref p) H'
section
variable {P : Program} {w : World} {K : PySem.W.Frag} {mg : Str → Option Value} {base : Heap}
theorem ok_law_every (T : Tx K mg) : FnOk P w K mg base CX0 1 T.f_law_every T.d_law_every ["many"] sp_law_every := by
  refine T.F_law_every.ok sc_law_every (fun vs H Q E h => ?_) (fun cdv A outer s H vs Q E hr h => ?_)
  · obtain ⟨m, rfl, _⟩ := h
    rfl
  · obtain ⟨m, rfl, hm, k⟩ := h
    refine ⟨_, (pss_cons (ps_set (i := 1) sc_law_every.nd rfl (Or.inl rfl) (pe_lst (pa_cons (pe_lst pa_nil) pa_nil)))
      (pss_cons (ps_for PassesOwn.never rfl (pi_range1 (by rfl) T.m_range (pa_cons (pv 0) pa_nil)) (pg_name (i := 2) sc_law_every.nd rfl (Or.inl rfl)) (pss_cons (ps_set (i := 3) sc_law_every.nd rfl (Or.inl rfl) (pe_lst pa_nil))
      (pss_cons (ps_for PassesOwn.never rfl (pi_list (pv 1)) (pg_name (i := 4) sc_law_every.nd rfl (Or.inr rfl)) (pss_one (ps_expr (pe_bm PySem.F.plainAttrs_list PySem.F.slot_list_extend PySem.F.type_list_extend mt_extend (pv 3) (pa_cons (pe_lc (own := [("one", 5)]) (g := (gName 5)) rfl sc_law_every.nd (pi_range1 (by rfl) T.m_range (pa_cons (pv 0) pa_nil)) (blkOk_by (own := [("one", 5)]) (N := n_law_every) (sc := defScope s_law_every) (by decide +kernel)) (fun _ _ _ _ _ => (pg_name (i := 5) sc_law_every.nd rfl (Or.inl rfl))) (fun _ _ _ _ _ => (pts_one (pt_cmpR (r := rIn K true) op_notIn_seq (pv 5) (pv 4) (by rfl)))) (fun _ _ _ _ _ => (pe_op op_cat (pv 4) (pe_lst (pa_cons (pv 5) pa_nil))))) pa_nil)))))
      (pss_one (ps_set (i := 1) sc_law_every.nd rfl (Or.inl rfl) (pv 3))))))
      (pss_one (ps_ret (pv 1))))), ?_⟩
    refine q_asgLB (rs := [[]]) (elb_lst (lba_cons (r := []) (el_lst ea_nil (Nat.zero_le _)) lba_nil) (by decide)) fun f ws H1 nf e1 h1 w1 => ?_
    refine q_forR1 (n := (m : Int)) (by walk_at "ea") ⟨by omega, by omega⟩ (fun i σ' H' => ∃ f ws y2 y3 y4, σ' = [some (.int m), some (.ref f), y2, y3, y4, none] ∧ H f = none ∧ Ex H H' ∧ H' f = some (.lst ws) ∧ Paired (Lb H') ws (everyTo m i)) (fun H2 e2 => ⟨f, ws, none, none, none, rfl, nf, e1.trans e2, e2 f _ h1, paired_imp (fun _ _ x => Lb.ex e2 x) w1⟩) ?_ ?_
    · rintro i σ' H' hi ⟨f, ws, y2, y3, y4, rfl, nf, e, hf, hw⟩
      obtain ⟨sm1, sm2⟩ := every_small m (by omega) i (by omega) (by omega)
      have wl := Paired.length hw
      refine q_asgL (xs := []) (el_lst ea_nil (Nat.zero_le _)) fun g H2 ng e2 hg => ?_
      refine q_forLn (xs := ws) (K := K) (ev_var rfl) (sq_of (e2 f _ hf)) (fun n σ' H3 => ∃ y4 us, σ' = [some (.int m), some (.ref f), some (.int (i : Int)), some (.ref g), y4, none] ∧ Ex H' H3 ∧ H3 g = some (.lst us) ∧ Paired (Lc g H3) us (grow m ((everyTo m i).take n))) (fun H3 e3 => ⟨y4, [], rfl, e2.trans e3, e3 g _ hg, .nil⟩) (fun n σ' H3 _ ⟨_, _, _, e3, _⟩ => sq_of (e3 f _ hf)) ?_ ?_
      · rintro n v σ' H3 hv ⟨y4, us, rfl, e3, hg3, hu⟩
        obtain ⟨r, hr, b, rfl, hb⟩ := paired_get hw hv
        have rl := sm2 r (List.mem_of_getElem? hr)
        have ul := Paired.length hu
        have gl : (grow m ((everyTo m i).take n)).length ≤ 600 := by
          have : ∀ l : List (List Nat), (grow m l).length ≤ m * l.length := fun l => by
            induction l with
            | nil => simp [grow]
            | cons a l ih =>
              have : (ext m a).length ≤ m := by
                unfold ext
                rw [List.length_map]
                have := List.length_filter_le (fun one => !decide (one ∈ a)) (List.range m)
                rw [List.length_range] at this
                exact this
              unfold grow at ih ⊢
              rw [List.map_cons, List.flatten_cons, List.length_append, List.length_cons, Nat.mul_succ]
              omega
          have h1 := this ((everyTo m i).take n)
          have h2 : ((everyTo m i).take n).length ≤ 120 := by
            rw [List.length_take]
            omega
          have := Nat.mul_le_mul (show m ≤ 5 from hm) h2
          omega
        refine s_dropBM hg3 (ev_var rfl) fun H4 e4 => ?_
        have hb4 := e4 b _ (e3 b _ hb)
        have hg4 := e4 g _ hg3
        have comp := elb_R1f (te := tOp rCat (tVar 4) (tLst (tCons (tVar 5) tNil))) (tn := tCons (tVar 0) tNil) (t := tTest (tOp (rIn K true) (tVar 5) (tVar 4))) (j := 5) (vs := [5]) (H := H4) (σ := [some (V.int m), some (.ref f), some (.int (i : Int)), some (.ref g), some (.ref b), none]) (n := (m : Int)) (fun one => !decide (one ∈ r)) (fun one => r ++ [one]) (ea_cons (ev_var rfl) ea_nil) ⟨by omega, by omega⟩ (fun _ => rfl) (fun one H5 e5 ho => et_is (et_test (ev_op (ev_var rfl) (ev_var rfl) (rv_niL (K := K) (sq_of (e5 b _ hb4)) rfl (nv_flat r)))) (by rw [nv_in])) (fun one H5 e5 ho _ => by
          rw [nv_app]
          exact el_catL (ev_var rfl) (e5 b _ hb4) (el_lst (ea_cons (ev_var rfl) ea_nil) (Nat.le_of_ble_eq_true rfl)) (by rw [nv_len]; show r.length + 1 ≤ 1000; omega))
        rw [Int.toNat_natCast] at comp
        refine comp H4 (Ex.refl _) _ fun l vs H5 hl e5 h5 hw5 => ?_
        have hw5 : Paired (Lb H5) vs (ext m r) := hw5
        have vl := Paired.length hw5
        have el : (ext m r).length ≤ 5 := by
          unfold ext
          rw [List.length_map]
          have := List.length_filter_le (fun one => !decide (one ∈ r)) (List.range m)
          rw [List.length_range] at this
          omega
        have hg5 := e5 g _ hg4
        have hu5 : Paired (Lc g H5) us (grow m ((everyTo m i).take n)) := paired_imp (fun _ _ z => z.ex (e4.trans e5)) hu
        have vc : Paired (Lc g H5) vs (ext m r) := by
          have ne : ∀ x ∈ ext m r, x ≠ [] := fun x hx => by
            unfold ext at hx
            obtain ⟨o, _, rfl⟩ := List.mem_map.mp hx
            simp
          have : ∀ {l : List V} {q : List (List Nat)}, Paired (Lb H5) l q → (∀ x ∈ q, x ≠ []) → Paired (Lc g H5) l q := fun {l q} h => by
            induction h with
            | nil => intro _; exact .nil
            | cons a t ih => intro hx; exact .cons (lb_lc hg5 hu5 a (hx _ List.mem_cons_self)) (ih fun x z => hx x (List.mem_cons_of_mem _ z))
          exact this hw5 ne
        refine ⟨g, l, us, vs, rfl, rfl, hg5, h5, sz_of (by omega), ?_⟩
        refine ⟨_, us ++ vs, rfl, Ex.mut (e3.trans (e4.trans e5)) ng, upd_same, ?_⟩
        rw [grow_next hr]
        exact paired_imp (fun _ _ z => z.upd) (paired_app hu5 vc)
      · rintro σ' H3 ⟨y4, us, rfl, e3, hg3, hu⟩
        rw [wl, List.take_of_length_le (Nat.le_refl _)] at hu
        refine s_asg (ev_var rfl) fun H4 e4 => ⟨g, us, _, _, _, rfl, fresh_back e ng, e.trans (e3.trans e4), e4 g _ hg3, paired_imp (fun _ _ z => Lb.ex e4 z.lb) hu⟩
    · rintro σ' H' ⟨f, ws, y2, y3, y4, rfl, nf, e, hf, hw⟩
      rw [Int.toNat_natCast] at hw
      exact s_ret (ev_var rfl) fun H2 e2 => k f ws H2 nf (e.trans e2) (e2 f _ hf) (paired_imp (fun _ _ x => Lb.ex e2 x) hw)
end
/-! ### _law_tables -/
theorem rings_num_le {rs : List (List Nat)} (h : ∀ r ∈ rs, 0 < r.length) : rs.length ≤ rs.flatten.length := by
  induction rs with
  | nil => simp
  | cons r l ih =>
    have := ih fun x hx => h x (List.mem_cons_of_mem _ hx)
    have := h r List.mem_cons_self
    rw [List.flatten_cons, List.length_append, List.length_cons]
    omega
theorem flat_take_len {rs : List (List Nat)} {n i : Nat} (h : rs.flatten.length ≤ n) : (rs.take i).flatten.length ≤ n := by
  have h1 : (rs.take i).flatten.length ≤ rs.flatten.length := by
    conv => rhs; rw [← List.take_append_drop i rs, List.flatten_append, List.length_append]
    omega
  omega
theorem q_dropBM {K : PySem.W.Frag} {σ : L2.St} {H : Hp} {ta : TE} {tr : TA} {D : Ends} {tz : TS} {r : V → List V → Hp → VK → Prop} {l : Addr} {xs : List V} (hl : H l = some (.lst xs)) (ha : Ev ta σ H (.ref l)) (k : ∀ H1, Ex H H1 → tr σ H1 fun vs H2 => r (.ref l) vs H2 fun _ H3 => tz D σ H3) : tSeq (tDrop (tBM K "list" r ta tr)) tz D σ H :=
  s_dropBM (D := { D with nx := tz D }) hl ha k
section
variable {K : PySem.W.Frag} {σ : L2.St} {H : Hp} {ta tb te : TE} {t : TT} {D : Ends} {tz : TS}
end
section
variable {P : Program} {w : World} {K : PySem.W.Frag} {mg : Str → Option Value} {base : Heap}
end


local macro_rules | `(tactic| walk_at "call") => `(tactic| (with_reducible exact sv_whole))
local macro_rules | `(tactic| walk_at "call") => `(tactic| ((with_reducible refine' sv_ord ?c1 ?c2); (case c1 => assumption); (case c2 => assumption)))

local macro_rules | `(tactic| walk_at "call") => `(tactic| ((with_reducible refine' sv_pow ?c1 ?c2 ?c3); (case c1 => walk_at "side"); (case c2 => walk_at "side"); (case c3 => walk_at "side")))
local macro_rules | `(tactic| walk_at "call") => `(tactic| ((with_reducible refine' sv_rise ?c1 ?c2); (case c1 => walk_at "side"); (case c2 => walk_at "side")))
local macro_rules | `(tactic| walk_at "call") => `(tactic| (with_reducible exact sv_between))
local macro_rules | `(tactic| walk_at "call") => `(tactic| ((with_reducible refine' sv_check1 ?c1 ?c2); (case c1 => walk_at "side"); (case c2 => walk_at "side")))
local macro_rules | `(tactic| walk_at "call") => `(tactic| ((with_reducible refine' sv_check_number ?c1 ?c2); (case c1 => walk_at "side"); (case c2 => walk_at "side")))
local macro_rules | `(tactic| walk_at "callU") => `(tactic| ((with_reducible refine' su_fraction ?c1 ?c2); (case c1 => walk_at "side"); (case c2 => walk_at "side")))

local macro_rules | `(tactic| walk_at "callL") => `(tactic| ((with_reducible refine' sl_wbt ?c1 ?c2 ?c3); (case c1 => walk_at "side"); (case c2 => walk_at "side"); (case c3 => walk_at "side")))
local macro_rules | `(tactic| walk_at "callU") => `(tactic| ((with_reducible refine' su_share ?c1 ?c2 ?c3 ?c4 ?c5); (case c1 => walk_at "side"); (case c2 => walk_at "side"); (case c3 => walk_at "side"); (case c4 => walk_at "side"); (case c5 => walk_at "side")))


/-! ### records of any order: the mathematics -/
structure Falls (rs : List (List Nat)) : Prop where
  ne : ∀ r ∈ rs, 0 < r.length
  low : ∀ r ∈ rs, ∀ x ∈ r, r.headD 0 ≤ x
  desc : (rs.map (·.headD 0)).Pairwise (· > ·)
theorem head_app {r : List Nat} (h : 0 < r.length) (x : Nat) : (r ++ [x]).headD 0 = r.headD 0 := by
  cases r with
  | nil => simp at h
  | cons c l => rfl
theorem sits_seat {k x : Nat} {rs : List (List Nat)} (R : RI k rs) (hx : x ≤ k) : sits (seat rs k) k x = (List.range (k + 1)).map (succ (rstep rs k x)) := by
  have sl := seat_len rs k
  refine List.ext_getElem? fun i => ?_
  rw [List.getElem?_map]
  unfold sits
  by_cases hxk : x = k
  · subst hxk
    obtain ⟨s1, s2⟩ := succ_open R
    rw [if_pos rfl]
    rcases Nat.lt_trichotomy i x with q | q | q
    · rw [List.getElem?_append_left (by omega), List.getElem?_range (by omega)]
      unfold seat
      rw [List.getElem?_map, List.getElem?_range q]
      show some _ = some _
      rw [s2 i q]
    · subst q
      rw [List.getElem?_append_right (by omega), sl, Nat.sub_self, List.getElem?_range (by omega)]
      show some i = some _
      rw [s1]
    · rw [List.getElem?_eq_none (by simp [sl]; omega), List.getElem?_eq_none (by simp; omega)]
      rfl
  · have xl : x < k := by omega
    obtain ⟨s1, s2, s3⟩ := succ_step R xl
    rw [if_neg hxk]
    have hgx : (seat rs k).getD x 0 = succ rs x := by
      refine getD_of ?_
      unfold seat
      rw [List.getElem?_map, List.getElem?_range xl]
      rfl
    rw [hgx, List.getElem?_set, List.getElem?_set]
    by_cases q1 : x = i
    · subst q1
      rw [if_pos rfl, if_pos (by simp [sl]; omega), List.getElem?_range (by omega)]
      show some k = some _
      rw [s1]
    · rw [if_neg q1]
      rcases Nat.lt_trichotomy i k with q | q | q
      · rw [if_neg (by omega), List.getElem?_append_left (by omega), List.getElem?_range (by omega)]
        unfold seat
        rw [List.getElem?_map, List.getElem?_range q]
        show some _ = some _
        rw [s3 i q (fun z => q1 z.symm)]
      · subst q
        rw [if_pos rfl, if_pos (by simp [sl]), List.getElem?_range (by omega)]
        show some _ = some _
        rw [s2]
      · rw [if_neg (by omega), List.getElem?_eq_none (by simp [sl]; omega), List.getElem?_eq_none (by simp; omega)]
        rfl
theorem falls_step {ts : List (List Nat)} (F : Falls ts) (g : Nat) : Falls (cstep ts g) := by
  rcases list_end ts with e | ⟨ini, r, e⟩
  · subst e
    rw [cstep_nil]
    exact ⟨fun r hr => by rw [List.mem_singleton.mp hr]; simp, fun r hr x hx => by
      rw [List.mem_singleton.mp hr] at hx ⊢
      rw [List.mem_singleton.mp hx]
      simp, by simp⟩
  · subst e
    have rn := F.ne r (by simp)
    rw [cstep_end]
    have hd := F.desc
    rw [List.map_append, List.pairwise_append] at hd
    by_cases q : g < r.headD 0
    · rw [if_pos q]
      refine ⟨fun s hs => ?_, fun s hs x hx => ?_, ?_⟩
      · rcases List.mem_append.mp hs with z | z
        · exact F.ne s z
        · rw [List.mem_singleton.mp z]
          simp
      · rcases List.mem_append.mp hs with z | z
        · exact F.low s z x hx
        · rw [List.mem_singleton.mp z] at hx ⊢
          rw [List.mem_singleton.mp hx]
          simp
      · rw [List.map_append, List.pairwise_append]
        refine ⟨F.desc, by simp, fun a ha b hb => ?_⟩
        have hb : b = g := by simpa using hb
        rw [hb]
        obtain ⟨s, hs, rfl⟩ := List.mem_map.mp ha
        rcases List.mem_append.mp hs with z | z
        · have := hd.2.2 (s.headD 0) (List.mem_map.mpr ⟨s, z, rfl⟩) (r.headD 0) (by simp)
          show s.headD 0 > g
          omega
        · rw [List.mem_singleton.mp z]
          exact q
    · rw [if_neg q]
      refine ⟨fun s hs => ?_, fun s hs x hx => ?_, ?_⟩
      · rcases List.mem_append.mp hs with z | z
        · exact F.ne s (by simp [z])
        · rw [List.mem_singleton.mp z]
          simp
      · rcases List.mem_append.mp hs with z | z
        · exact F.low s (by simp [z]) x hx
        · rw [List.mem_singleton.mp z] at hx ⊢
          rw [head_app rn]
          rcases List.mem_append.mp hx with y | y
          · exact F.low r (by simp) x y
          · rw [List.mem_singleton.mp y]
            omega
      · rw [List.map_append, List.map_cons, head_app rn]
        have := F.desc
        rw [List.map_append, List.map_cons] at this
        exact this
theorem falls_cuts (f : List Nat) : Falls (cuts f) := by
  have : ∀ (f : List Nat) (ts : List (List Nat)), Falls ts → Falls (f.foldl cstep ts) := fun f => by
    induction f with
    | nil => exact fun ts h => h
    | cons x l ih => exact fun ts h => ih _ (falls_step h x)
  exact this f [] ⟨by simp, by simp, by simp⟩
/-- the tables of a record, by their lowest guests -/
def recs (f : List Nat) : List (List Nat) := (cuts f).reverse
theorem recs_ri {f : List Nat} (o : Ord f) : RI f.length (recs f) := by
  have F := falls_cuts f
  unfold recs
  refine ⟨((List.reverse_perm _).flatten).trans (by rw [cuts_flat]; exact o.1), fun r hr => F.ne r (List.mem_reverse.mp hr), fun r hr => F.low r (List.mem_reverse.mp hr), ?_⟩
  rw [List.map_reverse, List.pairwise_reverse]
  exact F.desc
theorem recs_back (f : List Nat) : (recs f).reverse.flatten = f := by
  unfold recs
  rw [List.reverse_reverse, cuts_flat]
theorem recs_cuts {f : List Nat} (o : Ord f) : ∀ r ∈ cuts f, Rg (seat (recs f) f.length) r := fun r hr =>
  seat_rg (recs_ri o).all (List.mem_reverse.mpr hr) (cuts_ne f r hr)
theorem recs_rings {f : List Nat} (o : Ord f) : Rings (seat (recs f) f.length) (recs f) := (recs_ri o).rings
theorem recs_ord {f : List Nat} (o : Ord f) : Ord (seat (recs f) f.length) := seat_ord (recs_ri o).all (recs_ri o).ne o.2.1 o.2.2
/-! one after another -/
theorem insr_flat {x n : Nat} (ne : x ≠ n) : ∀ (L : List (List Nat)), L.flatten.Nodup → (L.map (insr x n)).flatten = insr x n L.flatten
  | [], _ => by
    unfold insr
    simp
  | r :: l, nd => by
    rw [List.flatten_cons] at nd
    have nd' := List.nodup_append.mp nd
    have ih := insr_flat ne l nd'.2.1
    rw [List.map_cons, List.flatten_cons, ih, List.flatten_cons]
    by_cases hr : x ∈ r
    · have hl : x ∉ l.flatten := fun z => nd'.2.2 x hr x z rfl
      have il := List.idxOf_lt_length_of_mem hr
      unfold insr
      rw [if_pos ⟨hr, ne⟩, if_neg (fun z => hl z.1), if_pos ⟨List.mem_append.mpr (.inl hr), ne⟩, List.idxOf_append, if_pos hr, List.take_append_of_le_length (by omega), List.drop_append_of_le_length (by omega)]
      simp
    · unfold insr
      rw [if_neg (fun z => hr z.1)]
      by_cases hl : x ∈ l.flatten
      · rw [if_pos ⟨hl, ne⟩, if_pos ⟨List.mem_append.mpr (.inr hl), ne⟩, List.idxOf_append, if_neg hr, show l.flatten.idxOf x + r.length + 1 = r.length + (l.flatten.idxOf x + 1) by omega, List.take_length_add_append, List.drop_length_add_append]
        simp
      · rw [if_neg (fun z => hl z.1), if_neg (fun z => (List.mem_append.mp z.1).elim hr hl)]
theorem recs_open {f : List Nat} (n : Nat) : ((rstep (recs f) n n).reverse).flatten = n :: f := by
  have e : rstep (recs f) n n = recs f ++ [[n]] := by
    unfold rstep
    rw [if_pos rfl]
    exact (List.map_congr_left fun s _ => insr_same rfl).trans (List.map_id _)
  rw [e, List.reverse_append, List.flatten_append, recs_back]
  rfl
theorem recs_put {f : List Nat} (o : Ord f) {k : Nat} (hk : k < f.length) : ((rstep (recs f) f.length (f.getD k 0)).reverse).flatten = f.take (k + 1) ++ [f.length] ++ f.drop (k + 1) := by
  have hx : f[k]? = some (f.getD k 0) := by
    rw [List.getD_eq_getElem?_getD, List.getElem?_eq_getElem hk]
    rfl
  have hm : f.getD k 0 ∈ f := List.mem_of_getElem? hx
  have lt := List.mem_range.mp (o.1.mem_iff.mp hm)
  have nd : f.Nodup := o.1.nodup_iff.mpr List.nodup_range
  have ne : f.getD k 0 ≠ f.length := by omega
  unfold rstep
  rw [if_neg (Ne.symm ne), ← List.map_reverse, insr_flat ne _ (by rw [recs_back]; exact nd), recs_back]
  unfold insr
  rw [if_pos ⟨hm, ne⟩]
  have ix : f.idxOf (f.getD k 0) = k := by
    have hl := List.idxOf_lt_length_of_mem hm
    have : f[f.idxOf (f.getD k 0)]? = some (f.getD k 0) := by
      rw [List.getElem?_eq_getElem hl, List.getElem_idxOf hl]
    exact nd_ix nd this hx
  rw [ix]


local macro_rules | `(tactic| walk_at "call") => `(tactic| (with_reducible exact sv_whole))
local macro_rules | `(tactic| walk_at "call") => `(tactic| ((with_reducible refine' sv_ord ?c1 ?c2); (case c1 => assumption); (case c2 => assumption)))

local macro_rules | `(tactic| walk_at "call") => `(tactic| ((with_reducible refine' sv_pow ?c1 ?c2 ?c3); (case c1 => walk_at "side"); (case c2 => walk_at "side"); (case c3 => walk_at "side")))
local macro_rules | `(tactic| walk_at "call") => `(tactic| ((with_reducible refine' sv_rise ?c1 ?c2); (case c1 => walk_at "side"); (case c2 => walk_at "side")))
local macro_rules | `(tactic| walk_at "call") => `(tactic| (with_reducible exact sv_between))
local macro_rules | `(tactic| walk_at "call") => `(tactic| ((with_reducible refine' sv_check1 ?c1 ?c2); (case c1 => walk_at "side"); (case c2 => walk_at "side")))
local macro_rules | `(tactic| walk_at "call") => `(tactic| ((with_reducible refine' sv_check_number ?c1 ?c2); (case c1 => walk_at "side"); (case c2 => walk_at "side")))
local macro_rules | `(tactic| walk_at "callU") => `(tactic| ((with_reducible refine' su_fraction ?c1 ?c2); (case c1 => walk_at "side"); (case c2 => walk_at "side")))

local macro_rules | `(tactic| walk_at "callL") => `(tactic| ((with_reducible refine' sl_wbt ?c1 ?c2 ?c3); (case c1 => walk_at "side"); (case c2 => walk_at "side"); (case c3 => walk_at "side")))
local macro_rules | `(tactic| walk_at "callU") => `(tactic| ((with_reducible refine' su_share ?c1 ?c2 ?c3 ?c4 ?c5); (case c1 => walk_at "side"); (case c2 => walk_at "side"); (case c3 => walk_at "side"); (case c4 => walk_at "side"); (case c5 => walk_at "side")))


/-! ### _law_cut: the mathematics -/
def leadAt (f : List Nat) (i : Nat) : Bool := (f.take (i + 1)).all fun y => decide (f.getD i 0 ≤ y)
theorem leadAt_iff {f : List Nat} {i : Nat} : leadAt f i = true ↔ ∀ y ∈ f.take (i + 1), f.getD i 0 ≤ y := by
  unfold leadAt
  rw [List.all_eq_true]
  simp only [decide_eq_true_eq]
def starts (f : List Nat) (n : Nat) : List Nat := (List.range n).filter (leadAt f)
def sl (f : List Nat) (lo hi : Nat) : List Nat := (f.take hi).drop lo
def slices (f : List Nat) (S : List Nat) (n : Nat) : List (List Nat) := List.zipWith (sl f) S (S.tail ++ [n])
theorem starts_next (f : List Nat) (n : Nat) : starts f (n + 1) = starts f n ++ (if leadAt f n then [n] else []) := by
  unfold starts
  rw [List.range_succ, List.filter_append]
  congr 1
  by_cases h : leadAt f n = true <;> simp [h]
theorem slices_end (f ini : List Nat) (lo : Nat) : ∃ G, ∀ n, slices f (ini ++ [lo]) n = G ++ [sl f lo n] := by
  refine ⟨List.zipWith (sl f) ini (ini ++ [lo]).tail, fun n => ?_⟩
  unfold slices
  have hl : ini.length = (ini ++ [lo]).tail.length := by simp
  rw [List.zipWith_append hl]
  rfl
theorem slices_new {f S : List Nat} (h : S ≠ []) (n m : Nat) : slices f (S ++ [n]) m = slices f S n ++ [sl f n m] := by
  unfold slices
  rw [List.tail_append_of_ne_nil h]
  have hl : S.length = (S.tail ++ [n]).length := by
    have := List.length_pos_iff.mpr h
    simp
    omega
  rw [List.zipWith_append hl]
  rfl
theorem sl_next {f : List Nat} {lo n x : Nat} (h : f[n]? = some x) (hl : lo ≤ n) : sl f lo (n + 1) = sl f lo n ++ [x] := by
  have hn := (List.getElem?_eq_some_iff.mp h).1
  unfold sl
  rw [take_next h, List.drop_append_of_le_length (by rw [List.length_take]; omega)]
theorem sl_one {f : List Nat} {n x : Nat} (h : f[n]? = some x) : sl f n (n + 1) = [x] := by
  have hn := (List.getElem?_eq_some_iff.mp h).1
  unfold sl
  rw [take_next h, List.drop_append_of_le_length (by rw [List.length_take]; omega), List.drop_of_length_le (by rw [List.length_take]; omega)]
  rfl
theorem sl_head {f : List Nat} {lo n : Nat} (h : lo < n) (hn : n ≤ f.length) : (sl f lo n).headD 0 = f.getD lo 0 := by
  unfold sl
  rw [List.drop_eq_getElem_cons (by rw [List.length_take]; omega)]
  show (f.take n)[lo]'(by rw [List.length_take]; omega) = _
  rw [List.getElem_take, List.getD_eq_getElem?_getD, List.getElem?_eq_getElem (by omega)]
  rfl
theorem cut_ok {f : List Nat} (nd : f.Nodup) : ∀ n, n < f.length → slices f (starts f (n + 1)) (n + 1) = cuts (f.take (n + 1)) ∧ ∃ ini lo, starts f (n + 1) = ini ++ [lo] ∧ lo < n + 1 ∧ ∀ y ∈ f.take (n + 1), f.getD lo 0 ≤ y
  | 0, h => by
    have hx : f[0]? = some f[0] := List.getElem?_eq_getElem h
    have g0 : f.getD 0 0 = f[0] := by rw [List.getD_eq_getElem?_getD, hx]; rfl
    have t1 : f.take (0 + 1) = [f[0]] := by rw [take_next hx]; rfl
    have l0 : leadAt f 0 = true := by
      unfold leadAt
      rw [t1, g0]
      simp
    have s1 : starts f (0 + 1) = [0] := by
      rw [starts_next, l0]
      rfl
    refine ⟨?_, [], 0, by rw [s1]; rfl, by decide, ?_⟩
    · rw [s1, cuts_next hx]
      show [sl f 0 (0 + 1)] = _
      rw [sl_one hx]
      rfl
    · rw [t1, g0]
      simp
  | n + 1, h => by
    obtain ⟨h1, ini, lo, h2, h3, h4⟩ := cut_ok nd n (by omega)
    obtain ⟨G, hG⟩ := slices_end f ini lo
    have hx : f[n + 1]? = some f[n + 1] := List.getElem?_eq_getElem h
    have gx : f.getD (n + 1) 0 = f[n + 1] := by rw [List.getD_eq_getElem?_getD, hx]; rfl
    have cn := cuts_next hx
    rw [← h1, h2, hG, cstep_end, sl_head h3 (by omega)] at cn
    have glo : f[lo]? = some (f.getD lo 0) := by
      rw [List.getD_eq_getElem?_getD, List.getElem?_eq_getElem (show lo < f.length by omega)]
      rfl
    have mlo : f.getD lo 0 ∈ f.take (n + 1 + 1) := by
      refine List.mem_of_getElem? (i := lo) ?_
      rw [List.getElem?_take_of_lt (by omega)]
      exact glo
    by_cases hl : leadAt f (n + 1) = true
    · have hle := leadAt_iff.mp hl
      have lt : f[n + 1] < f.getD lo 0 := by
        have h5 := hle _ mlo
        rw [gx] at h5
        have : f[n + 1] ≠ f.getD lo 0 := fun z => by
          rw [← z] at glo
          have := nd_ix nd hx glo
          omega
        omega
      rw [if_pos lt] at cn
      rw [starts_next, if_pos hl, h2]
      refine ⟨?_, ini ++ [lo], n + 1, rfl, by omega, hle⟩
      rw [slices_new (by simp), hG, sl_one hx, cn]
    · have nlt : ¬ f[n + 1] < f.getD lo 0 := fun z => hl (leadAt_iff.mpr fun y hy => by
        rw [take_next hx] at hy
        rw [gx]
        rcases List.mem_append.mp hy with q | q
        · have := h4 y q
          omega
        · rw [List.mem_singleton.mp q]
          exact Nat.le_refl _)
      rw [if_neg nlt] at cn
      rw [starts_next, if_neg hl, List.append_nil, h2]
      refine ⟨?_, ini, lo, rfl, by omega, fun y hy => ?_⟩
      · rw [hG, sl_next hx (by omega), cn]
      · rw [take_next hx] at hy
        rcases List.mem_append.mp hy with q | q
        · exact h4 y q
        · rw [List.mem_singleton.mp q]
          omega
theorem cut_all {f : List Nat} (nd : f.Nodup) (h : 0 < f.length) : slices f (starts f f.length) f.length = cuts f := by
  obtain ⟨n, hn⟩ : ∃ n, f.length = n + 1 := ⟨f.length - 1, by omega⟩
  have := (cut_ok nd n (by omega)).1
  rw [← hn, List.take_of_length_le (Nat.le_refl _)] at this
  exact this

theorem cut_tail (xs : List V) : cutV xs (some (1 : Int)) none = xs.tail := by
  unfold cutV
  rw [HT.sIx_none, show (some (1 : Int)) = some ((1 : Nat) : Int) from rfl, HT.sIx_nat]
  cases xs with
  | nil => rfl
  | cons x l =>
    rw [Nat.min_eq_left (by simp)]
    show l.take _ = l
    exact List.take_of_length_le (by simp)
theorem ev_minIs {K : PySem.W.Frag} {σ : L2.St} {H : Hp} {ta : TE} {ns : List Int} {m : Int} (h : EvL ta σ H (ns.map V.int)) (hm : m ∈ ns) (hl : ∀ y ∈ ns, m ≤ y) : Ev (tCB (rMin K) (tCons ta tNil)) σ H (.int m) := fun H1 e Q q => h H1 e _ fun p H2 _ e2 h2 =>
  ⟨p, ns, rfl, sq_of h2, List.length_pos_of_mem hm, fun k hk hle => by
    have h1 := hl k hk
    have h2 := hle m hm
    have : k = m := by omega
    rw [this]
    exact q H2 e2⟩
theorem min_lead {f : List Nat} {i : Nat} (hi : i < f.length) : ∃ m : Int, m ∈ iz (f.take (i + 1)) ∧ (∀ y ∈ iz (f.take (i + 1)), m ≤ y) ∧ decide (V.int (f.getD i 0 : Nat) = V.int m) = leadAt f i := by
  have hx : f[i]? = some (f.getD i 0) := by
    rw [List.getD_eq_getElem?_getD, List.getElem?_eq_getElem hi]
    rfl
  have hne : (iz (f.take (i + 1))).length ≠ 0 := by
    unfold iz
    rw [List.length_map, List.length_take]
    omega
  cases hz : iz (f.take (i + 1)) with
  | nil => rw [hz] at hne; exact absurd rfl hne
  | cons z l =>
    obtain ⟨h1, h2⟩ := foldl_min_spec l z
    refine ⟨_, h1, h2, ?_⟩
    rw [← hz] at h1 h2
    rw [dec_int, Bool.eq_iff_iff, leadAt_iff, beq_iff_eq]
    constructor
    · intro e y hy
      have := h2 (y : Int) (List.mem_map.mpr ⟨y, hy, rfl⟩)
      omega
    · intro hle
      obtain ⟨y, hy, ey⟩ := List.mem_map.mp h1
      have a := hle y hy
      have b := h2 ((f.getD i 0 : Nat) : Int) (List.mem_map.mpr ⟨_, by
        rw [take_next hx]
        simp, rfl⟩)
      omega
theorem starts_lt {f : List Nat} {n x : Nat} (h : x ∈ starts f n) : x < n := List.mem_range.mp (List.mem_filter.mp h).1
theorem starts_asc (f : List Nat) (n : Nat) : (starts f n).Pairwise (· < ·) := by
  unfold starts
  exact List.Pairwise.filter _ List.pairwise_lt_range
theorem start_pair {f : List Nat} {i lo hi : Nat} (h1 : (starts f f.length)[i]? = some lo) (h2 : ((starts f f.length).tail ++ [f.length])[i]? = some hi) : lo < hi ∧ hi ≤ f.length := by
  have lt := starts_lt (List.mem_of_getElem? h1)
  have il := (List.getElem?_eq_some_iff.mp h1).1
  by_cases c : i + 1 < (starts f f.length).length
  · rw [List.getElem?_append_left (by rw [List.length_tail]; omega), List.getElem?_tail] at h2
    have lt2 := starts_lt (List.mem_of_getElem? h2)
    obtain ⟨l1, e1⟩ := List.getElem?_eq_some_iff.mp h1
    obtain ⟨l2, e2⟩ := List.getElem?_eq_some_iff.mp h2
    have := List.pairwise_iff_getElem.mp (starts_asc f f.length) i (i + 1) l1 l2 (by omega)
    omega
  · rw [List.getElem?_append_right (by rw [List.length_tail]; omega), List.length_tail] at h2
    have e : i - ((starts f f.length).length - 1) = 0 := by omega
    rw [e] at h2
    have : f.length = hi := Option.some.inj h2
    omega
theorem starts_pos {f : List Nat} (h0 : 0 < f.length) (nd : f.Nodup) : 0 < (starts f f.length).length := by
  have fz := cut_all nd h0
  cases hs : starts f f.length with
  | nil =>
    rw [hs] at fz
    have := cuts_flat f
    rw [← fz] at this
    have : f = [] := this.symm
    rw [this] at h0
    simp at h0
  | cons x l => simp
theorem cuts_at {f : List Nat} (h0 : 0 < f.length) (nd : f.Nodup) {i lo hi : Nat} (h1 : (starts f f.length)[i]? = some lo) (h2 : ((starts f f.length).tail ++ [f.length])[i]? = some hi) : (cuts f)[i]? = some (sl f lo hi) := by
  rw [← cut_all nd h0]
  unfold slices
  rw [List.getElem?_zipWith, h1, h2]
theorem cuts_count {f : List Nat} (h0 : 0 < f.length) (nd : f.Nodup) : (cuts f).length = (starts f f.length).length := by
  rw [← cut_all nd h0]
  unfold slices
  have := starts_pos h0 nd
  rw [List.length_zipWith, List.length_append, List.length_tail, List.length_singleton]
  omega
theorem ends_some {f : List Nat} {i : Nat} (h : i < (starts f f.length).length) : ∃ hi, ((starts f f.length).tail ++ [f.length])[i]? = some hi :=
  ⟨_, List.getElem?_eq_getElem (by rw [List.length_append, List.length_tail, List.length_singleton]; omega)⟩
theorem heads_at {f : List Nat} (h0 : 0 < f.length) (nd : f.Nodup) : (cuts f).map (·.headD 0) = (starts f f.length).map fun k => f.getD k 0 := by
  refine List.ext_getElem? fun i => ?_
  rw [List.getElem?_map, List.getElem?_map]
  by_cases hi : i < (starts f f.length).length
  · obtain ⟨e, he⟩ := ends_some hi
    have hs : (starts f f.length)[i]? = some (starts f f.length)[i] := List.getElem?_eq_getElem hi
    have p := start_pair hs he
    rw [cuts_at h0 nd hs he, hs]
    exact congrArg some (sl_head p.1 p.2)
  · rw [List.getElem?_eq_none (by rw [cuts_count h0 nd]; omega), List.getElem?_eq_none (by omega)]
    rfl
def subV : V → V → V
  | .int x, .int y => .int (y - x)
  | _, _ => .non
theorem lens_at {f : List Nat} (h0 : 0 < f.length) (nd : f.Nodup) : List.zipWith subV (nv (starts f f.length)) (nv ((starts f f.length).tail ++ [f.length])) = nv ((cuts f).map List.length) := by
  rw [nv_eq, nv_eq, nv_eq, List.zipWith_map]
  refine List.ext_getElem? fun i => ?_
  rw [List.getElem?_zipWith, List.getElem?_map, List.getElem?_map]
  by_cases hi : i < (starts f f.length).length
  · obtain ⟨e, he⟩ := ends_some hi
    have hs : (starts f f.length)[i]? = some (starts f f.length)[i] := List.getElem?_eq_getElem hi
    have p := start_pair hs he
    rw [cuts_at h0 nd hs he, hs, he]
    show some (V.int ((e : Int) - ((starts f f.length)[i] : Int))) = some (V.int ((sl f (starts f f.length)[i] e).length : Int))
    unfold sl
    rw [List.length_drop, List.length_take]
    congr 2
    omega
  · have pp := starts_pos h0 nd
    rw [List.getElem?_eq_none (show (starts f f.length).length ≤ i by omega), List.getElem?_eq_none (show ((starts f f.length).tail ++ [f.length]).length ≤ i by rw [List.length_append, List.length_tail, List.length_singleton]; omega), List.getElem?_eq_none (show (cuts f).length ≤ i by rw [cuts_count h0 nd]; omega)]
    rfl
theorem cstep_keep {ts : List (List Nat)} {g : Nat} {r0 : List Nat} (h : ∃ r ∈ ts, ∃ t, r = r0 ++ t) : ∃ r ∈ cstep ts g, ∃ t, r = r0 ++ t := by
  obtain ⟨r, hr, t, rfl⟩ := h
  rcases list_end ts with e | ⟨ini, s, e⟩
  · subst e
    cases hr
  · subst e
    rw [cstep_end]
    by_cases q : g < s.headD 0
    · rw [if_pos q]
      exact ⟨_, List.mem_append.mpr (.inl hr), t, rfl⟩
    · rw [if_neg q]
      rcases List.mem_append.mp hr with z | z
      · exact ⟨_, List.mem_append.mpr (.inl z), t, rfl⟩
      · have := List.mem_singleton.mp z
        exact ⟨s ++ [g], by simp, t ++ [g], by rw [← this]; simp⟩
theorem fold_keep {r0 : List Nat} : ∀ (l : List Nat) (ts : List (List Nat)), (∃ r ∈ ts, ∃ t, r = r0 ++ t) → ∃ r ∈ l.foldl cstep ts, ∃ t, r = r0 ++ t
  | [], _, h => h
  | x :: l, ts, h => fold_keep l (cstep ts x) (cstep_keep h)
/-- who doesn't open a table sits left of the one before -/
theorem hall_next {f : List Nat} (o : Ord f) {k : Nat} (hk : k + 1 < f.length) (hs : k + 1 ∉ starts f f.length) : (seat (recs f) f.length)[f.getD k 0]? = some (f.getD (k + 1) 0) := by
  have nd : f.Nodup := o.1.nodup_iff.mpr List.nodup_range
  obtain ⟨h1, ini, lo, h2, h3, _⟩ := cut_ok nd k (by omega)
  have hl : ¬ leadAt f (k + 1) = true := fun z => hs (by
    unfold starts
    exact List.mem_filter.mpr ⟨List.mem_range.mpr hk, z⟩)
  obtain ⟨G, hG⟩ := slices_end f ini lo
  have g1 := (cut_ok nd (k + 1) hk).1
  rw [starts_next, if_neg hl, List.append_nil, h2, hG] at g1
  have mem : ∃ r ∈ cuts f, ∃ t, r = sl f lo (k + 1 + 1) ++ t := by
    have := fold_keep (f.drop (k + 1 + 1)) (cuts (f.take (k + 1 + 1))) ⟨sl f lo (k + 1 + 1), by rw [← g1]; simp, [], (List.append_nil _).symm⟩
    have e : (f.drop (k + 1 + 1)).foldl cstep (cuts (f.take (k + 1 + 1))) = cuts f := by
      unfold cuts
      rw [← List.foldl_append, List.take_append_drop]
    rw [e] at this
    exact this
  obtain ⟨r, hr, t, er⟩ := mem
  have sll : (sl f lo (k + 1 + 1)).length = k + 2 - lo := by
    unfold sl
    rw [List.length_drop, List.length_take]
    omega
  have at_ : ∀ j, lo ≤ j → j ≤ k + 1 → r[j - lo]? = some (f.getD j 0) := fun j h4 h5 => by
    rw [er, List.getElem?_append_left (by omega)]
    unfold sl
    rw [List.getElem?_drop, show lo + (j - lo) = j by omega, List.getElem?_take_of_lt (by omega), List.getD_eq_getElem?_getD, List.getElem?_eq_getElem (by omega)]
    rfl
  have rl : r.length = k + 2 - lo + t.length := by rw [er, List.length_append, sll]
  obtain ⟨x, y, q1, q2, q3⟩ := (recs_cuts o r hr).st (k - lo) (by omega)
  rw [at_ k (by omega) (by omega)] at q1
  rw [Nat.mod_eq_of_lt (by omega), show k - lo + 1 = k + 1 - lo by omega, at_ (k + 1) (by omega) (by omega)] at q2
  rw [Option.some.inj q1, q3, Option.some.inj q2]


local macro_rules | `(tactic| walk_at "call") => `(tactic| (with_reducible exact sv_whole))
local macro_rules | `(tactic| walk_at "call") => `(tactic| ((with_reducible refine' sv_ord ?c1 ?c2); (case c1 => assumption); (case c2 => assumption)))

local macro_rules | `(tactic| walk_at "call") => `(tactic| ((with_reducible refine' sv_pow ?c1 ?c2 ?c3); (case c1 => walk_at "side"); (case c2 => walk_at "side"); (case c3 => walk_at "side")))
local macro_rules | `(tactic| walk_at "call") => `(tactic| ((with_reducible refine' sv_rise ?c1 ?c2); (case c1 => walk_at "side"); (case c2 => walk_at "side")))
local macro_rules | `(tactic| walk_at "call") => `(tactic| (with_reducible exact sv_between))
local macro_rules | `(tactic| walk_at "call") => `(tactic| ((with_reducible refine' sv_check1 ?c1 ?c2); (case c1 => walk_at "side"); (case c2 => walk_at "side")))
local macro_rules | `(tactic| walk_at "call") => `(tactic| ((with_reducible refine' sv_check_number ?c1 ?c2); (case c1 => walk_at "side"); (case c2 => walk_at "side")))
local macro_rules | `(tactic| walk_at "callU") => `(tactic| ((with_reducible refine' su_fraction ?c1 ?c2); (case c1 => walk_at "side"); (case c2 => walk_at "side")))

local macro_rules | `(tactic| walk_at "callL") => `(tactic| ((with_reducible refine' sl_wbt ?c1 ?c2 ?c3); (case c1 => walk_at "side"); (case c2 => walk_at "side"); (case c3 => walk_at "side")))
local macro_rules | `(tactic| walk_at "callU") => `(tactic| ((with_reducible refine' su_share ?c1 ?c2 ?c3 ?c4 ?c5); (case c1 => walk_at "side"); (case c2 => walk_at "side"); (case c3 => walk_at "side"); (case c4 => walk_at "side"); (case c5 => walk_at "side")))


/-! ### _law_leasts, _law_one_right -/
section
variable {K : PySem.W.Frag} {σ : L2.St} {H : Hp} {ta tb te : TE} {D : Ends} {tz : TS}
theorem ev_lenH {σ : L2.St} {H : Hp} {i : Nat} {a : Addr} {h : List Nat} (e : σ[i]? = some (some (.ref a))) (ha : H a = some (.lst (nv h))) : Ev (tCB (rLenS K) (tCons (tVar i) tNil)) σ H (.int (h.length : Int)) := by
  have := ev_len (K := K) (ev_var e) (sq_of ha)
  rw [nv_len] at this
  exact this
theorem q_parIL {i j : Nat} {x : V} {ys : List V} (h1 : Ev ta σ H x) (h2 : EvL tb σ H ys) (k : ∀ q H1, H q = none → Ex H H1 → H1 q = some (.lst ys) → tz D ((σ.set i (some x)).set j (some (.ref q))) H1) : tSeq (tPar i j (tCons ta (tCons tb tNil))) tz D σ H :=
  h1 H (Ex.refl H) _ fun H1 e1 => h2 H1 e1 _ fun q H2 nq e2 hq => ⟨x, .ref q, rfl, k q H2 (fresh_back e1 nq) (e1.trans e2) hq⟩
theorem ed_sortedL {ns ms : List Int} (h : EvL ta σ H (ns.map V.int)) (hl : ns.length < 64) (hm : ms.Perm ns) (hs : ms.Pairwise (· ≤ ·)) : EvD K (tCB (rSorted K) (tCons ta tNil)) σ H (.list (ms.map PyData.int)) := fun H1 e Q q => h H1 e _ fun p H2 _ e2 h2 =>
  ⟨p, ns, rfl, sq_of h2, hl, fun ns' l pm so new => by
    have eq : ns' = ms := List.Perm.eq_of_pairwise (le := fun a b : Int => a ≤ b) (fun a b _ _ h1 h2 => Int.le_antisymm h1 h2) so hs (pm.trans hm.symm)
    subst eq
    exact q _ _ (e2.trans (Ex.new new)) (.lst (sq_of upd_same) (dpa_ints _))⟩
end
def sp_law_leasts : Sp := fun vs H Q _ => ∃ (a : Addr) (f : List Nat), vs = [.ref a] ∧ H a = some (.lst (nv f)) ∧ Ord f ∧ RetL (nv (starts f f.length)) H Q
theorem sl_leasts {H : Hp} {a : Addr} {f : List Nat} (ha : H a = some (.lst (nv f))) (o : Ord f) : SpL sp_law_leasts ([.ref a] ++ []) H (nv (starts f f.length)) := fun H1 e Q q E => ⟨a, f, rfl, e a _ ha, o, q⟩
def sp_openers_of : Sp := fun vs H Q _ => ∃ (a : Addr) (h : List Nat) (rs : List (List Nat)), vs = [.ref a] ∧ H a = some (.lst (nv h)) ∧ Ord h ∧ Rings h rs ∧ RetL (nv (rs.map (·.headD 0))) H Q
theorem sl_openers_of {H : Hp} {a : Addr} {h : List Nat} {rs : List (List Nat)} (ha : H a = some (.lst (nv h))) (o : Ord h) (R : Rings h rs) : SpL sp_openers_of ([.ref a] ++ []) H (nv (rs.map (·.headD 0))) := fun H1 e Q q E => ⟨a, h, rs, rfl, e a _ ha, o, R, q⟩
theorem many {h : List Nat} {rs : List (List Nat)} (R : Rings h rs) : rs.length ≤ h.length := by
  have : ∀ l : List (List Nat), (∀ r ∈ l, 0 < r.length) → l.length ≤ l.flatten.length := fun l => by
    induction l with
    | nil => intro _; simp
    | cons r l ih =>
      intro hl
      have := ih fun x hx => hl x (by simp [hx])
      have := hl r (by simp)
      rw [List.flatten_cons, List.length_append, List.length_cons]
      omega
  have t := this rs fun r hr => (R.rg r hr).ne
  have hfl : rs.flatten.length = h.length := by rw [R.all.length_eq, List.length_range]
  omega
section
variable {P : Program} {w : World} {K : PySem.W.Frag} {mg : Str → Option Value} {base : Heap}
theorem ok_openers_of (T : Tx K mg) : FnOk P w K mg base CX0 6 T.f_openers_of T.d_openers_of ["seating"] sp_openers_of := by
  refine T.F_openers_of.ok sc_openers_of (fun vs H Q E h => ?_) (fun cdv A outer s H vs Q E hr h => ?_)
  · obtain ⟨a, h, rs, rfl, _⟩ := h
    rfl
  · obtain ⟨a, h, rs, rfl, ha, o, R, k⟩ := h
    refine ⟨_, (pss_one (ps_ret (pe_lc (own := [("table", 1)]) (g := (gName 1)) (tt := tYes) rfl sc_openers_of.nd (pi_list (pe_call (ok_tables_of T) (hr.mono (by decide)) (by rfl) T.g_tables_of T.F_tables_of.kp T.b_tables_of .nil pass0 (pa_cons (pv 0) pa_nil))) (blkOk_by (own := [("table", 1)]) (N := n_openers_of) (sc := defScope s_openers_of) (by decide +kernel)) (fun _ _ _ _ _ => (pg_name (i := 1) sc_openers_of.nd rfl (Or.inl rfl))) (fun _ _ _ _ _ => pts_nil) (fun _ _ _ _ _ => (pe_ix (r := rIxT K) ix_tup (pv 1) pe_int (fun _ _ => rfl)))))), ?_⟩
    have rn := many R
    have o2 := o.2.2
    have lt : EvLT (tCall sp_tables_of [] E0 (tCons (tVar 0) tNil)) (start n_openers_of [.ref a]) H (rs.map nv) := elt_tables (ev_var rfl) ha o R
    have g := el_mapLT (K := K) (te := tOp (rIxT K) (tVar 1) (tC (.int 0))) (tl := tCall sp_tables_of [] E0 (tCons (tVar 0) tNil)) (j := 1) (vs := [1]) (fun r => r.getD 0 .non) lt (by rw [List.length_map]; omega) (fun _ => rfl) fun b r H1 e1 hb hr => ?_
    · have e : (rs.map nv).map (fun r => r.getD 0 .non) = nv (rs.map (·.headD 0)) := by
        rw [nv_eq, List.map_map, List.map_map]
        refine List.map_congr_left fun r hr => ?_
        have := (R.rg r hr).ne
        cases r with
        | nil => simp at this
        | cons x l => rfl
      rw [e] at g
      exact s_retL g fun p H1 hp e1 h1 => k p H1 hp e1 h1
    · obtain ⟨r0, hr0, rfl⟩ := List.mem_map.mp hr
      have := (R.rg r0 hr0).ne
      cases r0 with
      | nil => simp at this
      | cons x l => exact ev_op (ev_var rfl) ev_c (rv_ixT (st_of hb) (atI_nat (j := 0) rfl))
theorem ok_law_leasts (T : Tx K mg) : FnOk P w K mg base CX0 1 T.f_law_leasts T.d_law_leasts ["row"] sp_law_leasts := by
  refine T.F_law_leasts.ok sc_law_leasts (fun vs H Q E h => ?_) (fun cdv A outer s H vs Q E hr h => ?_)
  · obtain ⟨a, f, rfl, _⟩ := h
    rfl
  · obtain ⟨a, f, rfl, ha, o, k⟩ := h
    refine ⟨_, (pss_one (ps_ret (pe_lc (own := [("k", 1)]) (g := (gName 1)) rfl sc_law_leasts.nd (pi_range1 (by rfl) T.m_range (pa_cons (pe_callB (id := "len") (r := rLenS K) call_lenR (by rfl) T.m_len (by decide +kernel) (pa_cons (pv 0) pa_nil)) pa_nil)) (blkOk_by (own := [("k", 1)]) (N := n_law_leasts) (sc := defScope s_law_leasts) (by decide +kernel)) (fun _ _ _ _ _ => (pg_name (i := 1) sc_law_leasts.nd rfl (Or.inl rfl))) (fun _ _ _ _ _ => (pts_one (pt_cmpR op_eq (pe_ix (r := rIxL K) ix_list (pv 0) (pv 1) (fun _ _ => rfl)) (pe_callB (id := "min") (r := rMin K) (cr_min rfl) (by rfl) T.m_min (by decide +kernel) (pa_cons (pe_slice (r := rSlL K) sl_list (pv 0) po_none (po_some (pe_op op_add (pv 1) pe_int))) pa_nil)) (nomark _)))) (fun _ _ _ _ _ => (pv 1))))), ?_⟩
    have o2 := o.2
    have sv : nv (starts f f.length) = given ((f.length : Int)).toNat (leadAt f) (fun i => V.int (i : Nat)) := by
      rw [Int.toNat_natCast, nv_eq]
      rfl
    refine s_retL (xs := nv (starts f f.length)) ?_ fun p H1 hp e1 h1 => k p H1 hp e1 h1
    rw [sv]
    refine el_lcR1 (n := (f.length : Int)) _ _ (ea_cons (ev_lenH rfl ha) ea_nil) (by omega) (fun _ => rfl) (fun i H1 e1 hi => ?_) (fun i H1 e1 hi _ => ev_var rfl)
    have hil : i < f.length := by omega
    obtain ⟨m, hm1, hm2, hm3⟩ := min_lead hil
    have hx : f[i]? = some (f.getD i 0) := by
      rw [List.getD_eq_getElem?_getD, List.getElem?_eq_getElem hil]
      rfl
    refine et_is (et_test (ev_op (ev_op (ev_var rfl) (ev_var rfl) (rv_ixL (K := K) (sq_of (e1 a _ ha)) (atI_nat (nv_get hx)))) (ev_minIs ?_ hm1 hm2) (rv_eq rfl))) hm3
    have g := el_sl (K := K) (te := tVar 0) (σ := [some (.ref a), some (.int (i : Int))]) (H := H1) (lo := none) (hi := some ((i : Int) + 1)) (tl := tNoPart) (th := tPart (tOp (rI0 fun i j => .int (i + j)) (tVar 1) (tC (.int 1)))) (ev_var rfl) eo_none (eo_some (ev_op (ev_var rfl) ev_c rv_I0)) (sq_of (e1 a _ ha))
    rw [show (i : Int) + 1 = ((i + 1 : Nat) : Int) by omega, cut_to (by omega)] at g
    exact g
end


local macro_rules | `(tactic| walk_at "call") => `(tactic| (with_reducible exact sv_whole))
local macro_rules | `(tactic| walk_at "call") => `(tactic| ((with_reducible refine' sv_ord ?c1 ?c2); (case c1 => assumption); (case c2 => assumption)))

local macro_rules | `(tactic| walk_at "call") => `(tactic| ((with_reducible refine' sv_pow ?c1 ?c2 ?c3); (case c1 => walk_at "side"); (case c2 => walk_at "side"); (case c3 => walk_at "side")))
local macro_rules | `(tactic| walk_at "call") => `(tactic| ((with_reducible refine' sv_rise ?c1 ?c2); (case c1 => walk_at "side"); (case c2 => walk_at "side")))
local macro_rules | `(tactic| walk_at "call") => `(tactic| (with_reducible exact sv_between))
local macro_rules | `(tactic| walk_at "call") => `(tactic| ((with_reducible refine' sv_check1 ?c1 ?c2); (case c1 => walk_at "side"); (case c2 => walk_at "side")))
local macro_rules | `(tactic| walk_at "call") => `(tactic| ((with_reducible refine' sv_check_number ?c1 ?c2); (case c1 => walk_at "side"); (case c2 => walk_at "side")))
local macro_rules | `(tactic| walk_at "callU") => `(tactic| ((with_reducible refine' su_fraction ?c1 ?c2); (case c1 => walk_at "side"); (case c2 => walk_at "side")))

local macro_rules | `(tactic| walk_at "callL") => `(tactic| ((with_reducible refine' sl_wbt ?c1 ?c2 ?c3); (case c1 => walk_at "side"); (case c2 => walk_at "side"); (case c3 => walk_at "side")))
local macro_rules | `(tactic| walk_at "callU") => `(tactic| ((with_reducible refine' su_share ?c1 ?c2 ?c3 ?c4 ?c5); (case c1 => walk_at "side"); (case c2 => walk_at "side"); (case c3 => walk_at "side"); (case c4 => walk_at "side"); (case c5 => walk_at "side")))


/-! ### _law_one_right -/
theorem iz_len0 (r : List Nat) : (iz r).length = r.length := by simp [iz]
def sp_law_one_right : Sp := fun vs H Q _ => ∃ (a : Addr) (f : List Nat), vs = [.ref a] ∧ H a = some (.lst (nv f)) ∧ Ord f ∧ RetV (.bl true) H Q
theorem sv_one {H : Hp} {a : Addr} {f : List Nat} (ha : H a = some (.lst (nv f))) (o : Ord f) : SpV sp_law_one_right ([.ref a] ++ []) H (.bl true) := fun H1 e Q q E => ⟨a, f, rfl, e a _ ha, o, q⟩
section
variable {P : Program} {w : World} {K : PySem.W.Frag} {mg : Str → Option Value} {base : Heap}
theorem ok_law_one_right (T : Tx K mg) : FnOk P w K mg base CX0 7 T.f_law_one_right T.d_law_one_right ["row"] sp_law_one_right := by
  refine T.F_law_one_right.ok sc_law_one_right (fun vs H Q E h => ?_) (fun cdv A outer s H vs Q E hr h => ?_)
  · obtain ⟨a, f, rfl, _⟩ := h
    rfl
  · obtain ⟨a, f, rfl, ha, o, k⟩ := h
    refine ⟨_, (pss_cons (ps_par (i := 1) (j := 2) (by rfl) sc_law_one_right.nd rfl rfl (by decide) rfl rfl (pa_cons (pe_callB call_lenR (by rfl) T.m_len (by decide +kernel) (pa_cons (pv 0) pa_nil)) (pa_cons (pe_call (ok_law_leasts T) (hr.mono (by decide)) (by rfl) T.g_law_leasts T.F_law_leasts.kp T.b_law_leasts .nil pass0 (pa_cons (pv 0) pa_nil)) pa_nil)) (by rfl))
      (pss_cons (ps_set (i := 3) sc_law_one_right.nd rfl (Or.inl rfl) (pe_call (ok_seating_of_records T) (hr.mono (by decide)) (by rfl) T.g_seating_of_records T.F_seating_of_records.kp T.b_seating_of_records .nil pass0 (pa_cons (pv 0) pa_nil)))
      (pss_cons (ps_set (i := 4) sc_law_one_right.nd rfl (Or.inl rfl) (pe_call (ok_tables_of T) (hr.mono (by decide)) (by rfl) T.g_tables_of T.F_tables_of.kp T.b_tables_of .nil pass0 (pa_cons (pv 3) pa_nil)))
      (pss_cons (ps_if (PW.pt (pw_or (pt_cmpR (op_neD hr.units) (pe_call (ok_record_list T) (hr.mono (by decide)) (by rfl) T.g_record_list T.F_record_list.kp T.b_record_list .nil pass0 (pa_cons (pv 3) pa_nil)) (pv 0) (nomark _)) (pw_or1 (pt_cmpR (op_neD hr.units) (pe_call (ok_openers_of T) (hr.mono (by decide)) (by rfl) T.g_openers_of T.F_openers_of.kp T.b_openers_of .nil pass0 (pa_cons (pv 3) pa_nil)) (pe_callB cr_sorted (by rfl) T.m_sorted (by decide +kernel) (pa_cons (pe_lc (own := [("k", 5)]) (g := (gName 5)) (tt := tYes) rfl sc_law_one_right.nd (pi_list (pv 2)) (blkOk_by (own := [("k", 5)]) (N := n_law_one_right) (sc := defScope s_law_one_right) (by decide +kernel)) (fun _ _ _ _ _ => (pg_name (i := 5) sc_law_one_right.nd rfl (Or.inl rfl))) (fun _ _ _ _ _ => pts_nil) (fun _ _ _ _ _ => (pe_ix (r := rIxL K) ix_list (pv 0) (pv 5) (fun _ _ => rfl)))) pa_nil)) (nomark _))))) (pss_one (ps_ret pe_bl)) pss_nil)
      (pss_cons (ps_if (pt_cmpR (op_neD hr.units) (pe_lc (own := [("ring", 6)]) (g := (gName 6)) (tt := tYes) rfl sc_law_one_right.nd (pi_list (pe_revLK (K := K) rfl (pv 4))) (blkOk_by (own := [("ring", 6)]) (N := n_law_one_right) (sc := defScope s_law_one_right) (by decide +kernel)) (fun _ _ _ _ _ => (pg_name (i := 6) sc_law_one_right.nd rfl (Or.inl rfl))) (fun _ _ _ _ _ => pts_nil) (fun _ _ _ _ _ => (pe_callB (id := "len") (r := rLenS K) call_lenR (by rfl) T.m_len (by decide +kernel) (pa_cons (pv 6) pa_nil)))) (pe_lc (own := [("low", 7), ("high", 8)]) (g := (gTup _ 2 (gCons (gName 7) (gCons (gName 8) gNil)))) (tt := tYes) rfl sc_law_one_right.nd (pi_zip (by rfl) T.m_zip (pa_cons (pv 2) (pa_cons (pe_op op_cat (pe_slice (r := rSlL K) sl_list (pv 2) (po_some pe_int) po_none) (pe_lst (pa_cons (pv 1) pa_nil))) pa_nil))) (blkOk_by (own := [("low", 7), ("high", 8)]) (N := n_law_one_right) (sc := defScope s_law_one_right) (by decide +kernel)) (fun _ _ _ _ _ => (pg_tup rfl (pgs_cons (pg_name (i := 7) sc_law_one_right.nd rfl (Or.inl rfl)) (pgs_cons (pg_name (i := 8) sc_law_one_right.nd rfl (Or.inl rfl)) pgs_nil)))) (fun _ _ _ _ _ => pts_nil) (fun _ _ _ _ _ => (pe_op op_sub (pv 8) (pv 7)))) (nomark _)) (pss_one (ps_ret pe_bl)) pss_nil)
      (pss_cons (ps_if (pt_cmpR (op_neD hr.units) (pe_lc (own := [("ring", 6)]) (g := (gName 6)) (tt := tYes) rfl sc_law_one_right.nd (pi_list (pe_revLK (K := K) rfl (pv 4))) (blkOk_by (own := [("ring", 6)]) (N := n_law_one_right) (sc := defScope s_law_one_right) (by decide +kernel)) (fun _ _ _ _ _ => (pg_name (i := 6) sc_law_one_right.nd rfl (Or.inl rfl))) (fun _ _ _ _ _ => pts_nil) (fun _ _ _ _ _ => (pe_ix (r := rIxT K) ix_tup (pv 6) pe_int (fun _ _ => rfl)))) (pe_lc (own := [("k", 5)]) (g := (gName 5)) (tt := tYes) rfl sc_law_one_right.nd (pi_list (pv 2)) (blkOk_by (own := [("k", 5)]) (N := n_law_one_right) (sc := defScope s_law_one_right) (by decide +kernel)) (fun _ _ _ _ _ => (pg_name (i := 5) sc_law_one_right.nd rfl (Or.inl rfl))) (fun _ _ _ _ _ => pts_nil) (fun _ _ _ _ _ => (pe_ix (r := rIxL K) ix_list (pv 0) (pv 5) (fun _ _ => rfl)))) (nomark _)) (pss_one (ps_ret pe_bl)) pss_nil)
      (pss_cons (ps_for PassesOwn.never rfl (pi_range1 (by rfl) T.m_range (pa_cons (pv 1) pa_nil)) (pg_name (i := 5) sc_law_one_right.nd rfl (Or.inl rfl)) (pss_one (ps_if (PW.pt (pw_and (pt_cmpR op_lt (pe_op op_add (pv 5) pe_int) (pv 1) (nomark _)) (pw_and (pt_cmpR op_notIn_seq (pe_op op_add (pv 5) pe_int) (pv 2) (by rfl)) (pw_and1 (pt_cmpR op_ne (pe_ix ix_list (pv 3) (pe_ix ix_list (pv 0) (pv 5) (fun _ _ => rfl)) (fun _ _ => rfl)) (pe_ix ix_list (pv 0) (pe_op op_add (pv 5) pe_int) (fun _ _ => rfl)) (nomark _)))))) (pss_one (ps_ret pe_bl)) pss_nil)))
      (pss_one (ps_ret pe_bl))))))))), ?_⟩
    have o2 := o.2
    have nd : f.Nodup := o.1.nodup_iff.mpr List.nodup_range
    have h0 : 0 < f.length := by omega
    have R := recs_rings o
    have oh := recs_ord o
    have RIh := recs_ri o
    have hlen := seat_len (recs f) f.length
    have hnext : ∀ k, k + 1 < f.length → k + 1 ∉ starts f f.length → (seat (recs f) f.length)[f.getD k 0]? = some (f.getD (k + 1) 0) := fun k hk hs => hall_next o hk hs
    have hc := recs_cuts o
    generalize hh : seat (recs f) f.length = h at R oh hlen hnext hc
    have rn := many R
    have hds := heads_at h0 nd
    have cr : (recs f).map (·.headD 0) = ((cuts f).map (·.headD 0)).reverse := by
      unfold recs
      rw [List.map_reverse]
    have srt : (iz ((recs f).map (·.headD 0))).Pairwise (· ≤ ·) := by
      unfold iz
      rw [List.pairwise_map]
      exact List.Pairwise.imp (fun {a b} h => by omega) RIh.asc
    have sl20 : (starts f f.length).length ≤ 20 := by
      unfold starts
      have := List.length_filter_le (leadAt f) (List.range f.length)
      rw [List.length_range] at this
      omega
    have st : ∀ {i x : Nat}, (starts f f.length)[i]? = some x → f[x]? = some (f.getD x 0) := fun h => by
      have := starts_lt (List.mem_of_getElem? h)
      rw [List.getD_eq_getElem?_getD, List.getElem?_eq_getElem this]
      rfl
    have rget : ∀ {x : Nat}, x < f.length → f[x]? = some (f.getD x 0) := fun h => by
      rw [List.getD_eq_getElem?_getD, List.getElem?_eq_getElem h]
      rfl
    refine q_parIL (ev_lenH rfl ha) (el_call (ea_cons (ev_var rfl) ea_nil) (sl_leasts ha o)) fun b H1 nb e1 hb => ?_
    have ha1 := e1 a _ ha
    refine q_asgL (xs := nv h) (el_call (ea_cons (ev_var rfl) ea_nil) (sl_of_records ha1 o hlen hc)) fun c H2 nc e2 hcc => ?_
    refine q_asgLT (rs := (recs f).map nv) (elt_tables (ev_var rfl) hcc oh R) fun d ws H3 nd3 e3 hd ht => ?_
    have ha3 := e3 a _ (e2 a _ ha1)
    have hb3 := e3 b _ (e2 b _ hb)
    have hc3 := e3 c _ hcc
    have wl := ht.len
    rw [List.length_map] at wl
    -- [row[k] for k in places]
    have picks : ∀ (y5 y6 y7 y8 : Option V) (H' : Hp), Ex H3 H' → EvL (tLc (iList K (tVar 2)) (gName 5) tYes (tOp (rIxL K) (tVar 0) (tVar 5)) [5]) [some (.ref a), some (.int (f.length : Int)), some (.ref b), some (.ref c), some (.ref d), y5, y6, y7, y8] H' (nv ((cuts f).map (·.headD 0))) := fun y5 y6 y7 y8 H' e' => by
      have g := el_mapI (K := K) (te := tOp (rIxL K) (tVar 0) (tVar 5)) (tl := tVar 2) (j := 5) (vs := [5]) (σ := [some (.ref a), some (.int (f.length : Int)), some (.ref b), some (.ref c), some (.ref d), y5, y6, y7, y8]) (H := H') (fun i => V.int (f.getD ((starts f f.length).getD i 0) 0 : Nat)) (ev_var rfl) (sq_of (e' b _ hb3)) (by rw [nv_len]; omega) (fun _ => rfl) fun i x H4 e4 hx => ?_
      · have e : (List.range (nv (starts f f.length)).length).map (fun i => V.int (f.getD ((starts f f.length).getD i 0) 0 : Nat)) = nv ((cuts f).map (·.headD 0)) := by
          rw [hds, nv_len, nv_eq, List.map_map]
          conv => rhs; rw [range_get (starts f f.length) 0]
          rw [List.map_map]
          rfl
        rw [e] at g
        exact g
      · have il := (List.getElem?_eq_some_iff.mp hx).1
        rw [nv_len] at il
        have hs : (starts f f.length)[i]? = some ((starts f f.length).getD i 0) := by
          rw [List.getD_eq_getElem?_getD, List.getElem?_eq_getElem il]
          rfl
        have := nv_get hs
        rw [this] at hx
        cases hx
        exact ev_op (ev_var rfl) (ev_var rfl) (rv_ixL (K := K) (sq_of (e4 a _ (e' a _ ha3))) (atI_nat (nv_get (st hs))))
    refine q_when (b := false) (et_is (et_or (et_test (ev_neD (d := di f) (e := di f) (ed_L (el_call (ea_cons (ev_var rfl) ea_nil) (by have := sl_record hc3 oh R; rw [recs_back] at this; exact this))) (ed_of (ev_var rfl) (dp_L ha3)) (shaped_di _) (shaped_di _))) fun _ => et_test (ev_neD (d := di ((recs f).map (·.headD 0))) (e := di ((recs f).map (·.headD 0))) (ed_L (el_call (ea_cons (ev_var rfl) ea_nil) (sl_openers_of hc3 oh R))) (ed_sortedL (ns := iz ((cuts f).map (·.headD 0))) (picks none none none none H3 (Ex.refl _)) (by rw [iz_len0, List.length_map, cuts_count h0 nd]; omega) ?_ srt) (shaped_di _) (shaped_di _))) (by rw [eqv_same (shaped_di _), eqv_same (shaped_di _)]; rfl)) (fun hb => Bool.noConfusion hb) fun _ H4 e4 => ?_
    · rw [cr]
      unfold iz
      exact (List.reverse_perm _).map _
    have ht4 := ht.ex e4
    have ha4 := e4 a _ ha3
    have hb4 := e4 b _ hb3
    -- the lists of a walk over the rings backwards
    have back : ∀ (H' : Hp), Ex H3 H' → EvLT (tRevL K (tVar 4)) [some (.ref a), some (.int (f.length : Int)), some (.ref b), some (.ref c), some (.ref d), none, none, none, none] H' ((cuts f).map nv) := fun H' e' H5 e5 Q q => by
      refine ev_var (i := 4) (v := .ref d) rfl H5 e5 _ fun H6 e6 => ⟨d, ws, rfl, sq_of (e6 d _ (e5 d _ (e' d _ hd))), fun l hl => q l _ _ (fresh_back e6 hl) (e6.trans (Ex.new hl)) upd_same ?_⟩
      have := ((ht.ex (e'.trans (e5.trans e6))).rev).ex (Ex.new (o := .lst ws.reverse) hl)
      unfold recs at this
      rw [← List.map_reverse, List.reverse_reverse] at this
      exact this
    have cl20 : ((cuts f).map nv).length ≤ 40000 := by rw [List.length_map, cuts_count h0 nd]; omega
    have cne : ∀ r ∈ cuts f, 0 < r.length := cuts_ne f
    have lens : EvL (tLc (iList K (tRevL K (tVar 4))) (gName 6) tYes (tCB (rLenS K) (tCons (tVar 6) tNil)) [6]) [some (.ref a), some (.int (f.length : Int)), some (.ref b), some (.ref c), some (.ref d), none, none, none, none] H4 (nv ((cuts f).map List.length)) := by
      have g := el_mapLT (K := K) (te := tCB (rLenS K) (tCons (tVar 6) tNil)) (tl := tRevL K (tVar 4)) (j := 6) (vs := [6]) (fun r => V.int (r.length : Int)) (back H4 e4) cl20 (fun _ => rfl) fun b r H5 e5 hb hr => ev_lenT (K := K) (ev_var rfl) (st_of hb)
      have e : ((cuts f).map nv).map (fun r => V.int (r.length : Int)) = nv ((cuts f).map List.length) := by
        rw [nv_eq, List.map_map, List.map_map]
        refine List.map_congr_left fun r _ => ?_
        show V.int ((nv r).length : Int) = _
        rw [nv_len]
        rfl
      rw [e] at g
      exact g
    have heads : ∀ H', Ex H4 H' → EvL (tLc (iList K (tRevL K (tVar 4))) (gName 6) tYes (tOp (rIxT K) (tVar 6) (tC (.int 0))) [6]) [some (.ref a), some (.int (f.length : Int)), some (.ref b), some (.ref c), some (.ref d), none, none, none, none] H' (nv ((cuts f).map (·.headD 0))) := fun H' e' => by
      have g := el_mapLT (K := K) (te := tOp (rIxT K) (tVar 6) (tC (.int 0))) (tl := tRevL K (tVar 4)) (j := 6) (vs := [6]) (fun r => r.getD 0 .non) (back H' (e4.trans e')) cl20 (fun _ => rfl) fun b r H5 e5 hb hr => ?_
      · have e : ((cuts f).map nv).map (fun r => r.getD 0 .non) = nv ((cuts f).map (·.headD 0)) := by
          rw [nv_eq, List.map_map, List.map_map]
          refine List.map_congr_left fun r hr => ?_
          have := cne r hr
          cases r with
          | nil => simp at this
          | cons x l => rfl
        rw [e] at g
        exact g
      · obtain ⟨r0, hr0, rfl⟩ := List.mem_map.mp hr
        have := cne r0 hr0
        cases r0 with
        | nil => simp at this
        | cons x l => exact ev_op (ev_var rfl) ev_c (rv_ixT (st_of hb) (atI_nat (j := 0) rfl))
    have zips : EvL (tLc (iZip K (tCons (tVar 2) (tCons (tOp rCat (tSl (rSlL K) (tVar 2) (tPart (tC (.int 1))) tNoPart) (tLst (tCons (tVar 1) tNil))) tNil))) (gTup K 2 (gCons (gName 7) (gCons (gName 8) gNil))) tYes (tOp (rI0 fun i j => .int (i - j)) (tVar 8) (tVar 7)) [7, 8]) [some (.ref a), some (.int (f.length : Int)), some (.ref b), some (.ref c), some (.ref d), none, none, none, none] H4 (nv ((cuts f).map List.length)) := by
      have g1 := el_sl (K := K) (te := tVar 2) (σ := [some (.ref a), some (.int (f.length : Int)), some (.ref b), some (.ref c), some (.ref d), none, none, none, none]) (H := H4) (lo := some 1) (hi := none) (tl := tPart (tC (.int 1))) (th := tNoPart) (ev_var rfl) (eo_some ev_c) eo_none (sq_of hb4)
      rw [cut_tail] at g1
      have g2 : EvL (tLst (tCons (tVar 1) tNil)) [some (.ref a), some (.int (f.length : Int)), some (.ref b), some (.ref c), some (.ref d), none, none, none, none] H4 (nv [f.length]) := el_lst (ea_cons (ev_var rfl) ea_nil) (Nat.le_of_ble_eq_true rfl)
      have g := el_cat g1 g2 (by rw [List.length_tail, nv_len, nv_len]; simp; omega)
      have et : (nv (starts f f.length)).tail ++ nv [f.length] = nv ((starts f f.length).tail ++ [f.length]) := by
        rw [nv_app]
        congr 1
        rw [nv_eq, nv_eq, List.map_tail]
      rw [et] at g
      have sp := starts_pos h0 nd
      rw [← lens_at h0 nd]
      exact el_zipO (K := K) (i := 7) (j := 8) (vs := [7, 8]) subV (ev_var rfl) (sq_of hb4) g (by rw [nv_len, nv_len, List.length_append, List.length_tail, List.length_singleton]; omega) (by rw [nv_len]; omega) (fun _ _ => rfl) fun n x y H5 e5 hx hy => by
        rw [nv_eq, List.getElem?_map] at hx hy
        obtain ⟨x', _, rfl⟩ := Option.map_eq_some_iff.mp hx
        obtain ⟨y', _, rfl⟩ := Option.map_eq_some_iff.mp hy
        exact ev_op (ev_var rfl) (ev_var rfl) rv_I0
    refine q_when (b := false) (et_is (et_test (ev_neD (d := di ((cuts f).map List.length)) (e := di ((cuts f).map List.length)) (ed_L lens) (ed_L zips) (shaped_di _) (shaped_di _))) (by rw [eqv_same (shaped_di _)]; rfl)) (fun hb => Bool.noConfusion hb) fun _ H5 e5 => ?_
    refine q_when (b := false) (et_is (et_test (ev_neD (d := di ((cuts f).map fun r : List Nat => r.headD 0)) (e := di ((cuts f).map fun r : List Nat => r.headD 0)) (ed_L (heads H5 e5)) (ed_L (picks none none none none H5 (e4.trans e5))) (shaped_di _) (shaped_di _))) (by rw [eqv_same (shaped_di _)]; rfl)) (fun hb => Bool.noConfusion hb) fun _ H6 e6 => ?_
    have e36 := e4.trans (e5.trans e6)
    refine q_forR1 (n := (f.length : Int)) (ea_cons (ev_var rfl) ea_nil) ⟨by omega, by omega⟩ (fun i σ' H' => ∃ y : Option V, σ' = [some (.ref a), some (.int (f.length : Int)), some (.ref b), some (.ref c), some (.ref d), y, none, none, none] ∧ Ex H6 H') (fun H7 e7 => ⟨none, rfl, e7⟩) ?_ ?_
    · rintro i σ' H' hi ⟨y, rfl, e⟩
      have hi : i < f.length := by omega
      have ex := e36.trans e
      have ha' := ex a _ ha3
      have hb' := ex b _ hb3
      have hc' := ex c _ hc3
      by_cases c1 : i + 1 < f.length
      · by_cases c2 : i + 1 ∈ starts f f.length
        · refine s_when (b := false) (et_is (et_and (a := true) (b := false) (et_is (et_test (ev_op (ev_op (ev_var rfl) ev_c rv_I0) (ev_var rfl) rv_I0)) (decide_eq_true (by omega))) fun _ => et_is (et_and (a := false) (b := false) (et_is (et_test (ev_op (ev_is (ev_op (ev_var rfl) ev_c rv_I0) (congrArg V.int (show (i : Int) + 1 = ((i + 1 : Nat) : Int) by omega))) (ev_var rfl) (rv_inL (sq_of hb') rfl (nv_flat _)))) (by rw [nv_in, decide_eq_true c2]; rfl)) fun z => Bool.noConfusion z) rfl) rfl) (fun hb => Bool.noConfusion hb) fun _ H7 e7 => ⟨_, rfl, e.trans e7⟩
        · have gx := rget hi
          have gy := rget c1
          refine s_when (b := false) (et_is (et_and (a := true) (b := false) (et_is (et_test (ev_op (ev_op (ev_var rfl) ev_c rv_I0) (ev_var rfl) rv_I0)) (decide_eq_true (by omega))) fun _ => et_is (et_and (a := true) (b := false) (et_is (et_test (ev_op (ev_is (ev_op (ev_var rfl) ev_c rv_I0) (congrArg V.int (show (i : Int) + 1 = ((i + 1 : Nat) : Int) by omega))) (ev_var rfl) (rv_inL (sq_of hb') rfl (nv_flat _)))) (by rw [nv_in, decide_eq_false c2]; rfl)) fun _ => et_is (et_test (ev_op (ev_op (ev_var rfl) (ev_op (ev_var rfl) (ev_var rfl) (rv_ixL (K := K) (sq_of ha') (atI_nat (nv_get gx)))) (rv_ixL (K := K) (sq_of hc') (atI_nat (nv_get (hnext i c1 c2))))) (ev_op (ev_var rfl) (ev_is (ev_op (ev_var rfl) ev_c rv_I0) (congrArg V.int (show (i : Int) + 1 = ((i + 1 : Nat) : Int) by omega))) (rv_ixL (K := K) (sq_of ha') (atI_nat (nv_get gy)))) (rv_ne rfl))) (by simp)) rfl) rfl) (fun hb => Bool.noConfusion hb) fun _ H7 e7 => ⟨_, rfl, e.trans e7⟩
      · refine s_when (b := false) (et_is (et_and (a := false) (b := false) (et_is (et_test (ev_op (ev_op (ev_var rfl) ev_c rv_I0) (ev_var rfl) rv_I0)) (decide_eq_false (by omega))) fun z => Bool.noConfusion z) rfl) (fun hb => Bool.noConfusion hb) fun _ H7 e7 => ⟨_, rfl, e.trans e7⟩
    · rintro σ' H' ⟨y, rfl, e⟩
      exact s_ret ev_c fun H7 e7 => k _ (e1.trans (e2.trans (e3.trans (e36.trans (e.trans e7)))))
end


local macro_rules | `(tactic| walk_at "call") => `(tactic| (with_reducible exact sv_whole))
local macro_rules | `(tactic| walk_at "call") => `(tactic| ((with_reducible refine' sv_ord ?c1 ?c2); (case c1 => assumption); (case c2 => assumption)))

local macro_rules | `(tactic| walk_at "call") => `(tactic| ((with_reducible refine' sv_pow ?c1 ?c2 ?c3); (case c1 => walk_at "side"); (case c2 => walk_at "side"); (case c3 => walk_at "side")))
local macro_rules | `(tactic| walk_at "call") => `(tactic| ((with_reducible refine' sv_rise ?c1 ?c2); (case c1 => walk_at "side"); (case c2 => walk_at "side")))
local macro_rules | `(tactic| walk_at "call") => `(tactic| (with_reducible exact sv_between))
local macro_rules | `(tactic| walk_at "call") => `(tactic| ((with_reducible refine' sv_check1 ?c1 ?c2); (case c1 => walk_at "side"); (case c2 => walk_at "side")))
local macro_rules | `(tactic| walk_at "call") => `(tactic| ((with_reducible refine' sv_check_number ?c1 ?c2); (case c1 => walk_at "side"); (case c2 => walk_at "side")))
local macro_rules | `(tactic| walk_at "callU") => `(tactic| ((with_reducible refine' su_fraction ?c1 ?c2); (case c1 => walk_at "side"); (case c2 => walk_at "side")))

local macro_rules | `(tactic| walk_at "callL") => `(tactic| ((with_reducible refine' sl_wbt ?c1 ?c2 ?c3); (case c1 => walk_at "side"); (case c2 => walk_at "side"); (case c3 => walk_at "side")))
local macro_rules | `(tactic| walk_at "callU") => `(tactic| ((with_reducible refine' su_share ?c1 ?c2 ?c3 ?c4 ?c5); (case c1 => walk_at "side"); (case c2 => walk_at "side"); (case c3 => walk_at "side"); (case c4 => walk_at "side"); (case c5 => walk_at "side")))


/-! ### _law_heavy, _law_newcomer_right -/
/-! ### drawn lists -/
def EvPA (p : Addr) (k : Nat) (ta : TA) (σ : L2.St) (H0 : Hp) (C : List V → Prop) : Prop := ∀ n H1, Ex H0 H1 → Po p n H1 → n + k ≤ 1000000000 →
  ∀ Q : List V → Hp → Prop, (∀ vs H2, C vs → Po p (n + k) H2 → Ex (Hm p H1) H2 → Q vs H2) → ta σ H1 Q
section
variable {K : PySem.W.Frag} {σ : L2.St} {H0 H : Hp} {p : Addr} {k k1 k2 : Nat} {te ta tb : TE} {R Ra Rb : V → Hp → Prop} {tr : TA} {A : V → Prop} {B C : List V → Prop}
theorem epa_nil : EvPA p 0 tNil σ H0 (fun vs => vs = []) := fun n H1 e hp _ Q q => q [] H1 rfl hp (hm_of (Ex.refl _))
theorem epa_cons (h0 : H0 p = none) (h : EvP p k1 te σ H0 (fun v _ => A v)) (hr : EvPA p k2 tr σ H0 B) : EvPA p (k1 + k2) (tCons te tr) σ H0 (fun vs => ∃ v r, vs = v :: r ∧ A v ∧ B r) := fun n H1 e hp hn Q q =>
  h n H1 e hp (by omega) _ fun v H2 hv p2 e2 => hr (n + k1) H2 (hm_next h0 e e2) p2 (by omega) _ fun vs H3 hvs p3 e3 => q (v :: vs) H3 ⟨v, vs, rfl, hv, hvs⟩ (by rw [← Nat.add_assoc]; exact p3) (hm_trans e2 e3)
theorem epa_pure {v : V} (h0 : H0 p = none) (h : Ev te σ H0 v) (hr : EvPA p k2 tr σ H0 B) : EvPA p (0 + k2) (tCons te tr) σ H0 (fun vs => ∃ x r, vs = x :: r ∧ x = v ∧ B r) := epa_cons (A := fun x => x = v) h0 (ep_ev h) hr
theorem ep_lst (h : EvPA p k tr σ H0 C) (hs : ∀ vs, C vs → vs.length ≤ 100000) : EvP p k (tLst tr) σ H0 (fun x H => ∃ l vs, l ≠ p ∧ x = .ref l ∧ H l = some (.lst vs) ∧ C vs) := fun n H1 e hp hn Q q =>
  h n H1 e hp hn _ fun vs H2 c p2 e2 => ⟨sz_of (hs vs c), fun l hl => q _ _ ⟨l, vs, p2.ne hl, rfl, upd_same, c⟩ (p2.ex (Ex.new hl)) (hm_trans e2 (hm_of (Ex.new hl)))⟩
theorem stb_lst : Stb p (fun x H => ∃ l vs, l ≠ p ∧ x = .ref l ∧ H l = some (.lst vs) ∧ C vs) := fun v H H' ⟨l, vs, ne, e, h, c⟩ s => ⟨l, vs, ne, e, hm_at s ne h, c⟩
theorem ep_ix (h0 : H0 p = none) {ix : V → Prop} (ha : EvP p k1 (tLst tr) σ H0 (fun x H => ∃ l vs, l ≠ p ∧ x = .ref l ∧ H l = some (.lst vs) ∧ C vs)) (hb : EvP p k2 tb σ H0 (fun v _ => ix v)) (hat : ∀ vs v, C vs → ix v → ∃ i z, v = .int i ∧ atI vs i = some z ∧ A z) :
    EvP p (k1 + k2) (tOp (rIxL K) (tLst tr) tb) σ H0 (fun v _ => A v) := ep_op h0 ha hb stb_lst stb_c fun x y H hx hy => by
  obtain ⟨l, vs, ne, rfl, hl, c⟩ := hx
  obtain ⟨i, z, rfl, hz, az⟩ := hat vs y c hy
  exact ⟨z, az, rv_ixL (sq_of hl) hz⟩
theorem ep_isZ (h0 : H0 p = none) (h : EvP p k te σ H0 (fun v _ => ∃ r, v = .int r ∧ 0 ≤ r)) : EvP p (k + 0) (tCB rIntB (tCons (tOp rEq te (tC (.int 0))) tNil)) σ H0 (fun v _ => v = .int 0 ∨ v = .int 1) := fun n H1 e hp hn Q q =>
  (ep_op (k1 := k) (k2 := 0) (R := fun v _ => ∃ b, v = .bl b) h0 h (ep_ev (v := .int 0) ev_c) stb_c stb_c fun x y H ⟨r, e1, _⟩ e2 => ⟨.bl (decide (x = y)), ⟨_, rfl⟩, by
    subst e1
    subst e2
    exact rv_eq rfl⟩) n H1 e hp hn _ fun v H2 ⟨b, hb⟩ p2 e2 => ⟨b, by rw [hb], q _ H2 (by cases b <;> simp) p2 e2⟩
theorem pq_parL {n i j : Nat} {D : Ends} {tz : TS} {ys : List V} (h : EvP p k ta σ H0 R) (e : Ex H0 H) (hp : Po p n H) (hn : n + k ≤ 1000000000) (hb : ∀ H1, EvL tb σ H1 ys) (q : ∀ v l H2 H3, R v H2 → H2 l = none → Ex H2 H3 → H3 l = some (.lst ys) → Po p (n + k) H3 → Ex (Hm p H) H2 → tz D ((σ.set i (some v)).set j (some (.ref l))) H3) :
    tSeq (tPar i j (tCons ta (tCons tb tNil))) tz D σ H := h n H e hp hn _ fun v H2 hv p2 e2 => hb H2 H2 (Ex.refl _) _ fun l H3 hl e3 h3 => ⟨_, _, rfl, q v l H2 H3 hv hl e3 h3 (p2.ex e3) e2⟩
end

def sp_law_heavy : Sp := fun vs H Q _ => ∃ (p : Addr) (n : Nat), vs = [.ref p] ∧ Po p n H ∧ n + 3 < 1000000000 ∧ ∀ (w : Int) H', 1 ≤ w → w ≤ 1000000000000 → Po p (n + 3) H' → Ex (Hm p H) H' → Q (.int w) H'
theorem p_ret {σ : L2.St} {H0 H : Hp} {p : Addr} {k n : Nat} {te : TE} {R : V → Hp → Prop} {D : Ends} (h : EvP p k te σ H0 R) (e : Ex H0 H) (hp : Po p n H) (hn : n + k ≤ 1000000000) (q : ∀ v H2, R v H2 → Po p (n + k) H2 → Ex (Hm p H) H2 → D.rt v H2) : tRet te D σ H := h n H e hp hn _ q
section
variable {P : Program} {w : World} {K : PySem.W.Frag} {mg : Str → Option Value} {base : Heap}
theorem ok_law_heavy (T : Tx K mg) : FnOk P w K mg base CX0 2 T.f_law_heavy T.d_law_heavy ["pouch"] sp_law_heavy := by
  refine T.F_law_heavy.ok sc_law_heavy (fun vs H Q E h => ?_) (fun cdv A outer s H vs Q E hr h => ?_)
  · obtain ⟨p, n, rfl, _⟩ := h
    rfl
  · obtain ⟨p, n, rfl, hpo, hn, k⟩ := h
    refine ⟨_, (pss_one (ps_ret (pe_ix ix_list (pe_lst (pa_cons pe_int (pa_cons pe_int (pa_cons (pe_op op_add pe_int (pe_call (ok_law_dip T) (hr.mono (by decide)) (by rfl) T.g_law_dip T.F_law_dip.kp T.b_law_dip .nil pass0 (pa_cons (pv 0) (pa_cons pe_int pa_nil)))) (pa_cons (pe_op op_add pe_int (pe_call (ok_law_dip T) (hr.mono (by decide)) (by rfl) T.g_law_dip T.F_law_dip.kp T.b_law_dip .nil pass0 (pa_cons (pv 0) (pa_cons (pe_op op_powX pe_int pe_int) pa_nil)))) (pa_cons (pe_op op_powX pe_int pe_int) pa_nil)))))) (pe_call (ok_law_dip T) (hr.mono (by decide)) (by rfl) T.g_law_dip T.F_law_dip.kp T.b_law_dip .nil pass0 (pa_cons (pv 0) (pa_cons pe_int pa_nil))) (fun _ _ => rfl)))), ?_⟩
    have ten : Ev (tOp (rI CPowX fun i j => .int (i ^ j.toNat)) (tC (.int 10)) (tC (.int 12))) (start n_law_heavy [.ref p]) (Hm p H) (.int ((10 : Int) ^ (12 : Int).toNat)) := ev_op ev_c ev_c (rv_I (by constructor <;> decide +kernel))
    refine p_ret (p := p) (k := ((0 + (0 + ((0 + 1) + ((0 + 1) + (0 + 0)))))) + 1) (H0 := Hm p H) (R := fun v _ => ∃ w : Int, v = .int w ∧ 1 ≤ w ∧ w ≤ 1000000000000) (ep_ix (A := fun v => ∃ w : Int, v = .int w ∧ 1 ≤ w ∧ w ≤ 1000000000000) (ix := fun v => ∃ r, v = .int r ∧ 0 ≤ r ∧ r < 5) (C := fun vs => ∃ a b : Int, vs = [.int 1, .int 2, .int (1 + a), .int (1 + b), .int ((10 : Int) ^ (12 : Int).toNat)] ∧ (0 ≤ a ∧ a < 9) ∧ (0 ≤ b ∧ b < 10 ^ 12)) hm_p
        (ep_is (ep_lst (epa_pure hm_p ev_c (epa_pure hm_p ev_c (epa_cons (A := fun v => ∃ a : Int, v = .int (1 + a) ∧ (0 ≤ a ∧ a < 9)) hm_p (ep_add (C := fun r => 0 ≤ r ∧ r < 9) hm_p ev_c (ep_dipI (w := 9) hm_p (ev_var rfl) ev_c (by decide) (by decide))) (epa_cons (A := fun v => ∃ a : Int, v = .int (1 + a) ∧ (0 ≤ a ∧ a < 10 ^ 12)) hm_p (ep_add (C := fun r => 0 ≤ r ∧ r < 10 ^ 12) hm_p ev_c (ep_dipI (w := (10 : Int) ^ (12 : Int).toNat) hm_p (ev_var rfl) ten (by decide) (by decide))) (epa_pure hm_p ten epa_nil))))) ?_) ?_) (ep_dipI (w := 5) hm_p (ev_var rfl) ev_c (by decide) (by decide)) ?_) hm_sub hpo (by omega) ?_
    · rintro vs ⟨_, _, rfl, _, _, _, rfl, _, _, _, rfl, _, _, _, rfl, _, _, _, rfl, _, rfl⟩
      exact Nat.le_of_ble_eq_true rfl
    · rintro v H4 ⟨l, vs, ne, rfl, hl, _, _, rfl, rfl, _, _, rfl, rfl, _, _, rfl, ⟨a, rfl, ha⟩, _, _, rfl, ⟨b, rfl, hb⟩, _, _, rfl, rfl, rfl⟩
      exact ⟨l, _, ne, rfl, hl, a, b, rfl, ha, hb⟩
    · rintro vs v ⟨a, b, rfl, ⟨a0, a1⟩, ⟨b0, b1⟩⟩ ⟨i, rfl, i0, i1⟩
      have : i = 0 ∨ i = 1 ∨ i = 2 ∨ i = 3 ∨ i = 4 := by omega
      rcases this with rfl | rfl | rfl | rfl | rfl
      · exact ⟨0, .int 1, rfl, rfl, 1, rfl, by decide, by decide⟩
      · exact ⟨1, .int 2, rfl, rfl, 2, rfl, by decide, by decide⟩
      · exact ⟨2, .int (1 + a), rfl, rfl, _, rfl, by omega, by omega⟩
      · exact ⟨3, .int (1 + b), rfl, rfl, _, rfl, by omega, by omega⟩
      · exact ⟨4, _, rfl, rfl, _, rfl, by decide, by decide⟩
    · rintro v H2 ⟨x, rfl, x0, x1⟩ p2 e2
      exact k x H2 x0 x1 (p2.mono (by omega)) e2
end

theorem el_call1L {σ : L2.St} {H : Hp} {te : TE} {sp : Sp} {dvs xs ys : List V} {E : XK} (h : EvL te σ H xs) (hs : ∀ p H1, Ex H H1 → H1 p = some (.lst xs) → SpL sp ([.ref p] ++ dvs) H1 ys) : EvL (tCall sp dvs E (tCons te tNil)) σ H ys := fun H1 e Q q =>
  h H1 e _ fun p H2 _ e2 h2 => hs p H2 (e.trans e2) h2 H2 (Ex.refl _) Q (fun l H3 hl e3 h3 => q l H3 (fresh_back e2 hl) (e2.trans e3) h3) E
theorem q_parLV {σ : L2.St} {H : Hp} {ta tb : TE} {D : Ends} {tz : TS} {i j : Nat} {x : V} {ys : List V} (h2 : EvL ta σ H ys) (h : ∀ H1, Ex H H1 → Ev tb σ H1 x) (k : ∀ q H1, H q = none → Ex H H1 → H1 q = some (.lst ys) → tz D ((σ.set i (some (.ref q))).set j (some x)) H1) : tSeq (tPar i j (tCons ta (tCons tb tNil))) tz D σ H :=
  h2 H (Ex.refl H) _ fun q H1 hq e1 h3 => h H1 e1 H1 (Ex.refl _) _ fun H2 e2 => ⟨_, _, rfl, k q H2 hq (e1.trans e2) (e2 q _ h3)⟩
theorem cut_fr (xs : List V) {k : Nat} (h : k ≤ xs.length) : cutV xs (some (k : Int)) none = xs.drop k := by
  unfold cutV
  rw [HT.sIx_none, HT.sIx_nat, Nat.min_eq_left h]
  exact List.take_of_length_le (by rw [List.length_drop]; omega)
theorem grown {f c : List Nat} (o : Ord f) (fl : f.length ≤ 19) (oc : Cm c) (lc : c.length = f.length) (ec : sby c c.length = seat (recs f) f.length) {x : Nat} (hx : x ≤ f.length) : Cm (c ++ [x]) ∧ sby (c ++ [x]) (c ++ [x]).length = seat (rstep (recs f) f.length x) (f.length + 1) := by
  refine ⟨⟨by simp, by simp; omega, fun i y h => ?_⟩, ?_⟩
  · rcases Nat.lt_trichotomy i c.length with q | q | q
    · rw [List.getElem?_append_left q] at h
      exact oc.2.2 i y h
    · subst q
      rw [List.getElem?_append_right (Nat.le_refl _), Nat.sub_self] at h
      have := Option.some.inj h
      omega
    · rw [List.getElem?_eq_none (by simp; omega)] at h
      cases h
  · rw [List.length_append, List.length_singleton, sby_ext.2, ec, lc, sits_seat (recs_ri o) hx]
    rfl
theorem el_told {σ : L2.St} {H : Hp} {te : TE} {E1 E2 : XK} {f c g : List Nat} (o : Ord f) (fl : f.length ≤ 19) (oc : Cm c) (lc : c.length = f.length) (ec : sby c c.length = seat (recs f) f.length) {x : Nat} (hx : x ≤ f.length)
    (h : EvL te σ H (nv c ++ [.int (x : Int)])) (eg : ((rstep (recs f) f.length x).reverse).flatten = g) : EvL (tCall sp_record_list [] E1 (tCons (tCall sp_seating_by [] E2 (tCons te tNil)) tNil)) σ H (nv g) := by
  obtain ⟨g1, g2⟩ := grown o fl oc lc ec hx
  subst eg
  have R := (recs_ri o).step hx
  have on := g1.ord
  rw [g2] at on
  have h : EvL te σ H (nv (c ++ [x])) := by
    rw [nv_app]
    exact h
  have b := el_by1 (E := E2) h g1
  rw [g2] at b
  exact el_call1L b fun p H1 _ hp => sl_record hp on R.rings
def sp_law_newcomer : Sp := fun vs H Q _ => ∃ (p : Addr) (n : Nat) (a : Addr) (f : List Nat), vs = [.ref p, .ref a] ∧ Po p n H ∧ n < 1000000000 ∧ a ≠ p ∧ H a = some (.lst (nv f)) ∧ Ord f ∧ f.length ≤ 19 ∧ ∀ H', Po p (n + 1) H' → Ex (Hm p H) H' → Q (.bl true) H'
section
variable {P : Program} {w : World} {K : PySem.W.Frag} {mg : Str → Option Value} {base : Heap}
theorem ok_law_newcomer_right (T : Tx K mg) : FnOk P w K mg base CX0 7 T.f_law_newcomer_right T.d_law_newcomer_right ["pouch", "row"] sp_law_newcomer := by
  refine T.F_law_newcomer_right.ok sc_law_newcomer_right (fun vs H Q E h => ?_) (fun cdv A outer s H vs Q E hr h => ?_)
  · obtain ⟨p, n, a, f, rfl, _⟩ := h
    rfl
  · obtain ⟨p, n, a, f, rfl, hpo, hn, ne, ha, o, fl, k⟩ := h
    refine ⟨_, (pss_cons (ps_par (i := 2) (j := 3) (by rfl) sc_law_newcomer_right.nd rfl rfl (by decide) rfl rfl (pa_cons (pe_call (ok_seating_of_records T) (hr.mono (by decide)) (by rfl) T.g_seating_of_records T.F_seating_of_records.kp T.b_seating_of_records .nil pass0 (pa_cons (pv 1) pa_nil)) (pa_cons (pe_callB call_lenR (by rfl) T.m_len (by decide +kernel) (pa_cons (pv 1) pa_nil)) pa_nil)) (by rfl))
      (pss_cons (ps_set (i := 4) sc_law_newcomer_right.nd rfl (Or.inl rfl) (pe_call (ok_coming_of T) (hr.mono (by decide)) (by rfl) T.g_coming_of T.F_coming_of.kp T.b_coming_of .nil pass0 (pa_cons (pv 2) pa_nil)))
      (pss_cons (ps_if (pt_cmpR (op_neD hr.units) (pe_call (ok_record_list T) (hr.mono (by decide)) (by rfl) T.g_record_list T.F_record_list.kp T.b_record_list .nil pass0 (pa_cons (pe_call (ok_seating_by T) (hr.mono (by decide)) (by rfl) T.g_seating_by T.F_seating_by.kp T.b_seating_by .nil pass0 (pa_cons (pe_op op_cat (pv 4) (pe_lst (pa_cons (pv 3) pa_nil))) pa_nil)) pa_nil)) (pe_op op_cat (pe_lst (pa_cons (pv 3) pa_nil)) (pv 1)) (nomark _)) (pss_one (ps_ret pe_bl)) pss_nil)
      (pss_cons (ps_set (i := 5) sc_law_newcomer_right.nd rfl (Or.inl rfl) (pe_call (ok_law_dip T) (hr.mono (by decide)) (by rfl) T.g_law_dip T.F_law_dip.kp T.b_law_dip .nil pass0 (pa_cons (pv 0) (pa_cons (pv 3) pa_nil))))
      (pss_cons (ps_set (i := 6) sc_law_newcomer_right.nd rfl (Or.inl rfl) (pe_op op_cat (pe_op op_cat (pe_slice sl_list (pv 1) po_none (po_some (pe_op op_add (pv 5) pe_int))) (pe_lst (pa_cons (pv 3) pa_nil))) (pe_slice sl_list (pv 1) (po_some (pe_op op_add (pv 5) pe_int)) po_none)))
      (pss_one (ps_ret (pe_cmpR (op_eqD hr.units) (pe_call (ok_record_list T) (hr.mono (by decide)) (by rfl) T.g_record_list T.F_record_list.kp T.b_record_list .nil pass0 (pa_cons (pe_call (ok_seating_by T) (hr.mono (by decide)) (by rfl) T.g_seating_by T.F_seating_by.kp T.b_seating_by .nil pass0 (pa_cons (pe_op op_cat (pv 4) (pe_lst (pa_cons (pe_ix ix_list (pv 1) (pv 5) (fun _ _ => rfl)) pa_nil))) pa_nil)) pa_nil)) (pv 6) (nomark _))))))))), ?_⟩
    have o2 := o.2
    have h0 : 0 < f.length := by omega
    obtain ⟨c, oc, lc, ec⟩ := ord_cm (recs_ord o)
    rw [seat_len] at lc
    have hlen := seat_len (recs f) f.length
    have hc := recs_cuts o
    refine q_parLV (el_call (ea_cons (ev_var rfl) ea_nil) (sl_of_records ha o hlen hc)) (fun H1 e1 => ev_lenH rfl (e1 a _ ha)) fun b H1 nb e1 hb => ?_
    rw [← ec] at hb
    refine q_asgL (xs := nv c) (el_call (ea_cons (ev_var rfl) ea_nil) (sl_coming_of hb oc)) fun d H2 nd e2 hd => ?_
    have ha2 := e2 a _ (e1 a _ ha)
    have l1 : EvL (tOp rCat (tLst (tCons (tVar 3) tNil)) (tVar 1)) [some (.ref p), some (.ref a), some (.ref b), some (.int (f.length : Int)), some (.ref d), none, none] H2 (nv (f.length :: f)) := by
      have e : nv (f.length :: f) = [V.int (f.length : Int)] ++ nv f := by
        rw [nv_eq, nv_eq]
        rfl
      rw [e]
      exact el_catR (el_lst (ea_cons (ev_var rfl) ea_nil) (Nat.le_of_ble_eq_true rfl)) (ev_var rfl) ha2 (by rw [nv_len]; show 1 + f.length ≤ 1000; omega)
    have lz : ∀ z : V, (nv c).length + [z].length ≤ 1000 := fun z => by
      rw [nv_len]
      show c.length + 1 ≤ 1000
      omega
    refine q_when (b := false) (et_is (et_test (ev_neD (d := di (f.length :: f)) (e := di (f.length :: f)) (ed_L (el_told o fl oc lc ec (Nat.le_refl _) (el_catL (ev_var rfl) hd (el_lst (ea_cons (ev_var rfl) ea_nil) (Nat.le_of_ble_eq_true rfl)) (lz _)) (recs_open f.length))) (ed_L l1) (shaped_di _) (shaped_di _))) (by rw [eqv_same (shaped_di _)]; rfl)) (fun hb => Bool.noConfusion hb) fun _ H3 e3 => ?_
    have e13 := e1.trans (e2.trans e3)
    have pb := hpo.ne nb
    have pd := (hpo.ex e1).ne nd
    refine pq_asg (p := p) (n := n) (k := 1) (H0 := Hm p H3) (ep_dipI (w := (f.length : Int)) hm_p (ev_var rfl) (ev_var rfl) (by omega) (by omega)) hm_sub (hpo.ex e13) (by omega) fun v H4 hv p4 e4 => ?_
    obtain ⟨r, rfl, r0, r1⟩ := hv
    obtain ⟨i, rfl⟩ : ∃ i : Nat, r = i := ⟨r.toNat, by omega⟩
    have hi : i < f.length := by omega
    have ha4 := hm_at e4 ne (e3 a _ ha2)
    have hd4 := hm_at e4 pd (e3 d _ hd)
    have gi : f[i]? = some (f.getD i 0) := by
      rw [List.getD_eq_getElem?_getD, List.getElem?_eq_getElem hi]
      rfl
    have s1 : EvL (tSl (rSlL K) (tVar 1) tNoPart (tPart (tOp (rI0 fun i j => .int (i + j)) (tVar 5) (tC (.int 1))))) [some (.ref p), some (.ref a), some (.ref b), some (.int (f.length : Int)), some (.ref d), some (.int (i : Int)), none] H4 (nv (f.take (i + 1))) := by
      have g := el_sl (K := K) (te := tVar 1) (σ := [some (.ref p), some (.ref a), some (.ref b), some (.int (f.length : Int)), some (.ref d), some (.int (i : Int)), none]) (H := H4) (lo := none) (hi := some ((i : Int) + 1)) (tl := tNoPart) (th := tPart (tOp (rI0 fun i j => .int (i + j)) (tVar 5) (tC (.int 1)))) (ev_var rfl) eo_none (eo_some (ev_op (ev_var rfl) ev_c rv_I0)) (sq_of ha4)
      rw [show (i : Int) + 1 = ((i + 1 : Nat) : Int) by omega, cut_to (by omega)] at g
      exact g
    have s2 : EvL (tSl (rSlL K) (tVar 1) (tPart (tOp (rI0 fun i j => .int (i + j)) (tVar 5) (tC (.int 1)))) tNoPart) [some (.ref p), some (.ref a), some (.ref b), some (.int (f.length : Int)), some (.ref d), some (.int (i : Int)), none] H4 (nv (f.drop (i + 1))) := by
      have g := el_sl (K := K) (te := tVar 1) (σ := [some (.ref p), some (.ref a), some (.ref b), some (.int (f.length : Int)), some (.ref d), some (.int (i : Int)), none]) (H := H4) (lo := some ((i : Int) + 1)) (hi := none) (tl := tPart (tOp (rI0 fun i j => .int (i + j)) (tVar 5) (tC (.int 1)))) (th := tNoPart) (ev_var rfl) (eo_some (ev_op (ev_var rfl) ev_c rv_I0)) eo_none (sq_of ha4)
      rw [show (i : Int) + 1 = ((i + 1 : Nat) : Int) by omega, cut_fr _ (by rw [nv_len]; omega), nv_eq, ← List.map_drop, ← nv_eq] at g
      exact g
    have tl1 : (f.take (i + 1)).length = i + 1 := by rw [List.length_take]; omega
    have s3 := el_cat (el_cat s1 (el_lst (ea_cons (ev_var (i := 3) rfl) ea_nil) (Nat.le_of_ble_eq_true rfl)) (by rw [nv_len, tl1]; show i + 1 + 1 ≤ 100000; omega)) s2 (by rw [List.length_append, nv_len, nv_len, tl1, List.length_drop]; show i + 1 + 1 + _ ≤ 100000; omega)
    have e3' : nv (f.take (i + 1)) ++ [V.int (f.length : Int)] ++ nv (f.drop (i + 1)) = nv (f.take (i + 1) ++ [f.length] ++ f.drop (i + 1)) := by
      rw [nv_app, nv_app, nv_eq [f.length]]
      rfl
    rw [e3'] at s3
    refine q_asgL s3 fun g H5 ng e5 hg => ?_
    have ha5 := e5 a _ ha4
    have hd5 := e5 d _ hd4
    have lti := List.mem_range.mp (o.1.mem_iff.mp (List.mem_of_getElem? gi))
    refine s_ret (ev_is (ev_eqD (d := di (f.take (i + 1) ++ [f.length] ++ f.drop (i + 1))) (e := di (f.take (i + 1) ++ [f.length] ++ f.drop (i + 1))) (ed_L (el_told o fl oc lc ec (Nat.le_of_lt lti) (el_catL (ev_var rfl) hd5 (el_lst (ea_cons (ev_op (ev_var rfl) (ev_var rfl) (rv_ixL (K := K) (sq_of ha5) (atI_nat (nv_get gi)))) ea_nil) (Nat.le_of_ble_eq_true rfl)) (lz _)) (recs_put o hi))) (ed_of (ev_var rfl) (dp_L hg)) (shaped_di _) (shaped_di _)) (by rw [eqv_same (shaped_di _)])) fun H6 e6 => k H6 (p4.ex (e5.trans e6)) ?_
    exact (hm_trans (hm_of e13) e4).trans (e5.trans e6)
end


local macro_rules | `(tactic| walk_at "call") => `(tactic| (with_reducible exact sv_whole))
local macro_rules | `(tactic| walk_at "call") => `(tactic| ((with_reducible refine' sv_ord ?c1 ?c2); (case c1 => assumption); (case c2 => assumption)))

local macro_rules | `(tactic| walk_at "call") => `(tactic| ((with_reducible refine' sv_pow ?c1 ?c2 ?c3); (case c1 => walk_at "side"); (case c2 => walk_at "side"); (case c3 => walk_at "side")))
local macro_rules | `(tactic| walk_at "call") => `(tactic| ((with_reducible refine' sv_rise ?c1 ?c2); (case c1 => walk_at "side"); (case c2 => walk_at "side")))
local macro_rules | `(tactic| walk_at "call") => `(tactic| (with_reducible exact sv_between))
local macro_rules | `(tactic| walk_at "call") => `(tactic| ((with_reducible refine' sv_check1 ?c1 ?c2); (case c1 => walk_at "side"); (case c2 => walk_at "side")))
local macro_rules | `(tactic| walk_at "call") => `(tactic| ((with_reducible refine' sv_check_number ?c1 ?c2); (case c1 => walk_at "side"); (case c2 => walk_at "side")))
local macro_rules | `(tactic| walk_at "callU") => `(tactic| ((with_reducible refine' su_fraction ?c1 ?c2); (case c1 => walk_at "side"); (case c2 => walk_at "side")))

local macro_rules | `(tactic| walk_at "callL") => `(tactic| ((with_reducible refine' sl_wbt ?c1 ?c2 ?c3); (case c1 => walk_at "side"); (case c2 => walk_at "side"); (case c3 => walk_at "side")))
local macro_rules | `(tactic| walk_at "callU") => `(tactic| ((with_reducible refine' su_share ?c1 ?c2 ?c3 ?c4 ?c5); (case c1 => walk_at "side"); (case c2 => walk_at "side"); (case c3 => walk_at "side"); (case c4 => walk_at "side"); (case c5 => walk_at "side")))


/-! ### all records of one to five guests: the mathematics -/
def hallOf (f : List Nat) : List Nat := seat (recs f) f.length
def hallsOf (m : Nat) : List (List Nat) := (every m).map hallOf
/-- a step of the count of records by their tables -/
def cntStep (cs : List Int) (f : List Nat) : List Int := cs.set (starts f f.length).length (cs.getD (starts f f.length).length 0 + 1)
def cntOf (m : Nat) (fs : List (List Nat)) : List Int := fs.foldl cntStep (List.replicate (m + 1) 0)
theorem every_ok : ∀ m : Nat, m < 6 → 0 < m → (∀ f ∈ every m, ordB f = true ∧ f.length = m) ∧ (every m).length ≤ 120 := by decide +kernel
theorem every_cnt : ∀ m : Nat, m < 6 → 0 < m → cntOf m (every m) = sums 1 m := by decide +kernel
theorem every_perm : ∀ m : Nat, m < 6 → 0 < m → (every m).isPerm (hallsOf m) = true := by decide +kernel
theorem every_up : ∀ m : Nat, m < 6 → 0 < m → ((every m).map iz).Pairwise (fun x y => decide (x ≤ y) = true) := by decide +kernel

local macro_rules | `(tactic| walk_at "call") => `(tactic| (with_reducible exact sv_whole))
local macro_rules | `(tactic| walk_at "call") => `(tactic| ((with_reducible refine' sv_ord ?c1 ?c2); (case c1 => assumption); (case c2 => assumption)))

local macro_rules | `(tactic| walk_at "call") => `(tactic| ((with_reducible refine' sv_pow ?c1 ?c2 ?c3); (case c1 => walk_at "side"); (case c2 => walk_at "side"); (case c3 => walk_at "side")))
local macro_rules | `(tactic| walk_at "call") => `(tactic| ((with_reducible refine' sv_rise ?c1 ?c2); (case c1 => walk_at "side"); (case c2 => walk_at "side")))
local macro_rules | `(tactic| walk_at "call") => `(tactic| (with_reducible exact sv_between))
local macro_rules | `(tactic| walk_at "call") => `(tactic| ((with_reducible refine' sv_check1 ?c1 ?c2); (case c1 => walk_at "side"); (case c2 => walk_at "side")))
local macro_rules | `(tactic| walk_at "call") => `(tactic| ((with_reducible refine' sv_check_number ?c1 ?c2); (case c1 => walk_at "side"); (case c2 => walk_at "side")))
local macro_rules | `(tactic| walk_at "callU") => `(tactic| ((with_reducible refine' su_fraction ?c1 ?c2); (case c1 => walk_at "side"); (case c2 => walk_at "side")))

theorem row_total : PySem.W.TotalLe (fun x y : List Int => decide (x ≤ y)) where
  total x y := by simpa using List.le_total x y
  trans x y z h1 h2 := by
    rw [decide_eq_true_iff] at h1 h2 ⊢
    exact List.le_trans h1 h2
theorem sorted_halls {m : Nat} (h : m < 6) (h0 : 0 < m) : ((hallsOf m).map iz).mergeSort (fun x y => decide (x ≤ y)) = (every m).map iz := by
  refine (PySem.W.Srt.the_of_perm _ (fun x y z h1 h2 => ?_) (fun x y => ?_) (fun x y h1 h2 => ?_) ((List.isPerm_iff.mp (every_perm m h h0)).map iz) (every_up m h h0)).symm
  · rw [decide_eq_true_iff] at h1 h2 ⊢
    exact List.le_trans h1 h2
  · simpa using List.le_total x y
  · rw [decide_eq_true_iff] at h1 h2
    exact List.le_antisymm h1 h2
theorem depthA_ints : ∀ l : List Int, (PyData.depthAll (l.map PyData.int)) ≤ 1
  | [] => Nat.zero_le _
  | x :: l => by
    have := depthA_ints l
    simp only [List.map_cons, PyData.depthAll, PyData.depth]
    omega
theorem zip_lb {H : Hp} : ∀ {ws : List V} {hs : List (List Nat)}, Paired (Lb H) ws hs → ∀ z ∈ ws.zip (hs.map iz), ∃ r, z.2 = iz r ∧ Lb H z.1 r
  | _, _, .nil, z, hz => by cases hz
  | _, _, .cons a t, z, hz => by
    rcases List.mem_cons.mp hz with e | q
    · subst e
      exact ⟨_, rfl, a⟩
    · exact zip_lb t z q
theorem zip_dp {K : PySem.W.Frag} {H : Hp} : ∀ (l : List (V × List Int)), (∀ z ∈ l, ∃ r, z.2 = iz r ∧ Lb H z.1 r) → DpAll K H ((l.map fun z => (z.1, PyData.list (z.2.map PyData.int))).map (·.1)) ((l.map (·.2)).map fun z => PyData.list (z.map PyData.int))
  | [], _ => .nil
  | z :: l, h => by
    obtain ⟨r, e, b, eb, hb⟩ := h z List.mem_cons_self
    refine .cons ?_ (zip_dp l fun y hy => h y (List.mem_cons_of_mem _ hy))
    show Dp K H z.1 (PyData.list (z.2.map PyData.int))
    rw [e, eb]
    exact dp_L hb
theorem ed_sortedLB {K : PySem.W.Frag} {σ : L2.St} {H : Hp} {ta : TE} {a : Addr} {ws : List V} {hs rs : List (List Nat)} (h : Ev ta σ H (.ref a)) (ha : H a = some (.lst ws)) (hw : Paired (Lb H) ws hs) (e : (hs.map iz).mergeSort (fun x y => decide (x ≤ y)) = rs.map iz) :
    EvD K (tCB (Kit.rSortedD K) (tCons ta tNil)) σ H (.list (rs.map di)) := by
  have hl := Paired.length hw
  have l1 : (ws.zip (hs.map iz)).map (·.1) = ws := List.map_fst_zip (by rw [List.length_map]; omega)
  have l2 : (ws.zip (hs.map iz)).map (·.2) = hs.map iz := List.map_snd_zip (by rw [List.length_map]; omega)
  have hz := zip_lb hw
  generalize ws.zip (hs.map iz) = z0 at l1 l2 hz
  have f1 : (z0.map fun z => (z.1, PyData.list (z.2.map PyData.int))).map (·.1) = ws := by
    rw [List.map_map]
    exact l1
  have g := Kit.el_sortedD (K := K) (zs := z0.map fun z => (z.1, PyData.list (z.2.map PyData.int))) h (by rw [f1]; exact sq_of ha) (fun z hz' => by
    obtain ⟨y, hy, rfl⟩ := List.mem_map.mp hz'
    obtain ⟨r, e1, b, e2, hb⟩ := hz y hy
    show Dp K H y.1 (PyData.list (y.2.map PyData.int))
    rw [e1, e2]
    exact dp_L hb) (Kit.rows_alike z0) (Kit.rows_sortable z0) (fun z hz' => by
    obtain ⟨y, hy, rfl⟩ := List.mem_map.mp hz'
    have := depthA_ints y.2
    show PyData.depth (PyData.list (y.2.map PyData.int)) ≤ 60
    simp only [PyData.depth]
    omega)
  rw [Kit.sorted_rows] at g
  have s2 : (z0.mergeSort fun x y => decide (x.2 ≤ y.2)).map (·.2) = rs.map iz := by
    rw [← e, ← l2]
    exact PySem.W.sort_maps (r := fun x y : V × List Int => decide (x.2 ≤ y.2)) (s := fun x y => decide (x ≤ y)) (fun z => z.2) fun _ _ _ _ => rfl
  have d := zip_dp (K := K) (z0.mergeSort fun x y => decide (x.2 ≤ y.2)) fun z hz' => hz z ((List.mergeSort_perm _ _).mem_iff.mp hz')
  have er : (rs.map iz).map (fun z => PyData.list (z.map PyData.int)) = rs.map di := List.map_map
  rw [s2, er] at d
  exact ed_ofL g d
/-- [[..] for r in rs], told by places -/
theorem elb_mapAt {K : PySem.W.Frag} {σ : L2.St} {H : Hp} {ta te : TE} {a : Addr} {ws : List V} {rs : List (List Nat)} {j : Nat} {vs : List Nat} (F : Nat → List Nat) (h : Ev ta σ H (.ref a)) (ha : H a = some (.lst ws)) (hr : Paired (Lb H) ws rs) (hz : ws.length ≤ 40000) (hw : ∀ x, wipe ((wipe σ vs).set j (some x)) vs = wipe σ vs)
    (he : ∀ (i : Nat) (b : Addr) (r : List Nat) H1, Ex H H1 → rs[i]? = some r → H1 b = some (.lst (nv r)) → EvL te ((wipe σ vs).set j (some (.ref b))) H1 (nv (F i))) : EvLB (tLc (iList K ta) (gName j) tYes te vs) σ H ((List.range rs.length).map F) := fun H0 e Q q => h H0 e _ fun H1 e1 => ⟨a, rfl, ⟨ws, sq_of (e1 a _ (e a _ ha))⟩, fun Dl hD =>
  lc_list (xs := ws) (fun i H' => Ex H1 H' ∧ ∃ us, H' Dl = some (.lst us) ∧ Paired (Lc Dl H') us ((List.range i).map F)) ⟨Ex.new hD, [], upd_same, .nil⟩ (fun i H' _ p => sq_of (p.1 a _ (e1 a _ (e a _ ha)))) (fun i x H' hi p => by
    obtain ⟨p1, us, p2, p3⟩ := p
    obtain ⟨r, hr1, b, rfl, hb⟩ := paired_get hr hi
    have hil := (List.getElem?_eq_some_iff.mp hi).1
    have ul : us.length = i := by
      have := Paired.length p3
      rw [List.length_map, List.length_range] at this
      exact this
    show wipe ((wipe σ vs).set j (some (.ref b))) vs = wipe σ vs ∧ te ((wipe σ vs).set j (some (.ref b))) H' fun y H4 => ∃ acc, H4 Dl = some (.lst acc) ∧ acc.length < sizeLine ∧ _
    refine ⟨hw _, he i b r H1 (e.trans e1) hr1 (e1 b _ (e b _ hb)) H' p1 _ fun l H4 hl4 e4 h4 => ?_⟩
    have lD : l ≠ Dl := fun z => by
      subst z
      rw [hl4] at p2
      cases p2
    refine ⟨us, e4 Dl _ p2, sz_lt (by omega), Ex.mut (p1.trans e4) hD, _, upd_same, ?_⟩
    rw [List.range_succ, List.map_append]
    exact Paired.snoc (paired_imp (fun _ _ z => (z.ex e4).upd) p3) ⟨l, rfl, lD, by rw [upd_ne lD]; exact h4⟩) (fun H' p => by
      obtain ⟨p1, us, p2, p3⟩ := p
      rw [Paired.length hr] at p3
      exact q Dl us H' (fresh_back e1 hD) (e1.trans p1) p2 (paired_imp (fun _ _ z => z.lb) p3))⟩
theorem cnt_len : ∀ (fs : List (List Nat)) (cs : List Int), (fs.foldl cntStep cs).length = cs.length
  | [], _ => rfl
  | f :: fs, cs => by
    rw [List.foldl_cons, cnt_len fs]
    unfold cntStep
    rw [List.length_set]
theorem stir_small : ∀ m : Nat, m < 6 → ∀ t : Nat, t < 6 → stir m t ≤ 120 := by decide +kernel
theorem canLay_dis : ∀ rs : List (List Nat), PyData.canLayAll0 (rs.map di) = true
  | [] => rfl
  | m :: r => by simp [PyData.canLayAll0, PyData.canLay0, di, canLay_ints, canLay_dis r]
theorem depth_dis : ∀ rs : List (List Nat), PyData.depthAll (rs.map di) ≤ 1
  | [] => by simp [PyData.depthAll]
  | m :: r => by
    have := depth_dis r
    simp [PyData.depthAll, PyData.depth, di, depth_ints]
    omega
theorem shaped_dis (rs : List (List Nat)) : SeqAt.shaped (.list (rs.map di)) = true := by
  have := depth_dis rs
  simp [SeqAt.shaped, PyData.canLay0, canLay_dis, PyData.depth]
  omega
/-- the share of a number of tables against the count -/
theorem share_eq {m t : Nat} {x : Int} (x0 : 1 ≤ x) : (stir m t : Int) * x ^ t / cd ((stir m t : Int) * x ^ t) (rise x m) * rise x m = rise x m / cd ((stir m t : Int) * x ^ t) (rise x m) * ((stir m t : Int) * 1 ^ t) * x ^ t := by
  have hp := cd_pos (a := (stir m t : Int) * x ^ t) (rise_pos x0 m)
  obtain ⟨a, ha⟩ := cd_dvd1 (a := (stir m t : Int) * x ^ t) (b := rise x m)
  obtain ⟨r, hr⟩ := cd_dvd2 (a := (stir m t : Int) * x ^ t) (b := rise x m)
  generalize cd ((stir m t : Int) * x ^ t) (rise x m) = g at hp ha hr
  rw [Int.one_pow, Int.mul_one, Int.mul_assoc _ (stir m t : Int) (x ^ t)]
  rw [ha, hr, Int.mul_ediv_cancel_left _ (by omega), Int.mul_ediv_cancel_left _ (by omega), ← Int.mul_assoc, ← Int.mul_assoc, Int.mul_comm a g, Int.mul_comm r g, Int.mul_assoc, Int.mul_assoc, Int.mul_comm a r]
theorem share_small {m t : Nat} {x : Int} (hm : m < 6) (ht : t < 6) (x0 : 1 ≤ x) (x1 : x ≤ 1000000000000) : ((stir m t : Int) * x ^ t / cd ((stir m t : Int) * x ^ t) (rise x m)).natAbs < 2 ^ 1000 ∧ (rise x m).natAbs < 2 ^ 1000 ∧ (rise x m / cd ((stir m t : Int) * x ^ t) (rise x m)).natAbs < 2 ^ 1000 ∧ ((stir m t : Int) * 1 ^ t).natAbs < 2 ^ 7 ∧ (x ^ t).natAbs < 2 ^ 1000 := by
  have hx : x.natAbs < 2 ^ 130 := by omega
  have b1 : (x ^ t).natAbs < 2 ^ 701 := lt2_mono (lt_of_le2 (natAbs_pow_le hx t)) (by omega)
  have b2 : (rise x m).natAbs < 2 ^ 701 := lt2_mono (lt_of_le2 (rise_le hx m (by omega))) (by omega)
  have b3 := stir_small m hm t ht
  have b4 : ((stir m t : Int)).natAbs < 2 ^ 7 := by
    rw [Int.natAbs_natCast]
    omega
  have b5 : ((stir m t : Int) * x ^ t).natAbs < 2 ^ (7 + 701) := natAbs_mul_lt b4 b1
  have hp := cd_pos (a := (stir m t : Int) * x ^ t) (rise_pos x0 m)
  have le : ∀ z : Int, (z / cd ((stir m t : Int) * x ^ t) (rise x m)).natAbs ≤ z.natAbs := fun z => Int.natAbs_ediv_le_natAbs _ _
  refine ⟨lt2_mono (Nat.lt_of_le_of_lt (le _) b5) (by omega), lt2_mono b2 (by omega), lt2_mono (Nat.lt_of_le_of_lt (le _) b2) (by omega), ?_, lt2_mono b1 (by omega)⟩
  rw [Int.one_pow, Int.mul_one]
  exact b4
theorem starts_le (f : List Nat) : (starts f f.length).length ≤ f.length := by
  unfold starts
  have := List.length_filter_le (leadAt f) (List.range f.length)
  rw [List.length_range] at this
  exact this
theorem q_every {σ : L2.St} {H : Hp} {t : TA} {D : Ends} {tz : TS} {i m : Nat} {E : XK} (h : EvA t σ H [.int (m : Int)]) (hm : m ≤ 5) (k : ∀ p ws H1, H p = none → Ex H H1 → H1 p = some (.lst ws) → Paired (Lb H1) ws (every m) → tz D (σ.set i (some (.ref p))) H1) : tSeq (tAsg (tCall sp_law_every [] E t) (gName i)) tz D σ H :=
  h H (Ex.refl H) _ fun H1 e1 => ⟨m, rfl, hm, fun p ws H' np e2 h2 hw => k p ws H' (fresh_back e1 np) (e1.trans e2) h2 hw⟩
/-! ### _law_all_right -/
section
variable {P : Program} {w : World} {K : PySem.W.Frag} {mg : Str → Option Value} {base : Heap}
def sp_law_all_right : Sp := fun vs H Q _ => ∃ (m : Nat) (x : Int), vs = [.int (m : Int), .int x] ∧ 1 ≤ m ∧ m ≤ 5 ∧ 1 ≤ x ∧ x ≤ 1000000000000 ∧ RetV (.bl true) H Q
theorem ok_law_all_right (T : Tx K mg) : FnOk P w K mg base CX0 7 T.f_law_all_right T.d_law_all_right ["many", "heavy"] sp_law_all_right := by
  refine T.F_law_all_right.ok sc_law_all_right (fun vs H Q E h => ?_) (fun cdv A outer s H vs Q E hr h => ?_)
  · obtain ⟨m, x, rfl, _⟩ := h
    rfl
  · obtain ⟨m, x, rfl, m0, m1, x0, x1, k⟩ := h
    refine ⟨_, (pss_cons (ps_set (i := 2) sc_law_all_right.nd rfl (Or.inl rfl) (pe_call (ok_law_every T) (hr.mono (by decide)) (by rfl) T.g_law_every T.F_law_every.kp T.b_law_every .nil pass0 (pa_cons (pv 0) pa_nil)))
      (pss_cons (ps_setLc (i := 4) (own := [("row", 3)]) (g := (gName 3)) (tt := tYes) rfl sc_law_all_right.nd rfl rfl (sw_true rfl rfl rfl (by decide +kernel)) (pi_list (pv 2)) (blkOk_by (own := [("row", 3)]) (N := n_law_all_right) (sc := defScope s_law_all_right) (by decide +kernel)) (fun _ _ _ _ _ => (pg_name (i := 3) sc_law_all_right.nd rfl (Or.inl rfl))) (fun _ _ _ _ _ => pts_nil) (fun _ _ _ _ _ => (pe_call (ok_seating_of_records T) (hr.mono (by decide)) (by rfl) T.g_seating_of_records T.F_seating_of_records.kp T.b_seating_of_records .nil pass0 (pa_cons (pv 3) pa_nil))))
      (pss_cons (ps_if (PW.pt (pw_or (pt_cmpR (op_neD hr.units) (pe_callB (id := "sorted") (r := Kit.rSortedD K) (Kit.cr_sortedD hr.units) (by rfl) T.m_sorted (by decide +kernel) (pa_cons (pv 4) pa_nil)) (pv 2) (nomark _)) (pw_or1 (pt_cmpR (op_neD hr.units) (pe_lc (own := [("hall", 5)]) (g := (gName 5)) (tt := tYes) rfl sc_law_all_right.nd (pi_list (pv 4)) (blkOk_by (own := [("hall", 5)]) (N := n_law_all_right) (sc := defScope s_law_all_right) (by decide +kernel)) (fun _ _ _ _ _ => (pg_name (i := 5) sc_law_all_right.nd rfl (Or.inl rfl))) (fun _ _ _ _ _ => pts_nil) (fun _ _ _ _ _ => (pe_call (ok_record_list T) (hr.mono (by decide)) (by rfl) T.g_record_list T.F_record_list.kp T.b_record_list .nil pass0 (pa_cons (pv 5) pa_nil)))) (pv 2) (nomark _))))) (pss_one (ps_ret pe_bl)) pss_nil)
      (pss_cons (ps_par (i := 6) (j := 7) (by rfl) sc_law_all_right.nd rfl rfl (by decide) rfl rfl (pa_cons (pe_op op_rep (pe_lst (pa_cons pe_int pa_nil)) (pe_op op_add (pv 0) pe_int)) (pa_cons (pe_call (ok_total_weight T) (hr.mono (by decide)) (by rfl) T.g_total_weight T.F_total_weight.kp T.b_total_weight .nil pass0 (pa_cons (pv 0) (pa_cons (pv 1) pa_nil))) pa_nil)) (by rfl))
      (pss_cons (ps_for PassesOwn.never rfl (pi_list (pv 2)) (pg_name (i := 3) sc_law_all_right.nd rfl (Or.inl rfl)) (pss_cons (ps_set (i := 8) sc_law_all_right.nd rfl (Or.inl rfl) (pe_callB call_lenR (by rfl) T.m_len (by decide +kernel) (pa_cons (pe_call (ok_law_leasts T) (hr.mono (by decide)) (by rfl) T.g_law_leasts T.F_law_leasts.kp T.b_law_leasts .nil pass0 (pa_cons (pv 3) pa_nil)) pa_nil)))
      (pss_one (ps_asg (pe_op op_add (pe_ix ix_list (pv 6) (pv 8) (fun _ _ => rfl)) pe_int) (pg_sub (pv 6) (pv 8) set_list)))))
      (pss_cons (ps_if (pt_cmpR (op_neD hr.units) (pv 6) (pe_call (ok_by_tables T) (hr.mono (by decide)) (by rfl) T.g_by_tables T.F_by_tables.kp T.b_by_tables .nil pass0 (pa_cons (pv 0) pa_nil)) (nomark _)) (pss_one (ps_ret pe_bl)) pss_nil)
      (pss_cons (ps_for PassesOwn.never rfl (pi_range1 (by rfl) T.m_range (pa_cons (pe_op op_add (pv 0) pe_int) pa_nil)) (pg_name (i := 8) sc_law_all_right.nd rfl (Or.inl rfl)) (pss_cons (ps_asg (pe_call (ok_tables_share T) (hr.mono (by decide)) (by rfl) T.g_tables_share T.F_tables_share.kp T.b_tables_share .nil pass0 (pa_cons (pv 0) (pa_cons (pv 1) (pa_cons (pv 8) pa_nil)))) (pg_tup rfl (pgs_cons (pg_name (i := 9) sc_law_all_right.nd rfl (Or.inl rfl)) (pgs_cons (pg_name (i := 10) sc_law_all_right.nd rfl (Or.inl rfl)) pgs_nil))))
      (pss_one (ps_if (pt_cmpR op_ne (pe_op op_mulX (pv 9) (pv 7)) (pe_op op_mulX (pe_op op_mulX (pv 10) (pe_ix ix_list (pv 6) (pv 8) (fun _ _ => rfl))) (pe_call (ok_law_weigh T) (hr.mono (by decide)) (by rfl) T.g_law_weigh T.F_law_weigh.kp T.b_law_weigh .nil pass0 (pa_cons (pv 1) (pa_cons (pv 8) pa_nil)))) (nomark _)) (pss_one (ps_ret pe_bl)) pss_nil))))
      (pss_one (ps_ret pe_bl))))))))), ?_⟩
    have m6 : m < 6 := by omega
    have m0' : 0 < m := m0
    obtain ⟨ev1, ev2⟩ := every_ok m m6 m0'
    have hcnt := every_cnt m m6 m0'
    have hsort := sorted_halls m6 m0'
    have hord : ∀ f ∈ every m, Ord f ∧ f.length = m := fun f hf => ⟨ord_of (ev1 f hf).1, (ev1 f hf).2⟩
    refine q_every (ea_cons (ev_var rfl) ea_nil) (by omega) fun p ws H1 np e1 h1 hw => ?_
    have wl := Paired.length hw
    refine q_asgLB (elb_map (K := K) hallOf (ev_var rfl) h1 hw (by omega) (fun _ => rfl) fun b r H2 e2 hr hb => ?_) fun hh hs H2 nh e2 h2 hhs => ?_
    · exact el_call (ea_cons (ev_var rfl) ea_nil) (sl_of_records hb (hord r hr).1 (seat_len _ _) (recs_cuts (hord r hr).1))
    have hhs : Paired (Lb H2) hs (hallsOf m) := hhs
    have hl := Paired.length hhs
    have hll : (hallsOf m).length = (every m).length := List.length_map ..
    have h12 := e2 p _ h1
    have hw2 := paired_imp (fun _ _ z => Lb.ex e2 z) hw
    refine q_when (b := false) (et_is (et_or (et_test (ev_neD (d := .list ((every m).map di)) (e := .list ((every m).map di)) (ed_sortedLB (ev_var rfl) h2 hhs hsort) (ed_of (ev_var rfl) (.lst (sq_of h12) (dp_LB hw2))) (shaped_dis _) (shaped_dis _))) fun _ => et_test (ev_neD (d := .list ((every m).map di)) (e := .list ((every m).map di)) ?_ (ed_of (ev_var rfl) (.lst (sq_of h12) (dp_LB hw2))) (shaped_dis _) (shaped_dis _))) (by rw [eqv_same (shaped_dis _)]; rfl)) (fun hb => Bool.noConfusion hb) fun _ H3 e3 => ?_
    · have g := ed_LB (K := K) (elb_mapAt (K := K) (te := tCall sp_record_list [] E0 (tCons (tVar 5) tNil)) (ta := tVar 4) (σ := [some (.int (m : Int)), some (.int x), some (.ref p), none, some (.ref hh), none, none, none, none, none, none]) (H := H2) (j := 5) (vs := [5]) (fun i => (every m).getD i []) (ev_var rfl) h2 hhs (by omega) (fun _ => rfl) fun i b r H3 e3 hr hb => ?_)
      · rw [hll, ← range_get] at g
        exact g
      · have il : i < (every m).length := by
          have := (List.getElem?_eq_some_iff.mp hr).1
          omega
        have hx : (every m)[i]? = some ((every m).getD i []) := by
          rw [List.getD_eq_getElem?_getD, List.getElem?_eq_getElem il]
          rfl
        obtain ⟨o, _⟩ := hord _ (List.mem_of_getElem? hx)
        have : r = hallOf ((every m).getD i []) := by
          unfold hallsOf at hr
          rw [List.getElem?_map, hx] at hr
          exact (Option.some.inj hr).symm
        subst this
        have s := sl_record hb (recs_ord o) (recs_rings o)
        rw [recs_back] at s
        exact el_call (ea_cons (ev_var rfl) ea_nil) s
    have e13 := e1.trans (e2.trans e3)
    refine q_parLV (ys := (List.replicate (m + 1) (0 : Int)).map V.int) (x := .int (rise x m)) ?_ (fun H4 e4 => ev_call (ea_cons (ev_var rfl) (ea_cons (ev_var rfl) ea_nil)) (sv_total m0 (by omega) x0 x1)) fun c H4 nc e4 hc => ?_
    · have g := el_rep (tb := tOp (rI0 fun i j => .int (i + j)) (tVar 0) (tC (.int 1))) (k := (m : Int) + 1) (xs := [V.int 0]) (el_lst (ea_cons (ev_c (σ := [some (V.int (m : Int)), some (.int x), some (.ref p), none, some (.ref hh), none, none, none, none, none, none]) (H := H3)) ea_nil) (Nat.le_of_ble_eq_true rfl)) (ev_op (ev_var (i := 0) rfl) ev_c rv_I0) (by omega) (by omega) (by decide)
      have e : (List.replicate ((m : Int) + 1).toNat [V.int 0]).flatten = (List.replicate (m + 1) (0 : Int)).map V.int := by
        rw [show ((m : Int) + 1).toNat = m + 1 by omega, List.map_replicate]
        exact List.flatten_replicate_singleton
      rw [e] at g
      exact g
    have h14 := e4 p _ (e3 p _ h12)
    have hw4 := paired_imp (fun _ _ z => Lb.ex (e3.trans e4) z) hw2
    have pc : p ≠ c := fun z => by
      subst z
      rw [e3 p _ h12] at nc
      cases nc
    refine q_forLn (xs := ws) (K := K) (ev_var rfl) (sq_of h14) (fun n σ' H' => ∃ y3 y8, σ' = [some (.int m), some (.int x), some (.ref p), y3, some (.ref hh), none, some (.ref c), some (.int (rise x m)), y8, none, none] ∧ Ex H3 H' ∧ H' c = some (.lst ((((every m).take n).foldl cntStep (List.replicate (m + 1) 0)).map V.int))) (fun H5 e5 => ⟨none, none, rfl, e4.trans e5, e5 c _ hc⟩) (fun n σ' H' _ ⟨_, _, _, e, _⟩ => sq_of (e p _ (e3 p _ h12))) ?_ ?_
    · rintro n v σ' H' hv ⟨y3, y8, rfl, e, hc'⟩
      obtain ⟨r, hr', b, rfl, hb⟩ := paired_get hw2 hv
      have hb' := e b _ (e3 b _ hb)
      obtain ⟨o, rm⟩ := hord r (List.mem_of_getElem? hr')
      have sl := starts_le r
      generalize hcs : ((every m).take n).foldl cntStep (List.replicate (m + 1) 0) = cs at hc'
      have lcs : cs.length = m + 1 := by
        rw [← hcs, cnt_len, List.length_replicate]
      have nx : ((every m).take (n + 1)).foldl cntStep (List.replicate (m + 1) 0) = cs.set (starts r r.length).length (cs.getD (starts r r.length).length 0 + 1) := by
        rw [List.take_add_one, hr', List.foldl_append, hcs]
        rfl
      rw [nx]
      have wl : (starts r r.length).length < cs.length := by omega
      refine q_asg (ev_lenN (K := K) (el_call (ea_cons (ev_var rfl) ea_nil) (sl_leasts hb' o))) fun H5 e5 => ?_
      rw [nv_len]
      have hc5 := e5 c _ hc'
      have gi : (cs.map V.int)[(starts r r.length).length]? = some (.int (cs.getD (starts r r.length).length 0)) := by
        rw [List.getElem?_map, List.getElem?_eq_getElem wl, List.getD_eq_getElem?_getD, List.getElem?_eq_getElem wl]
        rfl
      refine s_setL (j := (starts r r.length).length) hc5 (ev_op (ev_op (ev_var rfl) (ev_var rfl) (rv_ixL (K := K) (sq_of hc5) (atI_nat gi))) ev_c rv_I0) (ev_var rfl) (ev_var rfl) (by rw [List.length_map]; exact wl) fun H6 e6 => ⟨_, _, rfl, Ex.mut (e.trans (e5.trans e6)) nc, ?_⟩
      rw [upd_same, List.map_set]
    · rintro σ' H' ⟨y3, y8, rfl, e, hc'⟩
      rw [wl, List.take_of_length_le (Nat.le_refl _)] at hc'
      have hc' : H' c = some (.lst ((sums 1 m).map V.int)) := by
        rw [hc', ← hcnt]
        rfl
      refine q_when (b := false) (et_is (et_test (ev_neD (d := .list ((sums 1 m).map PyData.int)) (e := .list ((sums 1 m).map PyData.int)) (ed_of (ev_var rfl) (.lst (sq_of hc') (dpa_ints _))) (ed_ofL (el_call (ea_cons (ev_var rfl) ea_nil) (sl_by_tables m0 (by omega))) (dpa_ints _)) (shaped_ints _) (shaped_ints _))) (by rw [eqv_same (shaped_ints _)]; rfl)) (fun hb => Bool.noConfusion hb) fun _ H5 e5 => ?_
      have hc5 := e5 c _ hc'
      refine q_forR1 (n := (m : Int) + 1) (ea_cons (ev_op (ev_var rfl) ev_c rv_I0) ea_nil) ⟨by omega, by omega⟩ (fun i σ' H' => ∃ y3 y8 y9 y10, σ' = [some (.int m), some (.int x), some (.ref p), y3, some (.ref hh), none, some (.ref c), some (.int (rise x m)), y8, y9, y10] ∧ Ex H5 H') (fun H6 e6 => ⟨_, _, _, _, rfl, e6⟩) ?_ ?_
      · rintro t σ' H6 ht ⟨y3, y8, y9, y10, rfl, e6⟩
        have ht : t ≤ m := by omega
        refine q_tup2U (eu_call (ea_cons (ev_var rfl) (ea_cons (ev_var rfl) (ea_cons (ev_var rfl) ea_nil))) (su_share m0 (by omega) ht x0 x1)) fun H7 e7 => ?_
        have hc7 := e7 c _ (e6 c _ hc5)
        have gi : ((sums 1 m).map V.int)[t]? = some (.int ((stir m t : Int) * 1 ^ t)) := by
          rw [List.getElem?_map, sums_get 1 m t ht]
          rfl
        obtain ⟨k1, k2, k3, k4, k5⟩ := share_small (m := m) (t := t) m6 (by omega) x0 x1
        have eq := share_eq (m := m) (t := t) x0
        generalize (stir m t : Int) * x ^ t / cd ((stir m t : Int) * x ^ t) (rise x m) = A at k1 eq ⊢
        generalize rise x m / cd ((stir m t : Int) * x ^ t) (rise x m) = B at k3 eq ⊢
        have m1 : CMulX A (rise x m) := mulx_ok k1 k2 (by decide)
        have m2 : CMulX B ((stir m t : Int) * 1 ^ t) := mulx_ok k3 k4 (by decide)
        have m3 : CMulX (B * ((stir m t : Int) * 1 ^ t)) (x ^ t) := mulx_ok (natAbs_mul_lt k3 k4) k5 (by decide)
        have pw : Ev (tCall sp_pow [] E0 (tCons (tVar 1) (tCons (tVar 8) tNil))) [some (.int m), some (.int x), some (.ref p), y3, some (.ref hh), none, some (.ref c), some (.int (rise x m)), some (.int (t : Int)), some (.int A), some (.int B)] H7 (.int (x ^ t)) := ev_is (ev_call (ea_cons (ev_var rfl) (ea_cons (ev_var rfl) ea_nil)) (sv_pow (by omega) (by omega) (by omega))) (by rw [Int.toNat_natCast])
        refine s_when (b := false) (et_is (et_test (ev_op (ev_op (ev_var rfl) (ev_var rfl) (rv_I m1)) (ev_op (ev_op (ev_var rfl) (ev_op (ev_var rfl) (ev_var rfl) (rv_ixL (K := K) (sq_of hc7) (atI_nat gi))) (rv_I m2)) pw (rv_I m3)) (rv_ne rfl))) (by rw [eq]; simp)) (fun hb => Bool.noConfusion hb) fun _ H8 e8 => ⟨_, _, _, _, rfl, e6.trans (e7.trans e8)⟩
      · rintro σ' H6 ⟨y3, y8, y9, y10, rfl, e6⟩
        exact s_ret ev_c fun H7 e7 => k _ (e13.trans (e.trans (e5.trans (e6.trans e7))))
end


local macro_rules | `(tactic| walk_at "call") => `(tactic| (with_reducible exact sv_whole))
local macro_rules | `(tactic| walk_at "call") => `(tactic| ((with_reducible refine' sv_ord ?c1 ?c2); (case c1 => assumption); (case c2 => assumption)))

local macro_rules | `(tactic| walk_at "call") => `(tactic| ((with_reducible refine' sv_pow ?c1 ?c2 ?c3); (case c1 => walk_at "side"); (case c2 => walk_at "side"); (case c3 => walk_at "side")))
local macro_rules | `(tactic| walk_at "call") => `(tactic| ((with_reducible refine' sv_rise ?c1 ?c2); (case c1 => walk_at "side"); (case c2 => walk_at "side")))
local macro_rules | `(tactic| walk_at "call") => `(tactic| (with_reducible exact sv_between))
local macro_rules | `(tactic| walk_at "call") => `(tactic| ((with_reducible refine' sv_check1 ?c1 ?c2); (case c1 => walk_at "side"); (case c2 => walk_at "side")))
local macro_rules | `(tactic| walk_at "call") => `(tactic| ((with_reducible refine' sv_check_number ?c1 ?c2); (case c1 => walk_at "side"); (case c2 => walk_at "side")))
local macro_rules | `(tactic| walk_at "callU") => `(tactic| ((with_reducible refine' su_fraction ?c1 ?c2); (case c1 => walk_at "side"); (case c2 => walk_at "side")))

local macro_rules | `(tactic| walk_at "callL") => `(tactic| ((with_reducible refine' sl_wbt ?c1 ?c2 ?c3); (case c1 => walk_at "side"); (case c2 => walk_at "side"); (case c3 => walk_at "side")))
local macro_rules | `(tactic| walk_at "callU") => `(tactic| ((with_reducible refine' su_share ?c1 ?c2 ?c3 ?c4 ?c5); (case c1 => walk_at "side"); (case c2 => walk_at "side"); (case c3 => walk_at "side"); (case c4 => walk_at "side"); (case c5 => walk_at "side")))


local macro_rules | `(tactic| walk_at "call") => `(tactic| (with_reducible exact sv_whole))
local macro_rules | `(tactic| walk_at "call") => `(tactic| ((with_reducible refine' sv_ord ?c1 ?c2); (case c1 => assumption); (case c2 => assumption)))

local macro_rules | `(tactic| walk_at "call") => `(tactic| ((with_reducible refine' sv_pow ?c1 ?c2 ?c3); (case c1 => walk_at "side"); (case c2 => walk_at "side"); (case c3 => walk_at "side")))
local macro_rules | `(tactic| walk_at "call") => `(tactic| ((with_reducible refine' sv_rise ?c1 ?c2); (case c1 => walk_at "side"); (case c2 => walk_at "side")))
local macro_rules | `(tactic| walk_at "call") => `(tactic| (with_reducible exact sv_between))
local macro_rules | `(tactic| walk_at "call") => `(tactic| ((with_reducible refine' sv_check1 ?c1 ?c2); (case c1 => walk_at "side"); (case c2 => walk_at "side")))
local macro_rules | `(tactic| walk_at "call") => `(tactic| ((with_reducible refine' sv_check_number ?c1 ?c2); (case c1 => walk_at "side"); (case c2 => walk_at "side")))
local macro_rules | `(tactic| walk_at "callU") => `(tactic| ((with_reducible refine' su_fraction ?c1 ?c2); (case c1 => walk_at "side"); (case c2 => walk_at "side")))

/-! ### the law -/
theorem rise_one : ∀ m : Nat, rise 1 m = ((fac m : Nat) : Int)
  | 0 => rfl
  | m + 1 => by
    show rise 1 m * (1 + (m : Int)) = _
    rw [rise_one m, fac_succ, Int.natCast_mul]
    congr 1
    omega
theorem ord_all {m : Nat} (h1 : 1 ≤ m) (h2 : m ≤ 20) : Ord (List.range m) := ⟨by rw [List.length_range], by rw [List.length_range]; exact h1, by rw [List.length_range]; exact h2⟩
theorem ord_same {f g : List Nat} (o : Ord f) (p : g.Perm f) : Ord g := by
  have l := p.length_eq
  exact ⟨by rw [l]; exact p.trans o.1, by rw [l]; exact o.2.1, by rw [l]; exact o.2.2⟩
theorem range_zero {m : Nat} (h : 1 ≤ m) : List.range m = 0 :: (List.range m).tail := by
  obtain ⟨k, rfl⟩ : ∃ k, m = k + 1 := ⟨m - 1, by omega⟩
  rw [List.range_succ_eq_map]
  rfl
theorem ord_turned {m : Nat} (h1 : 1 ≤ m) (h2 : m ≤ 20) : Ord (0 :: (List.range m).tail.reverse) := ord_same (ord_all h1 h2) (by
  conv => rhs; rw [range_zero h1]
  exact List.Perm.cons _ (List.reverse_perm _))
section
variable {K : PySem.W.Frag} {σ : L2.St} {H H0 : Hp} {ta tb tc te : TE} {tr tl : TA} {p : Addr} {k k1 k2 : Nat} {t u : TT} {D : Ends} {tu tz : TS} {rs : List (List Nat)}
theorem lba_consE {b : Addr} {r : List Nat} (h : Ev te σ H (.ref b)) (hb : H b = some (.lst (nv r))) (hr : EvLBA tr σ H rs) : EvLBA (tCons te tr) σ H (r :: rs) := fun H1 e _ q => h H1 e _ fun H2 e2 => hr H2 (e.trans e2) _ fun vs H3 e3 hv => q _ H3 (e2.trans e3) (.cons ⟨b, rfl, e3 b _ (e2 b _ (e b _ hb))⟩ hv)
theorem el_sortedR {b : Addr} {r ms : List Nat} (h : Ev ta σ H (.ref b)) (hb : H b = some (.lst (nv r))) (hl : r.length < 64) (hm : ms.Perm r) (hs : ms.Pairwise (· ≤ ·)) : EvL (tCB (rSorted K) (tCons ta tNil)) σ H (nv ms) := fun H1 e Q q => h H1 e _ fun H2 e2 =>
  ⟨b, iz r, rfl, ex_l (e.trans e2) (sq_of hb), by rw [iz_len0]; exact hl, fun ns' l pm so new => by
    have so2 : (iz ms).Pairwise (· ≤ ·) := by
      unfold iz
      rw [List.pairwise_map]
      exact hs.imp fun h => by omega
    have eq : ns' = iz ms := List.Perm.eq_of_pairwise (le := fun a b : Int => a ≤ b) (fun a b _ _ h1 h2 => Int.le_antisymm h1 h2) so so2 (pm.trans (hm.map _).symm)
    subst eq
    exact q l _ (fresh_back e2 new) (e2.trans (Ex.new new)) upd_same⟩
theorem el_revN {xs : List V} (h : EvL ta σ H xs) : EvL (tRevL K ta) σ H xs.reverse := fun H1 e Q q => h H1 e _ fun b H2 nb e2 hb => ⟨b, xs, rfl, sq_of hb, fun l hl => q l _ (fresh_back e2 hl) (e2.trans (Ex.new hl)) upd_same⟩
/-- for x in (a drawn tuple of numbers), each turn with its draws -/
theorem pq_forTupP {n j c : Nat} {C : List V → Prop} {S : L2.St → Prop} (h : EvPA p k tl σ H0 C) (e : Ex H0 H) (hp : Po p n H) (hn : n + k ≤ 1000000000) (hC : ∀ vs, C vs → vs.length = 2 ∧ ∀ v ∈ vs, ∃ w : Nat, v = .int (w : Int) ∧ 1 ≤ w ∧ w ≤ 20) (h0 : S σ)
    (hs : ∀ (i w : Nat) σ' H', i < 2 → 1 ≤ w → w ≤ 20 → S σ' → Po p (n + k + c * i) H' → Ex (Hm p H) H' → ∀ N : L2.St → Hp → Prop, (∀ s G, S s → Po p (n + k + c * (i + 1)) G → Ex (Hm p H') G → N s G) → tu { D with nx := N, ct := N, bk := tz D } (σ'.set j (some (.int (w : Int)))) H')
    (hd : ∀ σ' H', S σ' → Po p (n + k + c * 2) H' → Ex (Hm p H) H' → tz D σ' H') : tSeq (tFor (iTup K (tTup tl)) (gName j) tu) tz D σ H := by
  refine h n H e hp hn _ fun vs H1 hc p1 e1 => ⟨sz_of (by have := (hC vs hc).1; omega), fun q hq => ?_⟩
  have qp := p1.ne hq
  have l2 := (hC vs hc).1
  have ev0 : Ex (Hm p H) (upd H1 q (.tup vs)) := hm_trans e1 (hm_of (Ex.new hq))
  refine ⟨q, rfl, ⟨vs, st_of upd_same⟩, for_tup (fun i σ' H' => S σ' ∧ Po p (n + k + c * i) H' ∧ Ex (Hm p H) H' ∧ H' q = some (.tup vs)) ⟨h0, p1.ex (Ex.new hq), ev0, upd_same⟩ (fun i σ' H' _ z => st_of z.2.2.2) (fun i x σ' H' hx z => ?_) fun σ' H' z => hd σ' H' z.1 (by have := z.2.1; rw [l2] at this; exact this) z.2.2.1⟩
  obtain ⟨w, rfl, w1, w20⟩ := (hC vs hc).2 x (List.mem_of_getElem? hx)
  have il := (List.getElem?_eq_some_iff.mp hx).1
  exact hs i w σ' H' (by omega) w1 w20 z.1 z.2.1 z.2.2.1 _ fun s G h1 h2 h3 => ⟨h1, h2, hm_trans z.2.2.1 h3, hm_at h3 qp z.2.2.2⟩
/-- for r in (a tuple of lists) -/
theorem q_forTL {j : Nat} {S : L2.St → Prop} (h : EvLBA tl σ H rs) (hz : rs.length ≤ 1000) (h0 : S σ)
    (hs : ∀ (b : Addr) (r : List Nat) σ' H', r ∈ rs → S σ' → Ex H H' → H' b = some (.lst (nv r)) → ∀ N : L2.St → Hp → Prop, (∀ s G, S s → Ex H' G → N s G) → tu { D with nx := N, ct := N, bk := tz D } (σ'.set j (some (.ref b))) H')
    (hd : ∀ σ' H', S σ' → Ex H H' → tz D σ' H') : tSeq (tFor (iTup K (tTup tl)) (gName j) tu) tz D σ H := by
  refine h H (Ex.refl H) _ fun vs H1 e1 hv => ⟨sz_of (by have := Paired.length hv; omega), fun q hq => ?_⟩
  refine ⟨q, rfl, ⟨vs, st_of upd_same⟩, for_tup (fun i σ' H' => S σ' ∧ Ex (upd H1 q (.tup vs)) H') ⟨h0, Ex.refl _⟩ (fun i σ' H' _ z => ex_t z.2 (st_of upd_same)) (fun i x σ' H' hx z => ?_) fun σ' H' z => hd σ' H' z.1 (e1.trans ((Ex.new hq).trans z.2))⟩
  obtain ⟨r, hr, b, rfl, hb⟩ := paired_get hv hx
  exact hs b r σ' H' (List.mem_of_getElem? hr) z.1 (e1.trans ((Ex.new hq).trans z.2)) (z.2 b _ ((Ex.new hq) b _ hb)) _ fun s G h1 h2 => ⟨h1, z.2.trans h2⟩
/-- row = nth_seating(many, a drawn number) -/
theorem ep_nth {E : XK} {m : Nat} (h1 : 1 ≤ m) (h2 : m ≤ 20) (ha : Ev ta σ H0 (.int (m : Int))) (hm : EvP p k te σ H0 (fun v _ => ∃ i : Nat, v = .int (i : Int) ∧ i < fac m)) : EvP p k (tCall sp_nth_seating [] E (tCons ta (tCons te tNil))) σ H0 (fun v H => ∃ l f, l ≠ p ∧ v = .ref l ∧ H l = some (.lst (nv f)) ∧ Ord f ∧ f.length = m) := fun n H1 e hp hn Q q =>
  ha H1 e _ fun H2 e2 => hm n H2 (e.trans e2) (hp.ex e2) hn _ fun v H3 hv p3 e3 => by
    obtain ⟨i, rfl, hi⟩ := hv
    exact ⟨m, i, rfl, h1, h2, hi, fun l H4 nl e4 h4 => q (.ref l) H4 ⟨l, _, p3.ne nl, rfl, h4, ord_nthS h1 h2 hi, nthS_len _ _ _⟩ (p3.ex e4) (hm_trans (hm_of e2) (hm_trans e3 (hm_of e4)))⟩
theorem ep_newcomer {E : XK} {a : Addr} {f : List Nat} (h0 : H0 p = none) (hp : Ev ta σ H0 (.ref p)) (ha : Ev tb σ H0 (.ref a)) (hf : H0 a = some (.lst (nv f))) (o : Ord f) (hl : f.length ≤ 19) : EvP p 1 (tCall sp_law_newcomer [] E (tCons ta (tCons tb tNil))) σ H0 (fun v _ => v = .bl true) := fun n H1 e hpo hn Q q =>
  hp H1 e _ fun H2 e2 => ha H2 (e.trans e2) _ fun H3 e3 => ⟨p, n, a, f, rfl, hpo.ex (e2.trans e3), by omega, ne_of_none hf h0, e3 a _ (e2 a _ (e a _ hf)), o, hl, fun H4 p4 e4 => q _ H4 rfl p4 (hm_trans (hm_of (e2.trans e3)) e4)⟩
theorem ep_heavy {E : XK} (hp : Ev ta σ H0 (.ref p)) : EvP p 4 (tCall sp_law_heavy [] E (tCons ta tNil)) σ H0 (fun v _ => ∃ x : Int, v = .int x ∧ 1 ≤ x ∧ x ≤ 1000000000000) := fun n H1 e hpo hn Q q =>
  hp H1 e _ fun H2 e2 => ⟨p, n, rfl, hpo.ex e2, by omega, fun x H3 x0 x1 p3 e3 => q _ H3 ⟨x, rfl, x0, x1⟩ (p3.mono (by omega)) (hm_trans (hm_of e2) e3)⟩
theorem ep_all {E : XK} (h0 : H0 p = none) (ha : EvP p k1 ta σ H0 (fun v _ => ∃ m : Nat, v = .int (m : Int) ∧ 1 ≤ m ∧ m ≤ 5)) (hb : EvP p k2 tb σ H0 (fun v _ => ∃ x : Int, v = .int x ∧ 1 ≤ x ∧ x ≤ 1000000000000)) : EvP p (k1 + k2) (tCall sp_law_all_right [] E (tCons ta (tCons tb tNil))) σ H0 (fun v _ => v = .bl true) := fun n H1 e hpo hn Q q =>
  ha n H1 e hpo (by omega) _ fun v H2 hv p2 e2 => hb (n + k1) H2 (hm_next h0 e e2) p2 (by omega) _ fun y H3 hy p3 e3 => by
    obtain ⟨m, rfl, m0, m1⟩ := hv
    obtain ⟨x, rfl, x0, x1⟩ := hy
    exact ⟨m, x, rfl, m0, m1, x0, x1, fun H4 e4 => q _ H4 rfl (by rw [← Nat.add_assoc]; exact p3.ex e4) (hm_trans (hm_trans e2 e3) (hm_of e4))⟩
theorem tp_and {b : Bool} (h0 : H0 p = none) (h : EvT t σ H0 true) (h' : EtP p k u σ H0 b) : EtP p k (tAnd t u) σ H0 b := fun n H1 e hp hn Q q => h H1 e _ fun H2 e2 => by
  show u σ H2 Q
  exact h' n H2 (e.trans e2) (hp.ex e2) hn Q fun H3 p3 e3 => q H3 p3 (hm_trans (hm_of e2) e3)
end
theorem sv_all {H : Hp} {m : Nat} {x : Int} (m0 : 1 ≤ m) (m1 : m ≤ 5) (x0 : 1 ≤ x) (x1 : x ≤ 1000000000000) : SpV sp_law_all_right ([.int (m : Int), .int x] ++ []) H (.bl true) := fun H1 _ Q q E => ⟨m, x, rfl, m0, m1, x0, x1, q⟩
theorem max_min4 {m : Int} (h0 : 0 ≤ m) : 0 ≤ (if (if m < 4 then m else 4) > 1 then (if m < 4 then m else 4) else 1) ∧ (if (if m < 4 then m else 4) > 1 then (if m < 4 then m else 4) else 1) ≤ (4 : Int) := by
  split <;> split <;> omega
def sp_law (K : PySem.W.Frag) : Sp := fun vs H Q _ => ∃ (a : Addr) (ns : List Int), vs = [.ref a] ∧ SqL K H a (ns.map V.int) ∧ ns.length ≤ 63 ∧ ∀ H', Q (.bl true) H'
section
variable {P : Program} {w : World} {K : PySem.W.Frag} {mg : Str → Option Value} {base : Heap}
theorem ok_law (T : Tx K mg) : FnOk P w K mg base CX0 8 T.f_law T.d_law ["script"] (sp_law K) := by
  refine T.F_law.ok sc_law (fun vs H Q E h => ?_) (fun cdv A outer s H vs Q E hr h => ?_)
  · obtain ⟨a, ns, rfl, _⟩ := h
    rfl
  · obtain ⟨a, ns, rfl, hs, hl, k⟩ := h
    refine ⟨_, (pss_cons (ps_for PassesOwn.never rfl (pi_range1 (by rfl) T.m_range (pa_cons (pe_callB (call_maxR rfl) (by rfl) T.m_max (by decide +kernel) (pa_cons pe_int (pa_cons (pe_callB (call_minR rfl) (by rfl) T.m_min (by decide +kernel) (pa_cons pe_int (pa_cons (pe_callB call_lenR (by rfl) T.m_len (by decide +kernel) (pa_cons (pv 0) pa_nil)) pa_nil))) pa_nil))) pa_nil)) (pg_name (i := 1) sc_law.nd rfl (Or.inl rfl)) (pss_cons (ps_set (i := 2) sc_law.nd rfl (Or.inl rfl) (pe_call (ok_law_pouch T) (hr.mono (by decide)) (by rfl) T.g_law_pouch T.F_law_pouch.kp T.b_law_pouch .nil pass0 (pa_cons (pv 0) (pa_cons (pv 1) pa_nil))))
      (pss_cons (ps_for PassesOwn.never rfl (pi_tup (pe_tup (pa_cons (pe_op op_add pe_int (pe_call (ok_law_dip T) (hr.mono (by decide)) (by rfl) T.g_law_dip T.F_law_dip.kp T.b_law_dip .nil pass0 (pa_cons (pv 2) (pa_cons pe_int pa_nil)))) (pa_cons pe_int pa_nil)))) (pg_name (i := 3) sc_law.nd rfl (Or.inl rfl)) (pss_cons (ps_set (i := 4) sc_law.nd rfl (Or.inl rfl) (pe_call (ok_nth_seating T) (hr.mono (by decide)) (by rfl) T.g_nth_seating T.F_nth_seating.kp T.b_nth_seating .nil pass0 (pa_cons (pv 3) (pa_cons (pe_call (ok_law_dip T) (hr.mono (by decide)) (by rfl) T.g_law_dip T.F_law_dip.kp T.b_law_dip .nil pass0 (pa_cons (pv 2) (pa_cons (pe_call (ok_law_rise T) (hr.mono (by decide)) (by rfl) T.g_law_rise T.F_law_rise.kp T.b_law_rise .nil pass0 (pa_cons pe_int (pa_cons (pv 3) pa_nil))) pa_nil))) pa_nil))))
      (pss_cons (ps_for PassesOwn.never rfl (pi_tup (pe_tup (pa_cons (pv 4) (pa_cons (pe_callB cr_sorted (by rfl) T.m_sorted (by decide +kernel) (pa_cons (pv 4) pa_nil)) (pa_cons (pe_revL (pe_callB cr_sorted (by rfl) T.m_sorted (by decide +kernel) (pa_cons (pv 4) pa_nil))) (pa_cons (pe_op op_cat (pe_lst (pa_cons pe_int pa_nil)) (Kit.pe_rev0L (pe_callB cr_sorted (by rfl) T.m_sorted (by decide +kernel) (pa_cons (pv 4) pa_nil)))) pa_nil)))))) (pg_name (i := 5) sc_law.nd rfl (Or.inl rfl)) (pss_cons (ps_set (i := 6) sc_law.nd rfl (Or.inl rfl) (pe_callTy call_listR (by rfl) T.m_list (by decide +kernel) (pa_cons (pv 5) pa_nil)))
      (pss_one (ps_if (PW.pt (pw_or (pt_not (pt_val (pe_call (ok_law_one_right T) (hr.mono (by decide)) (by rfl) T.g_law_one_right T.F_law_one_right.kp T.b_law_one_right .nil pass0 (pa_cons (pv 5) pa_nil)))) (pw_or1 (pt_cmpR (op_neD hr.units) (pv 5) (pv 6) (nomark _))))) (pss_one (ps_ret pe_bl)) pss_nil))))
      (pss_one (ps_if (PW.pt (pw_and (pt_cmpR op_lt (pv 3) pe_int (nomark _)) (pw_and1 (pt_not (pt_val (pe_call (ok_law_newcomer_right T) (hr.mono (by decide)) (by rfl) T.g_law_newcomer_right T.F_law_newcomer_right.kp T.b_law_newcomer_right .nil pass0 (pa_cons (pv 2) (pa_cons (pv 4) pa_nil)))))))) (pss_one (ps_ret pe_bl)) pss_nil)))))
      (pss_one (ps_if (pt_not (pt_val (pe_call (ok_law_all_right T) (hr.mono (by decide)) (by rfl) T.g_law_all_right T.F_law_all_right.kp T.b_law_all_right .nil pass0 (pa_cons (pe_op op_add pe_int (pe_call (ok_law_dip T) (hr.mono (by decide)) (by rfl) T.g_law_dip T.F_law_dip.kp T.b_law_dip .nil pass0 (pa_cons (pv 2) (pa_cons pe_int pa_nil)))) (pa_cons (pe_call (ok_law_heavy T) (hr.mono (by decide)) (by rfl) T.g_law_heavy T.F_law_heavy.kp T.b_law_heavy .nil pass0 (pa_cons (pv 2) pa_nil)) pa_nil))))) (pss_one (ps_ret pe_bl)) pss_nil)))))
      (pss_one (ps_ret (pe_cmpR (op_eqD hr.units) (pe_lc (own := [("many", 3)]) (g := (gName 3)) rfl sc_law.nd (pi_range2 (by rfl) T.m_range (pa_cons pe_int (pa_cons pe_int pa_nil))) (blkOk_by (own := [("many", 3)]) (N := n_law) (sc := defScope s_law) (by decide +kernel)) (fun _ _ _ _ _ => (pg_name (i := 3) sc_law.nd rfl (Or.inl rfl))) (fun _ _ _ _ _ => (pts_one (pt_not (pt_val (pe_call (ok_law_all_right T) (hr.mono (by decide)) (by rfl) T.g_law_all_right T.F_law_all_right.kp T.b_law_all_right .nil pass0 (pa_cons (pv 3) (pa_cons pe_int pa_nil))))))) (fun _ _ _ _ _ => (pv 3))) (pe_lst pa_nil) (nomark _))))), ?_⟩
    have mm := max_min4 (m := ((ns.map V.int).length : Int)) (by omega)
    refine q_forR1 (by walk_at "ea") ⟨mm.1, Int.le_trans mm.2 (by decide)⟩ (fun i σ' H' => ∃ y1 y2 y3 y4 y5 y6, σ' = [some (.ref a), y1, y2, y3, y4, y5, y6] ∧ Ex H H') (fun H1 e1 => ⟨none, none, none, none, none, none, rfl, e1⟩) ?_ ?_
    · rintro i σ' H' hi ⟨y1, y2, y3, y4, y5, y6, rfl, e⟩
      have hi4 : (i : Int) < 4 := Int.lt_of_lt_of_le hi mm.2
      refine pq_pouch (by walk_at "ea") (ex_l e hs) (by omega) fun p H1 hp e1 hpo => ?_
      refine pq_forTupP (p := p) (k := (0 + 1) + (0 + 0)) (c := 2) (H0 := Hm p H1) (C := fun vs => ∃ x : Nat, vs = [.int (x : Int), .int 20] ∧ 1 ≤ x ∧ x ≤ 20) (S := fun σ' => ∃ y3 y4 y5 y6, σ' = [some (.ref a), some (.int (i : Int)), some (.ref p), y3, y4, y5, y6]) ?_ hm_sub hpo (by decide) ?_ ⟨_, _, _, _, rfl⟩ ?_ ?_
      · intro n G1 eg hg hn Q q
        refine epa_cons (A := fun v => ∃ x : Nat, v = .int (x : Int) ∧ 1 ≤ x ∧ x ≤ 20) hm_p (ep_is (ep_add (C := fun r => 0 ≤ r ∧ r < 20) hm_p ev_c (ep_dipI (w := 20) hm_p (ev_var rfl) ev_c (by decide) (by decide))) fun v _ ⟨r, e, r0, r1⟩ => ⟨(1 + r).toNat, by rw [e]; congr 1; omega, by omega, by omega⟩) (epa_pure (v := .int 20) hm_p ev_c epa_nil) n G1 eg hg hn Q fun vs G2 hv => q vs G2 ?_
        obtain ⟨v1, r1, rfl, ⟨x, rfl, hx⟩, v2, r2, rfl, rfl, rfl⟩ := hv
        exact ⟨x, rfl, hx⟩
      · rintro vs ⟨x, rfl, x0, x1⟩
        refine ⟨rfl, fun v hv => ?_⟩
        simp only [List.mem_cons, List.not_mem_nil, or_false] at hv
        rcases hv with rfl | rfl
        · exact ⟨x, rfl, x0, x1⟩
        · exact ⟨20, rfl, by decide, by decide⟩
      · rintro t m σ' H2 ht m0 m1 ⟨y3, y4, y5, y6, rfl⟩ p2 e2 N hN
        have fm : (fac m : Nat) < 2 ^ 64 := fac_le20 m1
        have fp : 0 < fac m := fac_pos m
        refine pq_asg (p := p) (k := 1) (H0 := Hm p H2) (ep_nth m0 m1 (ev_var rfl) (ep_is (ep_dipI (w := ((fac m : Nat) : Int)) hm_p (ev_var rfl) (ev_is (ev_call (ea_cons ev_c (ea_cons (ev_var rfl) ea_nil)) (sv_rise (b := 1) (n := m) (by decide) (by omega))) (by rw [rise_one])) (by omega) (by omega)) fun v _ ⟨r, e, r0, r1⟩ => ⟨r.toNat, by rw [e]; congr 1; omega, by omega⟩)) hm_sub p2 (by omega) fun v H3 hv p3 e3 => ?_
        obtain ⟨l, f, lp, rfl, hf, o, fl⟩ := hv
        have pm : (List.range m).Perm f := by
          have := o.1
          rw [fl] at this
          exact this.symm
        have up : (List.range m).Pairwise (· ≤ ·) := List.pairwise_lt_range.imp fun h => Nat.le_of_lt h
        have srt : ∀ (σ : L2.St) (H' : Hp), σ[4]? = some (some (.ref l)) → H' l = some (.lst (nv f)) → EvL (tCB (rSorted K) (tCons (tVar 4) tNil)) σ H' (nv (List.range m)) := fun σ H' hv hl => el_sortedR (ev_var hv) hl (by omega) pm up
        refine q_forTL (K := K) (rs := [f, List.range m, (List.range m).reverse, 0 :: (List.range m).tail.reverse]) (S := fun σ' => ∃ y5 y6, σ' = [some (.ref a), some (.int (i : Int)), some (.ref p), some (.int (m : Int)), some (.ref l), y5, y6]) ?_ (Nat.le_of_ble_eq_true rfl) ⟨_, _, rfl⟩ ?_ ?_
        · refine lba_consE (ev_var rfl) hf (lba_cons (srt _ _ rfl hf) (lba_cons ?_ (lba_cons ?_ lba_nil)))
          · have g := el_revN (K := K) (srt [some (.ref a), some (.int (i : Int)), some (.ref p), some (.int (m : Int)), some (.ref l), y5, y6] H3 rfl hf)
            rw [nv_eq, ← List.map_reverse, ← nv_eq] at g
            exact g
          · have g := el_cat (el_lst (ea_cons (ev_c (v := .int 0)) ea_nil) (Nat.le_of_ble_eq_true rfl)) (Kit.el_rev0 (K := K) (srt [some (.ref a), some (.int (i : Int)), some (.ref p), some (.int (m : Int)), some (.ref l), y5, y6] H3 rfl hf) (by intro z; have := congrArg List.length z; rw [nv_len, List.length_range] at this; simp at this; omega)) (by rw [List.length_reverse, List.length_tail, nv_len, List.length_range]; show 1 + (m - 1) ≤ 100000; omega)
            have e : [V.int 0] ++ (nv (List.range m)).tail.reverse = nv (0 :: (List.range m).tail.reverse) := by
              rw [nv_eq, nv_eq, List.map_cons, List.map_reverse, List.map_tail]
              rfl
            rw [e] at g
            exact g
        · rintro b r σ' H4 hr ⟨y5, y6, rfl⟩ e4 hb M hM
          have or : Ord r := by
            simp only [List.mem_cons, List.not_mem_nil, or_false] at hr
            rcases hr with rfl | rfl | rfl | rfl
            · exact o
            · exact ord_all m0 m1
            · exact ord_same (ord_all m0 m1) (List.reverse_perm _)
            · exact ord_turned m0 m1
          refine q_asgL (xs := nv r) (el_list (K := K) (ev_var rfl) (sq_of hb)) fun c H5 nc e5 hc => ?_
          have hb5 := e5 b _ hb
          exact s_when (b := false) (et_is (et_or (et_not (et_B (ev_call (ea_cons (ev_var rfl) ea_nil) (sv_one hb5 or)))) fun _ => et_test (ev_neD (d := di r) (e := di r) (ed_of (ev_var rfl) (dp_L hb5)) (ed_of (ev_var rfl) (dp_L hc)) (shaped_di _) (shaped_di _))) (by rw [eqv_same (shaped_di _)]; rfl)) (fun hb => Bool.noConfusion hb) fun _ H6 e6 => hM _ _ ⟨_, _, rfl⟩ (e5.trans e6)
        · rintro σ' H4 ⟨y5, y6, rfl⟩ e4
          have hf4 := e4 l _ hf
          by_cases m20 : m < 20
          · refine ps_no (p := p) (k := 1) (H0 := Hm p H4) (tp_and hm_p (et_is (et_test (ev_op (ev_var rfl) ev_c rv_I0)) (decide_eq_true (by omega))) (tp_is (b := !true) (tp_not (tp_B (ep_newcomer (a := l) (f := f) hm_p (ev_var rfl) (ev_var rfl) (by unfold Hm; rw [if_neg lp]; exact hf4) o (by omega)))) rfl)) hm_sub (p3.ex e4) (by omega) fun H5 p5 e5 => hN _ _ ⟨_, _, _, _, rfl⟩ (p5.mono (by omega)) (hm_trans e3 (hm_trans (hm_of e4) e5))
          · refine s_when (b := false) (et_is (et_and (a := false) (b := false) (et_is (et_test (ev_op (ev_var rfl) ev_c rv_I0)) (decide_eq_false (by omega))) fun z => Bool.noConfusion z) rfl) (fun hb => Bool.noConfusion hb) fun _ H5 e5 => hN _ _ ⟨_, _, _, _, rfl⟩ ((p3.ex (e4.trans e5)).mono (by omega)) (hm_trans e3 (hm_of (e4.trans e5)))
      · rintro σ' H2 ⟨y3, y4, y5, y6, rfl⟩ p2 e2
        refine ps_no (p := p) (k := (0 + 1) + 4) (H0 := Hm p H2) (tp_is (b := !true) (tp_not (tp_B (ep_all hm_p (ep_is (ep_add (C := fun r => 0 ≤ r ∧ r < 5) hm_p ev_c (ep_dipI (w := 5) hm_p (ev_var rfl) ev_c (by decide) (by decide))) fun v _ ⟨r, e, r0, r1⟩ => ⟨(1 + r).toNat, by rw [e]; congr 1; omega, by omega, by omega⟩) (ep_heavy (ev_var rfl))))) rfl) hm_sub p2 (by omega) fun H3 p3 e3 => ⟨_, _, _, _, _, _, rfl, ?_⟩
        exact e.trans (hm_next hp e1 (hm_trans e2 e3))
    · rintro σ' H' ⟨y1, y2, y3, y4, y5, y6, rfl, e⟩
      exact s_ret (v := .bl true) (ev_is (ev_eqD (d := di []) (e := di []) (ed_ofL (el_noneR2 (lo := 1) (n := 5) (ea_cons ev_c (ea_cons ev_c ea_nil)) (by decide) (fun _ => rfl) fun j H1 e1 hj => by
        obtain ⟨m, hm⟩ : ∃ m : Nat, (1 : Int) + j = m := ⟨1 + j, by omega⟩
        rw [hm]
        exact et_is (et_not (et_B (ev_call (ea_cons (ev_var rfl) (ea_cons ev_c ea_nil)) (sv_all (m := m) (by omega) (by omega) (by decide) (by decide))))) rfl) .nil) (ed_lst eda_nil (by decide)) (shaped_di _) (shaped_di _)) (by rw [eqv_same (shaped_di _)])) fun H1 e1 => k _
end


theorem all_mk {l : PySem.W.OpenLaw} {w : World} {K : PySem.W.Frag} {h : Heap} {mg : Str → Option Value} {fa : Addr} (X : K.In h) (G : h.Ns mainGlobals mg) (hfa : mg "law" = some (.ref fa))
    {f1 : Addr} {od1 an1 : Option Addr} {sl1 : Array (Option Value)} {oc1 kV1 dc1 pm1 cd1 ct1 : Value}
    {f2 : Addr} {od2 an2 : Option Addr} {sl2 : Array (Option Value)} {oc2 kV2 dc2 pm2 cd2 ct2 : Value}
    {f3 : Addr} {od3 an3 : Option Addr} {sl3 : Array (Option Value)} {oc3 kV3 dc3 pm3 cd3 ct3 : Value}
    {f4 : Addr} {od4 an4 : Option Addr} {sl4 : Array (Option Value)} {oc4 kV4 dc4 pm4 cd4 ct4 : Value}
    {f5 : Addr} {od5 an5 : Option Addr} {sl5 : Array (Option Value)} {oc5 kV5 dc5 pm5 cd5 ct5 : Value}
    {f6 : Addr} {od6 an6 : Option Addr} {sl6 : Array (Option Value)} {oc6 kV6 dc6 pm6 cd6 ct6 : Value}
    {f7 : Addr} {od7 an7 : Option Addr} {sl7 : Array (Option Value)} {oc7 kV7 dc7 pm7 cd7 ct7 : Value}
    {f8 : Addr} {od8 an8 : Option Addr} {sl8 : Array (Option Value)} {oc8 kV8 dc8 pm8 cd8 ct8 : Value}
    {f9 : Addr} {od9 an9 : Option Addr} {sl9 : Array (Option Value)} {oc9 kV9 dc9 pm9 cd9 ct9 : Value}
    {f10 : Addr} {od10 an10 : Option Addr} {sl10 : Array (Option Value)} {oc10 kV10 dc10 pm10 cd10 ct10 : Value}
    {f11 : Addr} {od11 an11 : Option Addr} {sl11 : Array (Option Value)} {oc11 kV11 dc11 pm11 cd11 ct11 : Value}
    {f12 : Addr} {od12 an12 : Option Addr} {sl12 : Array (Option Value)} {oc12 kV12 dc12 pm12 cd12 ct12 : Value}
    {f13 : Addr} {od13 an13 : Option Addr} {sl13 : Array (Option Value)} {oc13 kV13 dc13 pm13 cd13 ct13 : Value}
    {f14 : Addr} {od14 an14 : Option Addr} {sl14 : Array (Option Value)} {oc14 kV14 dc14 pm14 cd14 ct14 : Value}
    {f15 : Addr} {od15 an15 : Option Addr} {sl15 : Array (Option Value)} {oc15 kV15 dc15 pm15 cd15 ct15 : Value}
    {f16 : Addr} {od16 an16 : Option Addr} {sl16 : Array (Option Value)} {oc16 kV16 dc16 pm16 cd16 ct16 : Value}
    {f17 : Addr} {od17 an17 : Option Addr} {sl17 : Array (Option Value)} {oc17 kV17 dc17 pm17 cd17 ct17 : Value}
    {f18 : Addr} {od18 an18 : Option Addr} {sl18 : Array (Option Value)} {oc18 kV18 dc18 pm18 cd18 ct18 : Value}
    {f19 : Addr} {od19 an19 : Option Addr} {sl19 : Array (Option Value)} {oc19 kV19 dc19 pm19 cd19 ct19 : Value}
    {f20 : Addr} {od20 an20 : Option Addr} {sl20 : Array (Option Value)} {oc20 kV20 dc20 pm20 cd20 ct20 : Value}
    {f21 : Addr} {od21 an21 : Option Addr} {sl21 : Array (Option Value)} {oc21 kV21 dc21 pm21 cd21 ct21 : Value}
    {f22 : Addr} {od22 an22 : Option Addr} {sl22 : Array (Option Value)} {oc22 kV22 dc22 pm22 cd22 ct22 : Value}
    {f23 : Addr} {od23 an23 : Option Addr} {sl23 : Array (Option Value)} {oc23 kV23 dc23 pm23 cd23 ct23 : Value}
    {f24 : Addr} {od24 an24 : Option Addr} {sl24 : Array (Option Value)} {oc24 kV24 dc24 pm24 cd24 ct24 : Value}
    {f25 : Addr} {od25 an25 : Option Addr} {sl25 : Array (Option Value)} {oc25 kV25 dc25 pm25 cd25 ct25 : Value}
    {f26 : Addr} {od26 an26 : Option Addr} {sl26 : Array (Option Value)} {oc26 kV26 dc26 pm26 cd26 ct26 : Value}
    {f27 : Addr} {od27 an27 : Option Addr} {sl27 : Array (Option Value)} {oc27 kV27 dc27 pm27 cd27 ct27 : Value}
    {f28 : Addr} {od28 an28 : Option Addr} {sl28 : Array (Option Value)} {oc28 kV28 dc28 pm28 cd28 ct28 : Value}
    {f29 : Addr} {od29 an29 : Option Addr} {sl29 : Array (Option Value)} {oc29 kV29 dc29 pm29 cd29 ct29 : Value}
    {f30 : Addr} {od30 an30 : Option Addr} {sl30 : Array (Option Value)} {oc30 kV30 dc30 pm30 cd30 ct30 : Value}
    {f31 : Addr} {od31 an31 : Option Addr} {sl31 : Array (Option Value)} {oc31 kV31 dc31 pm31 cd31 ct31 : Value}
    {f32 : Addr} {od32 an32 : Option Addr} {sl32 : Array (Option Value)} {oc32 kV32 dc32 pm32 cd32 ct32 : Value}
    {f33 : Addr} {od33 an33 : Option Addr} {sl33 : Array (Option Value)} {oc33 kV33 dc33 pm33 cd33 ct33 : Value}
    {f34 : Addr} {od34 an34 : Option Addr} {sl34 : Array (Option Value)} {oc34 kV34 dc34 pm34 cd34 ct34 : Value}
    {f35 : Addr} {od35 an35 : Option Addr} {sl35 : Array (Option Value)} {oc35 kV35 dc35 pm35 cd35 ct35 : Value}
    {f36 : Addr} {od36 an36 : Option Addr} {sl36 : Array (Option Value)} {oc36 kV36 dc36 pm36 cd36 ct36 : Value}
    {f37 : Addr} {od37 an37 : Option Addr} {sl37 : Array (Option Value)} {oc37 kV37 dc37 pm37 cd37 ct37 : Value}
    {f38 : Addr} {od38 an38 : Option Addr} {sl38 : Array (Option Value)} {oc38 kV38 dc38 pm38 cd38 ct38 : Value}
    {f39 : Addr} {od39 an39 : Option Addr} {sl39 : Array (Option Value)} {oc39 kV39 dc39 pm39 cd39 ct39 : Value}
    {f40 : Addr} {od40 an40 : Option Addr} {sl40 : Array (Option Value)} {oc40 kV40 dc40 pm40 cd40 ct40 : Value}
    {t_MOST_GUESTS : Tok}
    {t_MOST_WEIGHT : Tok}
    (a1 : PySem.W.nsIn K mainGlobals "is_whole" = some (some (.ref f1))) (l1 : K.lookup f1 = some ⟨oc1, od1, .func (PySem.W.fnOf "is_whole" "is_whole" (defArgs s_is_whole) (defBody s_is_whole) (defScope s_is_whole) .none kV1 dc1 pm1 an1 cd1 ct1), sl1⟩) (c1 : PySem.W.codeIn K cd1 "is_whole" = true) (k1 : PySem.W.keepIn K (.ref f1) = true)
    (a2 : PySem.W.nsIn K mainGlobals "is_within" = some (some (.ref f2))) (l2 : K.lookup f2 = some ⟨oc2, od2, .func (PySem.W.fnOf "is_within" "is_within" (defArgs s_is_within) (defBody s_is_within) (defScope s_is_within) .none kV2 dc2 pm2 an2 cd2 ct2), sl2⟩) (c2 : PySem.W.codeIn K cd2 "is_within" = true) (k2 : PySem.W.keepIn K (.ref f2) = true)
    (a3 : PySem.W.nsIn K mainGlobals "is_order" = some (some (.ref f3))) (l3 : K.lookup f3 = some ⟨oc3, od3, .func (PySem.W.fnOf "is_order" "is_order" (defArgs s_is_order) (defBody s_is_order) (defScope s_is_order) .none kV3 dc3 pm3 an3 cd3 ct3), sl3⟩) (c3 : PySem.W.codeIn K cd3 "is_order" = true) (k3 : PySem.W.keepIn K (.ref f3) = true)
    (a4 : PySem.W.nsIn K mainGlobals "check_guests" = some (some (.ref f4))) (l4 : K.lookup f4 = some ⟨oc4, od4, .func (PySem.W.fnOf "check_guests" "check_guests" (defArgs s_check_guests) (defBody s_check_guests) (defScope s_check_guests) .none kV4 dc4 pm4 an4 cd4 ct4), sl4⟩) (c4 : PySem.W.codeIn K cd4 "check_guests" = true) (k4 : PySem.W.keepIn K (.ref f4) = true)
    (a5 : PySem.W.nsIn K mainGlobals "check_weight" = some (some (.ref f5))) (l5 : K.lookup f5 = some ⟨oc5, od5, .func (PySem.W.fnOf "check_weight" "check_weight" (defArgs s_check_weight) (defBody s_check_weight) (defScope s_check_weight) .none kV5 dc5 pm5 an5 cd5 ct5), sl5⟩) (c5 : PySem.W.codeIn K cd5 "check_weight" = true) (k5 : PySem.W.keepIn K (.ref f5) = true)
    (a6 : PySem.W.nsIn K mainGlobals "check_number" = some (some (.ref f6))) (l6 : K.lookup f6 = some ⟨oc6, od6, .func (PySem.W.fnOf "check_number" "check_number" (defArgs s_check_number) (defBody s_check_number) (defScope s_check_number) .none kV6 dc6 pm6 an6 cd6 ct6), sl6⟩) (c6 : PySem.W.codeIn K cd6 "check_number" = true) (k6 : PySem.W.keepIn K (.ref f6) = true)
    (a7 : PySem.W.nsIn K mainGlobals "check_index" = some (some (.ref f7))) (l7 : K.lookup f7 = some ⟨oc7, od7, .func (PySem.W.fnOf "check_index" "check_index" (defArgs s_check_index) (defBody s_check_index) (defScope s_check_index) .none kV7 dc7 pm7 an7 cd7 ct7), sl7⟩) (c7 : PySem.W.codeIn K cd7 "check_index" = true) (k7 : PySem.W.keepIn K (.ref f7) = true)
    (a8 : PySem.W.nsIn K mainGlobals "rising" = some (some (.ref f8))) (l8 : K.lookup f8 = some ⟨oc8, od8, .func (PySem.W.fnOf "rising" "rising" (defArgs s_rising) (defBody s_rising) (defScope s_rising) .none kV8 dc8 pm8 an8 cd8 ct8), sl8⟩) (c8 : PySem.W.codeIn K cd8 "rising" = true) (k8 : PySem.W.keepIn K (.ref f8) = true)
    (a9 : PySem.W.nsIn K mainGlobals "sums_by_tables" = some (some (.ref f9))) (l9 : K.lookup f9 = some ⟨oc9, od9, .func (PySem.W.fnOf "sums_by_tables" "sums_by_tables" (defArgs s_sums_by_tables) (defBody s_sums_by_tables) (defScope s_sums_by_tables) .none kV9 dc9 pm9 an9 cd9 ct9), sl9⟩) (c9 : PySem.W.codeIn K cd9 "sums_by_tables" = true) (k9 : PySem.W.keepIn K (.ref f9) = true)
    (a10 : PySem.W.nsIn K mainGlobals "fraction" = some (some (.ref f10))) (l10 : K.lookup f10 = some ⟨oc10, od10, .func (PySem.W.fnOf "fraction" "fraction" (defArgs s_fraction) (defBody s_fraction) (defScope s_fraction) .none kV10 dc10 pm10 an10 cd10 ct10), sl10⟩) (c10 : PySem.W.codeIn K cd10 "fraction" = true) (k10 : PySem.W.keepIn K (.ref f10) = true)
    (a11 : PySem.W.nsIn K mainGlobals "is_seating" = some (some (.ref f11))) (l11 : K.lookup f11 = some ⟨oc11, od11, .func (PySem.W.fnOf "is_seating" "is_seating" (defArgs s_is_seating) (defBody s_is_seating) (defScope s_is_seating) .none kV11 dc11 pm11 an11 cd11 ct11), sl11⟩) (c11 : PySem.W.codeIn K cd11 "is_seating" = true) (k11 : PySem.W.keepIn K (.ref f11) = true)
    (a12 : PySem.W.nsIn K mainGlobals "tables_of" = some (some (.ref f12))) (l12 : K.lookup f12 = some ⟨oc12, od12, .func (PySem.W.fnOf "tables_of" "tables_of" (defArgs s_tables_of) (defBody s_tables_of) (defScope s_tables_of) .none kV12 dc12 pm12 an12 cd12 ct12), sl12⟩) (c12 : PySem.W.codeIn K cd12 "tables_of" = true) (k12 : PySem.W.keepIn K (.ref f12) = true)
    (a13 : PySem.W.nsIn K mainGlobals "record_list" = some (some (.ref f13))) (l13 : K.lookup f13 = some ⟨oc13, od13, .func (PySem.W.fnOf "record_list" "record_list" (defArgs s_record_list) (defBody s_record_list) (defScope s_record_list) .none kV13 dc13 pm13 an13 cd13 ct13), sl13⟩) (c13 : PySem.W.codeIn K cd13 "record_list" = true) (k13 : PySem.W.keepIn K (.ref f13) = true)
    (a14 : PySem.W.nsIn K mainGlobals "seating_of_records" = some (some (.ref f14))) (l14 : K.lookup f14 = some ⟨oc14, od14, .func (PySem.W.fnOf "seating_of_records" "seating_of_records" (defArgs s_seating_of_records) (defBody s_seating_of_records) (defScope s_seating_of_records) .none kV14 dc14 pm14 an14 cd14 ct14), sl14⟩) (c14 : PySem.W.codeIn K cd14 "seating_of_records" = true) (k14 : PySem.W.keepIn K (.ref f14) = true)
    (a15 : PySem.W.nsIn K mainGlobals "check_seating" = some (some (.ref f15))) (l15 : K.lookup f15 = some ⟨oc15, od15, .func (PySem.W.fnOf "check_seating" "check_seating" (defArgs s_check_seating) (defBody s_check_seating) (defScope s_check_seating) .none kV15 dc15 pm15 an15 cd15 ct15), sl15⟩) (c15 : PySem.W.codeIn K cd15 "check_seating" = true) (k15 : PySem.W.keepIn K (.ref f15) = true)
    (a16 : PySem.W.nsIn K mainGlobals "check_names" = some (some (.ref f16))) (l16 : K.lookup f16 = some ⟨oc16, od16, .func (PySem.W.fnOf "check_names" "check_names" (defArgs s_check_names) (defBody s_check_names) (defScope s_check_names) .none kV16 dc16 pm16 an16 cd16 ct16), sl16⟩) (c16 : PySem.W.codeIn K cd16 "check_names" = true) (k16 : PySem.W.keepIn K (.ref f16) = true)
    (a17 : PySem.W.nsIn K mainGlobals "walk_left" = some (some (.ref f17))) (l17 : K.lookup f17 = some ⟨oc17, od17, .func (PySem.W.fnOf "walk_left" "walk_left" (defArgs s_walk_left) (defBody s_walk_left) (defScope s_walk_left) .none kV17 dc17 pm17 an17 cd17 ct17), sl17⟩) (c17 : PySem.W.codeIn K cd17 "walk_left" = true) (k17 : PySem.W.keepIn K (.ref f17) = true)
    (a18 : PySem.W.nsIn K mainGlobals "tables_among" = some (some (.ref f18))) (l18 : K.lookup f18 = some ⟨oc18, od18, .func (PySem.W.fnOf "tables_among" "tables_among" (defArgs s_tables_among) (defBody s_tables_among) (defScope s_tables_among) .none kV18 dc18 pm18 an18 cd18 ct18), sl18⟩) (c18 : PySem.W.codeIn K cd18 "tables_among" = true) (k18 : PySem.W.keepIn K (.ref f18) = true)
    (a19 : PySem.W.nsIn K mainGlobals "seating_with" = some (some (.ref f19))) (l19 : K.lookup f19 = some ⟨oc19, od19, .func (PySem.W.fnOf "seating_with" "seating_with" (defArgs s_seating_with) (defBody s_seating_with) (defScope s_seating_with) .none kV19 dc19 pm19 an19 cd19 ct19), sl19⟩) (c19 : PySem.W.codeIn K cd19 "seating_with" = true) (k19 : PySem.W.keepIn K (.ref f19) = true)
    (a20 : PySem.W.nsIn K mainGlobals "is_coming" = some (some (.ref f20))) (l20 : K.lookup f20 = some ⟨oc20, od20, .func (PySem.W.fnOf "is_coming" "is_coming" (defArgs s_is_coming) (defBody s_is_coming) (defScope s_is_coming) .none kV20 dc20 pm20 an20 cd20 ct20), sl20⟩) (c20 : PySem.W.codeIn K cd20 "is_coming" = true) (k20 : PySem.W.keepIn K (.ref f20) = true)
    (a21 : PySem.W.nsIn K mainGlobals "coming_of" = some (some (.ref f21))) (l21 : K.lookup f21 = some ⟨oc21, od21, .func (PySem.W.fnOf "coming_of" "coming_of" (defArgs s_coming_of) (defBody s_coming_of) (defScope s_coming_of) .none kV21 dc21 pm21 an21 cd21 ct21), sl21⟩) (c21 : PySem.W.codeIn K cd21 "coming_of" = true) (k21 : PySem.W.keepIn K (.ref f21) = true)
    (a22 : PySem.W.nsIn K mainGlobals "seating_by" = some (some (.ref f22))) (l22 : K.lookup f22 = some ⟨oc22, od22, .func (PySem.W.fnOf "seating_by" "seating_by" (defArgs s_seating_by) (defBody s_seating_by) (defScope s_seating_by) .none kV22 dc22 pm22 an22 cd22 ct22), sl22⟩) (c22 : PySem.W.codeIn K cd22 "seating_by" = true) (k22 : PySem.W.keepIn K (.ref f22) = true)
    (a23 : PySem.W.nsIn K mainGlobals "openers_of" = some (some (.ref f23))) (l23 : K.lookup f23 = some ⟨oc23, od23, .func (PySem.W.fnOf "openers_of" "openers_of" (defArgs s_openers_of) (defBody s_openers_of) (defScope s_openers_of) .none kV23 dc23 pm23 an23 cd23 ct23), sl23⟩) (c23 : PySem.W.codeIn K cd23 "openers_of" = true) (k23 : PySem.W.keepIn K (.ref f23) = true)
    (a24 : PySem.W.nsIn K mainGlobals "check_coming" = some (some (.ref f24))) (l24 : K.lookup f24 = some ⟨oc24, od24, .func (PySem.W.fnOf "check_coming" "check_coming" (defArgs s_check_coming) (defBody s_check_coming) (defScope s_check_coming) .none kV24 dc24 pm24 an24 cd24 ct24), sl24⟩) (c24 : PySem.W.codeIn K cd24 "check_coming" = true) (k24 : PySem.W.keepIn K (.ref f24) = true)
    (a25 : PySem.W.nsIn K mainGlobals "total_weight" = some (some (.ref f25))) (l25 : K.lookup f25 = some ⟨oc25, od25, .func (PySem.W.fnOf "total_weight" "total_weight" (defArgs s_total_weight) (defBody s_total_weight) (defScope s_total_weight) .none kV25 dc25 pm25 an25 cd25 ct25), sl25⟩) (c25 : PySem.W.codeIn K cd25 "total_weight" = true) (k25 : PySem.W.keepIn K (.ref f25) = true)
    (a26 : PySem.W.nsIn K mainGlobals "tables_share" = some (some (.ref f26))) (l26 : K.lookup f26 = some ⟨oc26, od26, .func (PySem.W.fnOf "tables_share" "tables_share" (defArgs s_tables_share) (defBody s_tables_share) (defScope s_tables_share) .none kV26 dc26 pm26 an26 cd26 ct26), sl26⟩) (c26 : PySem.W.codeIn K cd26 "tables_share" = true) (k26 : PySem.W.keepIn K (.ref f26) = true)
    (a27 : PySem.W.nsIn K mainGlobals "weights_by_tables" = some (some (.ref f27))) (l27 : K.lookup f27 = some ⟨oc27, od27, .func (PySem.W.fnOf "weights_by_tables" "weights_by_tables" (defArgs s_weights_by_tables) (defBody s_weights_by_tables) (defScope s_weights_by_tables) .none kV27 dc27 pm27 an27 cd27 ct27), sl27⟩) (c27 : PySem.W.codeIn K cd27 "weights_by_tables" = true) (k27 : PySem.W.keepIn K (.ref f27) = true)
    (a28 : PySem.W.nsIn K mainGlobals "by_tables" = some (some (.ref f28))) (l28 : K.lookup f28 = some ⟨oc28, od28, .func (PySem.W.fnOf "by_tables" "by_tables" (defArgs s_by_tables) (defBody s_by_tables) (defScope s_by_tables) .none kV28 dc28 pm28 an28 cd28 ct28), sl28⟩) (c28 : PySem.W.codeIn K cd28 "by_tables" = true) (k28 : PySem.W.keepIn K (.ref f28) = true)
    (a29 : PySem.W.nsIn K mainGlobals "nth_seating" = some (some (.ref f29))) (l29 : K.lookup f29 = some ⟨oc29, od29, .func (PySem.W.fnOf "nth_seating" "nth_seating" (defArgs s_nth_seating) (defBody s_nth_seating) (defScope s_nth_seating) .none kV29 dc29 pm29 an29 cd29 ct29), sl29⟩) (c29 : PySem.W.codeIn K cd29 "nth_seating" = true) (k29 : PySem.W.keepIn K (.ref f29) = true)
    (a30 : PySem.W.nsIn K mainGlobals "_law_pouch" = some (some (.ref f30))) (l30 : K.lookup f30 = some ⟨oc30, od30, .func (PySem.W.fnOf "_law_pouch" "_law_pouch" (defArgs s_law_pouch) (defBody s_law_pouch) (defScope s_law_pouch) .none kV30 dc30 pm30 an30 cd30 ct30), sl30⟩) (c30 : PySem.W.codeIn K cd30 "_law_pouch" = true) (k30 : PySem.W.keepIn K (.ref f30) = true)
    (a31 : PySem.W.nsIn K mainGlobals "_law_dip" = some (some (.ref f31))) (l31 : K.lookup f31 = some ⟨oc31, od31, .func (PySem.W.fnOf "_law_dip" "_law_dip" (defArgs s_law_dip) (defBody s_law_dip) (defScope s_law_dip) .none kV31 dc31 pm31 an31 cd31 ct31), sl31⟩) (c31 : PySem.W.codeIn K cd31 "_law_dip" = true) (k31 : PySem.W.keepIn K (.ref f31) = true)
    (a32 : PySem.W.nsIn K mainGlobals "_law_every" = some (some (.ref f32))) (l32 : K.lookup f32 = some ⟨oc32, od32, .func (PySem.W.fnOf "_law_every" "_law_every" (defArgs s_law_every) (defBody s_law_every) (defScope s_law_every) .none kV32 dc32 pm32 an32 cd32 ct32), sl32⟩) (c32 : PySem.W.codeIn K cd32 "_law_every" = true) (k32 : PySem.W.keepIn K (.ref f32) = true)
    (a33 : PySem.W.nsIn K mainGlobals "_law_weigh" = some (some (.ref f33))) (l33 : K.lookup f33 = some ⟨oc33, od33, .func (PySem.W.fnOf "_law_weigh" "_law_weigh" (defArgs s_law_weigh) (defBody s_law_weigh) (defScope s_law_weigh) .none kV33 dc33 pm33 an33 cd33 ct33), sl33⟩) (c33 : PySem.W.codeIn K cd33 "_law_weigh" = true) (k33 : PySem.W.keepIn K (.ref f33) = true)
    (a34 : PySem.W.nsIn K mainGlobals "_law_heavy" = some (some (.ref f34))) (l34 : K.lookup f34 = some ⟨oc34, od34, .func (PySem.W.fnOf "_law_heavy" "_law_heavy" (defArgs s_law_heavy) (defBody s_law_heavy) (defScope s_law_heavy) .none kV34 dc34 pm34 an34 cd34 ct34), sl34⟩) (c34 : PySem.W.codeIn K cd34 "_law_heavy" = true) (k34 : PySem.W.keepIn K (.ref f34) = true)
    (a35 : PySem.W.nsIn K mainGlobals "_law_rise" = some (some (.ref f35))) (l35 : K.lookup f35 = some ⟨oc35, od35, .func (PySem.W.fnOf "_law_rise" "_law_rise" (defArgs s_law_rise) (defBody s_law_rise) (defScope s_law_rise) .none kV35 dc35 pm35 an35 cd35 ct35), sl35⟩) (c35 : PySem.W.codeIn K cd35 "_law_rise" = true) (k35 : PySem.W.keepIn K (.ref f35) = true)
    (a36 : PySem.W.nsIn K mainGlobals "_law_leasts" = some (some (.ref f36))) (l36 : K.lookup f36 = some ⟨oc36, od36, .func (PySem.W.fnOf "_law_leasts" "_law_leasts" (defArgs s_law_leasts) (defBody s_law_leasts) (defScope s_law_leasts) .none kV36 dc36 pm36 an36 cd36 ct36), sl36⟩) (c36 : PySem.W.codeIn K cd36 "_law_leasts" = true) (k36 : PySem.W.keepIn K (.ref f36) = true)
    (a37 : PySem.W.nsIn K mainGlobals "_law_all_right" = some (some (.ref f37))) (l37 : K.lookup f37 = some ⟨oc37, od37, .func (PySem.W.fnOf "_law_all_right" "_law_all_right" (defArgs s_law_all_right) (defBody s_law_all_right) (defScope s_law_all_right) .none kV37 dc37 pm37 an37 cd37 ct37), sl37⟩) (c37 : PySem.W.codeIn K cd37 "_law_all_right" = true) (k37 : PySem.W.keepIn K (.ref f37) = true)
    (a38 : PySem.W.nsIn K mainGlobals "_law_one_right" = some (some (.ref f38))) (l38 : K.lookup f38 = some ⟨oc38, od38, .func (PySem.W.fnOf "_law_one_right" "_law_one_right" (defArgs s_law_one_right) (defBody s_law_one_right) (defScope s_law_one_right) .none kV38 dc38 pm38 an38 cd38 ct38), sl38⟩) (c38 : PySem.W.codeIn K cd38 "_law_one_right" = true) (k38 : PySem.W.keepIn K (.ref f38) = true)
    (a39 : PySem.W.nsIn K mainGlobals "_law_newcomer_right" = some (some (.ref f39))) (l39 : K.lookup f39 = some ⟨oc39, od39, .func (PySem.W.fnOf "_law_newcomer_right" "_law_newcomer_right" (defArgs s_law_newcomer_right) (defBody s_law_newcomer_right) (defScope s_law_newcomer_right) .none kV39 dc39 pm39 an39 cd39 ct39), sl39⟩) (c39 : PySem.W.codeIn K cd39 "_law_newcomer_right" = true) (k39 : PySem.W.keepIn K (.ref f39) = true)
    (a40 : PySem.W.nsIn K mainGlobals "law" = some (some (.ref f40))) (l40 : K.lookup f40 = some ⟨oc40, od40, .func (PySem.W.fnOf "law" "law" (defArgs s_law) (defBody s_law) (defScope s_law) .none kV40 dc40 pm40 an40 cd40 ct40), sl40⟩) (c40 : PySem.W.codeIn K cd40 "law" = true) (k40 : PySem.W.keepIn K (.ref f40) = true)
    (z_abs : PySem.W.nsIn K mainGlobals "abs" = some none)
    (z_all : PySem.W.nsIn K mainGlobals "all" = some none)
    (z_divmod : PySem.W.nsIn K mainGlobals "divmod" = some none)
    (z_enumerate : PySem.W.nsIn K mainGlobals "enumerate" = some none)
    (z_int : PySem.W.nsIn K mainGlobals "int" = some none)
    (z_len : PySem.W.nsIn K mainGlobals "len" = some none)
    (z_list : PySem.W.nsIn K mainGlobals "list" = some none)
    (z_max : PySem.W.nsIn K mainGlobals "max" = some none)
    (z_min : PySem.W.nsIn K mainGlobals "min" = some none)
    (z_range : PySem.W.nsIn K mainGlobals "range" = some none)
    (z_sorted : PySem.W.nsIn K mainGlobals "sorted" = some none)
    (z_sum : PySem.W.nsIn K mainGlobals "sum" = some none)
    (z_tuple : PySem.W.nsIn K mainGlobals "tuple" = some none)
    (z_type : PySem.W.nsIn K mainGlobals "type" = some none)
    (z_zip : PySem.W.nsIn K mainGlobals "zip" = some none)
    (y_MOST_GUESTS : PySem.W.nsIn K mainGlobals "MOST_GUESTS" = some (some (.int 20 t_MOST_GUESTS)))
    (y_MOST_WEIGHT : PySem.W.nsIn K mainGlobals "MOST_WEIGHT" = some (some (.int 1000000000000 t_MOST_WEIGHT)))
    (x_factorial : PySem.W.nsIn K mainGlobals "factorial" = some (some (.builtin "math.factorial")))
    (x_gcd : PySem.W.nsIn K mainGlobals "gcd" = some (some (.builtin "math.gcd")))
    : ∃ fd : FuncData, (∀ (s : Shared) (v : Value), BindsTo s fd ⟨[v], []⟩ [("script", v)]) ∧ ∀ base : Heap, K.In base → base.Ns mainGlobals mg → FnOk l.prog w K mg base CX0 8 fa fd ["script"] (sp_law K) := by
  have e := hfa.symm.trans (PySem.W.mg_of X G a40)
  cases e
  have F1 := fun_mk (st := s_is_whole) l1 c1 k1
  have F2 := fun_mk (st := s_is_within) l2 c2 k2
  have F3 := fun_mk (st := s_is_order) l3 c3 k3
  have F4 := fun_mk (st := s_check_guests) l4 c4 k4
  have F5 := fun_mk (st := s_check_weight) l5 c5 k5
  have F6 := fun_mk (st := s_check_number) l6 c6 k6
  have F7 := fun_mk (st := s_check_index) l7 c7 k7
  have F8 := fun_mk (st := s_rising) l8 c8 k8
  have F9 := fun_mk (st := s_sums_by_tables) l9 c9 k9
  have F10 := fun_mk (st := s_fraction) l10 c10 k10
  have F11 := fun_mk (st := s_is_seating) l11 c11 k11
  have F12 := fun_mk (st := s_tables_of) l12 c12 k12
  have F13 := fun_mk (st := s_record_list) l13 c13 k13
  have F14 := fun_mk (st := s_seating_of_records) l14 c14 k14
  have F15 := fun_mk (st := s_check_seating) l15 c15 k15
  have F16 := fun_mk (st := s_check_names) l16 c16 k16
  have F17 := fun_mk (st := s_walk_left) l17 c17 k17
  have F18 := fun_mk (st := s_tables_among) l18 c18 k18
  have F19 := fun_mk (st := s_seating_with) l19 c19 k19
  have F20 := fun_mk (st := s_is_coming) l20 c20 k20
  have F21 := fun_mk (st := s_coming_of) l21 c21 k21
  have F22 := fun_mk (st := s_seating_by) l22 c22 k22
  have F23 := fun_mk (st := s_openers_of) l23 c23 k23
  have F24 := fun_mk (st := s_check_coming) l24 c24 k24
  have F25 := fun_mk (st := s_total_weight) l25 c25 k25
  have F26 := fun_mk (st := s_tables_share) l26 c26 k26
  have F27 := fun_mk (st := s_weights_by_tables) l27 c27 k27
  have F28 := fun_mk (st := s_by_tables) l28 c28 k28
  have F29 := fun_mk (st := s_nth_seating) l29 c29 k29
  have F30 := fun_mk (st := s_law_pouch) l30 c30 k30
  have F31 := fun_mk (st := s_law_dip) l31 c31 k31
  have F32 := fun_mk (st := s_law_every) l32 c32 k32
  have F33 := fun_mk (st := s_law_weigh) l33 c33 k33
  have F34 := fun_mk (st := s_law_heavy) l34 c34 k34
  have F35 := fun_mk (st := s_law_rise) l35 c35 k35
  have F36 := fun_mk (st := s_law_leasts) l36 c36 k36
  have F37 := fun_mk (st := s_law_all_right) l37 c37 k37
  have F38 := fun_mk (st := s_law_one_right) l38 c38 k38
  have F39 := fun_mk (st := s_law_newcomer_right) l39 c39 k39
  have F40 := fun_mk (st := s_law) l40 c40 k40
  let T : Tx K mg :=
    { f_is_whole := f1, d_is_whole := _, F_is_whole := F1, g_is_whole := PySem.W.mg_of X G a1, b_is_whole := F1.binds (ps := ["thing"]) fun _ _ _ _ _ _ us hl => match us, hl with | [_], _ => rfl,
      f_is_within := f2, d_is_within := _, F_is_within := F2, g_is_within := PySem.W.mg_of X G a2, b_is_within := F2.binds (ps := ["thing", "least", "most"]) fun _ _ _ _ _ _ us hl => match us, hl with | [_, _, _], _ => rfl,
      f_is_order := f3, d_is_order := _, F_is_order := F3, g_is_order := PySem.W.mg_of X G a3, b_is_order := F3.binds (ps := ["thing"]) fun _ _ _ _ _ _ us hl => match us, hl with | [_], _ => rfl,
      f_check_guests := f4, d_check_guests := _, F_check_guests := F4, g_check_guests := PySem.W.mg_of X G a4, b_check_guests := F4.binds (ps := ["guests"]) fun _ _ _ _ _ _ us hl => match us, hl with | [_], _ => rfl,
      f_check_weight := f5, d_check_weight := _, F_check_weight := F5, g_check_weight := PySem.W.mg_of X G a5, b_check_weight := F5.binds (ps := ["weight"]) fun _ _ _ _ _ _ us hl => match us, hl with | [_], _ => rfl,
      f_check_number := f6, d_check_number := _, F_check_number := F6, g_check_number := PySem.W.mg_of X G a6, b_check_number := F6.binds (ps := ["number", "least", "most"]) fun _ _ _ _ _ _ us hl => match us, hl with | [_, _, _], _ => rfl,
      f_check_index := f7, d_check_index := _, F_check_index := F7, g_check_index := PySem.W.mg_of X G a7, b_check_index := F7.binds (ps := ["index", "many"]) fun _ _ _ _ _ _ us hl => match us, hl with | [_, _], _ => rfl,
      f_rising := f8, d_rising := _, F_rising := F8, g_rising := PySem.W.mg_of X G a8, b_rising := F8.binds (ps := ["weight", "guests"]) fun _ _ _ _ _ _ us hl => match us, hl with | [_, _], _ => rfl,
      f_sums_by_tables := f9, d_sums_by_tables := _, F_sums_by_tables := F9, g_sums_by_tables := PySem.W.mg_of X G a9, b_sums_by_tables := F9.binds (ps := ["factors"]) fun _ _ _ _ _ _ us hl => match us, hl with | [_], _ => rfl,
      f_fraction := f10, d_fraction := _, F_fraction := F10, g_fraction := PySem.W.mg_of X G a10, b_fraction := F10.binds (ps := ["top", "bottom"]) fun _ _ _ _ _ _ us hl => match us, hl with | [_, _], _ => rfl,
      f_is_seating := f11, d_is_seating := _, F_is_seating := F11, g_is_seating := PySem.W.mg_of X G a11, b_is_seating := F11.binds (ps := ["thing"]) fun _ _ _ _ _ _ us hl => match us, hl with | [_], _ => rfl,
      f_tables_of := f12, d_tables_of := _, F_tables_of := F12, g_tables_of := PySem.W.mg_of X G a12, b_tables_of := F12.binds (ps := ["seating"]) fun _ _ _ _ _ _ us hl => match us, hl with | [_], _ => rfl,
      f_record_list := f13, d_record_list := _, F_record_list := F13, g_record_list := PySem.W.mg_of X G a13, b_record_list := F13.binds (ps := ["seating"]) fun _ _ _ _ _ _ us hl => match us, hl with | [_], _ => rfl,
      f_seating_of_records := f14, d_seating_of_records := _, F_seating_of_records := F14, g_seating_of_records := PySem.W.mg_of X G a14, b_seating_of_records := F14.binds (ps := ["names"]) fun _ _ _ _ _ _ us hl => match us, hl with | [_], _ => rfl,
      f_check_seating := f15, d_check_seating := _, F_check_seating := F15, g_check_seating := PySem.W.mg_of X G a15, b_check_seating := F15.binds (ps := ["seating"]) fun _ _ _ _ _ _ us hl => match us, hl with | [_], _ => rfl,
      f_check_names := f16, d_check_names := _, F_check_names := F16, g_check_names := PySem.W.mg_of X G a16, b_check_names := F16.binds (ps := ["names"]) fun _ _ _ _ _ _ us hl => match us, hl with | [_], _ => rfl,
      f_walk_left := f17, d_walk_left := _, F_walk_left := F17, g_walk_left := PySem.W.mg_of X G a17, b_walk_left := F17.binds (ps := ["lefts", "guest"]) fun _ _ _ _ _ _ us hl => match us, hl with | [_, _], _ => rfl,
      f_tables_among := f18, d_tables_among := _, F_tables_among := F18, g_tables_among := PySem.W.mg_of X G a18, b_tables_among := F18.binds (ps := ["lefts", "guests"]) fun _ _ _ _ _ _ us hl => match us, hl with | [_, _], _ => rfl,
      f_seating_with := f19, d_seating_with := _, F_seating_with := F19, g_seating_with := PySem.W.mg_of X G a19, b_seating_with := F19.binds (ps := ["tables"]) fun _ _ _ _ _ _ us hl => match us, hl with | [_], _ => rfl,
      f_is_coming := f20, d_is_coming := _, F_is_coming := F20, g_is_coming := PySem.W.mg_of X G a20, b_is_coming := F20.binds (ps := ["thing"]) fun _ _ _ _ _ _ us hl => match us, hl with | [_], _ => rfl,
      f_coming_of := f21, d_coming_of := _, F_coming_of := F21, g_coming_of := PySem.W.mg_of X G a21, b_coming_of := F21.binds (ps := ["seating"]) fun _ _ _ _ _ _ us hl => match us, hl with | [_], _ => rfl,
      f_seating_by := f22, d_seating_by := _, F_seating_by := F22, g_seating_by := PySem.W.mg_of X G a22, b_seating_by := F22.binds (ps := ["coming"]) fun _ _ _ _ _ _ us hl => match us, hl with | [_], _ => rfl,
      f_openers_of := f23, d_openers_of := _, F_openers_of := F23, g_openers_of := PySem.W.mg_of X G a23, b_openers_of := F23.binds (ps := ["seating"]) fun _ _ _ _ _ _ us hl => match us, hl with | [_], _ => rfl,
      f_check_coming := f24, d_check_coming := _, F_check_coming := F24, g_check_coming := PySem.W.mg_of X G a24, b_check_coming := F24.binds (ps := ["coming"]) fun _ _ _ _ _ _ us hl => match us, hl with | [_], _ => rfl,
      f_total_weight := f25, d_total_weight := _, F_total_weight := F25, g_total_weight := PySem.W.mg_of X G a25, b_total_weight := F25.binds (ps := ["guests", "weight"]) fun _ _ _ _ _ _ us hl => match us, hl with | [_, _], _ => rfl,
      f_tables_share := f26, d_tables_share := _, F_tables_share := F26, g_tables_share := PySem.W.mg_of X G a26, b_tables_share := F26.binds (ps := ["guests", "weight", "number"]) fun _ _ _ _ _ _ us hl => match us, hl with | [_, _, _], _ => rfl,
      f_weights_by_tables := f27, d_weights_by_tables := _, F_weights_by_tables := F27, g_weights_by_tables := PySem.W.mg_of X G a27, b_weights_by_tables := F27.binds (ps := ["guests", "weight"]) fun _ _ _ _ _ _ us hl => match us, hl with | [_, _], _ => rfl,
      f_by_tables := f28, d_by_tables := _, F_by_tables := F28, g_by_tables := PySem.W.mg_of X G a28, b_by_tables := F28.binds (ps := ["guests"]) fun _ _ _ _ _ _ us hl => match us, hl with | [_], _ => rfl,
      f_nth_seating := f29, d_nth_seating := _, F_nth_seating := F29, g_nth_seating := PySem.W.mg_of X G a29, b_nth_seating := F29.binds (ps := ["guests", "index"]) fun _ _ _ _ _ _ us hl => match us, hl with | [_, _], _ => rfl,
      f_law_pouch := f30, d_law_pouch := _, F_law_pouch := F30, g_law_pouch := PySem.W.mg_of X G a30, b_law_pouch := F30.binds (ps := ["script", "at"]) fun _ _ _ _ _ _ us hl => match us, hl with | [_, _], _ => rfl,
      f_law_dip := f31, d_law_dip := _, F_law_dip := F31, g_law_dip := PySem.W.mg_of X G a31, b_law_dip := F31.binds (ps := ["pouch", "wide"]) fun _ _ _ _ _ _ us hl => match us, hl with | [_, _], _ => rfl,
      f_law_every := f32, d_law_every := _, F_law_every := F32, g_law_every := PySem.W.mg_of X G a32, b_law_every := F32.binds (ps := ["many"]) fun _ _ _ _ _ _ us hl => match us, hl with | [_], _ => rfl,
      f_law_weigh := f33, d_law_weigh := _, F_law_weigh := F33, g_law_weigh := PySem.W.mg_of X G a33, b_law_weigh := F33.binds (ps := ["heavy", "many"]) fun _ _ _ _ _ _ us hl => match us, hl with | [_, _], _ => rfl,
      f_law_heavy := f34, d_law_heavy := _, F_law_heavy := F34, g_law_heavy := PySem.W.mg_of X G a34, b_law_heavy := F34.binds (ps := ["pouch"]) fun _ _ _ _ _ _ us hl => match us, hl with | [_], _ => rfl,
      f_law_rise := f35, d_law_rise := _, F_law_rise := F35, g_law_rise := PySem.W.mg_of X G a35, b_law_rise := F35.binds (ps := ["heavy", "many"]) fun _ _ _ _ _ _ us hl => match us, hl with | [_, _], _ => rfl,
      f_law_leasts := f36, d_law_leasts := _, F_law_leasts := F36, g_law_leasts := PySem.W.mg_of X G a36, b_law_leasts := F36.binds (ps := ["row"]) fun _ _ _ _ _ _ us hl => match us, hl with | [_], _ => rfl,
      f_law_all_right := f37, d_law_all_right := _, F_law_all_right := F37, g_law_all_right := PySem.W.mg_of X G a37, b_law_all_right := F37.binds (ps := ["many", "heavy"]) fun _ _ _ _ _ _ us hl => match us, hl with | [_, _], _ => rfl,
      f_law_one_right := f38, d_law_one_right := _, F_law_one_right := F38, g_law_one_right := PySem.W.mg_of X G a38, b_law_one_right := F38.binds (ps := ["row"]) fun _ _ _ _ _ _ us hl => match us, hl with | [_], _ => rfl,
      f_law_newcomer_right := f39, d_law_newcomer_right := _, F_law_newcomer_right := F39, g_law_newcomer_right := PySem.W.mg_of X G a39, b_law_newcomer_right := F39.binds (ps := ["pouch", "row"]) fun _ _ _ _ _ _ us hl => match us, hl with | [_, _], _ => rfl,
      f_law := fa, d_law := _, F_law := F40, g_law := PySem.W.mg_of X G a40, b_law := F40.binds (ps := ["script"]) fun _ _ _ _ _ _ us hl => match us, hl with | [_], _ => rfl,
      m_abs := PySem.W.mg_none_of X G z_abs,
      m_all := PySem.W.mg_none_of X G z_all,
      m_divmod := PySem.W.mg_none_of X G z_divmod,
      m_enumerate := PySem.W.mg_none_of X G z_enumerate,
      m_int := PySem.W.mg_none_of X G z_int,
      m_len := PySem.W.mg_none_of X G z_len,
      m_list := PySem.W.mg_none_of X G z_list,
      m_max := PySem.W.mg_none_of X G z_max,
      m_min := PySem.W.mg_none_of X G z_min,
      m_range := PySem.W.mg_none_of X G z_range,
      m_sorted := PySem.W.mg_none_of X G z_sorted,
      m_sum := PySem.W.mg_none_of X G z_sum,
      m_tuple := PySem.W.mg_none_of X G z_tuple,
      m_type := PySem.W.mg_none_of X G z_type,
      m_zip := PySem.W.mg_none_of X G z_zip,
      c_MOST_GUESTS := ⟨_, PySem.W.mg_of X G y_MOST_GUESTS, ⟨_, rfl⟩⟩,
      c_MOST_WEIGHT := ⟨_, PySem.W.mg_of X G y_MOST_WEIGHT, ⟨_, rfl⟩⟩,
      i_factorial := PySem.W.mg_of X G x_factorial,
      i_gcd := PySem.W.mg_of X G x_gcd }
  exact ⟨PySem.W.fnOf "law" "law" (defArgs s_law) (defBody s_law) (defScope s_law) .none kV40 dc40 pm40 an40 cd40 ct40, fun s v => .of_eq rfl, fun base _ _ => ok_law T⟩
end K19
open PySem PySem.W PyProof.Rows
set_option maxRecDepth 100000 in
set_option maxHeartbeats 0 in
theorem PySem.Challenge.cw_newtables_k19_whole_records_holds : PySem.Challenge.rw_newtables_k19_whole_records.Holds := by
  w_on; o_law; k_head; (case hw => w_witness2)
  k_fill
  refine L2.walk_of (l := PySem.Challenge.rw_newtables_k19_whole_records) (n := 63) (k := 8) (x := "script") (CX := fun _ => L2.CX0) (sp := fun w => K19.sp_law _) rfl (by decide) rfl ⟨rfl, by decide, by decide⟩ (fun w h Y => PySem.W.kIn_of Y) ?F (fun _ _ a ns hl _ hS => ⟨a, ns, rfl, hS, hl, fun _ => rfl⟩) (fun _ _ _ _ _ h => h)
  case F =>
    intro w mg fa h KX G hmg
    refine' K19.all_mk KX G hmg ?a1 ?l1 ?c1 ?k1 ?a2 ?l2 ?c2 ?k2 ?a3 ?l3 ?c3 ?k3 ?a4 ?l4 ?c4 ?k4 ?a5 ?l5 ?c5 ?k5 ?a6 ?l6 ?c6 ?k6 ?a7 ?l7 ?c7 ?k7 ?a8 ?l8 ?c8 ?k8 ?a9 ?l9 ?c9 ?k9 ?a10 ?l10 ?c10 ?k10 ?a11 ?l11 ?c11 ?k11 ?a12 ?l12 ?c12 ?k12 ?a13 ?l13 ?c13 ?k13 ?a14 ?l14 ?c14 ?k14 ?a15 ?l15 ?c15 ?k15 ?a16 ?l16 ?c16 ?k16 ?a17 ?l17 ?c17 ?k17 ?a18 ?l18 ?c18 ?k18 ?a19 ?l19 ?c19 ?k19 ?a20 ?l20 ?c20 ?k20 ?a21 ?l21 ?c21 ?k21 ?a22 ?l22 ?c22 ?k22 ?a23 ?l23 ?c23 ?k23 ?a24 ?l24 ?c24 ?k24 ?a25 ?l25 ?c25 ?k25 ?a26 ?l26 ?c26 ?k26 ?a27 ?l27 ?c27 ?k27 ?a28 ?l28 ?c28 ?k28 ?a29 ?l29 ?c29 ?k29 ?a30 ?l30 ?c30 ?k30 ?a31 ?l31 ?c31 ?k31 ?a32 ?l32 ?c32 ?k32 ?a33 ?l33 ?c33 ?k33 ?a34 ?l34 ?c34 ?k34 ?a35 ?l35 ?c35 ?k35 ?a36 ?l36 ?c36 ?k36 ?a37 ?l37 ?c37 ?k37 ?a38 ?l38 ?c38 ?k38 ?a39 ?l39 ?c39 ?k39 ?a40 ?l40 ?c40 ?k40 ?z_abs ?z_all ?z_divmod ?z_enumerate ?z_int ?z_len ?z_list ?z_max ?z_min ?z_range ?z_sorted ?z_sum ?z_tuple ?z_type ?z_zip ?y_MOST_GUESTS ?y_MOST_WEIGHT ?x_factorial ?x_gcd
    (case a1 => k_is); (case l1 => k_is); (case c1 => k_is); (case k1 => k_is); (case a2 => k_is); (case l2 => k_is)
    (case c2 => k_is); (case k2 => k_is); (case a3 => k_is); (case l3 => k_is); (case c3 => k_is); (case k3 => k_is)
    (case a4 => k_is); (case l4 => k_is); (case c4 => k_is); (case k4 => k_is); (case a5 => k_is); (case l5 => k_is)
    (case c5 => k_is); (case k5 => k_is); (case a6 => k_is); (case l6 => k_is); (case c6 => k_is); (case k6 => k_is)
    (case a7 => k_is); (case l7 => k_is); (case c7 => k_is); (case k7 => k_is); (case a8 => k_is); (case l8 => k_is)
    (case c8 => k_is); (case k8 => k_is); (case a9 => k_is); (case l9 => k_is); (case c9 => k_is); (case k9 => k_is)
    (case a10 => k_is); (case l10 => k_is); (case c10 => k_is); (case k10 => k_is); (case a11 => k_is); (case l11 => k_is)
    (case c11 => k_is); (case k11 => k_is); (case a12 => k_is); (case l12 => k_is); (case c12 => k_is); (case k12 => k_is)
    (case a13 => k_is); (case l13 => k_is); (case c13 => k_is); (case k13 => k_is); (case a14 => k_is); (case l14 => k_is)
    (case c14 => k_is); (case k14 => k_is); (case a15 => k_is); (case l15 => k_is); (case c15 => k_is); (case k15 => k_is)
    (case a16 => k_is); (case l16 => k_is); (case c16 => k_is); (case k16 => k_is); (case a17 => k_is); (case l17 => k_is)
    (case c17 => k_is); (case k17 => k_is); (case a18 => k_is); (case l18 => k_is); (case c18 => k_is); (case k18 => k_is)
    (case a19 => k_is); (case l19 => k_is); (case c19 => k_is); (case k19 => k_is); (case a20 => k_is); (case l20 => k_is)
    (case c20 => k_is); (case k20 => k_is); (case a21 => k_is); (case l21 => k_is); (case c21 => k_is); (case k21 => k_is)
    (case a22 => k_is); (case l22 => k_is); (case c22 => k_is); (case k22 => k_is); (case a23 => k_is); (case l23 => k_is)
    (case c23 => k_is); (case k23 => k_is); (case a24 => k_is); (case l24 => k_is); (case c24 => k_is); (case k24 => k_is)
    (case a25 => k_is); (case l25 => k_is); (case c25 => k_is); (case k25 => k_is); (case a26 => k_is); (case l26 => k_is)
    (case c26 => k_is); (case k26 => k_is); (case a27 => k_is); (case l27 => k_is); (case c27 => k_is); (case k27 => k_is)
    (case a28 => k_is); (case l28 => k_is); (case c28 => k_is); (case k28 => k_is); (case a29 => k_is); (case l29 => k_is)
    (case c29 => k_is); (case k29 => k_is); (case a30 => k_is); (case l30 => k_is); (case c30 => k_is); (case k30 => k_is)
    (case a31 => k_is); (case l31 => k_is); (case c31 => k_is); (case k31 => k_is); (case a32 => k_is); (case l32 => k_is)
    (case c32 => k_is); (case k32 => k_is); (case a33 => k_is); (case l33 => k_is); (case c33 => k_is); (case k33 => k_is)
    (case a34 => k_is); (case l34 => k_is); (case c34 => k_is); (case k34 => k_is); (case a35 => k_is); (case l35 => k_is)
    (case c35 => k_is); (case k35 => k_is); (case a36 => k_is); (case l36 => k_is); (case c36 => k_is); (case k36 => k_is)
    (case a37 => k_is); (case l37 => k_is); (case c37 => k_is); (case k37 => k_is); (case a38 => k_is); (case l38 => k_is)
    (case c38 => k_is); (case k38 => k_is); (case a39 => k_is); (case l39 => k_is); (case c39 => k_is); (case k39 => k_is)
    (case a40 => k_is); (case l40 => k_is); (case c40 => k_is); (case k40 => k_is); (case z_abs => k_is); (case z_all => k_is)
    (case z_divmod => k_is); (case z_enumerate => k_is); (case z_int => k_is); (case z_len => k_is); (case z_list => k_is); (case z_max => k_is)
    (case z_min => k_is); (case z_range => k_is); (case z_sorted => k_is); (case z_sum => k_is); (case z_tuple => k_is); (case z_type => k_is)
    (case z_zip => k_is); (case y_MOST_GUESTS => k_is); (case y_MOST_WEIGHT => k_is); (case x_factorial => k_is); (case x_gcd => k_is)