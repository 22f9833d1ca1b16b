import PyProof.Rows.All
import Wide.All
import OpenK.AllK
import Wide.FinOn
import PyProof.TypeEq
import HandS.ForMost
import HandS.Evl
import HandS.Wide
import HandS.WideBits
import HandS.Gcd
import HandS.Codes
import HandS.Conv
import HandS.IsInst
import HandS.More
import HandS.Walk
import HandS.Style
import PyProof.InstEq
import HandS.Sort
import KE.DataMinMax
import PyProof.ReprLen
import PyProof.Rows.RegStrFacts
import KE.KMathGC
import HandS.RevRange
import HandS.Deep
import HandS.Strs
import HandS.SetFor
import KE.GoesEnum
import KE.GoesMore
import HandS.DictTup
import HandS.DictSubView
import KE.KDictWalk
import KE.KDictDisplayH
import KE.GoesZip
import HandS.TupAny
import HandS.Zip
import PySem.Challenge.RW_newtables_k22_events_of_great_halls
set_option Elab.async false
set_option linter.all false
set_option maxRecDepth 100000
set_option maxHeartbeats 4000000
namespace Kit
open PySem PySem.Spec PyProof.Rows L2 Evl
/-! rules that the layer lacks -/
section
variable {X : Cx} {a b c d : Expr} {ta tb tc td : TE} {pos : Pos}
def CPowX (i j : Int) : Prop := 0 ≤ j ∧ (Builtin.Int.intBits i : Int) * j ≤ 2 ^ 27
theorem op_powX : OpR X (binaryOp .Pow) (rI CPowX fun i j => .int (i ^ j.toNat)) := opI fun _ _ _ _ _ _ _ hc q => pow_int hc.1 hc.2 q
/-- the types that are compared by == -/
def Meta (n : String) : Prop := ∀ s : Shared, s.TypeIs (.type n) "type"
def rEqTy : R2 := fun x y H Q => ∃ m n, x = .ty m ∧ y = .ty n ∧ Meta m ∧ Meta n ∧ Q (.bl (decide (m = n))) H
theorem op_eqTy : OpR X (compareOp .Eq) rEqTy := by
  intro pins s σ H x y v u Q I rx ry h
  obtain ⟨m, n, rfl, rfl, hm, hn, q⟩ := h
  cases (show v = Value.type m from rx)
  cases (show u = Value.type n from ry)
  by_cases e : m = n
  · subst e
    exact PySem.TypeEq.eq_type_same hm ⟨.bl true, H, I, rfl, by simpa using q⟩
  · exact PySem.TypeEq.eq_type_other hm hn (by rw [beq_eq_false_iff_ne]; exact fun z => e (Value.type.inj z)) ⟨.bl false, H, I, rfl, by simpa [e] using q⟩
/-- a op b op c op d -/
def tChain3 (r r' r'' : R2) (ta tb tc td : TE) : TE := fun σ H Q => ta σ H fun x H1 => tb σ H1 fun y H2 => r x y H2 fun z H3 => ∃ k, z = .bl k ∧
  (if k = true then tc σ H3 fun w' H4 => r' y w' H4 fun z' H5 => ∃ k', z' = .bl k' ∧ (if k' = true then td σ H5 fun w'' H6 => r'' w' w'' H6 Q else Q (.bl false) H5) else Q (.bl false) H3)
theorem pe_chain3 {op op' op'' : CmpOp} {r r' r'' : R2} (ho : OpR X (compareOp op) r) (ho' : OpR X (compareOp op') r') (ho'' : OpR X (compareOp op'') r'') (ha : PE X a ta) (hb : PE X b tb) (hc : PE X c tc) (hd : PE X d td)
    (hm : lastMarks [op, op', op''] [b, c, d] = false := by with_unfolding_all rfl) : PE X (.Compare a [op, op', op''] [b, c, d] pos) (tChain3 r r' r'' ta tb tc td) := by
  refine ⟨fun pins s σ H Q I h => ?_⟩
  refine Compare_chain (thn (ha.run pins s σ H _ I h) fun v s1 ⟨x, H1, I1, r1, q1⟩ => chain_link (thn (hb.run pins s1 σ H1 _ I1 q1) fun u s2 ⟨y, H2, I2, r2, q2⟩ =>
    thn (ho pins s2 σ H2 x y v u _ I2 r1 r2 q2) fun d s3 ⟨z, H3, I3, r3, k, e, q3⟩ => ?_)) hm
  subst e
  cases r3
  refine wpAny_truthy_bool ?_
  cases k with
  | false => exact ite_ff ⟨.bl false, H3, I3, rfl, q3⟩
  | true =>
    refine ite_tt (chain_link (thn (hc.run pins s3 σ H3 _ I3 q3) fun w' s4 ⟨z', H4, I4, r4, q4⟩ => thn (ho' pins s4 σ H4 y z' u w' _ I4 r2 r4 q4) fun d' s5 ⟨z5, H5, I5, r5, k5, e5, q5⟩ => ?_))
    subst e5
    cases r5
    refine wpAny_truthy_bool ?_
    cases k5 with
    | false => exact ite_ff ⟨.bl false, H5, I5, rfl, q5⟩
    | true => exact ite_tt (chain_last (thn (hd.run pins s5 σ H5 _ I5 q5) fun w6 s6 ⟨z6, H6, I6, r6, q6⟩ => ho'' pins s6 σ H6 z' z6 w' w6 Q I6 r4 r6 q6))
theorem pt_chain3 {op op' op'' : CmpOp} {r r' r'' : R2} (ho : OpR X (compareOp op) r) (ho' : OpR X (compareOp op') r') (ho'' : OpR X (compareOp op'') r'') (ha : PE X a ta) (hb : PE X b tb) (hc : PE X c tc) (hd : PE X d td)
    (hm : lastMarks [op, op', op''] [b, c, d] = false := by with_unfolding_all rfl) : PT X (.Compare a [op, op', op''] [b, c, d] pos) (tTest (tChain3 r r' r'' ta tb tc td)) := by
  refine ⟨fun pins s σ H Q I h => ?_⟩
  refine isTrue_chain (thn (ha.run pins s σ H _ I h) fun v s1 ⟨x, H1, I1, r1, q1⟩ => test_link (thn (hb.run pins s1 σ H1 _ I1 q1) fun u s2 ⟨y, H2, I2, r2, q2⟩ =>
    thn (ho pins s2 σ H2 x y v u _ I2 r1 r2 q2) fun d s3 ⟨z, H3, I3, r3, k, e, q3⟩ => ?_)) hm
  subst e
  cases r3
  refine wpAny_truthy_bool ?_
  cases k with
  | false =>
    obtain ⟨k', e', q'⟩ := q3
    cases e'
    exact ite_ff ⟨H3, I3, q'⟩
  | true =>
    refine ite_tt (test_link (thn (hc.run pins s3 σ H3 _ I3 q3) fun w' s4 ⟨z', H4, I4, r4, q4⟩ => thn (ho' pins s4 σ H4 y z' u w' _ I4 r2 r4 q4) fun d' s5 ⟨z5, H5, I5, r5, k5, e5, q5⟩ => ?_))
    subst e5
    cases r5
    refine wpAny_truthy_bool ?_
    cases k5 with
    | false =>
      obtain ⟨k', e', q'⟩ := q5
      cases e'
      exact ite_ff ⟨H5, I5, q'⟩
    | true =>
      refine ite_tt (test_last (thn (hd.run pins s5 σ H5 _ I5 q5) fun w6 s6 ⟨z6, H6, I6, r6, q6⟩ => thn (ho'' pins s6 σ H6 z' z6 w' w6 _ I6 r4 r6 q6) fun d7 s7 ⟨z7, H7, I7, r7, k7, e7, q7⟩ => ?_))
      subst e7
      cases r7
      exact wpAny_truthy_bool ⟨H7, I7, q7⟩
end
/-! f(k = v, ..): keywords alone -/
section
variable {X : Cx} {CX : CXT} {k : Nat} {f C : Addr} {fd : FuncData} {ps ks : List Str} {sp : Sp} {E : XK} {x m : Str} {p pos apos kpos : Pos} {kws : List Keyword} {tk : TA}
variable {g : List Value → List Value → List Value} {gV : List V → List V → List V}
theorem pe_callK0 (F : FnOk X.prog X.w X.K X.mg X.base CX k f fd ps sp) (hr : Room k X.A) (hg : Gl X x) (hm : X.mg x = some (.ref f)) (hk : PySem.W.keepIn X.K (.ref f) = true) (hb : KBinds X.K fd ps ks g gV) (hx : Passes CX X E)
    (hkw : PK X kws tk) (hall : (backToKw pos (keywordEach kws X.env)).all (·.1.isSome) = true := by rfl) (hks : (backToKw pos (keywordEach kws X.env)).filterMap (·.1) = ks := by rfl)
    (hdb : (x == ("__debug__" : Str)) = false := by decide)
    (hpl : ((backTo pos (starEach [] X.env)).any (·.1) || (backToKw pos (keywordEach kws X.env)).any (·.1.isNone)) = false := by rfl) :
    PE X (.Call (.Name x p) [] kws pos) (tCallK sp gV E tNil tk) := by
  refine ⟨fun pins s σ H Q I h => ?_⟩
  refine wpAny_Call_Name_kw (ld_glob I hg hm ?_ hdb)
  refine PySem.W.callWith_KW0 (h₀ := X.base) I.ok.mod.kin hk hall ?_ hpl
  refine thn (hkw.run pos pins s σ H _ I h) fun ws s2 ⟨zs, H2, I2, rz, q2⟩ => ⟨I2.kIn, ?_⟩
  rw [hks]
  exact run_fnk F hr hb hx I2 (us := []) (vs := []) .nil rz q2
end
theorem pe_gc {X : Cx} {x : Str} {pos : Pos} {v : V} (hg : Gl X x) (h : ∃ u, X.mg x = some u ∧ RelV v u) (hd : (x == ("__debug__" : Str)) = false := by decide) : PE X (.Name x pos) (tC v) := by
  obtain ⟨u, hm, r⟩ := h
  exact pe_glob hg hm r hd
/-! built-ins by name, with readings that have names -/
section
variable {X : Cx}
def rAbs : List V → Hp → VK → Prop := fun xs H Q => ∃ i, xs = [.int i] ∧ Q (.int (if i < 0 then -i else i)) H
def rMin2 : List V → Hp → VK → Prop := fun xs H Q => ∃ i j, xs = [.int i, .int j] ∧ Q (.int (if j < i then j else i)) H
def rIntI : List V → Hp → VK → Prop := fun xs H Q => ∃ i, xs = [.int i] ∧ Q (.int i) H
def rIntB : List V → Hp → VK → Prop := fun xs H Q => ∃ b, xs = [.bl b] ∧ Q (.int (if b then 1 else 0)) H
theorem call_absR : CallR X (.builtin "abs") rAbs := call_abs
theorem call_maxR (hc : X.calm = true) : CallR X (.builtin "max") rMax2 := call_max2 hc
theorem call_minR (hc : X.calm = true) : CallR X (.builtin "min") rMin2 := call_min2 hc
theorem call_intI : CallR X (.type "int") rIntI := by
  intro pins s σ H xs us Q I r h
  obtain ⟨i, e, q⟩ := h
  exact call_int1 pins s σ H xs us Q I r (.inl ⟨i, e, q⟩)
theorem call_intB : CallR X (.type "int") rIntB := by
  intro pins s σ H xs us Q I r h
  obtain ⟨i, e, q⟩ := h
  exact call_int1 pins s σ H xs us Q I r (.inr ⟨i, e, q⟩)
theorem call_lenR : CallR X (.builtin "len") (rLenS X.K) := call_len_seq
theorem call_listR : CallR X (.type "list") (rListS X.K) := call_list_of
def rTupS (K : PySem.W.Frag) : List V → Hp → VK → Prop := fun xs H Q => ∃ p ys, xs = [.ref p] ∧ SqL K H p ys ∧ ∀ l, H l = none → Q (.ref l) (upd H l (.tup ys))
theorem call_tupR : CallR X (.type "tuple") (rTupS X.K) := by
  intro pins s σ H xs us Q I r h
  obtain ⟨p, ys, e, hs, q⟩ := h
  exact call_tuple_of pins s σ H xs us Q I r ⟨p, ys, e, .inl ⟨hs, q⟩⟩
def rIsN1 : R2 := fun x y H Q => y = .non ∧ Q (.bl (decide (x = .non))) H
def rNotN1 : R2 := fun x y H Q => y = .non ∧ Q (.bl (!decide (x = .non))) H
theorem op_isNR : OpR X (compareOp .Is) rIsN1 := op_isN
theorem op_notNR : OpR X (compareOp .IsNot) rNotN1 := op_notN
end
/-! evaluations of these -/
section
variable {K : PySem.W.Frag} {σ : L2.St} {H H' : Hp} {ta tb tc td te : TE} {x y z v : V} {r : R2} {i j : Int}
theorem ev_abs (h : Ev ta σ H (.int i)) : Ev (tCB rAbs (tCons ta tNil)) σ H (.int (if i < 0 then -i else i)) := fun H1 e Q q => h H1 e _ fun H2 e2 => ⟨i, rfl, q H2 e2⟩
theorem ev_min2 (ha : Ev ta σ H (.int i)) (hb : Ev tb σ H (.int j)) : Ev (tCB rMin2 (tCons ta (tCons tb tNil))) σ H (.int (if j < i then j else i)) := fun H1 e Q q =>
  ha H1 e _ fun H2 e2 => hb H2 (e.trans e2) _ fun H3 e3 => ⟨i, j, rfl, q H3 (e2.trans e3)⟩
theorem ev_intI (h : Ev ta σ H (.int i)) : Ev (tCB rIntI (tCons ta tNil)) σ H (.int i) := fun H1 e Q q => h H1 e _ fun H2 e2 => ⟨i, rfl, q H2 e2⟩
theorem ev_intB {b : Bool} (h : Ev ta σ H (.bl b)) : Ev (tCB rIntB (tCons ta tNil)) σ H (.int (if b then 1 else 0)) := fun H1 e Q q => h H1 e _ fun H2 e2 => ⟨b, rfl, q H2 e2⟩
theorem rv_isN : RV rIsN1 x .non H (.bl (decide (x = .non))) := fun H1 _ _ q => ⟨rfl, q H1 (Ex.refl H1)⟩
theorem rv_notN : RV rNotN1 x .non H (.bl (!decide (x = .non))) := fun H1 _ _ q => ⟨rfl, q H1 (Ex.refl H1)⟩
theorem ev_chain {r r' : R2} {k : Bool} {k' : Bool} (ha : Ev ta σ H x) (hb : Ev tb σ H y) (hr : RV r x y H (.bl k)) (hc : k = true → ∃ z, Ev tc σ H z ∧ RV r' y z H (.bl k')) : Ev (tChain r r' ta tb tc) σ H (.bl (k && k')) := fun H1 e Q q =>
  ha H1 e _ fun H2 e2 => hb H2 (e.trans e2) _ fun H3 e3 => hr H3 ((e.trans e2).trans e3) _ fun H4 e4 => ⟨k, rfl, by
    cases k with
    | true =>
      obtain ⟨z, h1, h2⟩ := hc rfl
      exact h1 H4 (((e.trans e2).trans e3).trans e4) _ fun H5 e5 => h2 H5 ((((e.trans e2).trans e3).trans e4).trans e5) _ fun H6 e6 => q H6 ((((e2.trans e3).trans e4).trans e5).trans e6)
    | false => exact q H4 ((e2.trans e3).trans e4)⟩
theorem ev_chainI {C C' : Int → Int → Bool} {i j l : Int} (ha : Ev ta σ H (.int i)) (hb : Ev tb σ H (.int j)) (hc : Ev tc σ H (.int l)) :
    Ev (tChain (rI0 fun i j => .bl (C i j)) (rI0 fun i j => .bl (C' i j)) ta tb tc) σ H (.bl (C i j && C' j l)) := ev_chain ha hb rv_I0 fun _ => ⟨_, hc, rv_I0⟩
theorem ev_chain3I {C C' C'' : Int → Int → Bool} {i j l m : Int} (ha : Ev ta σ H (.int i)) (hb : Ev tb σ H (.int j)) (hc : Ev tc σ H (.int l)) (hd : Ev td σ H (.int m)) :
    Ev (tChain3 (rI0 fun i j => .bl (C i j)) (rI0 fun i j => .bl (C' i j)) (rI0 fun i j => .bl (C'' i j)) ta tb tc td) σ H (.bl (C i j && (C' j l && C'' l m))) := fun H1 e Q q =>
  ha H1 e _ fun H2 e2 => hb H2 (e.trans e2) _ fun H3 e3 => ⟨i, j, rfl, rfl, C i j, rfl, by
    have e23 := e2.trans e3
    generalize C i j = k1 at q ⊢
    cases k1 with
    | false => exact q H3 e23
    | true =>
      refine hc H3 (e.trans e23) _ fun H4 e4 => ⟨j, l, rfl, rfl, C' j l, rfl, ?_⟩
      generalize C' j l = k2 at q ⊢
      cases k2 with
      | false => exact q H4 (e23.trans e4)
      | true => exact hd H4 ((e.trans e23).trans e4) _ fun H5 e5 => ⟨l, m, rfl, rfl, q H5 ((e23.trans e4).trans e5)⟩⟩
theorem rv_eqTy {m n : String} (hm : Meta m) (hn : Meta n) : RV rEqTy (.ty m) (.ty n) H (.bl (decide (m = n))) := fun H1 _ _ q => ⟨m, n, rfl, rfl, hm, hn, q H1 (Ex.refl H1)⟩
theorem ev_typeI (h : Ev ta σ H (.int i)) : Ev (tThenZ ta kTyp) σ H (.ty "int") := fun H1 e Q q => h H1 e _ fun H2 e2 => ⟨"int", rfl, q H2 e2⟩
/-- a tuple that was made is read as two names -/
theorem s_tup2 {D : Ends} {i j : Nat} {p : Addr} (ha : Ev ta σ H (.ref p)) (hp : SqT K H p [x, y]) (k : ∀ H1, Ex H H1 → D.nx ((σ.set i (some x)).set j (some y)) H1) : tAsg ta (gTup K 2 (gCons (gName i) (gCons (gName j) gNil))) D σ H :=
  ha H (Ex.refl H) _ fun H1 e => ⟨p, [x, y], rfl, ex_t e hp, rfl, x, [y], rfl, y, [], rfl, rfl, k H1 e⟩
end
/-- a new tuple that is handed back -/
def RetU (xs : List V) (H : Hp) (Q : VK) : Prop := ∀ p H2, H p = none → Ex H H2 → H2 p = some (.tup xs) → Q (.ref p) H2
def SpU (sp : Sp) (vs : List V) (H : Hp) (xs : List V) : Prop := ∀ H1, Ex H H1 → ∀ Q : VK, (∀ p H2, H1 p = none → Ex H1 H2 → H2 p = some (.tup xs) → Q (.ref p) H2) → ∀ E : XK, sp vs H1 Q E
section
variable {K : PySem.W.Frag} {σ : L2.St} {H : Hp}
theorem eu_call {sp : Sp} {dvs vs xs : List V} {E : XK} {ta : TA} (h : EvA ta σ H vs) (hs : SpU sp (vs ++ dvs) H xs) : EvU (tCall sp dvs E ta) σ H xs := fun H1 e Q q =>
  h H1 e _ fun H2 e2 => hs H2 (e.trans e2) Q (fun p H3 hp e3 h3 => q p H3 (fresh_back e2 hp) (e2.trans e3) h3) E
/-- a, b = f(..), f's answer a new tuple -/
theorem s_tup2U {te : TE} {D : Ends} {i j : Nat} {x y : V} (ha : EvU te σ H [x, y]) (k : ∀ H1, Ex H H1 → D.nx ((σ.set i (some x)).set j (some y)) H1) : tAsg te (gTup K 2 (gCons (gName i) (gCons (gName j) gNil))) D σ H :=
  ha H (Ex.refl H) _ fun p H1 _ e h1 => ⟨p, [x, y], rfl, st_of h1, rfl, x, [y], rfl, y, [], rfl, rfl, k H1 e⟩
theorem q_tup2U {te : TE} {tz : TS} {D : Ends} {i j : Nat} {x y : V} (ha : EvU te σ H [x, y]) (k : ∀ H1, Ex H H1 → tz D ((σ.set i (some x)).set j (some y)) H1) : tSeq (tAsg te (gTup K 2 (gCons (gName i) (gCons (gName j) gNil)))) tz D σ H := s_tup2U (D := { D with nx := tz D }) ha k
theorem q_tup2 {ta : TE} {tz : TS} {D : Ends} {i j : Nat} {p : Addr} {x y : V} (ha : Ev ta σ H (.ref p)) (hp : SqT K H p [x, y]) (k : ∀ H1, Ex H H1 → tz D ((σ.set i (some x)).set j (some y)) H1) : tSeq (tAsg ta (gTup K 2 (gCons (gName i) (gCons (gName j) gNil)))) tz D σ H := s_tup2 (D := { D with nx := tz D }) ha hp k
/-- a, b = x, y -/
theorem s_par {ta : TA} {D : Ends} {i j : Nat} {x y : V} (ha : EvA ta σ H [x, y]) (k : ∀ H1, Ex H H1 → D.nx ((σ.set i (some x)).set j (some y)) H1) : tPar i j ta D σ H := ha H (Ex.refl H) _ fun H1 e => ⟨x, y, rfl, k H1 e⟩
theorem q_par {ta : TA} {tz : TS} {D : Ends} {i j : Nat} {x y : V} (ha : EvA ta σ H [x, y]) (k : ∀ H1, Ex H H1 → tz D ((σ.set i (some x)).set j (some y)) H1) : tSeq (tPar i j ta) tz D σ H := s_par (D := { D with nx := tz D }) ha k
end
theorem natAbs_pow_le {b : Int} {k : Nat} (h : b.natAbs < 2 ^ k) (n : Nat) : (b ^ n).natAbs ≤ 2 ^ (k * n) := by
  rw [Int.natAbs_pow, Nat.pow_mul]
  exact Nat.pow_le_pow_left (Nat.le_of_lt h) n
theorem lt_of_le2 {x k : Nat} (h : x ≤ 2 ^ k) : x < 2 ^ (k + 1) := Nat.lt_of_le_of_lt h (Nat.pow_lt_pow_right (by decide) (Nat.lt_succ_self k))
theorem lt2_mono {x k m : Nat} (h : x < 2 ^ k) (e : k ≤ m) : x < 2 ^ m := Nat.lt_of_lt_of_le h (Nat.pow_le_pow_right (by decide) e)
theorem natAbs_mul_lt {a b : Int} {k m : Nat} (ha : a.natAbs < 2 ^ k) (hb : b.natAbs < 2 ^ m) : (a * b).natAbs < 2 ^ (k + m) := wide_lt ha hb
/-! comprehensions -/
section
variable {K : PySem.W.Frag} {σ : L2.St} {H : Hp} {te tl : TE} {t : TT}
theorem et_yes : EvT tYes σ H true := fun H1 _ _ q => q H1 (Ex.refl H1)
theorem given_map {xs : List V} {F : V → V} : given xs.length (fun _ => true) (fun i => F (xs.getD i .non)) = xs.map F := by
  unfold given
  rw [List.filter_eq_self.mpr (fun _ _ => rfl)]
  refine List.ext_getElem (by simp) fun i h1 h2 => ?_
  simp at h1
  simp [h1]
/-- [e for x in xs] -/
theorem el_map {a : Addr} {xs : List V} {j : Nat} {vs : List Nat} (F : V → V) (h : Ev tl σ H (.ref a)) (hx : SqL K H a xs) (hz : xs.length ≤ 40000) (hw : ∀ x, wipe ((wipe σ vs).set j (some x)) vs = wipe σ vs)
    (he : ∀ (i : Nat) (x : V) H1, Ex H H1 → xs[i]? = some x → Ev te ((wipe σ vs).set j (some x)) H1 (F x)) : EvL (tLc (iList K tl) (gName j) tYes te vs) σ H (xs.map F) := by
  rw [← given_map]
  refine el_lcL _ _ h hx hz hw (fun _ _ _ _ _ => et_yes) fun i x H1 e hi _ => ?_
  have q := he i x H1 e hi
  have g : xs.getD i .non = x := by rw [List.getD_eq_getElem?_getD, hi] <;> rfl
  show Ev _ _ _ (F (xs.getD i .non))
  rw [g]
  exact q
theorem el_mapN {xs : List V} {j : Nat} {vs : List Nat} (F : V → V) (h : EvL tl σ H xs) (hz : xs.length ≤ 40000) (hw : ∀ x, wipe ((wipe σ vs).set j (some x)) vs = wipe σ vs)
    (he : ∀ (i : Nat) (x : V) H1, Ex H H1 → xs[i]? = some x → Ev te ((wipe σ vs).set j (some x)) H1 (F x)) : EvL (tLc (iList K tl) (gName j) tYes te vs) σ H (xs.map F) := by
  rw [← given_map]
  refine el_lcNL _ _ h hz hw (fun _ _ _ _ _ => et_yes) fun i x H1 e hi _ => ?_
  have q := he i x H1 e hi
  have g : xs.getD i .non = x := by rw [List.getD_eq_getElem?_getD, hi] <;> rfl
  show Ev _ _ _ (F (xs.getD i .non))
  rw [g]
  exact q
/-- [e for x in range(lo, hi) if t] -/
theorem el_lcR2 {ta : TA} {j : Nat} {vs : List Nat} {lo n : Int} (f : Nat → Bool) (v : Nat → V) (h : EvA ta σ H [.int lo, .int n]) (hn : 0 ≤ lo ∧ lo ≤ 40000 ∧ -40000 ≤ n ∧ n ≤ 40000) (hw : ∀ x, wipe ((wipe σ vs).set j (some x)) vs = wipe σ vs)
    (ht : ∀ (i : Nat) H1, Ex H H1 → lo + (i : Int) < n → EvT t ((wipe σ vs).set j (some (.int (lo + (i : Int))))) H1 (f i)) (he : ∀ (i : Nat) H1, Ex H H1 → lo + (i : Int) < n → f i = true → Ev te ((wipe σ vs).set j (some (.int (lo + (i : Int))))) H1 (v i)) :
    EvL (tLc (iRng2 ta) (gName j) t te vs) σ H (given (n - lo).toNat f v) := fun H0 e Q q => h H0 e _ fun H1 e1 => ⟨lo, n, rfl, ⟨by omega, by omega, by omega, by omega⟩, fun Dl hD =>
  lc_range (lo := lo) (n := (n - lo).toNat) (Cw H1 f v Dl) ⟨hD, Ex.new hD, upd_same⟩ (fun i H' hi p =>
    ⟨hw _, cw_turn p (by omega) (ht i H1 (e.trans e1) (by omega)) (fun hf => he i H1 (e.trans e1) (by omega) hf)⟩) (fun H' p => q Dl H' (fresh_back e1 p.1) (e1.trans p.2.1) p.2.2)⟩
theorem given_none {n : Nat} {f : Nat → Bool} {v : Nat → V} (h : ∀ i, i < n → f i = false) : given n f v = [] := by
  unfold given
  rw [List.filter_eq_nil_iff.mpr (fun i hi => by simp [h i (List.mem_range.mp hi)])]
  rfl
/-- xs + ys, both new -/
theorem el_cat {ta tb : TE} {xs ys : List V} (ha : EvL ta σ H xs) (hb : EvL tb σ H ys) (hl : xs.length + ys.length ≤ 100000) : EvL (tOp rCat ta tb) σ H (xs ++ ys) := fun H1 e Q q =>
  ha H1 e _ fun p H2 hp e2 h2 => hb H2 (e.trans e2) _ fun p' H3 hp' e3 h3 =>
    ⟨p, p', xs, ys, rfl, rfl, e3 p _ h2, h3, sz_of hl, fun l hl' => q l _ (fresh_back (e2.trans e3) hl') ((e2.trans e3).trans (Ex.new hl')) upd_same⟩
/-- [e for x, y in zip(xs, ys)] -/
theorem el_zip {ta : TA} {i j : Nat} {vs : List Nat} {a b : Addr} {xs ys : List V} (F : V → V → V) (h : EvA ta σ H [.ref a, .ref b]) (hx : SqL K H a xs) (hy : SqL K H b ys) (hl : xs.length = ys.length) (hz : xs.length ≤ 40000)
    (hw : ∀ x y, wipe (((wipe σ vs).set i (some x)).set j (some y)) vs = wipe σ vs)
    (he : ∀ (n : Nat) x y H1, Ex H H1 → xs[n]? = some x → ys[n]? = some y → Ev te (((wipe σ vs).set i (some x)).set j (some y)) H1 (F x y)) :
    EvL (tLc (iZip K ta) (gTup K 2 (gCons (gName i) (gCons (gName j) gNil))) tYes te vs) σ H (List.zipWith F xs ys) := fun H0 e Q q => h H0 e _ fun H1 e1 => ⟨a, b, xs, ys, rfl, ex_l (e.trans e1) hx, ex_l (e.trans e1) hy, fun Dl hD => by
  refine lc_it (walk_zip (n := xs.length) (by omega)) (fun n H' => Ex H1 H' ∧ H' Dl = some (.lst ((List.zipWith F xs ys).take n))) ⟨Ex.new hD, upd_same⟩ (fun n H' _ p => ⟨ex_l ((e.trans e1).trans p.1) hx, ex_l ((e.trans e1).trans p.1) hy⟩) ?_ fun H' p => ?_
  · rintro n v Hh H' hn ⟨p1, p2⟩ ⟨T, x, y, rfl, nT, rfl, g1, g2⟩
    have eT : Ex Hh (upd Hh T (.tup [x, y])) := Ex.new nT
    refine ⟨T, [x, y], rfl, st_of upd_same, rfl, x, [y], rfl, y, [], rfl, rfl, hw x y, ?_⟩
    show te _ _ _
    refine he n x y H1 (e.trans e1) g1 g2 _ (p1.trans eT) _ fun H4 e4 => ?_
    have k2 := e4 Dl _ (eT Dl _ p2)
    refine ⟨_, k2, sz_lt (by rw [List.length_take]; omega), Ex.mut (p1.trans (eT.trans e4)) hD, ?_⟩
    rw [upd_same]
    have gz : (List.zipWith F xs ys)[n]? = some (F x y) := by
      rw [List.getElem?_zipWith, show xs[n]? = some x from g1, show ys[n]? = some y from g2]
    rw [List.take_add_one, gz]
    rfl
  · obtain ⟨p1, p2⟩ := p
    rw [List.take_of_length_le (by rw [List.length_zipWith]; omega)] at p2
    exact q Dl H' (fresh_back e1 hD) (e1.trans p1) p2⟩
theorem ev_gcd {ta tb : TE} {a b : Int} (ha : Ev ta σ H (.int a)) (hb : Ev tb σ H (.int b)) : Ev (tCB rGcd (tCons ta (tCons tb tNil))) σ H (.int ((Nat.gcd a.natAbs b.natAbs : Nat) : Int)) := fun H1 e Q q =>
  ha H1 e _ fun H2 e2 => hb H2 (e.trans e2) _ fun H3 e3 => ⟨a, b, rfl, q H3 (e2.trans e3)⟩
end
/-! data, compared by == -/
section
variable {K : PySem.W.Frag} {σ : L2.St} {H H' : Hp}
mutual
theorem Dp.ex (e : Ex H H') : ∀ (d : PyData) (v : V), Dp K H v d → Dp K H' v d
  | .none, _, h => by cases h; exact .non
  | .bool _, _, h => by cases h; exact .bl _
  | .int _, _, h => by cases h; exact .int _
  | .str _, _, h => by cases h; exact .str _
  | .list ds, _, h => by
    cases h with
    | lst hs ha => exact .lst (ex_l e hs) (DpAll.ex e ds _ ha)
  | .tuple ds, _, h => by
    cases h with
    | tup hs ha => exact .tup (ex_t e hs) (DpAll.ex e ds _ ha)
  | .dict _, _, h => by cases h
theorem DpAll.ex (e : Ex H H') : ∀ (ds : List PyData) (vs : List V), DpAll K H vs ds → DpAll K H' vs ds
  | [], _, h => by cases h; exact .nil
  | d :: ds, _, h => by
    cases h with
    | cons h1 h2 => exact .cons (Dp.ex e d _ h1) (DpAll.ex e ds _ h2)
end
theorem DpAll.len : ∀ {ds : List PyData} {vs : List V}, DpAll K H vs ds → vs.length = ds.length
  | [], _, h => by cases h; rfl
  | d :: ds, _, h => by
    cases h with
    | cons h1 h2 => simp [DpAll.len h2]
def EvD (K : PySem.W.Frag) (te : TE) (σ : L2.St) (H : Hp) (d : PyData) : Prop := ∀ H1, Ex H H1 → ∀ Q : VK, (∀ v H2, Ex H1 H2 → Dp K H2 v d → Q v H2) → te σ H1 Q
def EvDA (K : PySem.W.Frag) (ta : TA) (σ : L2.St) (H : Hp) (ds : List PyData) : Prop := ∀ H1, Ex H H1 → ∀ Q : List V → Hp → Prop, (∀ vs H2, Ex H1 H2 → DpAll K H2 vs ds → Q vs H2) → ta σ H1 Q
variable {te ta tb : TE} {d e : PyData} {ds : List PyData}
theorem ed_of {v : V} (h : Ev te σ H v) (k : Dp K H v d) : EvD K te σ H d := fun H1 e1 Q q => h H1 e1 Q fun H2 e2 => q v H2 e2 (Dp.ex (e1.trans e2) d v k)
theorem ed_int {i : Int} (h : Ev te σ H (.int i)) : EvD K te σ H (.int i) := ed_of h (.int i)
theorem ed_bl {i : Bool} (h : Ev te σ H (.bl i)) : EvD K te σ H (.bool i) := ed_of h (.bl i)
theorem ed_non (h : Ev te σ H .non) : EvD K te σ H .none := ed_of h .non
theorem ed_str {i : Str} (h : Ev te σ H (.str i)) : EvD K te σ H (.str i) := ed_of h (.str i)
theorem eda_nil : EvDA K tNil σ H [] := fun H1 _ _ q => q [] H1 (Ex.refl H1) .nil
theorem eda_cons {tr : TA} (h : EvD K te σ H d) (hr : EvDA K tr σ H ds) : EvDA K (tCons te tr) σ H (d :: ds) := fun H1 e _ q =>
  h H1 e _ fun v H2 e2 dv => hr H2 (e.trans e2) _ fun vs H3 e3 dvs => q (v :: vs) H3 (e2.trans e3) (.cons (Dp.ex e3 d v dv) dvs)
theorem ed_lst {t : TA} (h : EvDA K t σ H ds) (hl : ds.length ≤ 100000) : EvD K (tLst t) σ H (.list ds) := fun H1 e _ q =>
  h H1 e _ fun vs H2 e2 dv => ⟨sz_of (by rw [DpAll.len dv]; exact hl), fun p hp => q _ _ (e2.trans (Ex.new hp)) (.lst (sq_of upd_same) (DpAll.ex (Ex.new hp) ds vs dv))⟩
theorem ed_tup {t : TA} (h : EvDA K t σ H ds) (hl : ds.length ≤ 100000) : EvD K (tTup t) σ H (.tuple ds) := fun H1 e _ q =>
  h H1 e _ fun vs H2 e2 dv => ⟨sz_of (by rw [DpAll.len dv]; exact hl), fun p hp => q _ _ (e2.trans (Ex.new hp)) (.tup (st_of upd_same) (DpAll.ex (Ex.new hp) ds vs dv))⟩
theorem ed_ofL {xs : List V} (h : EvL te σ H xs) (k : DpAll K H xs ds) : EvD K te σ H (.list ds) := fun H1 e1 Q q => h H1 e1 Q fun p H2 _ e2 h2 => q _ H2 e2 (.lst (sq_of h2) (DpAll.ex (e1.trans e2) ds xs k))
theorem ed_ofU {xs : List V} (h : EvU te σ H xs) (k : DpAll K H xs ds) : EvD K te σ H (.tuple ds) := fun H1 e1 Q q => h H1 e1 Q fun p H2 _ e2 h2 => q _ H2 e2 (.tup (st_of h2) (DpAll.ex (e1.trans e2) ds xs k))
theorem dpa_ints : ∀ ns : List Int, DpAll K H (ns.map V.int) (ns.map PyData.int)
  | [] => .nil
  | n :: r => .cons (.int n) (dpa_ints r)
theorem ev_eqD (ha : EvD K ta σ H d) (hb : EvD K tb σ H e) (sd : SeqAt.shaped d = true) (se : SeqAt.shaped e = true) : Ev (tOp (rEqD K) ta tb) σ H (.bl (PyData.eqv d e)) := fun H1 e1 Q q =>
  ha H1 e1 _ fun v H2 e2 dv => hb H2 (e1.trans e2) _ fun u H3 e3 du => ⟨d, e, Dp.ex e3 d v dv, du, sd, se, q H3 (e2.trans e3)⟩
theorem ev_neD (ha : EvD K ta σ H d) (hb : EvD K tb σ H e) (sd : SeqAt.shaped d = true) (se : SeqAt.shaped e = true) : Ev (tOp (rNeD K) ta tb) σ H (.bl (!PyData.eqv d e)) := fun H1 e1 Q q =>
  ha H1 e1 _ fun v H2 e2 dv => hb H2 (e1.trans e2) _ fun u H3 e3 du => ⟨d, e, Dp.ex e3 d v dv, du, sd, se, q H3 (e2.trans e3)⟩
theorem shaped_ints : ∀ ns : List Int, SeqAt.shaped (.list (ns.map PyData.int)) = true := fun ns => by
  have h1 : ∀ ms : List Int, PyData.canLayAll0 (ms.map PyData.int) = true := fun ms => by
    induction ms with
    | nil => rfl
    | cons m r ih => simp [PyData.canLayAll0, PyData.canLay0, ih]
  have h2 : ∀ ms : List Int, PyData.depthAll (ms.map PyData.int) = 0 := fun ms => by
    induction ms with
    | nil => rfl
    | cons m r ih => simp [PyData.depthAll, PyData.depth, ih]
  simp [SeqAt.shaped, PyData.canLay0, h1, PyData.depth, h2]
theorem eqv_same {d : PyData} (h : SeqAt.shaped d = true) : PyData.eqv d d = true := by
  have h1 : PyData.canLay0 d = true := (Bool.and_eq_true_iff.mp h).1
  first
    | exact PySem.P3.eqv_refl d h1
    | exact PyData.eqv_refl d h1
    | exact PySem.SeqAt.eqv_refl d h1
/-- f(k = v): a new tuple back -/
theorem eu_callK {sp : Sp} {gV : List V → List V → List V} {E : XK} {t tk : TA} {vs zs xs : List V} (h : EvA t σ H vs) (hk : EvA tk σ H zs) (hs : SpU sp (gV vs zs) H xs) : EvU (tCallK sp gV E t tk) σ H xs := fun H1 e Q q =>
  h H1 e _ fun H2 e2 => hk H2 (e.trans e2) _ fun H3 e3 => hs H3 ((e.trans e2).trans e3) Q (fun p H4 hp e4 h4 => q p H4 (fresh_back (e2.trans e3) hp) ((e2.trans e3).trans e4) h4) E
theorem ev_callK {sp : Sp} {gV : List V → List V → List V} {E : XK} {t tk : TA} {vs zs : List V} {z : V} (h : EvA t σ H vs) (hk : EvA tk σ H zs) (hs : SpV sp (gV vs zs) H z) : Ev (tCallK sp gV E t tk) σ H z := fun H1 e Q q =>
  h H1 e _ fun H2 e2 => hk H2 (e.trans e2) _ fun H3 e3 => hs H3 ((e.trans e2).trans e3) Q (fun H4 e4 => q H4 ((e2.trans e3).trans e4)) E
/-- isinstance(x, tuple) of a tuple; len of a tuple -/
theorem ev_isT {p : Addr} {xs : List V} {n : String} {b : Bool} (h : Ev ta σ H (.ref p)) (hp : H p = some (.tup xs)) (hk : PySem.W.kitOne K (.type "tuple") (.type n) = some b) : Ev (tCB (rIsi K) (tCons ta (tCons (tC (.ty n)) tNil))) σ H (.bl b) := fun H1 e Q q =>
  h H1 e _ fun H2 e2 => ⟨.ref p, .ty n, .type "tuple", .type n, b, rfl, .ty n, .base (.tup (e2 p _ (e p _ hp))), hk, q H2 e2⟩
theorem ev_lenT {p : Addr} {xs : List V} (ha : Ev ta σ H (.ref p)) (h : SqT K H p xs) : Ev (tCB (rLenS K) (tCons ta tNil)) σ H (.int (xs.length : Int)) := fun H1 e Q q =>
  ha H1 e _ fun H2 e2 => ⟨p, xs, rfl, Or.inr (ex_t (e.trans e2) h), q H2 e2⟩
/-- list(range(a, b)) -/
theorem el_rg2 {a b : Int} (ha : Ev ta σ H (.int a)) (hb : Ev tb σ H (.int b)) (h : RgOk a b) : EvL (tLstRg (tRg2 ta tb)) σ H (rgV a b) := fun H1 e Q q =>
  ha H1 e _ fun H2 e2 => hb H2 (e.trans e2) _ fun H3 e3 => ⟨a, b, rfl, rfl, h, fun p hp => q p _ (fresh_back (e2.trans e3) hp) ((e2.trans e3).trans (Ex.new hp)) upd_same⟩
theorem el_rg1 {b : Int} (hb : Ev tb σ H (.int b)) (h : RgOk 0 b) : EvL (tLstRg (tRg1 tb)) σ H (rgV 0 b) := fun H1 e Q q =>
  hb H1 e _ fun H3 e3 => ⟨b, rfl, h, fun p hp => q p _ (fresh_back e3 hp) (e3.trans (Ex.new hp)) upd_same⟩
end
/-! more statements -/
section
variable {K : PySem.W.Frag} {σ : L2.St} {H H' : Hp} {te tl : TE} {t : TT} {D : Ends} {tu tz : TS} {g : TG}
/-- a comprehension over range(lo, n) that keeps nothing -/
theorem el_noneR2 {ta : TA} {j : Nat} {vs : List Nat} {lo n : Int} (h : EvA ta σ H [.int lo, .int n]) (hn : 0 ≤ lo ∧ lo ≤ 40000 ∧ -40000 ≤ n ∧ n ≤ 40000) (hw : ∀ x, wipe ((wipe σ vs).set j (some x)) vs = wipe σ vs)
    (ht : ∀ (i : Nat) H1, Ex H H1 → lo + (i : Int) < n → EvT t ((wipe σ vs).set j (some (.int (lo + (i : Int))))) H1 false) : EvL (tLc (iRng2 ta) (gName j) t te vs) σ H [] := by
  have q := el_lcR2 (te := te) (fun _ => false) (fun _ => .non) h hn hw ht (fun _ _ _ _ hf => Bool.noConfusion hf)
  rw [given_none (fun _ _ => rfl)] at q
  exact q
/-- a for over a new tuple -/
theorem s_forNU {xs : List V} (h : EvU tl σ H xs) (Pv : Addr → Nat → L2.St → Hp → Prop) (h0 : ∀ p H1, H p = none → Ex H H1 → H1 p = some (.tup xs) → Pv p 0 σ H1) (hl : ∀ p i σ' H', i ≤ xs.length → Pv p i σ' H' → SqT K H' p xs)
    (hs : ∀ p i x σ' H', xs[i]? = some x → Pv p i σ' H' → g x σ' H' fun σ2 H2 => tu { D with nx := Pv p (i + 1), ct := Pv p (i + 1), bk := D.nx } σ2 H2) (hd : ∀ p σ' H', Pv p xs.length σ' H' → D.nx σ' H') : tFor (iTup K tl) g tu D σ H :=
  h H (Ex.refl H) _ fun p H1 hp e h1 => ⟨p, rfl, ⟨xs, st_of h1⟩, for_tup (Pv p) (h0 p H1 hp e h1) (hl p) (hs p) (hd p)⟩
theorem q_forNU {xs : List V} (h : EvU tl σ H xs) (Pv : Addr → Nat → L2.St → Hp → Prop) (h0 : ∀ p H1, H p = none → Ex H H1 → H1 p = some (.tup xs) → Pv p 0 σ H1) (hl : ∀ p i σ' H', i ≤ xs.length → Pv p i σ' H' → SqT K H' p xs)
    (hs : ∀ p i x σ' H', xs[i]? = some x → Pv p i σ' H' → g x σ' H' fun σ2 H2 => tu { D with nx := Pv p (i + 1), ct := Pv p (i + 1), bk := tz D } σ2 H2) (hd : ∀ p σ' H', Pv p xs.length σ' H' → tz D σ' H') : tSeq (tFor (iTup K tl) g tu) tz D σ H :=
  s_forNU (D := { D with nx := tz D }) h Pv h0 hl hs hd
theorem s_asgD {i : Nat} {d : PyData} (h : EvD K te σ H d) (k : ∀ v H1, Ex H H1 → Dp K H1 v d → D.nx (σ.set i (some v)) H1) : tAsg te (gName i) D σ H := h H (Ex.refl H) _ fun v H1 e dv => k v H1 e dv
theorem q_asgD {i : Nat} {d : PyData} (h : EvD K te σ H d) (k : ∀ v H1, Ex H H1 → Dp K H1 v d → tz D (σ.set i (some v)) H1) : tSeq (tAsg te (gName i)) tz D σ H := s_asgD (D := { D with nx := tz D }) h k
end
end Kit
set_option Elab.async false
set_option linter.all false
set_option maxRecDepth 100000
set_option maxHeartbeats 4000000
namespace Kit
open PySem PySem.Spec PyProof.Rows L2 Evl
theorem slot_type_ne : Slot "type" (cmpInfo .NotEq).2.1 "object.__ne__" :=
  .of (owner := "object") (n := "__ne__") (by rw [typeLookup_type, builtinLookup_eq_fast]; kernel_rfl) (by decide +kernel) (by decide +kernel) (by decide +kernel)
    (by first | exact .inl (by decide +kernel) | exact .inr (by decide +kernel)) (by rw [isSubtype_type]; kernel_rfl)
theorem slot_type_eqN : Slot "type" "__eq__" "object.__eq__" :=
  .of (owner := "object") (n := "__eq__") (by rw [typeLookup_type, builtinLookup_eq_fast]; kernel_rfl) (by decide +kernel) (by decide +kernel) (by decide +kernel)
    (by first | exact .inl (by decide +kernel) | exact .inr (by decide +kernel)) (by rw [isSubtype_type]; kernel_rfl)
section
variable {prog : Program} {w : World} {A : Around} {E : Value → Shared → Prop} {s : Shared} {Q : Value → Shared → Prop}
theorem ne_type_same {X : String} (hX : ∀ s' : Shared, s'.TypeIs (.type X) "type") (hu : A.units + 1 < cLine) (h : Q (.bool false) s) : wpAny (model prog w) A (compareOp .NotEq (.type X) (.type X)) Q E s := by
  show wpAny _ A (richCompare .NotEq _ _) Q E s
  refine wpAny_richCompare_same (T := "type") (hX s) (hX s) slot_type_ne ?_
  refine wpAny_call_entry slot_type_ne (hX s) PySem.F.cmpEntry_ne ?_ (PySem.F.cmpArgs_ne _ _)
  unfold Builtin.«object.__ne__»
  have key : wpAny (model prog w) A.in1 (call (.builtin "object.__eq__") [.type X, .type X]) (fun v s' => v = .bool true ∧ s' = s) E s :=
    call_gives slot_type_eqN (hX s) F.entry_object_eq (F.args_object_eq_2 _ _) (PySem.TypeEq.object_eq_same rfl (by simp)) ⟨rfl, rfl⟩
  repeat (first
    | with_reducible refine wpAny_cRoomFor (by show A.units + 1 < cLine; exact hu) ?_
    | (refine wpAny_bind (m := callSpecialIfBound? (.type X) (Str.ofString "__eq__") [.type X])
        (wpAny_callSpecialIfBound?_slot (hX _) slot_type_eqN (wpAny_mono key (fun r s' hr => by
          obtain ⟨rfl, rfl⟩ := hr
          have hq : Q (.bool false) s' := h
          repeat (first | exact ⟨_, rfl, (by intro e; cases e), hq⟩ | exact wpAny_pure ⟨_, rfl, (by intro e; cases e), hq⟩ | (refine wpAny_bind (m := truthy (.bool _)) (wpAny_truthy_bool ?_)) | wp_step)) fun _ _ e => e)))
    | wp_step)
end
end Kit
set_option Elab.async false
set_option linter.all false
set_option maxRecDepth 100000
set_option maxHeartbeats 4000000
namespace Kit
open PySem PySem.Spec PyProof.Rows L2 Evl
section
variable {X : Cx}
def rNeTyS : R2 := fun x y H Q => ∃ m, x = .ty m ∧ y = .ty m ∧ Meta m ∧ Q (.bl false) H
theorem op_neTyS (hu : X.A.units + 1 < cLine) : OpR X (compareOp .NotEq) rNeTyS := by
  intro pins s σ H x y v u Q I rx ry h
  obtain ⟨m, rfl, rfl, hm, q⟩ := h
  cases (show v = Value.type m from rx)
  cases (show u = Value.type m from ry)
  exact ne_type_same hm hu ⟨.bl false, H, I, rfl, q⟩
/-- min of a tuple of ints -/
def rMinT (K : PySem.W.Frag) : List V → Hp → VK → Prop := fun vs H Q => ∃ (a : Addr) (n : Int) (ns : List Int), vs = [V.ref a] ∧ SqT K H a ((n :: ns).map V.int) ∧ Q (.int (ns.foldl min n)) H
theorem alike_ints (ns : List Int) : PySem.W.AlikeAll (ns.map PyData.int) := by
  refine ⟨fun x hx y hy => ?_, fun x hx => ?_⟩
  · obtain ⟨a, _, rfl⟩ := List.mem_map.mp hx
    obtain ⟨b, _, rfl⟩ := List.mem_map.mp hy
    rfl
  · obtain ⟨a, _, rfl⟩ := List.mem_map.mp hx
    exact fun z => by cases z
theorem depth_ints : ∀ ms : List Int, PyData.depthAll (ms.map PyData.int) = 0
  | [] => rfl
  | m :: r => by simp [PyData.depthAll, PyData.depth, depth_ints r]
theorem cr_minT (hc : X.calm = true) (hu : X.A.units + 1 < cLine) : CallR X (.builtin "min") (rMinT X.K) := by
  intro pins s σ H vs us Q I r h
  obtain ⟨a, n, ns, rfl, hs, q⟩ := h
  obtain ⟨its, rv, hl, _⟩ := I.tuple hs
  rw [Vals.ref1 r]
  obtain ⟨as, rd⟩ := Dp.readsAll I (PyData.int n :: ns.map PyData.int) _ its (dpa_ints (n :: ns)) rv
  refine PySem.W.min_tuple_data (I.ok.hd hc) (show s.heap.IsTuple a its.toArray from hl) (by simpa using rd) (alike_ints (n :: ns)) ?_ fun i v h' tk bs hv hr hk => ?_
  · have := depth_ints (n :: ns)
    rw [List.map_cons] at this
    rw [this]
    exact hu
  · rw [PySem.W.minD_ints] at hr
    cases hr with
    | int _ t => exact ⟨.int (ns.foldl min n), H, I.kept (t' := tk) hk, ⟨_, rfl⟩, q⟩
theorem foldl_min_spec : ∀ (ns : List Int) (n : Int), ns.foldl min n ∈ n :: ns ∧ ∀ y ∈ n :: ns, ns.foldl min n ≤ y
  | [], n => ⟨by simp, by simp⟩
  | k :: r, n => by
    obtain ⟨h1, h2⟩ := foldl_min_spec r (min n k)
    refine ⟨?_, fun y hy => ?_⟩
    · rcases List.mem_cons.mp h1 with e | e
      · rw [List.foldl_cons, e]
        rcases Int.le_total n k with h | h
        · rw [Int.min_eq_left h]; simp
        · rw [Int.min_eq_right h]; simp
      · simp [List.foldl_cons, e]
    · have h3 := h2 (min n k) (by simp)
      rw [List.foldl_cons]
      rcases List.mem_cons.mp hy with e | hy
      · omega
      · rcases List.mem_cons.mp hy with e | hy
        · omega
        · exact h2 y (by simp [hy])
end
/-! readings of these -/
section
variable {K : PySem.W.Frag} {σ : L2.St} {H H' : Hp} {ta tb te tl : TE} {D : Ends} {tu tz : TS} {t : TT}
theorem ev_typeL {p : Addr} {xs : List V} (h : Ev ta σ H (.ref p)) (hp : H p = some (.lst xs)) : Ev (tThenZ ta kTyp) σ H (.ty "list") := fun H1 e Q q => h H1 e _ fun H2 e2 => ⟨"list", by
  have := e2 p _ (e p _ hp)
  simp [zTyV, this], q H2 e2⟩
theorem ev_typeT {p : Addr} {xs : List V} (h : Ev ta σ H (.ref p)) (hp : H p = some (.tup xs)) : Ev (tThenZ ta kTyp) σ H (.ty "tuple") := fun H1 e Q q => h H1 e _ fun H2 e2 => ⟨"tuple", by
  have := e2 p _ (e p _ hp)
  simp [zTyV, this], q H2 e2⟩
theorem rv_neTyS {m : String} (hm : Meta m) : RV rNeTyS (.ty m) (.ty m) H (.bl false) := fun H1 _ _ q => ⟨m, rfl, rfl, hm, q H1 (Ex.refl H1)⟩
theorem ev_sumN {ns : List Int} (h : EvL ta σ H (ns.map V.int)) : Ev (tCB (rSum K) (tCons ta tNil)) σ H (.int ns.sum) := fun H1 e Q q => h H1 e _ fun p H2 _ e2 h2 => ⟨p, ns, rfl, sq_of h2, q H2 e2⟩
theorem ev_allN {bs : List Bool} (h : EvL ta σ H (bs.map V.bl)) : Ev (tCB (rAll K) (tCons ta tNil)) σ H (.bl (bs.all id)) := fun H1 e Q q => h H1 e _ fun p H2 _ e2 h2 => ⟨p, bs, rfl, sq_of h2, q H2 e2⟩
theorem ev_minT {p : Addr} {n : Int} {ns : List Int} (h : Ev ta σ H (.ref p)) (hp : SqT K H p ((n :: ns).map V.int)) : Ev (tCB (rMinT K) (tCons ta tNil)) σ H (.int (ns.foldl min n)) := fun H1 e Q q => h H1 e _ fun H2 e2 => ⟨p, n, ns, rfl, ex_t (e.trans e2) hp, q H2 e2⟩
/-- sorted(xs), told by what it is -/
theorem ed_sorted {p : Addr} {ns ms : List Int} (h : Ev ta σ H (.ref p)) (hp : SqL K H p (ns.map V.int)) (hl : ns.length < 64) (hm : ms.Perm ns) (hs : ms.Pairwise (· ≤ ·)) : EvD K (tCB (rSorted K) (tCons ta tNil)) σ H (.list (ms.map PyData.int)) := fun H1 e Q q => h H1 e _ fun H2 e2 =>
  ⟨p, ns, rfl, ex_l (e.trans e2) hp, hl, fun ns' l pm so new => by
    have eq : ns' = ms := by
      exact List.Perm.eq_of_pairwise (le := fun a b : Int => a ≤ b) (fun a b _ _ h1 h2 => Int.le_antisymm h1 h2) so hs (pm.trans hm.symm)
    subst eq
    exact q _ _ (e2.trans (Ex.new new)) (.lst (sq_of upd_same) (dpa_ints _))⟩
/-- a new tuple of a list's items -/
theorem eu_tupOf {p : Addr} {xs : List V} (h : Ev ta σ H (.ref p)) (hp : SqL K H p xs) : EvU (tCB (rTupS K) (tCons ta tNil)) σ H xs := fun H1 e Q q => h H1 e _ fun H2 e2 =>
  ⟨p, xs, rfl, ex_l (e.trans e2) hp, fun l hl => q l _ (fresh_back e2 hl) (e2.trans (Ex.new hl)) upd_same⟩
/-- [0] * n -/
theorem el_rep {xs : List V} {k : Int} (ha : EvL ta σ H xs) (hb : Ev tb σ H (.int k)) (h0 : 0 ≤ k) (h1 : k ≤ 1000) (hx : xs.length ≤ 50) : EvL (tOp rRep ta tb) σ H (List.replicate k.toNat xs).flatten := fun H1 e Q q =>
  ha H1 e _ fun p H2 hp e2 h2 => hb H2 (e.trans e2) _ fun H3 e3 => ⟨p, k, xs, rfl, rfl, e3 p _ h2, by omega, by omega, sz_of (by
    have : xs.length * k.toNat ≤ 50 * 1000 := Nat.mul_le_mul hx (by omega)
    omega), fun l hl => q l _ (fresh_back (e2.trans e3) hl) ((e2.trans e3).trans (Ex.new hl)) upd_same⟩
/-- xs[::-1] -/
theorem el_rev {p : Addr} {xs : List V} (h : Ev ta σ H (.ref p)) (hp : SqL K H p xs) : EvL (tRevL K ta) σ H xs.reverse := fun H1 e Q q => h H1 e _ fun H2 e2 =>
  ⟨p, xs, rfl, ex_l (e.trans e2) hp, fun l hl => q l _ (fresh_back e2 hl) (e2.trans (Ex.new hl)) upd_same⟩
theorem el_revN {xs : List V} (h : EvL ta σ H xs) : EvL (tRevL K ta) σ H xs.reverse := fun H1 e Q q => h H1 e _ fun p H2 _ e2 h2 =>
  ⟨p, xs, rfl, sq_of h2, fun l hl => q l _ (fresh_back e2 hl) (e2.trans (Ex.new hl)) upd_same⟩
/-- for i, x in enumerate(xs): the pair is a new tuple -/
theorem s_forEn {ta : TA} {i j : Nat} {a : Addr} {xs : List V} (h : EvA ta σ H [.ref a]) (hx : SqL K H a xs) (Pv : Nat → L2.St → Hp → Prop) (h0 : ∀ H1, Ex H H1 → Pv 0 σ H1) (hl : ∀ n σ' H', n ≤ xs.length → Pv n σ' H' → SqL K H' a xs)
    (hs : ∀ n x σ' H' H2, xs[n]? = some x → Pv n σ' H' → Ex H' H2 → tu { D with nx := Pv (n + 1), ct := Pv (n + 1), bk := D.nx } ((σ'.set i (some (.int (n : Int)))).set j (some x)) H2) (hd : ∀ σ' H', Pv xs.length σ' H' → D.nx σ' H') :
    tFor (iEnum K ta) (gTup K 2 (gCons (gName i) (gCons (gName j) gNil))) tu D σ H := h H (Ex.refl H) _ fun H1 e => ⟨a, xs, rfl, ex_l e hx, by
  refine for_it walk_enum Pv (h0 H1 e) (fun n σ' H' hn p => hl n σ' H' hn p) ?_ hd
  rintro n v σ' Hh H2 hn p ⟨T, x, y, rfl, nT, rfl, g1, g2⟩
  have ex : V.int (n : Nat) = x := Option.some.inj g1
  subst ex
  exact ⟨T, [.int (n : Nat), y], rfl, st_of upd_same, rfl, _, [y], rfl, y, [], rfl, rfl, hs n y σ' Hh _ g2 p (Ex.new nT)⟩⟩
theorem q_forEn {ta : TA} {i j : Nat} {a : Addr} {xs : List V} (h : EvA ta σ H [.ref a]) (hx : SqL K H a xs) (Pv : Nat → L2.St → Hp → Prop) (h0 : ∀ H1, Ex H H1 → Pv 0 σ H1) (hl : ∀ n σ' H', n ≤ xs.length → Pv n σ' H' → SqL K H' a xs)
    (hs : ∀ n x σ' H' H2, xs[n]? = some x → Pv n σ' H' → Ex H' H2 → tu { D with nx := Pv (n + 1), ct := Pv (n + 1), bk := tz D } ((σ'.set i (some (.int (n : Int)))).set j (some x)) H2) (hd : ∀ σ' H', Pv xs.length σ' H' → tz D σ' H') :
    tSeq (tFor (iEnum K ta) (gTup K 2 (gCons (gName i) (gCons (gName j) gNil))) tu) tz D σ H := s_forEn (D := { D with nx := tz D }) h hx Pv h0 hl hs hd
end
end Kit
set_option Elab.async false
set_option linter.all false
set_option maxRecDepth 100000
set_option maxHeartbeats 4000000
namespace Kit
open PySem PySem.Spec PyProof.Rows L2 Evl
/-! ### new lists of new tuples -/
def TL (H : Hp) (vs : List V) (rs : List (List V)) : Prop := Paired (fun v r => ∃ a, v = .ref a ∧ H a = some (.tup r)) vs rs
theorem TL.imp {H H' : Hp} (f : ∀ a r, H a = some (.tup r) → H' a = some (.tup r)) : ∀ {vs : List V} {rs : List (List V)}, TL H vs rs → TL H' vs rs
  | _, _, .nil => .nil
  | _, _, .cons ⟨a, e, h⟩ t => .cons ⟨a, e, f a _ h⟩ (TL.imp f t)
theorem TL.ex {H H' : Hp} {vs : List V} {rs : List (List V)} (e : Ex H H') (h : TL H vs rs) : TL H' vs rs := h.imp fun a r x => e a _ x
theorem TL.upd {H : Hp} {l : Addr} {xs : List V} {o : HO} {vs : List V} {rs : List (List V)} (hl : H l = some (.lst xs)) (h : TL H vs rs) : TL (upd H l o) vs rs := h.imp fun a r x => by
  rw [upd_ne (ne_of x hl (by intro z; cases z))]
  exact x
theorem TL.len {H : Hp} : ∀ {vs : List V} {rs : List (List V)}, TL H vs rs → vs.length = rs.length
  | _, _, .nil => rfl
  | _, _, .cons _ t => by rw [List.length_cons, List.length_cons, TL.len t]
theorem TL.app {H : Hp} {v : V} {r : List V} (hv : ∃ a, v = .ref a ∧ H a = some (.tup r)) : ∀ {vs : List V} {rs : List (List V)}, TL H vs rs → TL H (vs ++ [v]) (rs ++ [r])
  | _, _, .nil => .cons hv .nil
  | _, _, .cons q t => .cons q (TL.app hv t)
theorem TL.get {H : Hp} : ∀ {vs : List V} {rs : List (List V)} {i : Nat} {v : V}, TL H vs rs → vs[i]? = some v → ∃ a r, v = .ref a ∧ H a = some (.tup r) ∧ rs[i]? = some r
  | _, _, 0, v, .cons ⟨a, e, h⟩ t, hv => ⟨a, _, (Option.some.inj (by simpa using hv)).symm.trans e, h, rfl⟩
  | _, _, i + 1, v, .cons _ t, hv => by
    obtain ⟨a, r, h1, h2, h3⟩ := TL.get (i := i) t (by simpa using hv)
    exact ⟨a, r, h1, h2, by simpa using h3⟩
  | _, _, 0, v, .nil, hv => by simp at hv
  | _, _, i + 1, v, .nil, hv => by simp at hv
theorem TL.rev {H : Hp} : ∀ {vs : List V} {rs : List (List V)}, TL H vs rs → TL H vs.reverse rs.reverse
  | _, _, .nil => .nil
  | _, _, .cons q t => by
    rw [List.reverse_cons, List.reverse_cons]
    exact TL.app q (TL.rev t)
def EvLT (te : TE) (σ : L2.St) (H : Hp) (rs : List (List V)) : Prop := ∀ H1, Ex H H1 → ∀ Q : VK, (∀ p vs H2, H1 p = none → Ex H1 H2 → H2 p = some (.lst vs) → TL H2 vs rs → Q (.ref p) H2) → te σ H1 Q
section
variable {K : PySem.W.Frag} {σ : L2.St} {H H' : Hp} {te tl : TE} {D : Ends} {tz : TS} {t : TT}
/-- [a new tuple for i in range(n)] -/
theorem elt_R1 {ta : TA} {j : Nat} {vs : List Nat} {n : Int} (f : Nat → List V) (h : EvA ta σ H [.int n]) (hn : 0 ≤ n ∧ n ≤ 40000) (hw : ∀ x, wipe ((wipe σ vs).set j (some x)) vs = wipe σ vs)
    (he : ∀ (i : Nat) H1, Ex H H1 → (i : Int) < n → EvU te ((wipe σ vs).set j (some (.int (i : Int)))) H1 (f i)) : EvLT (tLc (iRng1 ta) (gName j) tYes te vs) σ H ((List.range n.toNat).map f) := fun H0 e Q q => h H0 e _ fun H1 e1 => ⟨n, rfl, by omega, by omega, fun Dl hD =>
  lc_range (lo := 0) (n := n.toNat) (fun i H' => Ex H1 H' ∧ ∃ ws, H' Dl = some (.lst ws) ∧ TL H' ws ((List.range i).map f)) ⟨Ex.new hD, [], upd_same, .nil⟩ (fun i H' hi p => by
    obtain ⟨p1, ws, p2, p3⟩ := p
    have e0 : (0 : Int) + (i : Int) = (i : Int) := Int.zero_add _
    show wipe ((wipe σ vs).set j (some (.int ((0 : Int) + (i : Int))))) vs = wipe σ vs ∧ te ((wipe σ vs).set j (some (.int ((0 : Int) + (i : Int))))) H' fun y H4 => ∃ acc, H4 Dl = some (.lst acc) ∧ acc.length < sizeLine ∧ _
    rw [e0]
    refine ⟨hw _, he i H1 (e.trans e1) (by omega) H' p1 _ fun p H4 hp e4 h4 => ⟨ws, e4 Dl _ p2, sz_lt (by
      have := p3.len
      simp at this
      omega), Ex.mut (p1.trans e4) hD, ws ++ [.ref p], upd_same, ?_⟩⟩
    rw [List.range_succ, List.map_append]
    exact ((p3.ex e4).app ⟨p, rfl, h4⟩).upd (e4 Dl _ p2)) (fun H' p => by
      obtain ⟨p1, ws, p2, p3⟩ := p
      exact q Dl ws H' (fresh_back e1 hD) (e1.trans p1) p2 p3)⟩
/-- [a new tuple for x in xs] -/
theorem elt_map {a : Addr} {xs : List V} {j : Nat} {vs : List Nat} (f : Nat → List V) (h : Ev tl σ H (.ref a)) (hx : SqL K H a xs) (hz : xs.length ≤ 40000) (hw : ∀ x, wipe ((wipe σ vs).set j (some x)) vs = wipe σ vs)
    (he : ∀ (i : Nat) (x : V) H1, Ex H H1 → xs[i]? = some x → EvU te ((wipe σ vs).set j (some x)) H1 (f i)) : EvLT (tLc (iList K tl) (gName j) tYes te vs) σ H ((List.range xs.length).map f) := fun H0 e Q q => h H0 e _ fun H1 e1 => ⟨a, rfl, ⟨xs, ex_l (e.trans e1) hx⟩, fun Dl hD =>
  lc_list (xs := xs) (fun i H' => Ex H1 H' ∧ ∃ ws, H' Dl = some (.lst ws) ∧ TL H' ws ((List.range i).map f)) ⟨Ex.new hD, [], upd_same, .nil⟩ (fun i H' _ p => ex_l ((e.trans e1).trans p.1) hx) (fun i x H' hi p => by
    obtain ⟨p1, ws, p2, p3⟩ := p
    show wipe ((wipe σ vs).set j (some x)) vs = wipe σ vs ∧ te ((wipe σ vs).set j (some x)) H' fun y H4 => ∃ acc, H4 Dl = some (.lst acc) ∧ acc.length < sizeLine ∧ _
    refine ⟨hw _, he i x H1 (e.trans e1) hi H' p1 _ fun p H4 hp e4 h4 => ⟨ws, e4 Dl _ p2, sz_lt (by
      have := p3.len
      have := (List.getElem?_eq_some_iff.mp hi).1
      simp at *
      omega), Ex.mut (p1.trans e4) hD, ws ++ [.ref p], upd_same, ?_⟩⟩
    rw [List.range_succ, List.map_append]
    exact ((p3.ex e4).app ⟨p, rfl, h4⟩).upd (e4 Dl _ p2)) (fun H' p => by
      obtain ⟨p1, ws, p2, p3⟩ := p
      exact q Dl ws H' (fresh_back e1 hD) (e1.trans p1) p2 p3)⟩
theorem range_get {α : Type} (rs : List α) (d : α) : rs = (List.range rs.length).map fun i => rs.getD i d := by
  refine List.ext_getElem (by simp) fun i h1 h2 => ?_
  simp [h1]
theorem paired_map {α β γ : Type} {F : β → γ → Prop} (f : α → β) (g : α → γ) : ∀ l : List α, (∀ x ∈ l, F (f x) (g x)) → Paired F (l.map f) (l.map g)
  | [], _ => .nil
  | x :: r, h => .cons (h x (by simp)) (paired_map f g r fun y hy => h y (by simp [hy]))
/-- [x for x in xs if test(x)], xs a list of tuples, the test P of the tuple's items -/
theorem elt_filter {a : Addr} {xs : List V} {rs : List (List V)} {j : Nat} {vs : List Nat} (P : List V → Bool) (h : Ev tl σ H (.ref a)) (hx : SqL K H a xs) (ht : TL H xs rs) (hz : xs.length ≤ 40000) (hw : ∀ x, wipe ((wipe σ vs).set j (some x)) vs = wipe σ vs) (hj : ∀ x, ((wipe σ vs).set j (some x))[j]? = some (some x))
    (he : ∀ (b : Addr) (r : List V) H1, Ex H H1 → r ∈ rs → H1 b = some (.tup r) → EvT t ((wipe σ vs).set j (some (.ref b))) H1 (P r)) : EvLT (tLc (iList K tl) (gName j) t (tVar j) vs) σ H (rs.filter P) := fun H0 e Q q => by
  refine el_lcL (K := K) (f := fun i => P (rs.getD i [])) (v := fun i => xs.getD i .non) h hx hz hw (fun i x H1 e1 hi => ?_) (fun i x H1 e1 hi hf => ?_) H0 e Q fun p H2 hp e2 h2 => ?_
  · obtain ⟨b, r, rfl, hb, hr⟩ := ht.get hi
    have g : rs.getD i [] = r := by rw [List.getD_eq_getElem?_getD, hr] <;> rfl
    show EvT _ _ _ (P (rs.getD i []))
    rw [g]
    exact he b r H1 e1 (List.mem_of_getElem? hr) (e1 b _ hb)
  · have g : xs.getD i .non = x := by rw [List.getD_eq_getElem?_getD, hi] <;> rfl
    show Ev _ _ _ (xs.getD i .non)
    rw [g]
    exact ev_var (hj x)
  · refine q p _ H2 hp e2 h2 ?_
    have e3 : rs.filter P = ((List.range rs.length).filter fun i => P (rs.getD i [])).map fun i => rs.getD i [] := by
      conv => lhs; rw [range_get rs [], List.filter_map]
      rfl
    unfold given
    rw [e3, ht.len]
    refine paired_map _ _ _ fun i hi => ?_
    have hi := List.mem_range.mp (List.mem_filter.mp hi).1
    have hlx : i < xs.length := by rw [ht.len]; exact hi
    obtain ⟨b, r, h1, h2', h3⟩ := ht.get (List.getElem?_eq_getElem hlx)
    refine ⟨b, ?_, ?_⟩
    · rw [List.getD_eq_getElem?_getD, List.getElem?_eq_getElem hlx, h1]
      rfl
    · rw [List.getD_eq_getElem?_getD, h3]
      exact (e.trans e2) b _ h2'
theorem q_asgLT {i : Nat} {rs : List (List V)} (h : EvLT te σ H rs) (k : ∀ p vs H1, H p = none → Ex H H1 → H1 p = some (.lst vs) → TL H1 vs rs → tz D (σ.set i (some (.ref p))) H1) : tSeq (tAsg te (gName i)) tz D σ H := h H (Ex.refl H) _ fun p vs H1 hp e h1 h2 => k p vs H1 hp e h1 h2
theorem s_retLT {rs : List (List V)} (h : EvLT te σ H rs) (k : ∀ p vs H1, H p = none → Ex H H1 → H1 p = some (.lst vs) → TL H1 vs rs → D.rt (.ref p) H1) : tRet te D σ H := h H (Ex.refl H) _ k
end
end Kit
set_option Elab.async false
set_option linter.all false
set_option maxRecDepth 100000
set_option maxHeartbeats 4000000
namespace Kit
open PySem PySem.Spec PyProof.Rows L2 Evl
/-! ### a promise of a def that shows data (repr): no repr may be under way around it -/
structure FnOkG (P : Program) (w : World) (K : PySem.W.Frag) (mg : Str → Option Value) (base : Heap) (n : Nat) (f : Addr) (fd : FuncData) (names : List Str) (want : Sp) : Prop where
  many : ∀ xs H Q E, want xs H Q E → xs.length = names.length
  go : ∀ (A : Around) (frames : List Env) (st : Shared) (H : Hp) (given : Args) (us : List Value) (xs : List V) (Q : VK) (E : XK), A.guards = some [] → Room n A → Env0 P w K mg base A frames st H →
    BindsTo st fd given (names.zip us) → Vals xs us → want xs H Q E → codeAny (model P w) A (.call (.ref f) given) (CR CX0 frames P w H st Q E) st
section
variable {P : Program} {w : World} {K : PySem.W.Frag} {mg : Str → Option Value} {base : Heap}
theorem FnOkG.mono {j n : Nat} {f : Addr} {fd : FuncData} {names : List Str} {want : Sp} (F : FnOkG P w K mg base j f fd names want) (h : j ≤ n) : FnOkG P w K mg base n f fd names want :=
  ⟨F.many, fun A fr st H g us xs Q E hg r => F.go A fr st H g us xs Q E hg (r.mono h)⟩
/-- the rule for such a def -/
theorem funG {x qual : Str} {d : Stmt} {f : Addr} {fd : FuncData} {N names : List Str} {n : Nat} {want : Sp} (F : Fun K x qual d f fd) (S : FnScope N names (defScope d)) (many : ∀ xs H Q E, want xs H Q E → xs.length = names.length)
    (body : ∀ (cv : Value) (A : Around) (frames : List Env) (st : Shared) (H : Hp) (xs : List V) (Q : VK) (E : XK), A.guards = some [] → Room n (A.deeper (envOfC qual (defScope d) st.heap.objs.size f cv)) → want xs H Q E →
      ∃ t, PSs (cxOf CX0 P w K mg base N qual (defScope d) f cv A frames st H E).nox (defBody d) t ∧ t { nx := fun _ H' => Q .non H', rt := Q } (start N xs) H) : FnOkG P w K mg base (n + 1) f fd names want := by
  obtain ⟨o1, o2, v1, v2, v3, an, cv, ct, sl, rfl, look, code⟩ := F.ex
  refine ⟨many, fun A frames st H given us xs Q E hg room en bind vals hw => ?_⟩
  have size := many _ _ _ _ hw
  have inK : K.In st.heap := en.mod.kin.keeps fun b o q => (en.bs b o q).1
  have noLim : st.heap.NoLimit := en.mod.nolimit.keeps fun b o q => (en.bs b o q).1
  have kinds : ∀ y ∈ names.zip us, (defScope d).names.lookup y.1 = some .local ∨ ((defScope d).names.lookup y.1 = some .cell ∧ ((cellsFrom (st.heap.objs.size + 1) (defScope d).names []).lookup y.1).isSome = true) := by
    rintro ⟨a, b⟩ hy
    exact (S.par a (List.of_mem_zip hy).1).elim .inl fun q => .inr ⟨q, PySem.W.cellsFrom_some _ _ _ (.inl q)⟩
  refine codeAny_call_function room.depth (inK _ _ look) rfl S.co S.gen rfl (PySem.W.codeRec_of inK code) (bind _ _ _ _ (wpAny_newFunctionEnv_cells S.kind kinds fun env eq st1 made => ?_))
  cases eq
  refine ⟨noLim.keeps made.toInCall.keep, codeAny_func ?_⟩
  obtain ⟨t, rule, done⟩ := body cv A frames st H xs Q E hg (room.deeper _) hw
  have J : Inv (cxOf CX0 P w K mg base N qual (defScope d) f cv A frames st H E) [] (start N xs) H st1 := inv_start S room.hd en size vals made
  have back : ∀ {σ' : L2.St} {H' : Hp} {v : V} {u : Value} {st2 : Shared}, Inv (cxOf CX0 P w K mg base N qual (defScope d) f cv A frames st H E) [] σ' H' st2 → RelV v u → Q v H' → CE frames P w H st Q u st2 := fun J2 rv q => ⟨_, _, J2.os, J2.bare, J2.base, J2.hok, rv, q⟩
  refine wpAny_mono (rule.nox.run [] st1 (start N xs) H _ J done) (fun r st2 hs => ?_) fun _ _ hs => hs
  match r, hs with
  | .ret u, ⟨v, σ2, H2, J2, rv, q⟩ => exact back J2 rv q
  | .next, ⟨σ2, H2, J2, q⟩ => exact back (v := V.non) (u := Value.none) J2 rfl q
  | .brk, ⟨_, _, _, q⟩ => exact False.elim q
  | .cont, ⟨_, _, _, q⟩ => exact False.elim q
end
/-- such a def is called -/
theorem pe_callG {X : Cx} {n : Nat} {f : Addr} {fd : FuncData} {names : List Str} {want : Sp} {x : Str} {p pos : Pos} {e : Expr} {es : List Expr} {t : TA} (F : FnOkG X.prog X.w X.K X.mg X.base n f fd names want) (hg : X.A.guards = some []) (room : Room n X.A) (gl : Gl X x)
    (at_ : X.mg x = some (.ref f)) (keep : PySem.W.keepIn X.K (.ref f) = true) (bind : Binds X.K fd names []) (ha : PA X (e :: es) t) (nd : (x == ("__debug__" : Str)) = false := by decide)
    (one : starEach (e :: es) X.env = (false, eval e X.env) :: starEach es X.env := by rfl) (plain : (backTo pos (starEach es X.env)).any (·.1) = false := by rfl) : PE X (.Call (.Name x p) (e :: es) [] pos) (tCall want [] E0 t) := by
  refine ⟨fun pins st σ H Q J h => wpAny_Call_Name_kw (ld_glob J gl at_ ?_ nd)⟩
  refine PySem.W.callWith_K (h₀ := X.base) J.ok.mod.kin keep (thn (ha.run pos pins st σ H _ J h) fun us st1 ⟨vs, H1, J1, r, q⟩ => ⟨J1.kIn, ?_⟩) one plain
  have q : want vs H1 Q E0 := by
    have q' : want (vs ++ []) H1 Q E0 := q
    rwa [List.append_nil] at q'
  have size : us.length = names.length := r.length.symm.trans (F.many _ _ _ _ q)
  have bd := bind st1 us J1.kIn (by rw [List.append_nil]; exact size)
  rw [List.append_nil] at bd
  refine wpAny_call (codeAny_mono (F.go X.A X.stack st1 H1 ⟨us, []⟩ us vs Q E0 hg room J1.env0 bd r q) fun res st2 hq => ?_)
  match res, hq with
  | .error _, hq => exact False.elim hq
  | .ok (.ret _), hq => exact J1.after hq
  | .ok .next, hq => exact False.elim hq
  | .ok .brk, hq => exact False.elim hq
  | .ok .cont, hq => exact False.elim hq
/-- the law's promise, at the heap behind the top -/
theorem headG {P : Program} {w : World} {K : PySem.W.Frag} {mg mb : Str → Option Value} {n : Nat} {fa a : Addr} {fd : FuncData} {x : Str} {want : Sp} {st : Shared} {us : List Value} {ns : List Int}
    (inK : K.In st.heap) (glob : st.heap.Ns mainGlobals mg) (blt : st.heap.Ns builtinsNs mb) (boot : ∀ x : Str, x ≠ "__name__" → mb x = bootBuiltins x) (noLim : st.heap.NoLimit) (gens : st.gens = #[])
    (obj : st.heap.get? a = some { cls := .type "list", data := .seq us.toArray }) (allInt : IntsAre us ns) (short : ns.length ≤ sizeLine) (room : Room n callerA)
    (F : ∀ base : Heap, K.In base → base.Ns mainGlobals mg → FnOkG P w K mg base n fa fd [x] want) (bind : ∀ (s : Shared) (u : Value), BindsTo s fd ⟨[u], []⟩ [(x, u)])
    (ask : ∀ H : Hp, Only H → SqL K H a (ns.map V.int) → want [.ref a] H (fun v _ => v = .bl true) fun _ _ _ => False) :
    codeAny (model P w) callerA (.call (.ref fa) ⟨[.ref a], []⟩) (fun r s' => r = .ok (.ret (.bool true)) ∧ OldK st.heap s'.heap ∧ s'.os = st.os ∧ AllBare s'.gens) st := by
  have vals := vals_ints allInt
  have size := allInt.length
  have main : ∀ H : Hp, Only H → SqL K H a (ns.map V.int) → HOk P w H st.heap → (∀ b, H b ≠ none → b = a) → (H a ≠ none → K.lookup a = none) →
      codeAny (model P w) callerA (.call (.ref fa) ⟨[.ref a], []⟩) (fun r s' => r = .ok (.ret (.bool true)) ∧ OldK st.heap s'.heap ∧ s'.os = st.os ∧ AllBare s'.gens) st := by
    intro H only sq ok one not
    have stay : ∀ {b : Addr} {o : Obj}, st.heap.get? b = some o → H b = none → (hidT st.heap H).get? b = some o := fun q z => hidT_get q z
    have free : ∀ {b : Addr}, (b = a → False) → H b = none := fun {b} ne => by
      cases q : H b with
      | none => rfl
      | some u => exact (ne (one b (by rw [q]; exact Option.some_ne_none u))).elim
    have space : ∀ {b : Addr} {m : Str → Option Value}, st.heap.Ns b m → (hidT st.heap H).Ns b m := fun {b m} ⟨o, es, ep, q, d, r⟩ => ⟨o, es, ep, stay q (free fun z => by
      subst z
      rw [obj] at q
      cases q
      exact Data.noConfusion (show Data.seq us.toArray _ = Data.dict es ep from d)), d, r⟩
    have kin : K.In (hidT st.heap H) := fun b o q => stay (inK b o q) (by
      cases z : H b with
      | none => rfl
      | some u =>
        have ne : H b ≠ none := by rw [z]; exact Option.some_ne_none u
        have ba := one b ne
        subst ba
        rw [not ne] at q
        cases q)
    obtain ⟨mc, l1, l2⟩ := noLim
    have md : Mod K mg (hidT st.heap H) := ⟨kin, space glob, ⟨mb, space blt, boot⟩, ⟨mc, space l1, l2⟩⟩
    have en : Env0 P w K mg (hidT st.heap H) callerA [] st H := ⟨rfl, md, fun b o q => of_hidT q, Nat.le_of_eq (hidT_size _ _), trivial, fun b hb => absurd (show b ∈ ([] : List Addr) from hb) (by simp), ok, .of_eq gens⟩
    refine codeAny_mono ((F _ kin (space glob)).go callerA [] st H ⟨[.ref a], []⟩ [.ref a] [.ref a] _ _ rfl room en (bind st (.ref a)) (.cons rfl .nil) (ask H only sq)) fun r s' h => ?_
    match r, h with
    | .error _, h => exact False.elim h
    | .ok .next, h => exact False.elim h
    | .ok .brk, h => exact False.elim h
    | .ok .cont, h => exact False.elim h
    | .ok (.ret u), ⟨v, H', os, bare, un, ok', rel, q⟩ =>
      have q2 : v = .bl true := q
      cases q2
      have r2 : u = Value.bool true := rel
      cases r2
      refine ⟨rfl, OldK.of_keep fun b o e => ?_, os, bare⟩
      rcases only b with z | ⟨ob, xs, z⟩
      · exact un.keep b o e z (fun t => absurd (show b ∈ ([] : List Addr) from t) (by simp)) (by simp)
      · have z2 := un.frzs b ob _ z
        obtain ⟨g1, _⟩ := ok b _ z
        obtain ⟨g2, _⟩ := ok' b _ z2
        rw [e] at g1
        cases g1
        exact g2
  cases own : K.lookup a with
  | some o =>
    have e := inK a o own
    rw [obj] at e
    cases e
    exact main (fun _ => none) (fun _ => .inl rfl) (.inr ⟨_, us.toArray, _, own, rfl, rfl, rfl, by rw [List.size_toArray, size]; exact short, by simpa using vals⟩) (fun b u z => by have y : (none : Option HO) = some u := z; cases y) (fun b z => absurd rfl z) fun z => absurd rfl z
  | none =>
    have yes : (fun b => if b = a then some (HO.frz { cls := .type "list", data := .seq us.toArray } (.lst (ns.map V.int))) else none) a = some (HO.frz { cls := .type "list", data := .seq us.toArray } (.lst (ns.map V.int))) := if_pos rfl
    have no : ∀ b, b ≠ a → (fun b => if b = a then some (HO.frz { cls := .type "list", data := .seq us.toArray } (.lst (ns.map V.int))) else none) b = none := fun b ne => if_neg ne
    generalize (fun b => if b = a then some (HO.frz { cls := .type "list", data := .seq us.toArray } (.lst (ns.map V.int))) else none) = G at yes no
    refine main G (fun b => ?_) (.inl (.inr ⟨_, yes⟩)) (fun b u z => ?_) (fun b z => ?_) fun _ => own
    · by_cases hb : b = a
      · subst hb
        exact .inr ⟨_, _, yes⟩
      · exact .inl (no b hb)
    · by_cases hb : b = a
      · subst hb
        rw [yes] at z
        cases z
        exact ⟨obj, by rw [List.length_map]; exact short, us, _, vals, obj⟩
      · rw [no b hb] at z
        cases z
    · by_cases hb : b = a
      · exact hb
      · exact absurd (no b hb) z
theorem walk_G {l : PySem.W.OpenLaw} {m n : Nat} {q : Program} {loose : List Str} {XP : (Str → Option Value) → Heap → Prop} {YP : World → Heap → Prop} {d : DefRec} {K : Params → PySem.W.Frag} {want : World → Sp} {x : Str}
    (most : l.most = some m) (most2 : m ≤ sizeLine) (noDef : d.params.defaults = []) (room : Room n callerA) (inK : ∀ (w : World) (h : Heap), YP w h → (K w.params).In h)
    (F : ∀ (w : World) (mg : Str → Option Value) (fa : Addr) (h : Heap), (K w.params).In h → h.Ns mainGlobals mg → mg d.name = some (.ref fa) →
      ∃ fd : FuncData, (∀ (s : Shared) (u : Value), BindsTo s fd ⟨[u], []⟩ [(x, u)]) ∧ ∀ base : Heap, (K w.params).In base → base.Ns mainGlobals mg → FnOkG l.prog w (K w.params) mg base n fa fd [x] (want w))
    (ask : ∀ (w : World) (H : Hp) (a : Addr) (ns : List Int), ns.length ≤ m → Only H → SqL (K w.params) H a (ns.map V.int) → want w [.ref a] H (fun v _ => v = .bl true) fun _ _ _ => False) :
    PySem.W.WalkO q loose XP YP l.row.toRowW d [] (fun f vs => PySem.call f vs) :=
  Att.attach_call most noDef fun w s₀ st mg mb fa o pm cd doc a us ns G Y ho hd hcd named obj allInt short gens => by
    have kin := inK w _ Y
    obtain ⟨fd, bind, FF⟩ := F w mg fa _ kin G.T.g named
    exact headG kin G.T.g G.T.b G.T.builtins G.T.nolimit gens obj allInt (Nat.le_trans short most2) room FF bind fun H only sq => ask w H a ns short only sq
/-! ### repr of data -/
def rRepr (K : PySem.W.Frag) : List V → Hp → VK → Prop := fun xs H Q => ∃ p d, xs = [.ref p] ∧ Dp K H (.ref p) d ∧ d.showable = true ∧ d.hasDict = false ∧ d.depth ≤ 50 ∧ d.shown.length ≤ sizeLine ∧ Q (.str d.shown) H
theorem call_reprD {X : Cx} (hg : X.A.guards = some []) (hu : X.A.units + 64 < cLine) : CallR X (.builtin "repr") (rRepr X.K) := by
  intro pins st σ H xs us Q J r h
  obtain ⟨p, d, rfl, dp, hs, hd, hdp, hz, q⟩ := h
  obtain ⟨u, rfl, hu2⟩ : ∃ u, us = [u] ∧ RelV (.ref p) u := by
    cases r with
    | cons a b =>
      cases b
      exact ⟨_, rfl, a⟩
  have e : u = Value.ref p := hu2
  subst e
  obtain ⟨as, rd⟩ := Dp.reads J d _ _ dp hu2
  refine repr_of_reads' rd hs (fun z => by rw [hd] at z; cases z) hg (by omega) (fun _ _ e => e) (fun h' u tk keep => ?_) hz
  exact ⟨.str d.shown, H, J.turnedL (ch := []) (fun b o _ e => keep b o e) (fun b hb => absurd hb (by simp)), ⟨_, rfl⟩, q⟩
section
variable {K : PySem.W.Frag} {σ : L2.St} {H : Hp} {te : TE}
theorem ev_repr {d : PyData} (h : EvD K te σ H d) (hl : isDisplay d = true) (hs : d.showable = true) (hd : d.hasDict = false) (hdp : d.depth ≤ 50) (hz : d.shown.length ≤ sizeLine) : Ev (tCB (rRepr K) (tCons te tNil)) σ H (.str d.shown) := fun H1 e Q q =>
  h H1 e _ fun v H2 e2 dv => by
    have hp : ∃ p, v = .ref p := by
      cases dv with
      | lst _ _ => exact ⟨_, rfl⟩
      | tup _ _ => exact ⟨_, rfl⟩
      | non => cases hl
      | bl _ => cases hl
      | int _ => cases hl
      | str _ => cases hl
    obtain ⟨p, rfl⟩ := hp
    exact ⟨p, d, rfl, dv, hs, hd, hdp, hz, q H2 e2⟩
end
end Kit
set_option Elab.async false
set_option linter.all false
set_option maxRecDepth 100000
set_option maxHeartbeats 4000000
namespace Kit
open PySem PySem.Spec PyProof.Rows L2 Evl
/-! ### data that repr shows, with long ints: at most n signs -/
structure ShN (d : PyData) (n : Nat) : Prop where
  shw : d.showable = true
  nod : d.hasDict = false
  len : d.shown.length ≤ n
  dep : d.depth ≤ 20
theorem shn_int {i : Int} (h : i.natAbs.log2 < 1920) : ShN (.int i) 1921 := ⟨decide_eq_true h, rfl, int_text_len_1921 h, Nat.zero_le _⟩
theorem shn_int2 {i : Int} (h : i.natAbs < 2 ^ 1900) : ShN (.int i) 1921 := shn_int (by
  by_cases z : i.natAbs = 0
  · rw [z]
    decide
  · exact Nat.lt_of_lt_of_le ((Nat.log2_lt z).mpr h) (by decide))
theorem shn_all {n : Nat} : ∀ {ds : List PyData}, (∀ d ∈ ds, ShN d n ∧ d.depth ≤ 19) → PyData.showableAll ds = true ∧ PyData.hasDictAll ds = false ∧ ((PyData.shownAll ds).map (·.length)).sum ≤ n * ds.length ∧ (PyData.shownAll ds).length = ds.length ∧ PyData.depthAll ds ≤ 19
  | [], _ => ⟨rfl, rfl, Nat.zero_le _, rfl, Nat.zero_le _⟩
  | d :: r, h => by
    obtain ⟨a, b, c, e, f⟩ := shn_all fun x hx => h x (List.mem_cons_of_mem _ hx)
    obtain ⟨⟨p, q, s, _⟩, t⟩ := h d List.mem_cons_self
    refine ⟨by simp [PyData.showableAll, a, p], by simp [PyData.hasDictAll, b, q], ?_, by simp [PyData.shownAll, e], by simp only [PyData.depthAll]; omega⟩
    simp only [PyData.shownAll, List.map_cons, List.sum_cons, List.length_cons, Nat.mul_succ]
    omega
theorem shn_list {ds : List PyData} {n : Nat} (h : ∀ d ∈ ds, ShN d n ∧ d.depth ≤ 19) : ShN (.list ds) ((n + 2) * ds.length + 3) := by
  obtain ⟨a, b, c, e, f⟩ := shn_all h
  refine ⟨by simpa [PyData.showable] using a, by simpa [PyData.hasDict] using b, ?_, by simp only [PyData.depth]; omega⟩
  have := listText_len_le (PyData.shownAll ds)
  show (listText (PyData.shownAll ds)).length ≤ _
  rw [e] at this
  rw [Nat.add_mul]
  omega
theorem shn_tup {ds : List PyData} {n : Nat} (h : ∀ d ∈ ds, ShN d n ∧ d.depth ≤ 19) : ShN (.tuple ds) ((n + 2) * ds.length + 3) := by
  obtain ⟨a, b, c, e, f⟩ := shn_all h
  refine ⟨by simpa [PyData.showable] using a, by simpa [PyData.hasDict] using b, ?_, by simp only [PyData.depth]; omega⟩
  have := tupleText_len_le (PyData.shownAll ds)
  show (tupleText (PyData.shownAll ds)).length ≤ _
  rw [e] at this
  rw [Nat.add_mul]
  omega
section
variable {K : PySem.W.Frag} {σ : L2.St} {H : Hp} {te : TE}
theorem ev_reprN {d : PyData} {n : Nat} (h : EvD K te σ H d) (hl : isDisplay d = true) (s : ShN d n) (hn : n ≤ 1000000) : Ev (tCB (rRepr K) (tCons te tNil)) σ H (.str d.shown) :=
  ev_repr h hl s.shw s.nod (by have := s.dep; omega) (Nat.le_trans s.len (Nat.le_trans hn (by rw [sizeLine_eq]; decide)))
end
end Kit
set_option Elab.async false
set_option linter.all false
set_option maxRecDepth 100000
set_option maxHeartbeats 4000000
namespace Kit
open PySem PySem.Spec PyProof.Rows L2 Evl
section
variable {K : PySem.W.Frag} {σ : L2.St} {H : Hp} {ta tb te : TE} {t : TT}
/-- max(xs), told by what it is -/
theorem ev_maxV {a : Addr} {ns : List Int} {m : Int} (h : Ev ta σ H (.ref a)) (ha : SqL K H a (ns.map V.int)) (hm : m ∈ ns) (hl : ∀ y ∈ ns, y ≤ m) : Ev (tCB (rMax K) (tCons ta tNil)) σ H (.int m) := fun H1 e Q q =>
  h H1 e _ fun H2 e2 => ⟨a, ns, rfl, ex_l (e.trans e2) ha, List.length_pos_of_mem hm, fun m' hm' hl' => by
    have h1 := hl m' hm'
    have h2 := hl' m hm
    have : m' = m := by omega
    rw [this]
    exact q H2 e2⟩
/-- [e for i, x in enumerate(xs) if t] -/
theorem el_en {ta : TA} {i j : Nat} {vs : List Nat} {a : Addr} {xs : List V} (f : Nat → Bool) (v : Nat → V) (h : EvA ta σ H [.ref a]) (hx : SqL K H a xs) (hz : xs.length ≤ 40000) (hw : ∀ x y, wipe (((wipe σ vs).set i (some x)).set j (some y)) vs = wipe σ vs)
    (ht : ∀ (n : Nat) x H1, Ex H H1 → xs[n]? = some x → EvT t (((wipe σ vs).set i (some (.int (n : Int)))).set j (some x)) H1 (f n))
    (he : ∀ (n : Nat) x H1, Ex H H1 → xs[n]? = some x → f n = true → Ev te (((wipe σ vs).set i (some (.int (n : Int)))).set j (some x)) H1 (v n)) :
    EvL (tLc (iEnum K ta) (gTup K 2 (gCons (gName i) (gCons (gName j) gNil))) t te vs) σ H (given xs.length f v) := fun H0 e Q q => h H0 e _ fun H1 e1 => ⟨a, xs, rfl, ex_l (e.trans e1) hx, fun Dl hD => by
  refine lc_it walk_enum (Cw H1 f v Dl) ⟨hD, Ex.new hD, upd_same⟩ (fun n H' _ p => ex_l ((e.trans e1).trans p.2.1) hx) ?_ fun H' p => q Dl H' (fresh_back e1 p.1) (e1.trans p.2.1) p.2.2
  rintro n w Hh H' hn p ⟨T, x, y, rfl, nT, rfl, g1, g2⟩
  have ex : V.int (n : Nat) = x := Option.some.inj g1
  subst ex
  have eT : Ex Hh (upd Hh T (.tup [.int (n : Nat), y])) := Ex.new nT
  refine ⟨T, [.int (n : Nat), y], rfl, st_of upd_same, rfl, _, [y], rfl, y, [], rfl, rfl, hw _ y, ?_⟩
  exact cw_turn (H := H1) ⟨p.1, p.2.1.trans eT, eT Dl _ p.2.2⟩ (by omega) (ht n y H1 (e.trans e1) g2) fun hf => he n y H1 (e.trans e1) g2 hf⟩
/-- [e for x, y in zip(xs, ys)], both new lists -/
theorem el_zipN {i j : Nat} {vs : List Nat} {xs ys : List V} (F : V → V → V) (h : EvL ta σ H xs) (h2 : EvL tb σ H ys) (hl : xs.length = ys.length) (hz : xs.length ≤ 40000) (hw : ∀ x y, wipe (((wipe σ vs).set i (some x)).set j (some y)) vs = wipe σ vs)
    (he : ∀ (n : Nat) x y H1, Ex H H1 → xs[n]? = some x → ys[n]? = some y → Ev te (((wipe σ vs).set i (some x)).set j (some y)) H1 (F x y)) :
    EvL (tLc (iZip K (tCons ta (tCons tb tNil))) (gTup K 2 (gCons (gName i) (gCons (gName j) gNil))) tYes te vs) σ H (List.zipWith F xs ys) := fun H0 e Q q =>
  h H0 e _ fun a H1 na e1 ha => h2 H1 (e.trans e1) _ fun b H2 nb e2 hb => by
    have := el_zip (K := K) (H := H2) (ta := fun _ H' R => R [.ref a, .ref b] H') (te := te) (vs := vs) F (fun H3 _ Q q => q H3 (Ex.refl _)) (sq_of (e2 a _ ha)) (sq_of hb) hl hz hw fun n x y H3 e3 g1 g2 => he n x y H3 (e.trans (e1.trans (e2.trans e3))) g1 g2
    exact this H2 (Ex.refl _) Q fun p H3 hp e3 h3 => q p H3 (fresh_back (e1.trans e2) hp) (e1.trans (e2.trans e3)) h3
/-- xs + y, y an old list; x + ys, x an old list -/
theorem el_catR {a : Addr} {xs ys : List V} (h : EvL ta σ H xs) (h2 : Ev tb σ H (.ref a)) (ha : H a = some (.lst ys)) (hz : xs.length + ys.length ≤ 1000) : EvL (tOp rCat ta tb) σ H (xs ++ ys) := fun H1 e Q q =>
  h H1 e _ fun p H2 _ e2 h3 => h2 H2 (e.trans e2) _ fun H3 e3 => ⟨p, a, xs, ys, rfl, rfl, e3 p _ h3, e3 a _ (e2 a _ (e a _ ha)), sz_of (by omega), fun l hl => q l _ (fresh_back (e2.trans e3) hl) ((e2.trans e3).trans (Ex.new hl)) upd_same⟩
theorem el_catL {a : Addr} {xs ys : List V} (h : Ev ta σ H (.ref a)) (ha : H a = some (.lst xs)) (h2 : EvL tb σ H ys) (hz : xs.length + ys.length ≤ 1000) : EvL (tOp rCat ta tb) σ H (xs ++ ys) := fun H1 e Q q =>
  h H1 e _ fun H2 e2 => h2 H2 (e.trans e2) _ fun p H3 _ e3 h3 => ⟨a, p, xs, ys, rfl, rfl, e3 a _ (e2 a _ (e a _ ha)), h3, sz_of (by omega), fun l hl => q l _ (fresh_back (e2.trans e3) hl) ((e2.trans e3).trans (Ex.new hl)) upd_same⟩
end
end Kit
set_option Elab.async false
set_option linter.all false
set_option maxRecDepth 100000
namespace Kit
open PySem PySem.Spec PyProof.Rows L2 Evl
def fac (n : Nat) : Nat := Builtin.Math.factorialNat n
theorem fac_succ (n : Nat) : fac (n + 1) = fac n * (n + 1) := PySem.W.mc_fac_succ n
theorem fac_pos (n : Nat) : 1 ≤ fac n := PySem.W.mc_fac_pos n
theorem fac_mono : ∀ {m n : Nat}, m ≤ n → fac m ≤ fac n := fun {m n} h => by
  induction h with
  | refl => exact Nat.le_refl _
  | step _ ih =>
    rw [Nat.succ_eq_add_one, fac_succ]
    exact Nat.le_trans ih (Nat.le_mul_of_pos_right _ (Nat.succ_pos _))
theorem fac20 : fac 20 < 2 ^ 64 := by decide +kernel
def rFac : List V → Hp → VK → Prop := fun vs H Q => ∃ n : Nat, vs = [.int (n : Int)] ∧ n ≤ 20000 ∧ Q (.int ((fac n : Nat) : Int)) H
section
variable {X : Cx}
theorem cr_factorial : CallR X (.builtin "math.factorial") rFac := by
  intro pins s σ H vs us Q I r h
  obtain ⟨n, rfl, hn, q⟩ := h
  cases r with
  | cons ru rt =>
    cases rt
    obtain ⟨t, rfl⟩ := ru
    refine PySem.W.mc_factorial (Int.natCast_nonneg n) (by omega) fun _ => ?_
    rw [Int.toNat_natCast]
    exact ⟨.int _, H, I.tok _, ⟨_, rfl⟩, q⟩
def rDivmod : List V → Hp → VK → Prop := fun xs H Q => ∃ i j, xs = [.int i, .int j] ∧ CDivP i j ∧ ∀ p, H p = none → Q (.ref p) (upd H p (.tup [.int (i / j), .int (i % j)]))
theorem call_divmodR : CallR X (.builtin "divmod") rDivmod := call_divmodW
end
section
variable {K : PySem.W.Frag} {σ : L2.St} {H : Hp} {ta tb te tl : TE} {D : Ends} {tu tz : TS}
theorem ev_fac {n : Nat} (h : Ev ta σ H (.int (n : Int))) (hn : n ≤ 20000) : Ev (tCB rFac (tCons ta tNil)) σ H (.int ((fac n : Nat) : Int)) := fun H1 e Q q => h H1 e _ fun H2 e2 => ⟨n, rfl, hn, q H2 e2⟩
theorem divp_small {i j : Int} (h : 0 < j) (hj : j.natAbs < 2 ^ 8000) : CDivP i j := ⟨h, PyProof.noPylong_of_log2 (by
  have h2 := (Nat.log2_lt (n := j.natAbs) (k := 8000) (by omega)).mpr hj
  omega)⟩
theorem eu_divmod {a b : Nat} (h : Ev ta σ H (.int (a : Int))) (h2 : Ev tb σ H (.int (b : Int))) (hb : 0 < b) (hb2 : b < 2 ^ 8000) : EvU (tCB rDivmod (tCons ta (tCons tb tNil))) σ H [.int ((a / b : Nat) : Int), .int ((a % b : Nat) : Int)] := fun H1 e Q q =>
  h H1 e _ fun H2 e2 => h2 H2 (e.trans e2) _ fun H3 e3 => ⟨a, b, rfl, divp_small (by omega) (by rw [Int.natAbs_natCast]; exact hb2), fun p hp => q p _ (fresh_back (e2.trans e3) hp) ((e2.trans e3).trans (Ex.new hp)) (by rw [upd_same, Int.natCast_ediv, Int.natCast_emod])⟩
end
end Kit
set_option Elab.async false
set_option linter.all false
set_option maxRecDepth 100000
set_option maxHeartbeats 4000000
namespace Kit
open PySem PySem.Spec PyProof.Rows L2 Evl
section
variable {K : PySem.W.Frag} {σ : L2.St} {H : Hp} {ta tb te tl : TE} {D : Ends} {tu tz : TS} {t : TT}
/-- for i in reversed(range(n)) -/
theorem s_forRev {j n : Nat} (h : Ev ta σ H (.int (n : Int))) (hn : n ≤ 40000) (Pv : Nat → L2.St → Hp → Prop) (h0 : ∀ H1, Ex H H1 → Pv 0 σ H1)
    (hs : ∀ (i : Nat) σ' H', i < n → Pv i σ' H' → tu { D with nx := Pv (i + 1), ct := Pv (i + 1), bk := D.nx } (σ'.set j (some (.int ((n - 1 - i : Nat) : Int)))) H') (hd : ∀ σ' H', Pv n σ' H' → D.nx σ' H') : tFor (iRevR (tRg1 ta)) (gName j) tu D σ H :=
  h H (Ex.refl H) _ fun H1 e => ⟨n, rfl, by
    have e0 : ((n : Int) - 0).toNat = n := by omega
    refine ⟨by omega, by omega, by omega, by omega, ?_⟩
    rw [e0]
    exact for_rangeC Pv (h0 H1 e) (fun i σ' H' hi p => by
      have e1 : (0 : Int) + (n : Int) - 1 + (i : Nat) * (-1) = ((n - 1 - i : Nat) : Int) := by omega
      rw [e1]
      exact hs i σ' H' hi p) hd⟩
theorem q_forRev {j n : Nat} (h : Ev ta σ H (.int (n : Int))) (hn : n ≤ 40000) (Pv : Nat → L2.St → Hp → Prop) (h0 : ∀ H1, Ex H H1 → Pv 0 σ H1)
    (hs : ∀ (i : Nat) σ' H', i < n → Pv i σ' H' → tu { D with nx := Pv (i + 1), ct := Pv (i + 1), bk := tz D } (σ'.set j (some (.int ((n - 1 - i : Nat) : Int)))) H') (hd : ∀ σ' H', Pv n σ' H' → tz D σ' H') : tSeq (tFor (iRevR (tRg1 ta)) (gName j) tu) tz D σ H := s_forRev (D := { D with nx := tz D }) h hn Pv h0 hs hd
/-- [a new tuple for i in range(lo, n)] -/
theorem elt_R2 {ta : TA} {j : Nat} {vs : List Nat} {lo n : Int} (f : Nat → List V) (h : EvA ta σ H [.int lo, .int n]) (hn : 0 ≤ lo ∧ lo ≤ 40000 ∧ -40000 ≤ n ∧ n ≤ 40000) (hw : ∀ x, wipe ((wipe σ vs).set j (some x)) vs = wipe σ vs)
    (he : ∀ (i : Nat) H1, Ex H H1 → lo + (i : Int) < n → EvU te ((wipe σ vs).set j (some (.int (lo + (i : Int))))) H1 (f i)) : EvLT (tLc (iRng2 ta) (gName j) tYes te vs) σ H ((List.range (n - lo).toNat).map f) := fun H0 e Q q => h H0 e _ fun H1 e1 => ⟨lo, n, rfl, ⟨by omega, by omega, by omega, by omega⟩, fun Dl hD =>
  lc_range (lo := lo) (n := (n - lo).toNat) (fun i H' => Ex H1 H' ∧ ∃ ws, H' Dl = some (.lst ws) ∧ TL H' ws ((List.range i).map f)) ⟨Ex.new hD, [], upd_same, .nil⟩ (fun i H' hi p => by
    obtain ⟨p1, ws, p2, p3⟩ := p
    show wipe ((wipe σ vs).set j (some (.int (lo + (i : Int))))) vs = wipe σ vs ∧ te ((wipe σ vs).set j (some (.int (lo + (i : Int))))) H' fun y H4 => ∃ acc, H4 Dl = some (.lst acc) ∧ acc.length < sizeLine ∧ _
    refine ⟨hw _, he i H1 (e.trans e1) (by omega) H' p1 _ fun p H4 hp e4 h4 => ⟨ws, e4 Dl _ p2, sz_lt (by
      have := p3.len
      simp at this
      omega), Ex.mut (p1.trans e4) hD, ws ++ [.ref p], upd_same, ?_⟩⟩
    rw [List.range_succ, List.map_append]
    exact ((p3.ex e4).app ⟨p, rfl, h4⟩).upd (e4 Dl _ p2)) (fun H' p => by
      obtain ⟨p1, ws, p2, p3⟩ := p
      exact q Dl ws H' (fresh_back e1 hD) (e1.trans p1) p2 p3)⟩
end
end Kit
set_option Elab.async false
set_option linter.all false
set_option maxRecDepth 100000
set_option maxHeartbeats 4000000
namespace Kit
open PySem PySem.Spec PyProof.Rows L2 Evl
/-! ### choosing -/
def cho : Nat → Nat → Nat
  | _, 0 => 1
  | 0, _ + 1 => 0
  | n + 1, k + 1 => cho n k + cho n (k + 1)
theorem fac_zero : fac 0 = 1 := rfl
theorem cho_zero (n : Nat) : cho n 0 = 1 := by cases n <;> rfl
theorem cho_gt : ∀ {n k : Nat}, n < k → cho n k = 0
  | 0, _ + 1, _ => rfl
  | n + 1, k + 1, h => by
    show cho n k + cho n (k + 1) = 0
    rw [cho_gt (by omega : n < k), cho_gt (by omega : n < k + 1)]
theorem cho_self : ∀ n : Nat, cho n n = 1
  | 0 => rfl
  | n + 1 => by
    show cho n n + cho n (n + 1) = 1
    rw [cho_self n, cho_gt (Nat.lt_succ_self n)]
theorem cho_next : ∀ n k : Nat, cho n (k + 1) * (k + 1) = cho n k * (n - k)
  | 0, k => by
    rw [Nat.zero_sub, Nat.mul_zero]
    show 0 * (k + 1) = 0
    rw [Nat.zero_mul]
  | n + 1, 0 => by
    have a := cho_next n 0
    show (cho n 0 + cho n 1) * (0 + 1) = cho (n + 1) 0 * (n + 1 - 0)
    rw [cho_zero, cho_zero] at *
    simp only [Nat.zero_add, Nat.mul_one, Nat.sub_zero, Nat.one_mul] at *
    omega
  | n + 1, k + 1 => by
    have a := cho_next n (k + 1)
    have b := cho_next n k
    show (cho n (k + 1) + cho n (k + 2)) * (k + 1 + 1) = (cho n k + cho n (k + 1)) * (n + 1 - (k + 1))
    rcases Nat.lt_or_ge k n with h | h
    · obtain ⟨d, rfl⟩ : ∃ d, n = k + 1 + d := ⟨n - (k + 1), by omega⟩
      rw [show k + 1 + d - (k + 1) = d by omega] at a
      rw [show k + 1 + d - k = d + 1 by omega] at b
      rw [show k + 1 + d + 1 - (k + 1) = d + 1 by omega]
      generalize cho (k + 1 + d) (k + 1) = x at *
      generalize cho (k + 1 + d) k = y at *
      generalize cho (k + 1 + d) (k + 1 + 1) = z at *
      grind
    · rw [show n + 1 - (k + 1) = 0 by omega, cho_gt (by omega : n < k + 1), cho_gt (by omega : n < k + 2)]
      simp
/-- k of n: n! = C(n, k) k! (n - k)! -/
theorem cho_fac : ∀ {n k : Nat}, k ≤ n → cho n k * (fac k * fac (n - k)) = fac n
  | n, 0, _ => by
    rw [cho_zero, Nat.sub_zero]
    rw [fac_zero]
    omega
  | n, k + 1, h => by
    have ih := cho_fac (n := n) (k := k) (by omega)
    have a := cho_next n k
    rw [show n - k = (n - (k + 1)) + 1 by omega, fac_succ] at ih
    rw [show n - k = n - (k + 1) + 1 by omega] at a
    rw [fac_succ]
    generalize fac (n - (k + 1)) = y at *
    generalize fac n = v at *
    generalize cho n (k + 1) = z at *
    generalize cho n k = x at *
    generalize fac k = u at *
    generalize n - (k + 1) = d at *
    have e : z * (u * (k + 1) * y) = z * (k + 1) * (u * y) := by grind
    rw [e, a, ← ih]
    grind
theorem cho_pos {n k : Nat} (h : k ≤ n) : 1 ≤ cho n k := by
  have a := cho_fac h
  have b := fac_pos n
  rcases Nat.eq_zero_or_pos (cho n k) with z | z
  · rw [z, Nat.zero_mul] at a
    omega
  · exact z
theorem cho_le : ∀ n k : Nat, cho n k ≤ 2 ^ n
  | n, 0 => by rw [cho_zero]; exact Nat.one_le_two_pow
  | 0, _ + 1 => Nat.zero_le _
  | n + 1, k + 1 => by
    have a := cho_le n k
    have b := cho_le n (k + 1)
    rw [Nat.pow_succ]
    show cho n k + cho n (k + 1) ≤ _
    omega
theorem fp_fac (n : Nat) : ∀ k : Nat, k ≤ n → Builtin.Math.fallingProduct (n : Int) k * (fac (n - k) : Int) = (fac n : Int)
  | 0, _ => by
    rw [PySem.W.mc_fp_zero, Nat.sub_zero, Int.one_mul]
  | k + 1, h => by
    have ih := fp_fac n k (by omega)
    rw [show n - k = n - (k + 1) + 1 by omega, fac_succ] at ih
    rw [PySem.W.mc_fp_succ, ← ih, show (n : Int) - (k : Int) = ((n - (k + 1) + 1 : Nat) : Int) by omega]
    push_cast
    generalize (fac (n - (k + 1)) : Int) = x
    generalize Builtin.Math.fallingProduct (n : Int) k = y
    grind
theorem fp_self (n : Nat) : Builtin.Math.fallingProduct (n : Int) n = (fac n : Int) := by
  have := fp_fac n n (Nat.le_refl _)
  rw [Nat.sub_self, fac_zero] at this
  simpa using this
theorem cho_sym {n k : Nat} (h : k ≤ n) : cho n k = cho n (n - k) := by
  have a := cho_fac h
  have b := cho_fac (n := n) (k := n - k) (by omega)
  rw [show n - (n - k) = k by omega, Nat.mul_comm (fac (n - k))] at b
  have p : 0 < fac k * fac (n - k) := Nat.mul_pos (fac_pos _) (fac_pos _)
  exact Nat.eq_of_mul_eq_mul_right p (a.trans b.symm)
theorem comb_cho (n k : Nat) : PySem.W.mcComb (n : Int) (k : Int) = (cho n k : Int) := by
  by_cases h : k ≤ n
  · have key : ∀ m : Nat, m ≤ n → Builtin.Math.fallingProduct (n : Int) m / Builtin.Math.fallingProduct (m : Int) m = (cho n m : Int) := fun m hm => by
      have a := fp_fac n m hm
      have b := cho_fac hm
      have f := fac_pos m
      have g := fac_pos (n - m)
      rw [fp_self]
      have e : Builtin.Math.fallingProduct (n : Int) m = (cho n m : Int) * (fac m : Int) := by
        refine Int.eq_of_mul_eq_mul_right (a := (fac (n - m) : Int)) (by omega) ?_
        rw [a, ← b]
        push_cast
        grind
      rw [e]
      exact Int.mul_ediv_cancel _ (by omega)
    rw [PySem.W.mcComb_at (m := ((min k (n - k) : Nat) : Int)) (by omega) (by omega) (by omega), Int.toNat_natCast, key _ (by omega)]
    rcases Nat.le_total k (n - k) with q | q
    · rw [Nat.min_eq_left q]
    · rw [Nat.min_eq_right q, ← cho_sym h]
  · rw [PySem.W.mcComb_above (by omega), cho_gt (by omega)]
    rfl
def prm (n k : Nat) : Int := PySem.W.mcPerm (n : Int) (k : Int)
theorem prm_fac {n k : Nat} (h : k ≤ n) : prm n k * (fac (n - k) : Int) = (fac n : Int) := by
  unfold prm
  rw [PySem.W.mcPerm_at (by omega), Int.toNat_natCast]
  exact fp_fac n k h
theorem prm_pos {n k : Nat} (h : k ≤ n) : 1 ≤ prm n k := PySem.W.mcPerm_pos (by omega) (by omega)
def rComb : List V → Hp → VK → Prop := fun vs H Q => ∃ n k : Nat, vs = [.int (n : Int), .int (k : Int)] ∧ n ≤ 10000 ∧ Q (.int (cho n k : Int)) H
def rPerm : List V → Hp → VK → Prop := fun vs H Q => ∃ n k : Nat, vs = [.int (n : Int), .int (k : Int)] ∧ n ≤ 10000 ∧ k ≤ 10000 ∧ Q (.int (prm n k)) H
section
variable {X : Cx}
theorem cr_comb : CallR X (.builtin "math.comb") rComb := by
  intro pins s σ H vs us Q I r h
  obtain ⟨n, k, rfl, hn, q⟩ := h
  cases r with
  | cons ru r2 =>
    cases r2 with
    | cons rv rt =>
      cases rt
      obtain ⟨t, rfl⟩ := ru
      obtain ⟨u, rfl⟩ := rv
      refine PySem.W.mc_comb_v (Int.natCast_nonneg n) (Int.natCast_nonneg k) (by omega) (by omega) (comb_cho n k) ?_
      exact ⟨.int _, H, I.tok _, ⟨_, rfl⟩, q⟩
theorem cr_perm : CallR X (.builtin "math.perm") rPerm := by
  intro pins s σ H vs us Q I r h
  obtain ⟨n, k, rfl, hn, hk, q⟩ := h
  cases r with
  | cons ru r2 =>
    cases r2 with
    | cons rv rt =>
      cases rt
      obtain ⟨t, rfl⟩ := ru
      obtain ⟨u, rfl⟩ := rv
      refine PySem.W.mc_perm_v (Int.natCast_nonneg n) (Int.natCast_nonneg k) (by omega) (by omega) rfl ?_
      exact ⟨.int _, H, I.tok _, ⟨_, rfl⟩, q⟩
end
section
variable {K : PySem.W.Frag} {σ : L2.St} {H : Hp} {ta tb te tl : TE} {D : Ends} {tu tz : TS}
theorem ev_comb {n k : Nat} (h : Ev ta σ H (.int (n : Int))) (h2 : Ev tb σ H (.int (k : Int))) (hn : n ≤ 10000) : Ev (tCB rComb (tCons ta (tCons tb tNil))) σ H (.int (cho n k : Int)) := fun H1 e Q q => h H1 e _ fun H2 e2 => h2 H2 (e.trans e2) _ fun H3 e3 => ⟨n, k, rfl, hn, q H3 (e2.trans e3)⟩
theorem ev_perm {n k : Nat} (h : Ev ta σ H (.int (n : Int))) (h2 : Ev tb σ H (.int (k : Int))) (hn : n ≤ 10000) (hk : k ≤ 10000) : Ev (tCB rPerm (tCons ta (tCons tb tNil))) σ H (.int (prm n k)) := fun H1 e Q q => h H1 e _ fun H2 e2 => h2 H2 (e.trans e2) _ fun H3 e3 => ⟨n, k, rfl, hn, hk, q H3 (e2.trans e3)⟩
/-- for x, y in zip(xs, ys): the pair is a new tuple -/
theorem s_forZip {ta : TA} {i j n : Nat} {a b : Addr} {xs ys : List V} (h : EvA ta σ H [.ref a, .ref b]) (hx : SqL K H a xs) (hy : SqL K H b ys) (hn : n = min xs.length ys.length) (Pv : Nat → L2.St → Hp → Prop) (h0 : ∀ H1, Ex H H1 → Pv 0 σ H1) (hl : ∀ k σ' H', k ≤ n → Pv k σ' H' → SqL K H' a xs ∧ SqL K H' b ys)
    (hs : ∀ k x y σ' H' H2, xs[k]? = some x → ys[k]? = some y → Pv k σ' H' → Ex H' H2 → tu { D with nx := Pv (k + 1), ct := Pv (k + 1), bk := D.nx } ((σ'.set i (some x)).set j (some y)) H2) (hd : ∀ σ' H', Pv n σ' H' → D.nx σ' H') :
    tFor (iZip K ta) (gTup K 2 (gCons (gName i) (gCons (gName j) gNil))) tu D σ H := h H (Ex.refl H) _ fun H1 e => ⟨a, b, xs, ys, rfl, ex_l e hx, ex_l e hy, by
  refine for_it (walk_zip (n := n) hn) Pv (h0 H1 e) (fun k σ' H' hk p => hl k σ' H' hk p) ?_ hd
  rintro k v σ' Hh H2 hk p ⟨T, x, y, rfl, nT, rfl, g1, g2⟩
  exact ⟨T, [x, y], rfl, st_of upd_same, rfl, x, [y], rfl, y, [], rfl, rfl, hs k x y σ' Hh _ g1 g2 p (Ex.new nT)⟩⟩
theorem q_forZip {ta : TA} {i j n : Nat} {a b : Addr} {xs ys : List V} (h : EvA ta σ H [.ref a, .ref b]) (hx : SqL K H a xs) (hy : SqL K H b ys) (hn : n = min xs.length ys.length) (Pv : Nat → L2.St → Hp → Prop) (h0 : ∀ H1, Ex H H1 → Pv 0 σ H1) (hl : ∀ k σ' H', k ≤ n → Pv k σ' H' → SqL K H' a xs ∧ SqL K H' b ys)
    (hs : ∀ k x y σ' H' H2, xs[k]? = some x → ys[k]? = some y → Pv k σ' H' → Ex H' H2 → tu { D with nx := Pv (k + 1), ct := Pv (k + 1), bk := tz D } ((σ'.set i (some x)).set j (some y)) H2) (hd : ∀ σ' H', Pv n σ' H' → tz D σ' H') :
    tSeq (tFor (iZip K ta) (gTup K 2 (gCons (gName i) (gCons (gName j) gNil))) tu) tz D σ H := s_forZip (D := { D with nx := tz D }) h hx hy hn Pv h0 hl hs hd
/-- [e for x, y in zip(xs, ys)], xs an old list, ys a new one -/
theorem el_zipO {i j : Nat} {vs : List Nat} {a : Addr} {xs ys : List V} (F : V → V → V) (h : Ev ta σ H (.ref a)) (hx : SqL K H a xs) (h2 : EvL tb σ H ys) (hl : xs.length = ys.length) (hz : xs.length ≤ 40000) (hw : ∀ x y, wipe (((wipe σ vs).set i (some x)).set j (some y)) vs = wipe σ vs)
    (he : ∀ (n : Nat) x y H1, Ex H H1 → xs[n]? = some x → ys[n]? = some y → Ev te (((wipe σ vs).set i (some x)).set j (some y)) H1 (F x y)) :
    EvL (tLc (iZip K (tCons ta (tCons tb tNil))) (gTup K 2 (gCons (gName i) (gCons (gName j) gNil))) tYes te vs) σ H (List.zipWith F xs ys) := fun H0 e Q q =>
  h H0 e _ fun H1 e1 => h2 H1 (e.trans e1) _ fun b H2 nb e2 hb => by
    have := el_zip (K := K) (H := H2) (ta := fun _ H' R => R [.ref a, .ref b] H') (te := te) (vs := vs) F (fun H3 _ Q q => q H3 (Ex.refl _)) (ex_l (e.trans (e1.trans e2)) hx) (sq_of hb) hl hz hw fun n x y H3 e3 g1 g2 => he n x y H3 (e.trans (e1.trans (e2.trans e3))) g1 g2
    exact this H2 (Ex.refl _) Q fun p H3 hp e3 h3 => q p H3 (fresh_back (e1.trans e2) hp) (e1.trans (e2.trans e3)) h3
end
end Kit
set_option Elab.async false
set_option linter.all false
set_option maxRecDepth 100000
namespace Kit
open PySem PySem.Spec PyProof.Rows L2 Evl
/-! ### set(a list of ints), sorted(set(a list of ints)) -/
/-- a new empty set behind a heap -/
abbrev emptyI (led : Bool) : Obj := { cls := .type "set", dict := none, data := .set #[] 0 (.fresh 0 0 led) }
section
variable {prog : Program} {w : World} {A : Around} {E : Value → Shared → Prop} {s : Shared}
set_option maxHeartbeats 3200000 in
theorem set_of_ints {l : Addr} {items : Array Value} {xs : List Int} {Q : Value → Shared → Prop}
    (hand : A.handled = none) (isl : s.heap.IsList l items)
    (are : IntsAre items.toList xs) (room : xs.length + 1 < scanBound)
    (fin : ∀ (h' : Heap) (tk c : Nat),
      SetR w h' s.heap.objs.size (fun j => decide (j ∈ xs)) c → c ≤ xs.length →
      (∀ b o, s.heap.get? b = some o → h'.get? b = some o) →
      Q (.ref s.heap.objs.size) { s with heap := h', toks := tk }) :
    wpAny (model prog w) A (call (.type "set") [.ref l]) Q E s := by
  generalize hled : (!w.params.followText "set-order") = led
  obtain ⟨c, tl, mro⟩ := PySem.F.called_set.mro
  have made := PySem.F.called_set.made
  have subt := PySem.F.called_set.sub
  refine wpAny_call (codeAny_of_tree ?_)
  show wpAny _ _ (callAny (.type "set") _) _ _ _
  refine wpAny_pure ⟨Code.quiet_builtin _ (by decide +kernel),
    codeAny_builtin PySem.F.entry_type_call ?_⟩
  rw [Around.under_plain (weight_type_call_type "set" [.ref l] []) rfl]
  have no1 := PySem.F.called_set.notType
  have no2 := PySem.F.called_set.canCreate
  have tc := PySem.F.typeCall_set_1 (.ref l)
  repeat (any_goals (first | assumption | wp_step))
  refine codeAny_mono (code_set_led1 (.ref l) (E := E) (Q₁ := fun obj s₁ =>
    obj = .ref s.heap.objs.size ∧ s₁ = { s with heap := s.heap.push (emptyI led) })
    (by rw [hled]; exact ⟨rfl, rfl⟩)) fun r s₁ hr => ?_
  cases r with
  | error e => exact hr
  | ok fl =>
    cases fl with
    | ret obj =>
      obtain ⟨rfl, rfl⟩ := hr
      have atS : (s.heap.push (emptyI led)).get? s.heap.objs.size = some (emptyI led) :=
        Heap.get?_push_size _ rfl
      have tyS : Shared.TypeIs { s with heap := s.heap.push (emptyI led) } (.ref s.heap.objs.size) "set" :=
        ⟨_, atS, rfl⟩
      have lk := PySem.F.called_set.init.lookup
      have bd := PySem.F.called_set.init.bind (.ref s.heap.objs.size)
      repeat (any_goals (first | assumption | wp_step))
      refine codeAny_mono (codeAny_call_builtin (R := wants (fun r s₂ => r = .none ∧ ∃ h' tk c,
          s₂ = { s with heap := h', toks := tk } ∧
          SetR w h' s.heap.objs.size (fun j => decide (j ∈ xs)) c ∧ c ≤ xs.length ∧
          (∀ b o, s.heap.get? b = some o → h'.get? b = some o)) E)
        PySem.F.called_set.init.plain PySem.F.entry_set_init (check_set_init_1 tyS ?_)) fun r₂ s₂ hr₂ => ?_
      · obtain ⟨ol, hol, hc, nl, hd⟩ := isl
        obtain ⟨oc, odic, odat, oslo⟩ := ol
        simp only at hc hd
        subst hc
        subst hd
        have hol2 : (s.heap.push (emptyI led)).get? l
            = some { cls := .type "list", dict := odic, data := .seq items nl, slots := oslo } :=
          Heap.get?_push_of_some _ hol
        have sl1 := PySem.F.sub_list_set
        have sl2 := PySem.F.sub_list_frozenset
        have nod : (Value.type "list" == Value.type "dict") = false := by decide
        have isl2 : (s.heap.push (emptyI led)).IsList l items := ⟨_, hol2, rfl, nl, rfl⟩
        unfold Builtin.«set.__init__» noKeywords Builtin.Frozenset.updateFrom
        generalize hgen : pyIter = PI
        wp_walk
        subst hgen
        refine wpAny_pyIter_list isl2 ?_
        refine wpAny_bind (wpAny_runValue ?_)
        have lS : l < s.heap.objs.size := Heap.lt_size hol
        have h3 : A.in1.in1.in1.handled = none := by simp [hand]
        have neI : l ≠ (s.heap.push (emptyI led)).objs.size := by
          rw [Heap.size_push]
          exact Nat.ne_of_lt (Nat.lt_succ_of_lt lS)
        have outS : s.heap.objs.size ∉ [(s.heap.push (emptyI led)).objs.size, l] := by
          rw [Heap.size_push]
          intro q
          rcases List.mem_cons.mp q with q | q
          · exact absurd q (Nat.ne_of_lt (Nat.lt_succ_self _))
          · exact absurd (List.mem_singleton.mp q) (Nat.ne_of_gt lS)
        have szx : items.size = xs.length := by
          have q := IntsAre.length are
          rw [Array.length_toList] at q
          exact q
        have vals : ∀ (i : Nat) (v : Value), items[i]? = some v → ∃ k t, xs[i]? = some k ∧ v = .int k t := fun i v hv => by
          have hi : i < xs.length := by rw [← szx]; exact (Array.getElem?_eq_some_iff.mp hv).1
          obtain ⟨t, e⟩ := PyProof.Rows.IntsAre.int_at are i v (by rw [Array.getElem?_toList]; exact hv)
          exact ⟨xs[i], t, List.getElem?_eq_getElem hi, by rw [e, List.getD_eq_getElem?_getD, List.getElem?_eq_getElem hi]; rfl⟩
        refine set_update_ints ((Walks.list h3 _ l neI items).toS) s.heap.objs.size outS xs szx room vals
          (items.size - 0) 0 _ (by omega) (Nat.zero_le _)
          ⟨⟨_, Heap.get?_push_size _ rfl, rfl, rfl⟩, (isl2.push _)⟩ ?_ ?_
        · have at2 : ((s.heap.push (emptyI led)).push
              { cls := .type "list_iterator", data := .fields #[.ref l, .int 0 0] }).get? s.heap.objs.size
              = some (emptyI led) := Heap.get?_push_of_some _ atS
          refine ⟨0, Nat.le_refl 0, setR_new_at (w := w) (ns := xs) ?_⟩
          rw [hled]
          exact at2
        · intro s2 c2 mv hc2 set2
          obtain ⟨h2, g2, d2, tk2, os2⟩ := s2
          obtain rfl : g2 = s.gens := mv.gens
          obtain rfl : d2 = s.drawn := mv.drawn
          obtain rfl : os2 = s.os := mv.os
          show wpAny _ _ _ _ _ _
          refine wpAny_pure ?_
          show wpAny _ _ (ret Value.none) _ _ _
          refine wpAny_pure ⟨rfl, h2, tk2, c2, rfl, set2, by omega, fun b o e => ?_⟩
          have hb := Heap.lt_size e
          refine mv.heap b o (fun q => ?_) (Heap.get?_push_of_some _ (Heap.get?_push_of_some _ e))
          rcases List.mem_cons.mp q with q | q
          · exact absurd q (Nat.ne_of_lt hb)
          · rcases List.mem_cons.mp q with q | q
            · rw [Heap.size_push] at q
              exact absurd q (Nat.ne_of_lt (Nat.lt_succ_of_lt hb))
            · cases q
      · cases r₂ with
        | error e => exact hr₂
        | ok fl₂ =>
          cases fl₂ with
          | ret r =>
            obtain ⟨rfl, h2, tk2, c2, rfl, set2, hc2, keep2⟩ := hr₂
            repeat (any_goals (first | assumption | wp_step))
            exact fin _ _ _ set2 hc2 keep2
          | _ => exact hr₂.elim
    | _ => exact hr.elim
end
section
variable {X : Cx}
def rSetI (K : PySem.W.Frag) (w : World) : List V → Hp → VK → Prop := fun vs H Q => ∃ (l : Addr) (ns : List Int), vs = [V.ref l] ∧ SqL K H l (ns.map V.int) ∧ ns.length ≤ 4000 ∧ ∀ p c, H p = none → c ≤ ns.length → Q (.ref p) (upd H p (SetO w p (fun j => decide (j ∈ ns)) c))
theorem cr_setI (hc : X.calm = true) : CallR X (.type "set") (rSetI X.K X.w) := by
  intro pins s σ H vs us Q I r h
  obtain ⟨l, ns, rfl, hs, hn, q⟩ := h
  obtain ⟨its, rv, pl, _⟩ := I.list hs
  rw [Vals.ref1 r]
  refine set_of_ints (I.ok.hd hc) pl.isList (by simpa using rv.ints) (by unfold scanBound; omega) fun h' tk c set1 hc1 keep => ?_
  have hf : H s.heap.objs.size = none := I.hok.fresh (Nat.le_refl _)
  exact ⟨.ref s.heap.objs.size, _, I.laid (t' := tk) keep (Nat.le_refl _) (setO_new set1), rfl, q _ c hf hc1⟩
end
section
variable {K : PySem.W.Frag} {w : World} {σ : L2.St} {H : Hp} {ta : TE}
/-- sorted(set(xs)), xs an old list of ints -/
theorem el_sortSet {l : Addr} {ns zs : List Int} (h : Ev ta σ H (.ref l)) (hl : SqL K H l (ns.map V.int)) (h64 : ns.length < 64) (hz : zs.Pairwise (· < ·)) (hm : ∀ k : Int, k ∈ zs ↔ k ∈ ns) : EvL (tCB (rSortedSet w) (tCons (tCB (rSetI K w) (tCons ta tNil)) tNil)) σ H (zs.map V.int) := fun H1 e Q q =>
  h H1 e _ fun H2 e2 => ⟨l, ns, rfl, ex_l (e.trans e2) hl, by omega, fun p c hp hc => ⟨p, _, c, rfl, upd_same, by omega, fun ms r hms hmm _ hr => by
    have : ms = zs := by
      refine List.Perm.eq_of_pairwise (le := fun a b : Int => a < b) (fun a b _ _ h1 h2 => by omega) hms hz ?_
      refine (List.perm_ext_iff_of_nodup (hms.imp fun z => Int.ne_of_lt z) (hz.imp fun z => Int.ne_of_lt z)).mpr fun k => ?_
      rw [hmm k, hm k]
      simp
    subst this
    exact q r _ (fresh_back (e2.trans (Ex.new hp)) hr) ((e2.trans (Ex.new hp)).trans (Ex.new hr)) upd_same⟩⟩
/-- sorted(set(xs)), xs a new list of ints -/
theorem el_sortSetN {ns zs : List Int} (h : EvL ta σ H (ns.map V.int)) (h64 : ns.length < 64) (hz : zs.Pairwise (· < ·)) (hm : ∀ k : Int, k ∈ zs ↔ k ∈ ns) : EvL (tCB (rSortedSet w) (tCons (tCB (rSetI K w) (tCons ta tNil)) tNil)) σ H (zs.map V.int) := fun H1 e Q q =>
  h H1 e _ fun l H2 nl e2 h2 => el_sortSet (K := K) (w := w) (σ := σ) (H := H2) (ta := fun _ H' R => R (.ref l) H') (l := l) (ns := ns) (fun H3 _ Q q => q H3 (Ex.refl _)) (sq_of h2) h64 hz hm H2 (Ex.refl _) Q fun p H3 hp e3 h3 => q p H3 (fresh_back e2 hp) (e2.trans e3) h3
end
end Kit
set_option Elab.async false
set_option linter.all false
set_option maxRecDepth 100000
set_option maxHeartbeats 4000000
namespace Kit
open PySem PySem.Spec PyProof.Rows L2 Evl
theorem meets_enum_new1 {v : Value} {o : Obj} {H : Heap → Prop} (B : Begins v o H) :
    Meets (Builtin.«enumerate.__new__» ⟨[.type "enumerate", v], []⟩) (fun _ R s => H s.heap ∧
      R (.ok (.ret (.ref (s.heap.push o).objs.size))) { s with heap := (s.heap.push o).push { cls := .type "enumerate", data := .fields #[.none, .bool false, .ref s.heap.objs.size, rawInt 0, .none, .none] } }) :=
  .of_wp fun prog w A R s h => by
    obtain ⟨hp, g, d, tk, os⟩ := s; obtain ⟨h1, h⟩ := h
    have hsub := sub_enumerate
    have q1 : ∀ {A' : Around} {E : Value → Shared → Prop} {Q : Value → Shared → Prop}, Q (.ref hp.objs.size) ⟨hp.push o, g, d, tk, os⟩ → wpAny (model prog w) A' (pyIter v) Q E ⟨hp, g, d, tk, os⟩ :=
      fun q => B.iter prog w _ _ ⟨hp, g, d, tk, os⟩ _ h1 q
    wp_walk using q1
    refine wpAny_stack_any fun st => wpAny_pure ?_
    split
    · rename_i c _ _ _ _ _
      cases (c == Value.type "enumerate")
      · wp_walk using q1
        exact ⟨_, rfl, h⟩
      · wp_walk using q1
        exact ⟨_, rfl, h⟩
    · wp_walk using q1
      exact ⟨_, rfl, h⟩
section
variable {prog : Program} {w : World} {A : Around} {E : Value → Shared → Prop} {s : Shared}
theorem enum_begins1 {v : Value} {o : Obj} {H : Heap → Prop} {Q : Value → Shared → Prop} (B : Begins v o H) (h1 : H s.heap)
    (h : ∀ h', IsEnum h' (s.heap.objs.size + 1) s.heap.objs.size 0 .none → h'.get? s.heap.objs.size = some o → h'.objs.size = s.heap.objs.size + 2 →
      (∀ b o, s.heap.get? b = some o → h'.get? b = some o) → Q (.ref (s.heap.objs.size + 1)) { s with heap := h' }) :
    wpAny (model prog w) A (call (.type "enumerate") [v]) Q E s := by
  refine callType_new F.called_enumerate (by decide) (F.typeCall_enumerate_1 _) (F.newCall_enumerate_1 _) (fun obj => F.args_object_init_2 obj _) F.entry_enumerate_new
    (meets_enum_new1 B) ⟨h1, ?_⟩
  have hz : (s.heap.push o).objs.size = s.heap.objs.size + 1 := Heap.size_push ..
  show _ ∧ _
  rw [hz]
  have he : IsEnum ((s.heap.push o).push { cls := .type "enumerate", data := .fields #[.none, .bool false, .ref s.heap.objs.size, rawInt 0, .none, .none] }) (s.heap.objs.size + 1) s.heap.objs.size 0 .none := by
    have := Heap.get?_push_size (s.heap.push o) (o := { cls := .type "enumerate", data := .fields #[.none, .bool false, .ref s.heap.objs.size, rawInt 0, .none, .none] }) rfl
    rw [hz] at this; exact this
  refine ⟨⟨_, he, rfl⟩, h _ he (Heap.get?_push_of_some _ (Heap.get?_push_size _ B.free)) (by rw [Heap.size_push, hz]) fun b o x => Heap.get?_push_of_some _ (Heap.get?_push_of_some _ x)⟩
end
end Kit
set_option Elab.async false
set_option linter.all false
set_option maxRecDepth 100000
set_option maxHeartbeats 4000000
namespace Kit
open PySem PySem.Spec PyProof.Rows L2 Evl
/-- the tuple at a, each item in a new pair -/
def IteT (K : PySem.W.Frag) (a : Addr) : It :=
  ⟨fun i H => ∃ (xs : List V) (x : V), SqT K H a xs ∧ xs[i]? = some x, fun i H v H' => ∃ T x, v = .ref T ∧ H T = none ∧ H' = upd H T (.tup [.int (i : Nat), x]) ∧ ∀ xs, SqT K H a xs → xs[i]? = some x, fun i H => ∃ xs : List V, SqT K H a xs ∧ xs.length = i⟩
theorem enum_ne {h : Heap} {e it t : Addr} {i : Int} {old : Value} {vs : Array Value} (he : IsEnum h e it i old) (ht : h.IsTuple t vs) : e ≠ t := fun z => by
  subst z
  obtain ⟨o, ho, hc, _⟩ := ht
  have he' : h.get? e = _ := he
  rw [he'] at ho
  cases ho
  exact absurd hc (by show ¬ (Value.type "enumerate" = Value.type "tuple"); decide +kernel)
theorem turn_enumT {P : Program} {w : World} {K : PySem.W.Frag} {elts : List Expr} {kk : Nat} {tpos : Pos} (a e it : Addr) :
    Turn P w K (.Tuple elts kk tpos) (IteT K a) [e, it] e (fun i h => (∃ old, IsEnum h e it ((i : Nat) : Int) old) ∧ h.IsTupleIter it a i ∧ e ≠ it) where
  mem := by simp
  obj := fun i h st b hb => by
    obtain ⟨⟨old, he⟩, ⟨o, ho, hc, hd⟩, _⟩ := st
    have e' : b = e ∨ b = it := by simpa using hb
    rcases e' with z | z
    · rw [z]; exact ⟨_, he, fun v q => nomatch q⟩
    · rw [z]; exact ⟨o, ho, fun v q => by rw [hd] at q; cases q⟩
  keep := fun i h h' st k => by
    obtain ⟨⟨old, he⟩, ⟨o, ho, hr⟩, hne⟩ := st
    exact ⟨⟨old, k e (by simp) _ he⟩, ⟨o, k it (by simp) o ho, hr⟩, hne⟩
  item := by
    intro X hP hw hK hc i pins s σ H E I hf st hg
    subst hP hw hK
    obtain ⟨⟨old, he⟩, hit, hne⟩ := st
    obtain ⟨xs, x, hq, hx⟩ := hg
    obtain ⟨its, rv, p, hz⟩ := I.tuple hq
    obtain ⟨u, hu, ru⟩ := rv.get hx
    have hel : e < s.heap.objs.size := Heap.lt_size he
    have hil : it < s.heap.objs.size := by obtain ⟨_, q, _⟩ := hit; exact Heap.lt_size q
    have pT : s.heap.IsTuple a its.toArray := p
    have nea : e ≠ a := enum_ne he pT
    have nit : a ≠ it := fun z => by
      subst z
      obtain ⟨o, ho, hc', _⟩ := pT
      obtain ⟨o', ho', hc'', _⟩ := hit
      rw [ho] at ho'
      cases ho'
      rw [hc'] at hc''
      exact absurd hc'' (by decide +kernel)
    have hlt : i < its.toArray.size := by
      have := (List.getElem?_eq_some_iff.mp hu).1
      simpa using this
    refine wpAny_pyNext_enum_itemD (Draws.tuple (by exact I.ok.hd hc) it a nit its.toArray) he ⟨hit, pT⟩ hlt hne (by simp [hne, nea]) fun x' h' tk hx' ho hst' hT hsz hk => ?_
    have eu : u = x' := by
      have : its[i]? = some x' := by simpa using hx'
      rw [hu] at this
      exact Option.some.inj this
    subst eu
    refine ⟨_, rfl, wpAny_letOwnedTupleGo_enum (s := { s with heap := h', toks := tk + 1 }) ho fun h'' he' sb => ?_⟩
    have hT2 : h''.get? s.heap.objs.size = some { cls := .type "tuple", data := .seq #[.int i tk, u] } := (sb.2 _ (Nat.ne_of_gt hel)).trans hT
    have new : ObjOk X.prog X.w (upd H s.heap.objs.size (.tup [.int (i : Nat), x])) h'' s.heap.objs.size (.tup [.int (i : Nat), x]) :=
      ⟨by show 2 ≤ sizeLine; decide, [.int i tk, u], .cons ⟨_, rfl⟩ (.cons ru .nil), ⟨_, hT2, rfl, _, rfl⟩⟩
    have I1 : Inv X pins σ (upd H s.heap.objs.size (.tup [.int (i : Nat), x])) { s with heap := h'', toks := tk + 1 } :=
      I.turnedNew (ch := [e, it]) (fun b ob hb q => (sb.2 b (fun z => hb (by simp [z]))).trans (hk b ob (fun z => hb (by simp [z])) (fun z => hb (by simp [z])) q)) hf (Nat.le_refl _) new
    refine ⟨.ref s.heap.objs.size, _, I1, rfl, ⟨_, x, rfl, I.hok.fresh (Nat.le_refl _), rfl, fun ys hy => by rw [I.tuple_inj hy hq]; exact hx⟩, ⟨⟨u, ?_⟩, ?_, hne⟩, fun b hb => ?_⟩
    · have e1 : ((i + 1 : Nat) : Int) = (i : Int) + 1 := by omega
      rw [e1]; exact he'
    · obtain ⟨o, q, r⟩ := hst'.1
      exact ⟨o, (sb.2 it (Ne.symm hne)).trans q, r⟩
    · have hb' : b < s.heap.objs.size := by
        have e' : b = e ∨ b = it := by simpa using hb
        rcases e' with z | z
        · rw [z]; exact hel
        · rw [z]; exact hil
      rw [upd_ne (Nat.ne_of_lt hb')]
      exact (hf b hb).1
  done := by
    intro X hP hw hK hc i pins s σ H E I hf st hg
    subst hP hw hK
    obtain ⟨⟨old, he⟩, hit, hne⟩ := st
    obtain ⟨xs, hq, hx⟩ := hg
    obtain ⟨its, rv, p, hz⟩ := I.tuple hq
    obtain ⟨f0, f1, f2, f3, f4, f5⟩ := hf it (by simp)
    have hl := rv.length
    have pT : s.heap.IsTuple a its.toArray := p
    have nit : a ≠ it := fun z => by
      subst z
      obtain ⟨o, ho, hc', _⟩ := pT
      obtain ⟨o', ho', hc'', _⟩ := hit
      rw [ho] at ho'
      cases ho'
      rw [hc'] at hc''
      exact absurd hc'' (by decide +kernel)
    have hn : its.toArray.size = i := by
      rw [← hx, hl]
      simp
    subst hn
    exact wpAny_pyNext_enum_endD (Draws.tuple (by exact I.ok.hd hc) it a nit its.toArray) he ⟨hit, pT⟩ fun h' eb => ⟨rfl, I.turned (t' := s.toks) (fun b o hb q => eb b o hb q) f0 f1 f3 f4 f5⟩
  self := fun A i s Q E st h => let ⟨⟨_, he⟩, _⟩ := st; wpAny_pyIter_enum he h
def iEnumS (K : PySem.W.Frag) (ta : TA) : TI := fun σ H R => ta σ H fun vs H1 => ∃ a xs, vs = [.ref a] ∧ ((SqL K H1 a xs ∧ R (Ite K a) H1) ∨ (SqT K H1 a xs ∧ R (IteT K a) H1))
theorem pi_enumS {X : Cx} {e : Expr} {ta : TA} {p pos tpos : Pos} {elts : List Expr} {kk : Nat} (hg : Gl X "enumerate") (hm : X.mg "enumerate" = none) (ha : PA X [e] ta) (hs : starEach [e] X.env = [(false, eval e X.env)] := by rfl) :
    PI X (.Tuple elts kk tpos) (.Call (.Name "enumerate" p) [e] [] pos) (iEnumS X.K ta) := by
  refine ⟨fun pins s σ H R I h => ?_⟩
  refine Call_ (ld_blt I hg hm boot_enumerate (PyProof.Rows.callWith_type1 (thn (ha.run pos pins s σ H _ I h) fun us s1 ⟨vs, H1, I1, r1, q1⟩ => ?_) hs rfl))
  obtain ⟨a, xs, ex, q1⟩ := q1
  subst ex
  cases r1 with
  | cons r rr =>
    cases rr
    cases r
    have fin : ∀ (h' : Heap) (itx : Addr), itx = s1.heap.objs.size → (∀ b o, s1.heap.get? b = some o → h'.get? b = some o) → ∀ b ∈ [s1.heap.objs.size + 1, itx], FpOk X pins H1 b := fun h' itx ei hk b hb => by
      have hle : s1.heap.objs.size ≤ b := by
        have e' : b = s1.heap.objs.size + 1 ∨ b = itx := by simpa using hb
        rcases e' with z | z
        · rw [z]; exact Nat.le_add_right _ _
        · rw [z, ei]; exact Nat.le_refl _
      exact I1.fpOk hle (I1.hok.fresh hle)
    rcases q1 with ⟨hq, q⟩ | ⟨hq, q⟩
    · obtain ⟨its, rv, p', hz⟩ := I1.list hq
      refine call_enumerate_list p'.isList fun h' he hit hsz hk => wpAny_pyIter_enum he ?_
      have I2 : Inv X pins σ H1 { s1 with heap := h' } := I1.kept (t' := s1.toks) hk
      exact ⟨s1.heap.objs.size + 1, [s1.heap.objs.size + 1, s1.heap.objs.size], _, _, H1, rfl, I2, turn_enum a (s1.heap.objs.size + 1) s1.heap.objs.size, ⟨⟨.none, he⟩, hit, Nat.succ_ne_self _⟩, fin h' _ rfl hk, q⟩
    · obtain ⟨its, rv, p', hz⟩ := I1.tuple hq
      refine enum_begins1 (begins_tuple a its.toArray) (show s1.heap.IsTuple a its.toArray from p') fun h' he hit hsz hk => wpAny_pyIter_enum he ?_
      have I2 : Inv X pins σ H1 { s1 with heap := h' } := I1.kept (t' := s1.toks) hk
      exact ⟨s1.heap.objs.size + 1, [s1.heap.objs.size + 1, s1.heap.objs.size], _, _, H1, rfl, I2, turn_enumT a (s1.heap.objs.size + 1) s1.heap.objs.size, ⟨⟨.none, he⟩, ⟨_, hit, rfl, rfl⟩, Nat.succ_ne_self _⟩, fin h' _ rfl hk, q⟩
theorem walk_enumT {K : PySem.W.Frag} {a : Addr} {xs : List V} : Walk (IteT K a) xs.length (fun H => SqT K H a xs) (YPair (fun i => some (.int (i : Nat))) (fun i => xs[i]?)) := by
  refine ⟨fun i _ hi q => ⟨xs, xs[i], q, by simp [hi]⟩, fun _ q => ⟨xs, q, rfl⟩, fun i H v H' _ q y => ?_⟩
  obtain ⟨T, x, h1, h2, h3, h4⟩ := y
  exact ⟨T, .int (i : Nat), x, h1, h2, h3, rfl, h4 xs q⟩
section
variable {K : PySem.W.Frag} {σ : L2.St} {H H' : Hp} {D : Ends} {tu tz : TS}
/-- for i, x in enumerate(xs), xs a list or a tuple -/
theorem s_forEnS {ta : TA} {i j : Nat} {a : Addr} {xs : List V} (h : EvA ta σ H [.ref a]) (G : Hp → Prop) (hG : (∀ H, G H → SqL K H a xs) ∨ (∀ H, G H → SqT K H a xs)) (hx : ∀ H1, Ex H H1 → G H1) (Pv : Nat → L2.St → Hp → Prop) (h0 : ∀ H1, Ex H H1 → Pv 0 σ H1) (hl : ∀ n σ' H', n ≤ xs.length → Pv n σ' H' → G H')
    (hs : ∀ n x σ' H' H2, xs[n]? = some x → Pv n σ' H' → Ex H' H2 → tu { D with nx := Pv (n + 1), ct := Pv (n + 1), bk := D.nx } ((σ'.set i (some (.int (n : Int)))).set j (some x)) H2) (hd : ∀ σ' H', Pv xs.length σ' H' → D.nx σ' H') :
    tFor (iEnumS K ta) (gTup K 2 (gCons (gName i) (gCons (gName j) gNil))) tu D σ H := h H (Ex.refl H) _ fun H1 e => by
  have turn : ∀ n v σ' Hh H2, n < xs.length → Pv n σ' Hh → YPair (fun i => some (.int (i : Nat))) (fun i => xs[i]?) n Hh v H2 → gTup K 2 (gCons (gName i) (gCons (gName j) gNil)) v σ' H2 fun σ2 H3 => tu { D with nx := Pv (n + 1), ct := Pv (n + 1), bk := D.nx } σ2 H3 := by
    rintro n v σ' Hh H2 hn p ⟨T, x, y, rfl, nT, rfl, g1, g2⟩
    have ex : V.int (n : Nat) = x := Option.some.inj g1
    subst ex
    exact ⟨T, [.int (n : Nat), y], rfl, st_of upd_same, rfl, _, [y], rfl, y, [], rfl, rfl, hs n y σ' Hh _ g2 p (Ex.new nT)⟩
  rcases hG with hG | hG
  · exact ⟨a, xs, rfl, .inl ⟨hG _ (hx H1 e), for_it walk_enum Pv (h0 H1 e) (fun n σ' H' hn p => hG _ (hl n σ' H' hn p)) (fun n v σ' Hh H2 => turn n v σ' Hh H2) hd⟩⟩
  · exact ⟨a, xs, rfl, .inr ⟨hG _ (hx H1 e), for_it walk_enumT Pv (h0 H1 e) (fun n σ' H' hn p => hG _ (hl n σ' H' hn p)) (fun n v σ' Hh H2 => turn n v σ' Hh H2) hd⟩⟩
end
end Kit
set_option Elab.async false
set_option linter.all false
set_option maxRecDepth 100000
set_option maxHeartbeats 4000000
namespace Kit
open PySem PySem.Spec PyProof.Rows L2 Evl
/-! ### dicts of tuple keys: for k, v in d.items(), sum(d.values()), a display -/
theorem frzT2 {X : Cx} {pins : List (Addr × Obj)} {σ : L2.St} {H : Hp} {s : Shared} {d : Addr} {o : Obj} {kvs : List (List L2.Key × V)} (I : Inv X pins σ H s) (h : H d = some (.frz o (.dT kvs))) :
    (d == sysModules) = false ∧ s.heap.get? d = some o ∧ o.ExactDict ∧ ∃ (es : Array DictEntry) (ep : Nat), o.data = .dict es ep ∧ es.size = kvs.length ∧
      ∀ (i : Nat) (k : List L2.Key) (v : V), kvs[i]? = some (k, v) → ∃ (en : DictEntry) (q : Addr), es[i]? = some en ∧ en.key = .ref q ∧ H q = some (.tup (k.map kV)) ∧ RelV v en.val := by
  obtain ⟨hd, z, hs, xs, pr, o', es, ep, ho, hx, hdt, he, _⟩ := I.hok d _ h
  rw [hd] at ho
  cases ho
  refine ⟨hs, hd, hx, es, ep, hdt, ?_, fun i k v e => ?_⟩
  · have l1 : es.size = xs.length := size_of_entries he
    have l2 : kvs.length = xs.length := Paired.length pr
    omega
  · obtain ⟨b, hb, e1, e2, e3⟩ := paired_get pr e
    have q := entry_at he i
    rw [hb] at q
    exact ⟨_, b.2.1, q, rfl, e2, e3⟩
/-- the pairs of a dict of tuple keys, each a new tuple of the key's own tuple and the value -/
def ItiT (d : Addr) (o : Obj) (kvs : List (List L2.Key × V)) : It :=
  ⟨fun i H => H d = some (.frz o (.dT kvs)) ∧ i < kvs.length, fun i H x H' => ∃ T k v q, kvs[i]? = some (k, v) ∧ H q = some (.tup (k.map kV)) ∧ x = .ref T ∧ H T = none ∧ H' = upd H T (.tup [.ref q, v]), fun i H => H d = some (.frz o (.dT kvs)) ∧ kvs.length ≤ i⟩
theorem turn_itemsT {P : Program} {w : World} {K : PySem.W.Frag} {d : Addr} {o : Obj} {es : Array DictEntry} {ep : Nat} {kvs : List (List L2.Key × V)} {elts : List Expr} {kk : Nat} {tpos : Pos} (it : Addr) (hod : o.data = .dict es ep) (hsz0 : es.size = kvs.length) (hxd : o.ExactDict) :
    Turn P w K (.Tuple elts kk tpos) (ItiT d o kvs) [it] it (fun i h => ∃ ok ov, IsItemIter h it d i es.size ep ok ov) where
  mem := by simp
  obj := fun i h st b hb => by
    have e : b = it := by simpa using hb
    subst e
    obtain ⟨ok, ov, e⟩ := st
    exact ⟨_, e, fun v z => nomatch z⟩
  keep := fun i h h' st k => let ⟨ok, ov, e⟩ := st; ⟨ok, ov, k it (by simp) _ e⟩
  item := by
    intro X hP hw hK hc i pins s σ H E I hf st hg
    subst hP hw hK
    obtain ⟨hd, hi⟩ := hg
    obtain ⟨hs, hgd, hx, es', ep', hdt, hsz, ent⟩ := frzT2 I hd
    obtain ⟨rfl, rfl⟩ := dict_ep hod hdt
    obtain ⟨⟨k, v⟩, hkv⟩ : ∃ p, kvs[i]? = some p := ⟨kvs[i], List.getElem?_eq_getElem hi⟩
    obtain ⟨en, q, hen, hkey, hq, rv⟩ := ent i k v hkv
    have hlt0 : i < es'.size := by omega
    have een : es'[i] = en := by
      rw [Array.getElem?_eq_getElem hlt0] at hen
      exact Option.some.inj hen
    obtain ⟨ok, ov, he⟩ := st
    have hlt : it < s.heap.objs.size := Heap.lt_size he
    refine wpAny_pyNext_items_item_raw he ⟨o, hgd, hx, hdt⟩ hlt0 fun h' ho hT hz hk => ?_
    refine ⟨_, rfl, wpAny_letOwnedTupleGo_items (s := { s with heap := h' }) ho fun h'' he' sb => ?_⟩
    rw [een] at hT
    have hT2 : h''.get? s.heap.objs.size = some { cls := .type "tuple", data := .seq #[en.key, en.val] } := (sb.2 _ (Nat.ne_of_gt hlt)).trans hT
    have new : ObjOk X.prog X.w (upd H s.heap.objs.size (.tup [.ref q, v])) h'' s.heap.objs.size (.tup [.ref q, v]) :=
      ⟨by show 2 ≤ sizeLine; decide, [en.key, en.val], .cons hkey (.cons rv .nil), ⟨_, hT2, rfl, _, rfl⟩⟩
    have I1 : Inv X pins σ (upd H s.heap.objs.size (.tup [.ref q, v])) { s with heap := h'' } :=
      I.turnedNew (t' := s.toks) (ch := [it]) (fun b ob hb e => (sb.2 b (by simpa using hb)).trans (hk b ob (by simpa using hb) e)) hf (Nat.le_refl _) new
    refine ⟨.ref s.heap.objs.size, _, I1, rfl, ⟨_, k, v, q, hkv, hq, rfl, I.hok.fresh (Nat.le_refl _), rfl⟩, ⟨_, _, he'⟩, fun b hb => ?_⟩
    have e : b = it := by simpa using hb
    rw [e, upd_ne (Nat.ne_of_lt hlt)]
    exact (hf it (by simp)).1
  done := by
    intro X hP hw hK hc i pins s σ H E I hf st hg
    subst hP hw hK
    obtain ⟨hd, hi⟩ := hg
    obtain ⟨f0, f1, f2, f3, f4, f5⟩ := hf it (by simp)
    obtain ⟨hs, hgd, hx, es', ep', hdt, hsz, ent⟩ := frzT2 I hd
    obtain ⟨rfl, rfl⟩ := dict_ep hod hdt
    obtain ⟨ok, ov, he⟩ := st
    exact wpAny_pyNext_items_end_raw (I.ok.hd hc) he ⟨o, hgd, hx, hdt⟩ (by omega) fun h' eb => ⟨rfl, I.turned (t' := s.toks) (fun b ob hb e => eb b ob hb e) f0 f1 f3 f4 f5⟩
  self := fun A i s Q E st h => let ⟨_, _, e⟩ := st; PySem.W.kcp_self e h
def iItemsT (td : TE) : TI := fun σ H R => td σ H fun x H1 => ∃ d o kvs, x = .ref d ∧ H1 d = some (.frz o (.dT kvs)) ∧ R (ItiT d o kvs) H1
theorem pi_itemsT {X : Cx} {e : Expr} {td : TE} {apos cpos : Pos} {elts : List Expr} {kk : Nat} {tpos : Pos} (he : PE X e td) (hbase : attributeBase e "items" X.env (eval e X.env) = eval e X.env := by rfl) (hline : (apos.endLine == cpos.line) = true := by rfl) :
    PI X (.Tuple elts kk tpos) (.Call (.Attribute e "items" apos) [] [] cpos) (iItemsT td) := by
  refine ⟨fun pins s σ H R I h => ?_⟩
  refine wpAny_Call_method (T := "dict") (id := "dict.items") hbase rfl hline F.plainAttrs_dict F.slot_dict_items F.type_dict_items (thn (he.run pins s σ H _ I h) fun u s1 ⟨x, H1, I1, rx, d, o, kvs, ex, hd, q⟩ => ?_)
  subst ex
  obtain rfl : u = Value.ref d := rx
  obtain ⟨hs, hgd, hx, es, ep, hdt, hsz, ent⟩ := frzT2 I1 hd
  have raw : s1.heap.DictRaw d es ep := ⟨o, hgd, hx, hdt⟩
  refine ⟨raw.typeIs, fun a ea => ?_, ?_⟩
  · cases ea
    exact ⟨o, hgd, hx.2.1⟩
  have I2 : Inv X pins σ H1 { s1 with heap := s1.heap.push { cls := .type "dict_items", data := .fields #[.ref d] } } := I1.kept (t' := s1.toks) fun b ob q => Heap.get?_push_of_some _ q
  have fin : wpAny (model X.prog X.w) X.A (pyIter (.ref s1.heap.objs.size)) (PIE X pins σ (.Tuple elts kk tpos) R) X.xe { s1 with heap := s1.heap.push { cls := .type "dict_items", data := .fields #[.ref d] } } := by
    refine wpAny_pyIter_items_raw (d := d) ⟨_, Heap.get?_push_size _ rfl, rfl, rfl⟩ (raw.at fun o e => Heap.get?_push_of_some _ e) (pi_one (tk := s1.toks) I2 _ (turn_itemsT _ hdt hsz hx) ⟨.none, .none, ?_⟩ q)
    exact Heap.get?_push_size _ rfl
  show wpAny _ _ (callWith cpos (.builtin "dict.items") [.ref d] [] []) _ X.xe s1
  exact method_meetsIn F.slot_dict_items F.entry_dict_items rfl (PySem.evalArgs_none ⟨rfl, raw.typeIs, F.args_dict_items_1 _, _, meets_dict_items_raw d hs, ⟨es, ep, raw⟩, fin⟩)
theorem walk_itemsT {d : Addr} {o : Obj} {kvs : List (List L2.Key × V)} : Walk (ItiT d o kvs) kvs.length (fun H => H d = some (.frz o (.dT kvs))) (fun i H x H' => ∃ T k v q, kvs[i]? = some (k, v) ∧ H q = some (.tup (k.map kV)) ∧ x = .ref T ∧ H T = none ∧ H' = upd H T (.tup [.ref q, v])) :=
  ⟨fun _ _ hi q => ⟨q, hi⟩, fun _ q => ⟨q, Nat.le_refl _⟩, fun _ _ _ _ _ _ y => y⟩
end Kit
namespace Kit
open PySem PySem.Spec PyProof.Rows L2 Evl
theorem preSum_take (ns : List Int) : ∀ n, n ≤ ns.length → preSum (fun i => ns.getD i 0) n = (ns.take n).sum
  | 0, _ => rfl
  | n + 1, h => by
    have hx : ns[n]? = some ns[n] := List.getElem?_eq_getElem h
    show preSum (fun i => ns.getD i 0) n + ns.getD n 0 = _
    rw [preSum_take ns n (Nat.le_of_succ_le h), List.take_succ, hx, List.sum_append, List.getD_eq_getElem?_getD, hx]
    simp
/-- the view d.values() at p -/
def valsO (p d : Addr) : HO := .ext fun h => h.IsValuesView p d
theorem valsO_ok {P : Program} {w : World} {H : Hp} {h : Heap} {p d : Addr} (e : h.get? p = some { cls := .type "dict_values", data := .fields #[.ref d] }) : ObjOk P w H h p (valsO p d) :=
  ⟨⟨_, e, rfl, rfl⟩, ⟨_, e⟩, fun h1 h2 x k => let ⟨o, ho, r⟩ := x; ⟨o, k o ho, r⟩⟩
section
variable {X : Cx}
def rValsT : V → List V → Hp → VK → Prop := fun x xs H Q => ∃ (a : Addr) (kvs : List (List L2.Key × V)), x = .ref a ∧ xs = [] ∧ H a = some (.dT kvs) ∧ ∀ p, H p = none → Q (.ref p) (upd H p (valsO p a))
theorem mt_valsT : MtR X "dict.values" rValsT := by
  intro pins s σ H x xs v us Q I rx rxs h
  obtain ⟨a, kvs, rfl, rfl, ha, q⟩ := h
  cases rx
  cases rxs
  obtain ⟨z, hd, xs', rel, o, es, ep, ho, hx, hdat, _⟩ := dt_of I.hok ha
  have raw : s.heap.DictRaw a es ep := ⟨o, ho, hx, hdat⟩
  have hf : H s.heap.objs.size = none := I.hok.fresh (Nat.le_refl _)
  refine call_meetsIn PySem.F.slot_dict_values raw.typeIs PySem.F.entry_dict_values (PySem.F.args_dict_values_1 _) (meets_dict_values_raw a hd) ⟨⟨es, ep, raw⟩, ?_⟩
  exact ⟨.ref s.heap.objs.size, upd H s.heap.objs.size (valsO s.heap.objs.size a), I.laid (t' := s.toks) (fun b u e => Heap.get?_push_of_some _ e) (Nat.le_refl _) (valsO_ok (Heap.get?_push_size _ rfl)), rfl, q _ hf⟩
def rSumVT : List V → Hp → VK → Prop := fun xs H Q => ∃ (p a : Addr) (kvs : List (List L2.Key × V)) (ns : List Int), xs = [.ref p] ∧ H p = some (valsO p a) ∧ H a = some (.dT kvs) ∧ kvs.map Prod.snd = ns.map V.int ∧ Q (.int ns.sum) H
theorem cr_sumVT (hc : X.calm = true) : CallR X (.builtin "sum") rSumVT := by
  intro pins s σ H xs us Q I rx h
  obtain ⟨p, a, kvs, ns, rfl, hp, ha, hns, q⟩ := h
  rw [Vals.ref1 rx]
  obtain ⟨z, hd, xs', rel, o, es, ep, ho, hx, hdat, he, _⟩ := dt_of I.hok ha
  have raw : s.heap.DictRaw a es ep := ⟨o, ho, hx, hdat⟩
  have hv : s.heap.IsValuesView p a := (show ObjOk X.prog X.w H s.heap p (valsO p a) from I.hok p _ hp).1
  have hkn : kvs.length = ns.length := by
    have e := congrArg List.length hns
    rw [List.length_map, List.length_map] at e
    exact e
  have l1 : es.size = xs'.length := size_of_entries he
  have l2 : kvs.length = xs'.length := Paired.length rel
  have hsz : es.size = ns.length := by omega
  have hP : ∀ (i : Nat) (v : Value), (∃ hi : i < es.size, v = es[i].val) → ∃ t, v = .int (ns.getD i 0) t := fun i v ⟨hi, e⟩ => by
    have hi2 : i < kvs.length := by omega
    have hi3 : i < ns.length := by omega
    obtain ⟨b, hb, e1, e2, e3⟩ := paired_get rel (List.getElem?_eq_getElem hi2)
    have q := entry_at he i
    rw [hb, Array.getElem?_eq_getElem hi] at q
    have e4 : es[i] = entryOfKey (tupleKind (mixKind X.prog X.w)) b := Option.some.inj q
    have e5 : kvs[i].2 = V.int ns[i] := by
      have z : (kvs.map Prod.snd)[i]? = (ns.map V.int)[i]? := by rw [hns]
      rw [List.getElem?_map, List.getElem?_map, List.getElem?_eq_getElem hi2, List.getElem?_eq_getElem hi3] at z
      exact Option.some.inj z
    have e6 : ns.getD i 0 = ns[i] := by rw [List.getD_eq_getElem?_getD, List.getElem?_eq_getElem hi3] <;> rfl
    rw [e5] at e3
    rw [e, e4, e6]
    exact e3
  have la : a < s.heap.objs.size := Heap.lt_size ho
  refine call_sum_walkAnyS (wpAny_pyIter_values_raw hv raw ?_)
  refine ⟨_, _, _, _, _, _, _, fun i => ns.getD i 0, rfl, (Walks.rawValues (prog := X.prog) (w := X.w) (A := X.A.in1) (show X.A.in1.handled = none from I.ok.hd hc) s.heap.objs.size a (Nat.ne_of_lt la) es ep).toS, ⟨⟨_, Heap.get?_push_size _ rfl, rfl, rfl⟩, raw.at fun o e => Heap.get?_push_of_some _ e⟩, fun b hb => ?_, hP, fun s' t' hm => ?_⟩
  · show b < (s.heap.push _).objs.size
    rw [size_push']
    rcases List.mem_cons.mp hb with z | z
    · rw [z]
      exact Nat.lt_succ_self _
    · rw [List.mem_singleton.mp z]
      exact Nat.lt_succ_of_lt la
  · have e : preSum (fun i => ns.getD i 0) es.size = ns.sum := by
      rw [hsz, preSum_take ns ns.length (Nat.le_refl _), List.take_length]
    rw [e, Moved.eq_with hm]
    exact ⟨.int ns.sum, H, I.kept (t' := s'.toks) fun b o e => hm.heap b o (fun hmem => Nat.ne_of_lt (Heap.lt_size e) (List.mem_singleton.mp hmem)) (Heap.get?_push_of_some _ e), ⟨_, rfl⟩, q⟩
end
end Kit

namespace Kit
open PySem PySem.Spec PyProof.Rows L2 Evl
/-! ### {key: value}, the key a tuple -/
def tDisp1 (tk tv : TE) : TE := fun σ H Q => ∀ p, H p = none → tk σ (upd H p (.dT [])) fun x H1 => tv σ H1 fun y H2 => H2 p = some (.dT []) ∧ ∃ (b : Addr) (k : List L2.Key), x = .ref b ∧ H2 b = some (.tup (k.map kV)) ∧ Q (.ref p) (upd H2 p (.dT [(k, y)]))
theorem pe_disp1T {X : Cx} {pos : Pos} {k v : Expr} {tk tv : TE} (hu : X.A.units < cLine) (hk : PE X k tk) (hv : PE X v tv) : PE X (.Dict [some k] [v] pos) (tDisp1 tk tv) := by
  refine ⟨fun pins s σ H Q I q => ?_⟩
  have hn := I.hok.fresh (Nat.le_refl s.heap.objs.size)
  have I1 := I.laid (a := s.heap.objs.size) (o := .dT []) (h' := s.heap.push { cls := .type "dict", data := .dict #[] }) (t' := s.toks) (fun _ _ q => Heap.get?_push_of_some _ q) (Nat.le_refl _) (dt_empty s.heap I.big)
  have hp : PPs X pos [some k] [v] [(tk, tv)] := pps_cons hk hv pps_nil
  rw [arm_eval_Dict, zip_pairTrees [some k] [v] X.env pos rfl rfl, dictDisplay_pairs (pairTrees [some k] [v] X.env pos) (by intro z; cases z) (by rw [pairTrees_length [some k] [v] X.env pos rfl rfl]; show 1 < 17; decide)]
  refine wpAny_bind (wpAny_standAt (wpAny_bind (wpAny_subDictH (knd := tupleKind (mixKind X.prog X.w)) hu (by rw [pairTrees_length [some k] [v] X.env pos rfl rfl]; show 1 ≤ 15; decide) ?_)))
  refine thn (hp.run pins _ σ _ (fun ps H2 => match ps with
    | [(x, y)] => H2 s.heap.objs.size = some (.dT []) ∧ ∃ (b : Addr) (k : List L2.Key), x = .ref b ∧ H2 b = some (.tup (k.map kV)) ∧ Q (.ref s.heap.objs.size) (upd H2 s.heap.objs.size (.dT [(k, y)]))
    | _ => False) I1 (q _ hn)) fun ws s2 ⟨ps, H2, I2, rel, z⟩ => ?_
  match ps, z with
  | [(x, y)], ⟨e, b, kk, ex, hb, q2⟩ =>
    subst ex
    cases rel with
    | @cons a b2 as bs h t =>
      cases t
      obtain ⟨b21, b22⟩ := b2
      obtain ⟨h1, h2⟩ := h
      obtain rfl : b21 = Value.ref b := h1
      obtain ⟨z, hd, xs0, r0, dd⟩ := dt_of I2.hok e
      cases r0
      refine ⟨[(kk, b, b22)], ⟨rfl, rfl, key_of I2.hok hb, True.intro⟩, dd, fun h' tk dd' hs => wpAny_pure ⟨.ref s.heap.objs.size, _, ?_, rfl, q2⟩⟩
      obtain ⟨o, es, ep, hq, h2', h3, h4, _, h5⟩ := dd'
      refine d_write I2 (by rw [e]; exact True.intro) hs ⟨o, hq⟩ ⟨by show 1 ≤ sizeLine; decide, hd, [(kk, b, b22)], .cons ⟨rfl, ?_, h2⟩ .nil, o, es, ep, hq, h2', h3, h4, h5⟩
      rw [upd_ne (ne_of hb e (fun z => nomatch z))]
      exact hb
/-! ### for k, v in d.items(), the keys tuples -/
section
variable {K : PySem.W.Frag} {σ : L2.St} {H : Hp} {D : Ends} {tu : TS} {tz : TS} {td : TE}
theorem s_forItT {i j : Nat} {d : Addr} {kvs : List (List L2.Key × V)} (h : ∀ H1, Ev td σ H1 (.ref d)) (hd : H d = some (.dT kvs)) (Pv : Obj → Nat → L2.St → Hp → Prop) (h0 : ∀ o H1, Ex (upd H d (.frz o (.dT kvs))) H1 → Pv o 0 σ H1) (hl : ∀ o k σ' H', k ≤ kvs.length → Pv o k σ' H' → H' d = some (.frz o (.dT kvs)))
    (hs : ∀ o k key v q σ' H' H2, kvs[k]? = some (key, v) → H' q = some (.tup (key.map kV)) → Pv o k σ' H' → Ex H' H2 → tu { nx := Pv o (k + 1), ct := Pv o (k + 1), bk := fun σ' H' => H' d = some (.frz o (.dT kvs)) ∧ D.nx σ' (upd H' d (.dT kvs)), rt := fun v H' => H' d = some (.frz o (.dT kvs)) ∧ D.rt v (upd H' d (.dT kvs)) } ((σ'.set i (some (.ref q))).set j (some v)) H2) (he : ∀ o σ' H', Pv o kvs.length σ' H' → D.nx σ' (upd H' d (.dT kvs))) :
    tLock (tFor (iItemsT td) (gTup K 2 (gCons (gName i) (gCons (gName j) gNil))) tu) D σ H := ⟨d, .dT kvs, hd, True.intro, fun o => h _ _ (Ex.refl _) _ fun H1 e => ⟨d, o, kvs, rfl, e d _ upd_same, by
  refine for_it (walk_itemsT) (Pv o) (h0 o H1 e) (fun k σ' H' hk p => hl o k σ' H' hk p) ?_ (fun σ' H' p => ⟨hl o _ σ' H' (Nat.le_refl _) p, he o σ' H' p⟩)
  rintro k v σ' Hh H2 hk p ⟨T, key, x, q, g1, g2, rfl, nT, rfl⟩
  exact ⟨T, [.ref q, x], rfl, st_of upd_same, rfl, .ref q, [x], rfl, x, [], rfl, rfl, hs o k key x q σ' Hh _ g1 g2 p (Ex.new nT)⟩⟩⟩
end
end Kit

namespace Kit
open PySem PySem.Spec PyProof.Rows L2 Evl
section
variable {K : PySem.W.Frag} {σ : L2.St} {H : Hp} {ta tb te tx : TE} {D : Ends} {tz : TS}
theorem ev_dget2T {a b : Addr} {kvs : List (List L2.Key × V)} {k : List L2.Key} {v : V} (h : Ev ta σ H (.ref a)) (hx : Ev tb σ H (.ref b)) (hv : Ev tx σ H v) (ha : H a = some (.dT kvs)) (hb : H b = some (.tup (k.map kV))) : Ev (tDGet2 ta tb tx) σ H ((valV kvs k).getD v) := fun H1 e Q q =>
  h H1 e _ fun H2 e2 => ⟨a, rfl, .inr ⟨kvs, .inl (e2 a _ (e a _ ha))⟩, hx H2 (e.trans e2) _ fun H3 e3 => hv H3 (e.trans (e2.trans e3)) _ fun H4 e4 => ⟨_, DGet.t (e4 a _ (e3 a _ (e2 a _ (e a _ ha)))) (e4 b _ (e3 b _ (e2 b _ (e b _ hb)))), q H4 (e2.trans (e3.trans e4))⟩⟩
theorem s_dputT {a b : Addr} {kvs : List (List L2.Key × V)} {k : List L2.Key} {v : V} (h : Ev ta σ H (.ref a)) (hx : Ev tb σ H (.ref b)) (hv : Ev te σ H v) (ha : H a = some (.dT kvs)) (hb : H b = some (.tup (k.map kV))) (hl : kvs.length < 100000) (kk : ∀ H1, Ex H H1 → D.nx σ (upd H1 a (.dT (putK kvs k v)))) : sDPut ta tb te D σ H :=
  hv H (Ex.refl _) _ fun H1 e1 => h H1 e1 _ fun H2 e2 => hx H2 (e1.trans e2) _ fun H3 e3 => ⟨a, _, rfl, DPut.t (k := k) (e3 a _ (e2 a _ (e1 a _ ha))) (e3 b _ (e2 b _ (e1 b _ hb))) (sz_lt hl), kk H3 (e1.trans (e2.trans e3))⟩
theorem q_dnewT {i : Nat} (k : ∀ p H1, H p = none → Ex H H1 → H1 p = some (.dT []) → tz D (σ.set i (some (.ref p))) H1) : tSeq (tAsg tDNewT (gName i)) tz D σ H := fun p hp => k p _ hp (Ex.new hp) upd_same
/-- {key: value}: the key a new tuple -/
theorem q_disp1 {i : Nat} {k : List L2.Key} {v : V} (hk : EvU ta σ H (k.map kV)) (hv : Ev tb σ H v) (kk : ∀ p H1, H p = none → Ex H H1 → H1 p = some (.dT [(k, v)]) → tz D (σ.set i (some (.ref p))) H1) : tSeq (tAsg (tDisp1 ta tb) (gName i)) tz D σ H := fun p hp =>
  hk _ (Ex.new hp) _ fun b H2 nb e2 hb => hv H2 ((Ex.new hp).trans e2) _ fun H3 e3 => ⟨e3 p _ (e2 p _ upd_same), b, k, rfl, e3 b _ hb, kk p _ hp (fun c o ec => by
    by_cases z : c = p
    · subst z
      rw [hp] at ec
      cases ec
    · rw [upd_ne z]
      exact e3 c _ (e2 c _ (Ex.new hp c _ ec))) upd_same⟩
theorem s_retE : True := trivial
end
end Kit
set_option Elab.async false
set_option linter.all false
set_option maxRecDepth 100000
set_option maxHeartbeats 4000000
namespace Kit
open PySem PySem.Spec PyProof.Rows L2 Evl
/-! ### zip of a list and a tuple -/
def ItzM (K : PySem.W.Frag) (a b : Addr) (n : Nat) : It :=
  ⟨fun i H => i < n ∧ ∃ xs ys : List V, SqL K H a xs ∧ SqT K H b ys ∧ n = min xs.length ys.length,
    fun i H v H' => ∃ T x y, v = .ref T ∧ H T = none ∧ H' = upd H T (.tup [x, y]) ∧ (∀ xs, SqL K H a xs → xs[i]? = some x) ∧ ∀ ys, SqT K H b ys → ys[i]? = some y,
    fun i H => i = n ∧ ∃ xs ys : List V, SqL K H a xs ∧ SqT K H b ys ∧ n = min xs.length ys.length⟩
theorem turn_zipM {P : Program} {w : World} {K : PySem.W.Frag} {elts : List Expr} {kk n : Nat} {tpos : Pos} {a b z TI TO i1 i2 : Addr} (D : ZipApart z TI TO i1 i2 a b) (e12 : i1 ≠ b) (e21 : i2 ≠ a) (e11 : a ≠ i1) (e22 : b ≠ i2) :
    Turn P w K (.Tuple elts kk tpos) (ItzM K a b n) [z, TI, TO, i1, i2] z (fun i h => IsZip h z TI TO .none ∧ IsTupOf2 h TI (.ref i1) (.ref i2) ∧ (∃ x y, IsTupOf2 h TO x y) ∧ h.IsListIter i1 a i ∧ h.IsTupleIter i2 b i) where
  mem := by simp
  obj := fun i h st c hc => by
    obtain ⟨hz, hTI, ⟨x, y, hTO⟩, ⟨o1, e1, _, d1⟩, ⟨o2, e2, _, d2⟩⟩ := st
    have e' : c = z ∨ c = TI ∨ c = TO ∨ c = i1 ∨ c = i2 := by simpa using hc
    rcases e' with q | q | q | q | q
    · rw [q]; exact ⟨_, hz, fun v q => nomatch q⟩
    · rw [q]; exact ⟨_, hTI, fun v q => nomatch q⟩
    · rw [q]; exact ⟨_, hTO, fun v q => nomatch q⟩
    · rw [q]; exact ⟨o1, e1, fun v q => by rw [d1] at q; cases q⟩
    · rw [q]; exact ⟨o2, e2, fun v q => by rw [d2] at q; cases q⟩
  keep := fun i h h' st k => by
    obtain ⟨hz, hTI, ⟨x, y, hTO⟩, h1, h2⟩ := st
    exact ⟨k z (by simp) _ hz, k TI (by simp) _ hTI, ⟨x, y, k TO (by simp) _ hTO⟩, h1.at fun o q => k i1 (by simp) o q, h2.at fun o q => k i2 (by simp) o q⟩
  item := by
    intro X hP hw hK hc i pins s σ H E I hf st hg
    subst hP hw hK
    obtain ⟨hz, hTI, ⟨x0, y0, hTO⟩, h1, h2⟩ := st
    obtain ⟨hlt, xs, ys, hqx, hqy, hn⟩ := hg
    obtain ⟨its, rv, p, _⟩ := I.list hqx
    obtain ⟨its2, rv2, p2, _⟩ := I.tuple hqy
    have l1 := rv.length
    have l2 := rv2.length
    have hi1 : i < xs.length := by omega
    have hi2 : i < ys.length := by omega
    obtain ⟨u, hu, ru⟩ := rv.get (List.getElem?_eq_getElem hi1)
    obtain ⟨u2, hu2, ru2⟩ := rv2.get (List.getElem?_eq_getElem hi2)
    have hzl : z < s.heap.objs.size := Heap.lt_size hz
    have hh : X.A.in1.handled = none := I.ok.hd hc
    have S : ZipSep2 z TI TO i1 i2 [i1, a] [i2, b] := ⟨D.TIz, D.TOz, D.TITO, D.TIi1, by simp, by simp [D.i1z.symm, D.l1z.symm], by simp [D.TOi1, D.l1TO.symm], D.TIi2, by simp, by simp [D.i2z.symm, D.l2z.symm], by simp [D.TOi2, D.l2TO.symm], by simp [D.i12, e12], by simp [D.i12.symm, e21]⟩
    refine wpAny_pyNext_zipD2_item S (Draws.list hh i1 a e11 its.toArray) (Draws.tuple hh i2 b e22 its2.toArray) hz hTI hTO ⟨h1, p.isList⟩ ⟨h2, p2⟩ (by simp; omega) (by simp; omega) fun x1 x2 h' tk y1 y2 z' TO' st1 st2 hT hsz hk => ?_
    have ex1 : x1 = u := by
      rw [List.getElem?_toArray] at y1
      exact Option.some.inj (y1.symm.trans hu)
    have ex2 : x2 = u2 := by
      rw [List.getElem?_toArray] at y2
      exact Option.some.inj (y2.symm.trans hu2)
    subst ex1 ex2
    refine ⟨_, rfl, wpAny_letOwnedTupleGo_zip (s := { s with heap := h', toks := tk }) z' fun h'' z'' sb => ?_⟩
    have hT2 : h''.get? s.heap.objs.size = some { cls := .type "tuple", data := .seq #[x1, x2] } := (sb.2 _ (Nat.ne_of_gt hzl)).trans hT
    have new : ObjOk X.prog X.w (upd H s.heap.objs.size (.tup [xs[i], ys[i]])) h'' s.heap.objs.size (.tup [xs[i], ys[i]]) :=
      ⟨by show 2 ≤ sizeLine; decide, [x1, x2], .cons ru (.cons ru2 .nil), ⟨_, hT2, rfl, _, rfl⟩⟩
    have I1 : Inv X pins σ (upd H s.heap.objs.size (.tup [xs[i], ys[i]])) { s with heap := h'', toks := tk } :=
      I.turnedNew (t' := tk) (ch := [z, TI, TO, i1, i2]) (fun c o hb q => (sb.2 c (fun q' => hb (by simp [q']))).trans (hk c o (fun q' => hb (by simp [q'])) (fun q' => hb (by simp [q'])) (fun q' => hb (by simp [q'])) (fun q' => hb (by simp [q'])) q)) hf (Nat.le_refl _) new
    refine ⟨.ref s.heap.objs.size, _, I1, rfl, ⟨_, xs[i], ys[i], rfl, I.hok.fresh (Nat.le_refl _), rfl, fun l hl => by rw [I.list_inj hl hqx]; exact List.getElem?_eq_getElem hi1, fun l hl => by rw [I.tuple_inj hl hqy]; exact List.getElem?_eq_getElem hi2⟩, ⟨z'', ?_, ⟨x1, x2, ?_⟩, ?_, ?_⟩, fun c hcm => ?_⟩
    · exact (sb.2 _ D.TIz).trans (hk _ _ D.TIz D.TITO D.TIi1 D.TIi2 hTI)
    · exact (sb.2 _ D.TOz).trans TO'
    · exact st1.1.at fun o q => (sb.2 _ D.i1z).trans q
    · exact st2.1.at fun o q => (sb.2 _ D.i2z).trans q
    · have hlt : c < s.heap.objs.size := by
        have e' : c = z ∨ c = TI ∨ c = TO ∨ c = i1 ∨ c = i2 := by simpa using hcm
        rcases e' with q | q | q | q | q
        · rw [q]; exact hzl
        · rw [q]; exact Heap.lt_size hTI
        · rw [q]; exact Heap.lt_size hTO
        · rw [q]; obtain ⟨_, e1, _⟩ := h1; exact Heap.lt_size e1
        · rw [q]; obtain ⟨_, e2, _⟩ := h2; exact Heap.lt_size e2
      rw [upd_ne (Nat.ne_of_lt hlt)]
      exact (hf c hcm).1
  done := by
    intro X hP hw hK hc i pins s σ H E I hf st hg
    subst hP hw hK
    obtain ⟨hz, hTI, ⟨x0, y0, hTO⟩, h1, h2⟩ := st
    obtain ⟨hlt, xs, ys, hqx, hqy, hn⟩ := hg
    obtain ⟨its, rv, p, _⟩ := I.list hqx
    obtain ⟨its2, rv2, p2, _⟩ := I.tuple hqy
    have l1 := rv.length
    have l2 := rv2.length
    have hh : X.A.in1.handled = none := I.ok.hd hc
    have S : ZipSep2 z TI TO i1 i2 [i1, a] [i2, b] := ⟨D.TIz, D.TOz, D.TITO, D.TIi1, by simp, by simp [D.i1z.symm, D.l1z.symm], by simp [D.TOi1, D.l1TO.symm], D.TIi2, by simp, by simp [D.i2z.symm, D.l2z.symm], by simp [D.TOi2, D.l2TO.symm], by simp [D.i12, e12], by simp [D.i12.symm, e21]⟩
    refine wpAny_pyNext_zipD2_end S (Draws.list hh i1 a e11 its.toArray) (Draws.tuple hh i2 b e22 its2.toArray) hz hTI hTO ⟨h1, p.isList⟩ ⟨h2, p2⟩ (by simp; omega) (by simp; omega) (by simp; omega) fun h' tk hk => ⟨rfl, I.turnedL (t' := tk) (ch := [z, TI, TO, i1, i2]) (fun c o hb q =>
      hk c o (fun q' => hb (by simp [q'])) (fun q' => hb (by simp [q'])) (fun q' => hb (by simp [q'])) (fun q' => hb (by simp [q'])) q) hf⟩
  self := fun A i s Q E st h => wpAny_pyIter_zip st.1 h
def iZipM (K : PySem.W.Frag) (ta : TA) : TI := fun σ H R => ta σ H fun vs H1 => ∃ a b xs ys, vs = [.ref a, .ref b] ∧ SqL K H1 a xs ∧ SqT K H1 b ys ∧ R (ItzM K a b (min xs.length ys.length)) H1
theorem pi_zipM {X : Cx} {e e2 : Expr} {ta : TA} {p pos tpos : Pos} {elts : List Expr} {kk : Nat} (hg : Gl X "zip") (hm : X.mg "zip" = none) (ha : PA X [e, e2] ta)
    (hs : starEach [e, e2] X.env = (false, eval e X.env) :: starEach [e2] X.env := by rfl) (hpl : (backTo pos (starEach [e2] X.env)).any (·.1) = false := by rfl) :
    PI X (.Tuple elts kk tpos) (.Call (.Name "zip" p) [e, e2] [] pos) (iZipM X.K ta) := by
  refine ⟨fun pins s σ H R I h => ?_⟩
  refine Call_ (ld_blt I hg hm PyProof.Rows.boot_zip (PyProof.Rows.callWith_type1 (thn (ha.run pos pins s σ H _ I h) fun us s1 ⟨vs, H1, I1, r1, q1⟩ => ?_) hs hpl))
  obtain ⟨a, b, xs, ys, ex, hqx, hqy, q⟩ := q1
  subst ex
  cases r1 with
  | cons r rr =>
    cases rr with
    | cons r' rr =>
      cases rr
      cases r
      cases r'
      have fresh5 : ∀ c, c ∈ [s1.heap.objs.size + 4, s1.heap.objs.size + 2, s1.heap.objs.size + 3, s1.heap.objs.size, s1.heap.objs.size + 1] → FpOk X pins H1 c := fun c hcm => by
        have hle : s1.heap.objs.size ≤ c := by
          simp only [List.mem_cons, List.not_mem_nil, or_false] at hcm
          rcases hcm with z | z | z | z | z
          · rw [z]; exact Nat.le_add_right _ _
          · rw [z]; exact Nat.le_add_right _ _
          · rw [z]; exact Nat.le_add_right _ _
          · rw [z]; exact Nat.le_refl _
          · rw [z]; exact Nat.le_add_right _ _
        exact I1.fpOk hle (I1.hok.fresh hle)
      obtain ⟨its, rv, p1, _⟩ := I1.list hqx
      obtain ⟨its2, rv2, p2, _⟩ := I1.tuple hqy
      obtain ⟨o2, ho2, _⟩ := id p2
      have la : a < s1.heap.objs.size := p1.lt
      have lb : b < s1.heap.objs.size := Heap.lt_size ho2
      refine zip_begins2 (begins_list a its.toArray) (begins_tuple b its2.toArray) p1.isList (show s1.heap.IsTuple b its2.toArray from p2) fun h' hz hTI hTO h1 h2 hsz hk => wpAny_pyIter_zip hz ?_
      have I2 : Inv X pins σ H1 { s1 with heap := h' } := I1.kept (t' := s1.toks) hk
      exact ⟨s1.heap.objs.size + 4, [s1.heap.objs.size + 4, s1.heap.objs.size + 2, s1.heap.objs.size + 3, s1.heap.objs.size, s1.heap.objs.size + 1], _, _, H1, rfl, I2, turn_zipM (PySem.W.ktu_apart s1.heap.objs.size a b la lb) (Nat.ne_of_gt lb) (Nat.ne_of_gt (Nat.lt_succ_of_lt la)) (Nat.ne_of_lt la) (Nat.ne_of_lt (Nat.lt_succ_of_lt lb)), ⟨hz, hTI, ⟨_, _, hTO⟩, ⟨_, h1, rfl, rfl⟩, ⟨_, h2, rfl, rfl⟩⟩, fresh5, q⟩
theorem walk_zipM {K : PySem.W.Frag} {a b : Addr} {xs ys : List V} {n : Nat} (hn : n = min xs.length ys.length) : Walk (ItzM K a b n) n (fun H => SqL K H a xs ∧ SqT K H b ys) (YPair (fun i => xs[i]?) (fun i => ys[i]?)) :=
  ⟨fun i _ hi q => ⟨hi, xs, ys, q.1, q.2, hn⟩, fun _ q => ⟨rfl, xs, ys, q.1, q.2, hn⟩, fun i H v H' _ q y => by
    obtain ⟨T, x, z, h1, h2, h3, h4, h5⟩ := y
    exact ⟨T, x, z, h1, h2, h3, h4 xs q.1, h5 ys q.2⟩⟩
end Kit
set_option Elab.async false
set_option linter.all false
set_option maxRecDepth 100000
set_option maxHeartbeats 4000000
namespace Kit
open PySem PySem.Spec PyProof.Rows L2 Evl
/-! ### tuples, old or new, by what they hold -/
def EvS (te : TE) (σ : L2.St) (H : Hp) (xs : List V) : Prop := ∀ H1, Ex H H1 → ∀ Q : VK, (∀ b H2, Ex H1 H2 → H2 b = some (.tup xs) → Q (.ref b) H2) → te σ H1 Q
section
variable {K : PySem.W.Frag} {σ : L2.St} {H : Hp} {D : Ends} {ta tb te : TE} {tl th : TO} {tu tz : TS}
theorem es_ofU {xs : List V} (h : EvU te σ H xs) : EvS te σ H xs := fun H1 e Q q => h H1 e _ fun b H2 _ e2 h2 => q b H2 e2 h2
theorem es_of {b : Addr} {xs : List V} (h : Ev te σ H (.ref b)) (hb : H b = some (.tup xs)) : EvS te σ H xs := fun H1 e Q q => h H1 e _ fun H2 e2 => q b H2 e2 (e2 b _ (e b _ hb))
theorem cut_to (xs : List V) {k : Nat} (h : k ≤ xs.length) : cutV xs none (some (k : Int)) = xs.take k := by
  unfold cutV
  rw [HT.sIx_none, HT.sIx_nat, List.drop_zero, Nat.min_eq_left h, Nat.sub_zero]
theorem cut_from (xs : List V) {k : Nat} (h : k ≤ xs.length) : cutV xs (some (k : Int)) none = xs.drop k := by
  unfold cutV
  rw [HT.sIx_none, HT.sIx_nat, Nat.min_eq_left h]
  exact List.take_of_length_le (by rw [List.length_drop]; omega)
theorem es_to {b : Addr} {xs : List V} {k : Nat} (h : Ev ta σ H (.ref b)) (hk : Ev tb σ H (.int (k : Int))) (hb : H b = some (.tup xs)) (hl : k ≤ xs.length) : EvS (tSl (rSlA K) ta tNoPart (tPart tb)) σ H (xs.take k) := fun H1 e Q q =>
  h H1 e _ fun H2 e2 => hk H2 (e.trans e2) _ fun H3 e3 => ⟨(k : Int), rfl, by
    have hb3 := e3 b _ (e2 b _ (e b _ hb))
    refine ⟨b, xs, rfl, st_of hb3, fun w => q b H3 (e2.trans e3) ?_, fun w p hp => q p _ ((e2.trans e3).trans (Ex.new hp)) ?_⟩
    · rw [HT.sIx_none, HT.sIx_nat, Nat.min_eq_left hl] at w
      rw [w.2, List.take_length]
      exact hb3
    · rw [upd_same, cut_to xs hl]⟩
theorem es_from {b : Addr} {xs : List V} {k : Nat} (h : Ev ta σ H (.ref b)) (hk : Ev tb σ H (.int (k : Int))) (hb : H b = some (.tup xs)) (hl : k ≤ xs.length) : EvS (tSl (rSlA K) ta (tPart tb) tNoPart) σ H (xs.drop k) := fun H1 e Q q =>
  h H1 e _ fun H2 e2 => hk H2 (e.trans e2) _ fun H3 e3 => ⟨(k : Int), rfl, by
    have hb3 := e3 b _ (e2 b _ (e b _ hb))
    refine ⟨b, xs, rfl, st_of hb3, fun w => q b H3 (e2.trans e3) ?_, fun w p hp => q p _ ((e2.trans e3).trans (Ex.new hp)) ?_⟩
    · rw [HT.sIx_none, HT.sIx_nat, Nat.min_eq_left hl] at w
      rw [w.1, List.drop_zero]
      exact hb3
    · rw [upd_same, cut_from xs hl]⟩
theorem es_cat {xs ys : List V} (h1 : EvS ta σ H xs) (h2 : EvS tb σ H ys) (hz : xs.length + ys.length ≤ 100000) : EvS (tOp (rCatA K) ta tb) σ H (xs ++ ys) := fun H1 e Q q =>
  h1 H1 e _ fun a H2 e2 ha => h2 H2 (e.trans e2) _ fun b H3 e3 hb => by
    refine ⟨a, b, xs, ys, rfl, rfl, st_of (e3 a _ ha), st_of hb, sz_of hz, fun z => ?_, fun _ z => ?_, fun _ _ p hp => ?_⟩
    · subst z
      exact q b H3 (e2.trans e3) hb
    · subst z
      exact q a H3 (e2.trans e3) (by rw [List.append_nil]; exact e3 a _ ha)
    · exact q p _ ((e2.trans e3).trans (Ex.new hp)) upd_same
theorem q_asgS {i : Nat} {xs : List V} (h : EvS te σ H xs) (k : ∀ b H1, Ex H H1 → H1 b = some (.tup xs) → tz D (σ.set i (some (.ref b))) H1) : tSeq (tAsg te (gName i)) tz D σ H := h H (Ex.refl H) _ fun b H1 e hb => k b H1 e hb
/-- {key: value} -/
theorem q_disp1S {i : Nat} {k : List L2.Key} {v : V} (hk : EvS ta σ H (k.map kV)) (hv : Ev tb σ H v) (kk : ∀ p H1, H p = none → Ex H H1 → H1 p = some (.dT [(k, v)]) → tz D (σ.set i (some (.ref p))) H1) : tSeq (tAsg (tDisp1 ta tb) (gName i)) tz D σ H := fun p hp =>
  hk _ (Ex.new hp) _ fun b H2 e2 hb => hv H2 ((Ex.new hp).trans e2) _ fun H3 e3 => ⟨e3 p _ (e2 p _ upd_same), b, k, rfl, e3 b _ hb, kk p _ hp (fun c o ec => by
    by_cases z : c = p
    · subst z
      rw [hp] at ec
      cases ec
    · rw [upd_ne z]
      exact e3 c _ (e2 c _ (Ex.new hp c _ ec))) upd_same⟩
/-- for i, x in enumerate(a tuple) -/
theorem s_forEnT {ta : TA} {i j : Nat} {a : Addr} {xs : List V} (h : EvA ta σ H [.ref a]) (hx : SqT K H a xs) (Pv : Nat → L2.St → Hp → Prop) (h0 : ∀ H1, Ex H H1 → Pv 0 σ H1) (hl : ∀ k σ' H', k ≤ xs.length → Pv k σ' H' → SqT K H' a xs)
    (hs : ∀ k x σ' H' H2, xs[k]? = some x → Pv k σ' H' → Ex H' H2 → tu { D with nx := Pv (k + 1), ct := Pv (k + 1), bk := D.nx } ((σ'.set i (some (.int (k : Nat)))).set j (some x)) H2) (hd : ∀ σ' H', Pv xs.length σ' H' → D.nx σ' H') :
    tFor (iEnumS K ta) (gTup K 2 (gCons (gName i) (gCons (gName j) gNil))) tu D σ H := h H (Ex.refl H) _ fun H1 e => ⟨a, xs, rfl, .inr ⟨ex_t e hx, by
  refine for_it walk_enumT Pv (h0 H1 e) (fun k σ' H' hk p => hl k σ' H' hk p) ?_ hd
  rintro k v σ' Hh H2 hk p ⟨T, x, y, rfl, nT, rfl, g1, g2⟩
  cases g1
  exact ⟨T, [.int (k : Nat), y], rfl, st_of upd_same, rfl, _, [y], rfl, y, [], rfl, rfl, hs k y σ' Hh _ g2 p (Ex.new nT)⟩⟩⟩
/-- [e for x, y in zip(xs, ys)], xs a list, ys a tuple -/
theorem el_zipM {ta : TA} {i j n : Nat} {vs : List Nat} {a b : Addr} {xs ys : List V} (F : V → V → V) (h : EvA ta σ H [.ref a, .ref b]) (hx : SqL K H a xs) (hy : SqT K H b ys) (hl : n = min xs.length ys.length) (hz : n ≤ 40000)
    (hw : ∀ x y, wipe (((wipe σ vs).set i (some x)).set j (some y)) vs = wipe σ vs)
    (he : ∀ (n : Nat) x y H1, Ex H H1 → xs[n]? = some x → ys[n]? = some y → Ev te (((wipe σ vs).set i (some x)).set j (some y)) H1 (F x y)) :
    EvL (tLc (iZipM K ta) (gTup K 2 (gCons (gName i) (gCons (gName j) gNil))) tYes te vs) σ H (List.zipWith F xs ys) := fun H0 e Q q => h H0 e _ fun H1 e1 => ⟨a, b, xs, ys, rfl, ex_l (e.trans e1) hx, ex_t (e.trans e1) hy, fun Dl hD => by
  subst hl
  refine lc_it (walk_zipM (n := min xs.length ys.length) rfl) (fun n H' => Ex H1 H' ∧ H' Dl = some (.lst ((List.zipWith F xs ys).take n))) ⟨Ex.new hD, upd_same⟩ (fun n H' _ p => ⟨ex_l ((e.trans e1).trans p.1) hx, ex_t ((e.trans e1).trans p.1) hy⟩) ?_ fun H' p => ?_
  · rintro n v Hh H' hn ⟨p1, p2⟩ ⟨T, x, y, rfl, nT, rfl, g1, g2⟩
    have eT : Ex Hh (upd Hh T (.tup [x, y])) := Ex.new nT
    refine ⟨T, [x, y], rfl, st_of upd_same, rfl, x, [y], rfl, y, [], rfl, rfl, hw x y, ?_⟩
    show te _ _ _
    refine he n x y H1 (e.trans e1) g1 g2 _ (p1.trans eT) _ fun H4 e4 => ?_
    have k2 := e4 Dl _ (eT Dl _ p2)
    refine ⟨_, k2, sz_lt (by rw [List.length_take]; omega), Ex.mut (p1.trans (eT.trans e4)) hD, ?_⟩
    rw [upd_same]
    have gz : (List.zipWith F xs ys)[n]? = some (F x y) := by
      rw [List.getElem?_zipWith, show xs[n]? = some x from g1, show ys[n]? = some y from g2]
    rw [List.take_succ, gz]
    rfl
  · obtain ⟨p1, p2⟩ := p
    rw [List.take_of_length_le (by rw [List.length_zipWith]; omega)] at p2
    exact q Dl _ (fresh_back e1 hD) (e1.trans p1) p2⟩
end
end Kit
set_option Elab.async false
set_option linter.all false
set_option maxRecDepth 100000
set_option maxHeartbeats 4000000
namespace Kit
open PySem PySem.Spec PyProof.Rows L2 Evl
/-! ### a slot that holds one of several defs of one promise, called -/
structure Cal (P : Program) (w : World) (K : PySem.W.Frag) (mg : Str → Option Value) (base : Heap) (n : Nat) (f : Addr) (want : Sp) : Prop where
  ex : ∃ (fd : FuncData) (names : List Str), FnOkG P w K mg base n f fd names want ∧ PySem.W.keepIn K (.ref f) = true ∧ Binds K fd names []
section
variable {P : Program} {w : World} {K : PySem.W.Frag} {mg : Str → Option Value} {base : Heap} {n : Nat} {f : Addr} {fd : FuncData} {names : List Str} {want : Sp} {S : Addr → Prop}
theorem gOf (F : FnOk P w K mg base CX0 n f fd names want) : FnOkG P w K mg base n f fd names want := ⟨F.len, fun A fr st H g us xs Q E _ r en b v h => F.run A fr st H g us xs Q E r en b v h⟩
theorem cal_of (F : FnOkG P w K mg base n f fd names want) (hk : PySem.W.keepIn K (.ref f) = true) (hb : Binds K fd names []) : Cal P w K mg base n f want := ⟨⟨fd, names, F, hk, hb⟩⟩
theorem cal_one (c : Cal P w K mg base n f want) : ∀ g, g = f → Cal P w K mg base n g want := fun g e => by
  subst e
  exact c
theorem cal_or (c : Cal P w K mg base n f want) (r : ∀ g, S g → Cal P w K mg base n g want) : ∀ g, (g = f ∨ S g) → Cal P w K mg base n g want := fun g h => h.elim (fun e => by
  subst e
  exact c) (r g)
end
def tCallS (i : Nat) (S : Addr → Prop) (want : Sp) (t : TA) : TE := fun σ H Q => (∃ f, σ[i]? = some (some (.ref f)) ∧ S f) ∧ t σ H fun vs H1 => want vs H1 Q E0
theorem pe_callVS {X : Cx} {n i : Nat} {S : Addr → Prop} {want : Sp} {x : Str} {p pos : Pos} {e : Expr} {es : List Expr} {t : TA} (A : ∀ f, S f → Cal X.prog X.w X.K X.mg X.base n f want) (hg : X.A.guards = some []) (room : Room n X.A) (hN : X.N[i]? = some x) (hv : Vis X.env.scope x)
    (ha : PA X (e :: es) t) (nd : (x == ("__debug__" : Str)) = false := by decide) (ncd : (x == ("__classdict__" : Str)) = false := by decide)
    (one : starEach (e :: es) X.env = (false, eval e X.env) :: starEach es X.env := by rfl) (plain : (backTo pos (starEach es X.env)).any (·.1) = false := by rfl) : PE X (.Call (.Name x p) (e :: es) [] pos) (tCallS i S want t) := by
  refine ⟨fun pins st σ H Q J h => ?_⟩
  obtain ⟨⟨f, hs, hS⟩, ht⟩ := h
  obtain ⟨fd, names, F, keep, bind⟩ := (A f hS).ex
  refine wpAny_Call_Name_kw (thn ((pe_var (pos := p) hN hv nd ncd).run pins st σ H (fun v H1 => v = .ref f ∧ H1 = H) J ⟨.ref f, hs, rfl, rfl⟩) fun u s1 ⟨v, H1, I1, r1, q1⟩ => ?_)
  obtain ⟨rfl, rfl⟩ := q1
  cases r1
  refine PySem.W.callWith_K (h₀ := X.base) J.ok.mod.kin keep (thn (ha.run pos pins s1 σ _ _ I1 ht) fun us st1 ⟨vs, H1, J1, r, q⟩ => ⟨J1.kIn, ?_⟩) one plain
  have size : us.length = names.length := r.length.symm.trans (F.many _ _ _ _ q)
  have bd := bind st1 us J1.kIn (by rw [List.append_nil]; exact size)
  rw [List.append_nil] at bd
  refine wpAny_call (codeAny_mono (F.go X.A X.stack st1 H1 ⟨us, []⟩ us vs Q E0 hg room J1.env0 bd r q) fun res st2 hq => ?_)
  match res, hq with
  | .error _, hq => exact False.elim hq
  | .ok (.ret _), hq => exact J1.after hq
  | .ok .next, hq => exact False.elim hq
  | .ok .brk, hq => exact False.elim hq
  | .ok .cont, hq => exact False.elim hq
end Kit
namespace K22
open PySem PySem.Spec PyProof.Rows L2 Evl Kit
def topS (i : Nat) : Stmt := PySem.Challenge.pw_newtables_k22_events_of_great_halls.main.body.getD i (.Pass ⟨0, 0, 0, 0⟩)
abbrev s_is_whole : Stmt := topS 12
abbrev n_is_whole : List Str := ["thing"]
theorem sc_is_whole : FnScope n_is_whole ["thing"] (defScope s_is_whole) := ⟨rfl, rfl, rfl, by decide +kernel, rfl, by decide +kernel, by decide +kernel⟩
abbrev s_is_within : Stmt := topS 13
abbrev n_is_within : List Str := ["thing", "least", "most"]
theorem sc_is_within : FnScope n_is_within ["thing", "least", "most"] (defScope s_is_within) := ⟨rfl, rfl, rfl, by decide +kernel, rfl, by decide +kernel, by decide +kernel⟩
abbrev s_is_ascending : Stmt := topS 14
abbrev n_is_ascending : List Str := ["thing", "least", "most", "item"]
theorem sc_is_ascending : FnScope n_is_ascending ["thing", "least", "most"] (defScope s_is_ascending) := ⟨rfl, rfl, rfl, by decide +kernel, rfl, by decide +kernel, by decide +kernel⟩
abbrev s_check_guests : Stmt := topS 15
abbrev n_check_guests : List Str := ["guests"]
theorem sc_check_guests : FnScope n_check_guests ["guests"] (defScope s_check_guests) := ⟨rfl, rfl, rfl, by decide +kernel, rfl, by decide +kernel, by decide +kernel⟩
abbrev s_check_weight : Stmt := topS 16
abbrev n_check_weight : List Str := ["weight"]
theorem sc_check_weight : FnScope n_check_weight ["weight"] (defScope s_check_weight) := ⟨rfl, rfl, rfl, by decide +kernel, rfl, by decide +kernel, by decide +kernel⟩
abbrev s_check_guest : Stmt := topS 17
abbrev n_check_guest : List Str := ["guest", "guests"]
theorem sc_check_guest : FnScope n_check_guest ["guest", "guests"] (defScope s_check_guest) := ⟨rfl, rfl, rfl, by decide +kernel, rfl, by decide +kernel, by decide +kernel⟩
abbrev s_check_number : Stmt := topS 18
abbrev n_check_number : List Str := ["number", "least", "most"]
theorem sc_check_number : FnScope n_check_number ["number", "least", "most"] (defScope s_check_number) := ⟨rfl, rfl, rfl, by decide +kernel, rfl, by decide +kernel, by decide +kernel⟩
abbrev s_check_any_number : Stmt := topS 19
abbrev n_check_any_number : List Str := ["number"]
theorem sc_check_any_number : FnScope n_check_any_number ["number"] (defScope s_check_any_number) := ⟨rfl, rfl, rfl, by decide +kernel, rfl, by decide +kernel, by decide +kernel⟩
abbrev s_raised : Stmt := topS 20
abbrev n_raised : List Str := ["base", "times", "total", "_"]
theorem sc_raised : FnScope n_raised ["base", "times"] (defScope s_raised) := ⟨rfl, rfl, rfl, by decide +kernel, rfl, by decide +kernel, by decide +kernel⟩
abbrev s_rising : Stmt := topS 21
abbrev n_rising : List Str := ["weight", "guests", "total", "guest"]
theorem sc_rising : FnScope n_rising ["weight", "guests"] (defScope s_rising) := ⟨rfl, rfl, rfl, by decide +kernel, rfl, by decide +kernel, by decide +kernel⟩
abbrev s_sums_by_tables : Stmt := topS 22
abbrev n_sums_by_tables : List Str := ["factors", "sums", "steep", "even", "part", "less", "more", "one", "other"]
theorem sc_sums_by_tables : FnScope n_sums_by_tables ["factors"] (defScope s_sums_by_tables) := ⟨rfl, rfl, rfl, by decide +kernel, rfl, by decide +kernel, by decide +kernel⟩
abbrev s_sum_at : Stmt := topS 23
abbrev n_sum_at : List Str := ["factors", "number", "sums"]
theorem sc_sum_at : FnScope n_sum_at ["factors", "number"] (defScope s_sum_at) := ⟨rfl, rfl, rfl, by decide +kernel, rfl, by decide +kernel, by decide +kernel⟩
abbrev s_fraction : Stmt := topS 24
abbrev n_fraction : List Str := ["top", "bottom", "common"]
theorem sc_fraction : FnScope n_fraction ["top", "bottom"] (defScope s_fraction) := ⟨rfl, rfl, rfl, by decide +kernel, rfl, by decide +kernel, by decide +kernel⟩
abbrev s_tables_weight : Stmt := topS 26
abbrev n_tables_weight : List Str := ["guests", "weight", "size"]
theorem sc_tables_weight : FnScope n_tables_weight ["guests", "weight", "size"] (defScope s_tables_weight) := ⟨rfl, rfl, rfl, by decide +kernel, rfl, by decide +kernel, by decide +kernel⟩
abbrev s_weight_with_size : Stmt := topS 27
abbrev n_weight_with_size : List Str := ["guests", "weight", "size"]
theorem sc_weight_with_size : FnScope n_weight_with_size ["guests", "weight", "size"] (defScope s_weight_with_size) := ⟨rfl, rfl, rfl, by decide +kernel, rfl, by decide +kernel, by decide +kernel⟩
abbrev s_weights_by_tables : Stmt := topS 29
abbrev n_weights_by_tables : List Str := ["guests", "weight", "guest"]
theorem sc_weights_by_tables : FnScope n_weights_by_tables ["guests", "weight"] (defScope s_weights_by_tables) := ⟨rfl, rfl, rfl, by decide +kernel, rfl, by decide +kernel, by decide +kernel⟩
abbrev s_opener_share : Stmt := topS 31
abbrev n_opener_share : List Str := ["guests", "weight", "guest"]
theorem sc_opener_share : FnScope n_opener_share ["guests", "weight", "guest"] (defScope s_opener_share) := ⟨rfl, rfl, rfl, by decide +kernel, rfl, by decide +kernel, by decide +kernel⟩
abbrev s_count_openers : Stmt := topS 32
abbrev n_count_openers : List Str := ["guests", "group"]
theorem sc_count_openers : FnScope n_count_openers ["guests", "group"] (defScope s_count_openers) := ⟨rfl, rfl, rfl, by decide +kernel, rfl, by decide +kernel, by decide +kernel⟩
abbrev s_openers_share : Stmt := topS 33
abbrev n_openers_share : List Str := ["guests", "weight", "group"]
theorem sc_openers_share : FnScope n_openers_share ["guests", "weight", "group"] (defScope s_openers_share) := ⟨rfl, rfl, rfl, by decide +kernel, rfl, by decide +kernel, by decide +kernel⟩
abbrev s_last_opener_share : Stmt := topS 34
abbrev n_last_opener_share : List Str := ["guests", "weight", "guest", "top", "bottom", "later"]
theorem sc_last_opener_share : FnScope n_last_opener_share ["guests", "weight", "guest"] (defScope s_last_opener_share) := ⟨rfl, rfl, rfl, by decide +kernel, rfl, by decide +kernel, by decide +kernel⟩
abbrev s_rank_share : Stmt := topS 35
abbrev n_rank_share : List Str := ["guests", "weight", "rank", "guest", "former", "ahead"]
theorem sc_rank_share : FnScope n_rank_share ["guests", "weight", "rank", "guest"] (defScope s_rank_share) := ⟨rfl, rfl, rfl, by decide +kernel, rfl, by decide +kernel, by decide +kernel⟩
abbrev s_together_share : Stmt := topS 36
abbrev n_together_share : List Str := ["guests", "weight", "group"]
theorem sc_together_share : FnScope n_together_share ["guests", "weight", "group"] (defScope s_together_share) := ⟨rfl, rfl, rfl, by decide +kernel, rfl, by decide +kernel, by decide +kernel⟩
abbrev s_just_share : Stmt := topS 37
abbrev n_just_share : List Str := ["guests", "weight", "group", "top"]
theorem sc_just_share : FnScope n_just_share ["guests", "weight", "group"] (defScope s_just_share) := ⟨rfl, rfl, rfl, by decide +kernel, rfl, by decide +kernel, by decide +kernel⟩
abbrev s_tables_shares : Stmt := topS 38
abbrev n_tables_shares : List Str := ["guests", "weight", "group", "total", "part"]
theorem sc_tables_shares : FnScope n_tables_shares ["guests", "weight", "group"] (defScope s_tables_shares) := ⟨rfl, rfl, rfl, by decide +kernel, rfl, by decide +kernel, by decide +kernel⟩
abbrev s_split_share : Stmt := topS 39
abbrev n_split_share : List Str := ["guests", "weight", "groups", "top", "group"]
theorem sc_split_share : FnScope n_split_share ["guests", "weight", "groups"] (defScope s_split_share) := ⟨rfl, rfl, rfl, by decide +kernel, rfl, by decide +kernel, by decide +kernel⟩
abbrev s_given_tables : Stmt := topS 40
abbrev n_given_tables : List Str := ["guests", "number", "group", "guest", "others", "top"]
theorem sc_given_tables : FnScope n_given_tables ["guests", "number", "group"] (defScope s_given_tables) := ⟨rfl, rfl, rfl, by decide +kernel, rfl, by decide +kernel, by decide +kernel⟩
abbrev s_home_share : Stmt := topS 41
abbrev n_home_share : List Str := ["guests", "weight", "steps"]
theorem sc_home_share : FnScope n_home_share ["guests", "weight", "steps"] (defScope s_home_share) := ⟨rfl, rfl, rfl, by decide +kernel, rfl, by decide +kernel, by decide +kernel⟩
abbrev s_other_share : Stmt := topS 42
abbrev n_other_share : List Str := ["guests", "weight", "steps", "total"]
theorem sc_other_share : FnScope n_other_share ["guests", "weight", "steps"] (defScope s_other_share) := ⟨rfl, rfl, rfl, by decide +kernel, rfl, by decide +kernel, by decide +kernel⟩
abbrev s_check_group : Stmt := topS 43
abbrev n_check_group : List Str := ["group", "guests"]
theorem sc_check_group : FnScope n_check_group ["group", "guests"] (defScope s_check_group) := ⟨rfl, rfl, rfl, by decide +kernel, rfl, by decide +kernel, by decide +kernel⟩
abbrev s_check_openers : Stmt := topS 44
abbrev n_check_openers : List Str := ["group", "guests"]
theorem sc_check_openers : FnScope n_check_openers ["group", "guests"] (defScope s_check_openers) := ⟨rfl, rfl, rfl, by decide +kernel, rfl, by decide +kernel, by decide +kernel⟩
abbrev s_check_groups : Stmt := topS 45
abbrev n_check_groups : List Str := ["groups", "guests"]
theorem sc_check_groups : FnScope n_check_groups ["groups", "guests"] (defScope s_check_groups) := ⟨rfl, rfl, rfl, by decide +kernel, rfl, by decide +kernel, by decide +kernel⟩
abbrev s_are_groups : Stmt := topS 46
abbrev n_are_groups : List Str := ["thing", "guests", "group", "guest", "members"]
theorem sc_are_groups : FnScope n_are_groups ["thing", "guests"] (defScope s_are_groups) := ⟨rfl, rfl, rfl, by decide +kernel, rfl, by decide +kernel, by decide +kernel⟩
abbrev s_ways_of_openers : Stmt := topS 47
abbrev n_ways_of_openers : List Str := ["guests", "group", "ways", "guest"]
theorem sc_ways_of_openers : FnScope n_ways_of_openers ["guests", "group"] (defScope s_ways_of_openers) := ⟨rfl, rfl, rfl, by decide +kernel, rfl, by decide +kernel, by decide +kernel⟩
abbrev s_table_weight : Stmt := topS 48
abbrev n_table_weight : List Str := ["weight", "group"]
theorem sc_table_weight : FnScope n_table_weight ["weight", "group"] (defScope s_table_weight) := ⟨rfl, rfl, rfl, by decide +kernel, rfl, by decide +kernel, by decide +kernel⟩
abbrev s_home_weight : Stmt := topS 49
abbrev n_home_weight : List Str := ["guests", "weight", "steps", "size", "sizes"]
theorem sc_home_weight : FnScope n_home_weight ["guests", "weight", "steps"] (defScope s_home_weight) := ⟨rfl, rfl, rfl, by decide +kernel, rfl, by decide +kernel, by decide +kernel⟩
abbrev s_law_store : Stmt := topS 51
abbrev n_law_store : List Str := ["script", "k", "cell"]
theorem sc_law_store : FnScope n_law_store ["script", "k"] (defScope s_law_store) := ⟨rfl, rfl, rfl, by decide +kernel, rfl, by decide +kernel, by decide +kernel⟩
abbrev s_law_pick : Stmt := topS 52
abbrev n_law_pick : List Str := ["store", "bound", "digit", "mixed"]
theorem sc_law_pick : FnScope n_law_pick ["store", "bound"] (defScope s_law_pick) := ⟨rfl, rfl, rfl, by decide +kernel, rfl, by decide +kernel, by decide +kernel⟩
abbrev s_law_lowest : Stmt := topS 53
abbrev n_law_lowest : List Str := ["top", "bottom", "one", "two"]
theorem sc_law_lowest : FnScope n_law_lowest ["top", "bottom"] (defScope s_law_lowest) := ⟨rfl, rfl, rfl, by decide +kernel, rfl, by decide +kernel, by decide +kernel⟩
abbrev s_law_rising : Stmt := topS 54
abbrev n_law_rising : List Str := ["base", "many_here", "found", "turn"]
theorem sc_law_rising : FnScope n_law_rising ["base", "many_here"] (defScope s_law_rising) := ⟨rfl, rfl, rfl, by decide +kernel, rfl, by decide +kernel, by decide +kernel⟩
abbrev s_law_heavy : Stmt := topS 55
abbrev n_law_heavy : List Str := ["store"]
theorem sc_law_heavy : FnScope n_law_heavy ["store"] (defScope s_law_heavy) := ⟨rfl, rfl, rfl, by decide +kernel, rfl, by decide +kernel, by decide +kernel⟩
abbrev s_law_gang : Stmt := topS 56
abbrev n_law_gang : List Str := ["store", "many_here", "who", "found"]
theorem sc_law_gang : FnScope n_law_gang ["store", "many_here"] (defScope s_law_gang) := ⟨rfl, rfl, rfl, by decide +kernel, rfl, by decide +kernel, by decide +kernel⟩
abbrev s_law_parts : Stmt := topS 57
abbrev n_law_parts : List Str := ["parts", "top", "bottom", "one", "two"]
theorem sc_law_parts : FnScope n_law_parts ["parts"] (defScope s_law_parts) := ⟨rfl, rfl, rfl, by decide +kernel, rfl, by decide +kernel, by decide +kernel⟩
abbrev s_law_row : Stmt := topS 58
abbrev n_law_row : List Str := ["heavy", "many_here", "row", "who", "part", "opened", "one", "two"]
theorem sc_law_row : FnScope n_law_row ["heavy", "many_here"] (defScope s_law_row) := ⟨rfl, rfl, rfl, by decide +kernel, rfl, by decide +kernel, by decide +kernel⟩
abbrev s_law_open_right : Stmt := topS 59
abbrev n_law_open_right : List Str := ["store", "many_here", "heavy", "who", "whole", "gang", "top", "many_ways", "near", "told", "last", "place", "ranks", "row", "part", "due"]
theorem sc_law_open_right : FnScope n_law_open_right ["store", "many_here", "heavy"] (defScope s_law_open_right) := ⟨rfl, rfl, rfl, by decide +kernel, rfl, by decide +kernel, by decide +kernel⟩
abbrev s_law_group_right : Stmt := topS 60
abbrev n_law_group_right : List Str := ["store", "many_here", "heavy", "gang", "whole", "size_here", "row", "told", "part", "top", "ways", "every", "who", "one", "two", "place"]
theorem sc_law_group_right : FnScope n_law_group_right ["store", "many_here", "heavy"] (defScope s_law_group_right) := ⟨rfl, rfl, rfl, by decide +kernel, rfl, by decide +kernel, by decide +kernel⟩
abbrev s_law_split_right : Stmt := topS 61
abbrev n_law_split_right : List Str := ["store", "many_here", "heavy", "left", "lots", "top", "come", "gang", "turn"]
theorem sc_law_split_right : FnScope n_law_split_right ["store", "many_here", "heavy"] (defScope s_law_split_right) := ⟨rfl, rfl, rfl, by decide +kernel, rfl, by decide +kernel, by decide +kernel⟩
abbrev s_law_steps_right : Stmt := topS 62
abbrev n_law_steps_right : List Str := ["store", "many_here", "heavy", "far", "whole", "size_here", "ways", "turn", "every", "due"]
theorem sc_law_steps_right : FnScope n_law_steps_right ["store", "many_here", "heavy"] (defScope s_law_steps_right) := ⟨rfl, rfl, rfl, by decide +kernel, rfl, by decide +kernel, by decide +kernel⟩
abbrev s_law : Stmt := topS 63
abbrev n_law : List Str := ["script", "k", "store", "top", "many_here", "heavy", "right", "every", "told"]
theorem sc_law : FnScope n_law ["script"] (defScope s_law) := ⟨rfl, rfl, rfl, by decide +kernel, rfl, by decide +kernel, by decide +kernel⟩
/-! what the top has written -/
structure Tx (K : PySem.W.Frag) (mg : Str → Option Value) where
  f_is_whole : Addr
  d_is_whole : FuncData
  F_is_whole : Fun K "is_whole" "is_whole" s_is_whole f_is_whole d_is_whole
  g_is_whole : mg "is_whole" = some (.ref f_is_whole)
  b_is_whole : Binds K d_is_whole ["thing"] []
  f_is_within : Addr
  d_is_within : FuncData
  F_is_within : Fun K "is_within" "is_within" s_is_within f_is_within d_is_within
  g_is_within : mg "is_within" = some (.ref f_is_within)
  b_is_within : Binds K d_is_within ["thing", "least", "most"] []
  f_is_ascending : Addr
  d_is_ascending : FuncData
  F_is_ascending : Fun K "is_ascending" "is_ascending" s_is_ascending f_is_ascending d_is_ascending
  g_is_ascending : mg "is_ascending" = some (.ref f_is_ascending)
  b_is_ascending : Binds K d_is_ascending ["thing", "least", "most"] []
  f_check_guests : Addr
  d_check_guests : FuncData
  F_check_guests : Fun K "check_guests" "check_guests" s_check_guests f_check_guests d_check_guests
  g_check_guests : mg "check_guests" = some (.ref f_check_guests)
  b_check_guests : Binds K d_check_guests ["guests"] []
  f_check_weight : Addr
  d_check_weight : FuncData
  F_check_weight : Fun K "check_weight" "check_weight" s_check_weight f_check_weight d_check_weight
  g_check_weight : mg "check_weight" = some (.ref f_check_weight)
  b_check_weight : Binds K d_check_weight ["weight"] []
  f_check_guest : Addr
  d_check_guest : FuncData
  F_check_guest : Fun K "check_guest" "check_guest" s_check_guest f_check_guest d_check_guest
  g_check_guest : mg "check_guest" = some (.ref f_check_guest)
  b_check_guest : Binds K d_check_guest ["guest", "guests"] []
  f_check_number : Addr
  d_check_number : FuncData
  F_check_number : Fun K "check_number" "check_number" s_check_number f_check_number d_check_number
  g_check_number : mg "check_number" = some (.ref f_check_number)
  b_check_number : Binds K d_check_number ["number", "least", "most"] []
  f_check_any_number : Addr
  d_check_any_number : FuncData
  F_check_any_number : Fun K "check_any_number" "check_any_number" s_check_any_number f_check_any_number d_check_any_number
  g_check_any_number : mg "check_any_number" = some (.ref f_check_any_number)
  b_check_any_number : Binds K d_check_any_number ["number"] []
  f_raised : Addr
  d_raised : FuncData
  F_raised : Fun K "raised" "raised" s_raised f_raised d_raised
  g_raised : mg "raised" = some (.ref f_raised)
  b_raised : Binds K d_raised ["base", "times"] []
  f_rising : Addr
  d_rising : FuncData
  F_rising : Fun K "rising" "rising" s_rising f_rising d_rising
  g_rising : mg "rising" = some (.ref f_rising)
  b_rising : Binds K d_rising ["weight", "guests"] []
  f_sums_by_tables : Addr
  d_sums_by_tables : FuncData
  F_sums_by_tables : Fun K "sums_by_tables" "sums_by_tables" s_sums_by_tables f_sums_by_tables d_sums_by_tables
  g_sums_by_tables : mg "sums_by_tables" = some (.ref f_sums_by_tables)
  b_sums_by_tables : Binds K d_sums_by_tables ["factors"] []
  f_sum_at : Addr
  d_sum_at : FuncData
  F_sum_at : Fun K "sum_at" "sum_at" s_sum_at f_sum_at d_sum_at
  g_sum_at : mg "sum_at" = some (.ref f_sum_at)
  b_sum_at : Binds K d_sum_at ["factors", "number"] []
  f_fraction : Addr
  d_fraction : FuncData
  F_fraction : Fun K "fraction" "fraction" s_fraction f_fraction d_fraction
  g_fraction : mg "fraction" = some (.ref f_fraction)
  b_fraction : Binds K d_fraction ["top", "bottom"] []
  f_tables_weight : Addr
  d_tables_weight : FuncData
  F_tables_weight : Fun K "tables_weight" "tables_weight" s_tables_weight f_tables_weight d_tables_weight
  g_tables_weight : mg "tables_weight" = some (.ref f_tables_weight)
  b_tables_weight : Binds K d_tables_weight ["guests", "weight", "size"] []
  f_weight_with_size : Addr
  d_weight_with_size : FuncData
  F_weight_with_size : Fun K "weight_with_size" "weight_with_size" s_weight_with_size f_weight_with_size d_weight_with_size
  g_weight_with_size : mg "weight_with_size" = some (.ref f_weight_with_size)
  b_weight_with_size : Binds K d_weight_with_size ["guests", "weight", "size"] []
  f_weights_by_tables : Addr
  d_weights_by_tables : FuncData
  F_weights_by_tables : Fun K "weights_by_tables" "weights_by_tables" s_weights_by_tables f_weights_by_tables d_weights_by_tables
  g_weights_by_tables : mg "weights_by_tables" = some (.ref f_weights_by_tables)
  b_weights_by_tables : Binds K d_weights_by_tables ["guests", "weight"] []
  f_opener_share : Addr
  d_opener_share : FuncData
  F_opener_share : Fun K "opener_share" "opener_share" s_opener_share f_opener_share d_opener_share
  g_opener_share : mg "opener_share" = some (.ref f_opener_share)
  b_opener_share : Binds K d_opener_share ["guests", "weight", "guest"] []
  f_count_openers : Addr
  d_count_openers : FuncData
  F_count_openers : Fun K "count_openers" "count_openers" s_count_openers f_count_openers d_count_openers
  g_count_openers : mg "count_openers" = some (.ref f_count_openers)
  b_count_openers : Binds K d_count_openers ["guests", "group"] []
  f_openers_share : Addr
  d_openers_share : FuncData
  F_openers_share : Fun K "openers_share" "openers_share" s_openers_share f_openers_share d_openers_share
  g_openers_share : mg "openers_share" = some (.ref f_openers_share)
  b_openers_share : Binds K d_openers_share ["guests", "weight", "group"] []
  f_last_opener_share : Addr
  d_last_opener_share : FuncData
  F_last_opener_share : Fun K "last_opener_share" "last_opener_share" s_last_opener_share f_last_opener_share d_last_opener_share
  g_last_opener_share : mg "last_opener_share" = some (.ref f_last_opener_share)
  b_last_opener_share : Binds K d_last_opener_share ["guests", "weight", "guest"] []
  f_rank_share : Addr
  d_rank_share : FuncData
  F_rank_share : Fun K "rank_share" "rank_share" s_rank_share f_rank_share d_rank_share
  g_rank_share : mg "rank_share" = some (.ref f_rank_share)
  b_rank_share : Binds K d_rank_share ["guests", "weight", "rank", "guest"] []
  f_together_share : Addr
  d_together_share : FuncData
  F_together_share : Fun K "together_share" "together_share" s_together_share f_together_share d_together_share
  g_together_share : mg "together_share" = some (.ref f_together_share)
  b_together_share : Binds K d_together_share ["guests", "weight", "group"] []
  f_just_share : Addr
  d_just_share : FuncData
  F_just_share : Fun K "just_share" "just_share" s_just_share f_just_share d_just_share
  g_just_share : mg "just_share" = some (.ref f_just_share)
  b_just_share : Binds K d_just_share ["guests", "weight", "group"] []
  f_tables_shares : Addr
  d_tables_shares : FuncData
  F_tables_shares : Fun K "tables_shares" "tables_shares" s_tables_shares f_tables_shares d_tables_shares
  g_tables_shares : mg "tables_shares" = some (.ref f_tables_shares)
  b_tables_shares : Binds K d_tables_shares ["guests", "weight", "group"] []
  f_split_share : Addr
  d_split_share : FuncData
  F_split_share : Fun K "split_share" "split_share" s_split_share f_split_share d_split_share
  g_split_share : mg "split_share" = some (.ref f_split_share)
  b_split_share : Binds K d_split_share ["guests", "weight", "groups"] []
  f_given_tables : Addr
  d_given_tables : FuncData
  F_given_tables : Fun K "given_tables" "given_tables" s_given_tables f_given_tables d_given_tables
  g_given_tables : mg "given_tables" = some (.ref f_given_tables)
  b_given_tables : Binds K d_given_tables ["guests", "number", "group"] []
  f_home_share : Addr
  d_home_share : FuncData
  F_home_share : Fun K "home_share" "home_share" s_home_share f_home_share d_home_share
  g_home_share : mg "home_share" = some (.ref f_home_share)
  b_home_share : Binds K d_home_share ["guests", "weight", "steps"] []
  f_other_share : Addr
  d_other_share : FuncData
  F_other_share : Fun K "other_share" "other_share" s_other_share f_other_share d_other_share
  g_other_share : mg "other_share" = some (.ref f_other_share)
  b_other_share : Binds K d_other_share ["guests", "weight", "steps"] []
  f_check_group : Addr
  d_check_group : FuncData
  F_check_group : Fun K "check_group" "check_group" s_check_group f_check_group d_check_group
  g_check_group : mg "check_group" = some (.ref f_check_group)
  b_check_group : Binds K d_check_group ["group", "guests"] []
  f_check_openers : Addr
  d_check_openers : FuncData
  F_check_openers : Fun K "check_openers" "check_openers" s_check_openers f_check_openers d_check_openers
  g_check_openers : mg "check_openers" = some (.ref f_check_openers)
  b_check_openers : Binds K d_check_openers ["group", "guests"] []
  f_check_groups : Addr
  d_check_groups : FuncData
  F_check_groups : Fun K "check_groups" "check_groups" s_check_groups f_check_groups d_check_groups
  g_check_groups : mg "check_groups" = some (.ref f_check_groups)
  b_check_groups : Binds K d_check_groups ["groups", "guests"] []
  f_are_groups : Addr
  d_are_groups : FuncData
  F_are_groups : Fun K "are_groups" "are_groups" s_are_groups f_are_groups d_are_groups
  g_are_groups : mg "are_groups" = some (.ref f_are_groups)
  b_are_groups : Binds K d_are_groups ["thing", "guests"] []
  f_ways_of_openers : Addr
  d_ways_of_openers : FuncData
  F_ways_of_openers : Fun K "ways_of_openers" "ways_of_openers" s_ways_of_openers f_ways_of_openers d_ways_of_openers
  g_ways_of_openers : mg "ways_of_openers" = some (.ref f_ways_of_openers)
  b_ways_of_openers : Binds K d_ways_of_openers ["guests", "group"] []
  f_table_weight : Addr
  d_table_weight : FuncData
  F_table_weight : Fun K "table_weight" "table_weight" s_table_weight f_table_weight d_table_weight
  g_table_weight : mg "table_weight" = some (.ref f_table_weight)
  b_table_weight : Binds K d_table_weight ["weight", "group"] []
  f_home_weight : Addr
  d_home_weight : FuncData
  F_home_weight : Fun K "home_weight" "home_weight" s_home_weight f_home_weight d_home_weight
  g_home_weight : mg "home_weight" = some (.ref f_home_weight)
  b_home_weight : Binds K d_home_weight ["guests", "weight", "steps"] []
  f_law_store : Addr
  d_law_store : FuncData
  F_law_store : Fun K "_law_store" "_law_store" s_law_store f_law_store d_law_store
  g_law_store : mg "_law_store" = some (.ref f_law_store)
  b_law_store : Binds K d_law_store ["script", "k"] []
  f_law_pick : Addr
  d_law_pick : FuncData
  F_law_pick : Fun K "_law_pick" "_law_pick" s_law_pick f_law_pick d_law_pick
  g_law_pick : mg "_law_pick" = some (.ref f_law_pick)
  b_law_pick : Binds K d_law_pick ["store", "bound"] []
  f_law_lowest : Addr
  d_law_lowest : FuncData
  F_law_lowest : Fun K "_law_lowest" "_law_lowest" s_law_lowest f_law_lowest d_law_lowest
  g_law_lowest : mg "_law_lowest" = some (.ref f_law_lowest)
  b_law_lowest : Binds K d_law_lowest ["top", "bottom"] []
  f_law_rising : Addr
  d_law_rising : FuncData
  F_law_rising : Fun K "_law_rising" "_law_rising" s_law_rising f_law_rising d_law_rising
  g_law_rising : mg "_law_rising" = some (.ref f_law_rising)
  b_law_rising : Binds K d_law_rising ["base", "many_here"] []
  f_law_heavy : Addr
  d_law_heavy : FuncData
  F_law_heavy : Fun K "_law_heavy" "_law_heavy" s_law_heavy f_law_heavy d_law_heavy
  g_law_heavy : mg "_law_heavy" = some (.ref f_law_heavy)
  b_law_heavy : Binds K d_law_heavy ["store"] []
  f_law_gang : Addr
  d_law_gang : FuncData
  F_law_gang : Fun K "_law_gang" "_law_gang" s_law_gang f_law_gang d_law_gang
  g_law_gang : mg "_law_gang" = some (.ref f_law_gang)
  b_law_gang : Binds K d_law_gang ["store", "many_here"] []
  f_law_parts : Addr
  d_law_parts : FuncData
  F_law_parts : Fun K "_law_parts" "_law_parts" s_law_parts f_law_parts d_law_parts
  g_law_parts : mg "_law_parts" = some (.ref f_law_parts)
  b_law_parts : Binds K d_law_parts ["parts"] []
  f_law_row : Addr
  d_law_row : FuncData
  F_law_row : Fun K "_law_row" "_law_row" s_law_row f_law_row d_law_row
  g_law_row : mg "_law_row" = some (.ref f_law_row)
  b_law_row : Binds K d_law_row ["heavy", "many_here"] []
  f_law_open_right : Addr
  d_law_open_right : FuncData
  F_law_open_right : Fun K "_law_open_right" "_law_open_right" s_law_open_right f_law_open_right d_law_open_right
  g_law_open_right : mg "_law_open_right" = some (.ref f_law_open_right)
  b_law_open_right : Binds K d_law_open_right ["store", "many_here", "heavy"] []
  f_law_group_right : Addr
  d_law_group_right : FuncData
  F_law_group_right : Fun K "_law_group_right" "_law_group_right" s_law_group_right f_law_group_right d_law_group_right
  g_law_group_right : mg "_law_group_right" = some (.ref f_law_group_right)
  b_law_group_right : Binds K d_law_group_right ["store", "many_here", "heavy"] []
  f_law_split_right : Addr
  d_law_split_right : FuncData
  F_law_split_right : Fun K "_law_split_right" "_law_split_right" s_law_split_right f_law_split_right d_law_split_right
  g_law_split_right : mg "_law_split_right" = some (.ref f_law_split_right)
  b_law_split_right : Binds K d_law_split_right ["store", "many_here", "heavy"] []
  f_law_steps_right : Addr
  d_law_steps_right : FuncData
  F_law_steps_right : Fun K "_law_steps_right" "_law_steps_right" s_law_steps_right f_law_steps_right d_law_steps_right
  g_law_steps_right : mg "_law_steps_right" = some (.ref f_law_steps_right)
  b_law_steps_right : Binds K d_law_steps_right ["store", "many_here", "heavy"] []
  f_law : Addr
  d_law : FuncData
  F_law : Fun K "law" "law" s_law f_law d_law
  g_law : mg "law" = some (.ref f_law)
  b_law : Binds K d_law ["script"] []
  m_abs : mg "abs" = none
  m_all : mg "all" = none
  m_int : mg "int" = none
  m_len : mg "len" = none
  m_list : mg "list" = none
  m_max : mg "max" = none
  m_min : mg "min" = none
  m_range : mg "range" = none
  m_repr : mg "repr" = none
  m_set : mg "set" = none
  m_sorted : mg "sorted" = none
  m_sum : mg "sum" = none
  m_type : mg "type" = none
  m_zip : mg "zip" = none
  c_MOST_GUESTS : ∃ u, mg "MOST_GUESTS" = some u ∧ RelV (.int 20) u
  c_MOST_WEIGHT : ∃ u, mg "MOST_WEIGHT" = some u ∧ RelV (.int 1000000000000) u
  i_factorial : mg "factorial" = some (.builtin "math.factorial")
  i_gcd : mg "gcd" = some (.builtin "math.gcd")
  i_perm : mg "perm" = some (.builtin "math.perm")
/-! readings that go by themselves -/
local macro_rules | `(tactic| walk_at "side") => `(tactic| first | with_reducible assumption | with_reducible rfl | omega | decide | (constructor <;> first | assumption | omega | decide))
local macro_rules | `(tactic| walk_at "ev") => `(tactic| first
  | ((with_reducible refine' ev_var ?e1); (case e1 => rfl))
  | (with_reducible exact ev_c)
  | ((with_reducible refine' ev_op ?e1 ?e2 rv_I0); (case e1 => walk_at "ev"); (case e2 => walk_at "ev"))
  | ((with_reducible refine' ev_op ?e1 ?e2 (rv_I ?e3)); (case e1 => walk_at "ev"); (case e2 => walk_at "ev"); (case e3 => walk_at "side"))
  | ((with_reducible refine' ev_op ?e1 ?e2 (rv_eq ?e3)); (case e1 => walk_at "ev"); (case e2 => walk_at "ev"); (case e3 => rfl))
  | ((with_reducible refine' ev_op ?e1 ?e2 (rv_ne ?e3)); (case e1 => walk_at "ev"); (case e2 => walk_at "ev"); (case e3 => rfl))
  | ((with_reducible refine' ev_op ?e1 ?e2 (rv_ixL ?e3 ?e4)); (case e1 => walk_at "ev"); (case e2 => walk_at "ev"); (case e3 => walk_at "sq"); (case e4 => walk_at "at"))
  | ((with_reducible refine' ev_op ?e1 ?e2 (rv_ixT ?e3 ?e4)); (case e1 => walk_at "ev"); (case e2 => walk_at "ev"); (case e3 => walk_at "sq"); (case e4 => walk_at "at"))
  | ((with_reducible refine' ev_op ?e1 ?e2 rv_isN); (case e1 => walk_at "ev"); (case e2 => walk_at "ev"))
  | ((with_reducible refine' ev_op ?e1 ?e2 rv_notN); (case e1 => walk_at "ev"); (case e2 => walk_at "ev"))
  | ((with_reducible refine' ev_op ?e1 ?e2 (rv_eqTy ?e3 ?e4)); (case e1 => walk_at "ev"); (case e2 => walk_at "ev"); (case e3 => exact PySem.TypeEq.meta_int); (case e4 => exact PySem.TypeEq.meta_int))
  | ((with_reducible refine' ev_un ?e1 ru_neg); (case e1 => walk_at "ev"))
  | ((with_reducible refine' ev_intI ?e1); (case e1 => walk_at "ev"))
  | ((with_reducible refine' ev_intB ?e1); (case e1 => walk_at "ev"))
  | ((with_reducible refine' ev_typeI ?e1); (case e1 => walk_at "ev"))
  | ((with_reducible refine' ev_abs ?e1); (case e1 => walk_at "ev"))
  | ((with_reducible refine' ev_max2 ?e1 ?e2); (case e1 => walk_at "ev"); (case e2 => walk_at "ev"))
  | ((with_reducible refine' ev_min2 ?e1 ?e2); (case e1 => walk_at "ev"); (case e2 => walk_at "ev"))
  | ((with_reducible refine' ev_gcd ?e1 ?e2); (case e1 => walk_at "ev"); (case e2 => walk_at "ev"))
  | ((with_reducible refine' ev_len ?e1 ?e2); (case e1 => walk_at "ev"); (case e2 => walk_at "sq"))
  | ((with_reducible refine' ev_chainI ?e1 ?e2 ?e3); (case e1 => walk_at "ev"); (case e2 => walk_at "ev"); (case e3 => walk_at "ev"))
  | ((with_reducible refine' ev_chain3I ?e1 ?e2 ?e3 ?e4); (case e1 => walk_at "ev"); (case e2 => walk_at "ev"); (case e3 => walk_at "ev"); (case e4 => walk_at "ev"))
  | ((with_reducible refine' ev_notV ?e1); (case e1 => walk_at "ev"))
  | ((with_reducible refine' ev_andV ?e1 ?e2); (case e1 => walk_at "ev"); (case e2 => (intro _; walk_at "ev")))
  | ((with_reducible refine' ev_orV ?e1 ?e2); (case e1 => walk_at "ev"); (case e2 => (intro _; walk_at "ev")))
  | ((with_reducible refine' ev_if ?e1 ?e2 ?e3); (case e1 => walk_at "et"); (case e2 => (intro _; walk_at "ev")); (case e3 => (intro _; walk_at "ev")))
  | ((with_reducible refine' ev_call ?e1 ?e2); (case e1 => walk_at "ea"); (case e2 => walk_at "call")))
local macro_rules | `(tactic| walk_at "ea") => `(tactic| first
  | (with_reducible exact ea_nil)
  | ((with_reducible refine' ea_cons ?e1 ?e2); (case e1 => walk_at "ev"); (case e2 => walk_at "ea")))
local macro_rules | `(tactic| walk_at "et") => `(tactic| first
  | ((with_reducible refine' et_test ?e1); (case e1 => walk_at "ev"))
  | ((with_reducible refine' et_B ?e1); (case e1 => walk_at "ev"))
  | ((with_reducible refine' et_not ?e1); (case e1 => walk_at "et"))
  | ((with_reducible refine' et_and ?e1 ?e2); (case e1 => walk_at "et"); (case e2 => (intro _; walk_at "et")))
  | ((with_reducible refine' et_or ?e1 ?e2); (case e1 => walk_at "et"); (case e2 => (intro _; walk_at "et"))))
local macro_rules | `(tactic| walk_at "eu") => `(tactic| first
  | ((with_reducible refine' eu_tup ?e1 ?e2); (case e1 => walk_at "ea"); (case e2 => exact Nat.le_of_ble_eq_true rfl))
  | ((with_reducible refine' eu_call ?e1 ?e2); (case e1 => walk_at "ea"); (case e2 => walk_at "callU")))
local macro_rules | `(tactic| walk_at "el") => `(tactic| first
  | ((with_reducible refine' el_call ?e1 ?e2); (case e1 => walk_at "ea"); (case e2 => walk_at "callL"))
  | ((with_reducible refine' el_lst ?e1 ?e2); (case e1 => walk_at "ea"); (case e2 => exact Nat.le_of_ble_eq_true rfl)))
local macro_rules | `(tactic| walk_at "sq") => `(tactic| first | assumption | exact sq_of (by assumption) | exact st_of (by assumption))
local macro_rules | `(tactic| walk_at "at") => `(tactic| first | assumption | rfl | (apply atI_nat; rfl))
local macro_rules | `(tactic| walk_at "call") => `(tactic| assumption)

/-! ### the pouch -/
/-- H without p -/
def Hm (p : Addr) (H : Hp) : Hp := fun b => if b = p then none else H b
theorem hm_p {p : Addr} {H : Hp} : Hm p H p = none := if_pos rfl
theorem hm_sub {p : Addr} {H : Hp} : Ex (Hm p H) H := fun a o h => by
  unfold Hm at h
  split at h
  · cases h
  · exact h
theorem hm_mono {p : Addr} {H H' : Hp} (e : Ex H H') : Ex (Hm p H) (Hm p H') := fun a o h => by
  unfold Hm at h ⊢
  split at h
  · cases h
  · rename_i ne
    rw [if_neg ne]
    exact e a o h
theorem ex_hm {p : Addr} {H0 H : Hp} (e : Ex H0 H) (h : H0 p = none) : Ex H0 (Hm p H) := fun a o ha => by
  unfold Hm
  rw [if_neg (ne_of_none ha h)]
  exact e a o ha
/-- a pouch after at most n mixed draws -/
def Po (p : Addr) (n : Nat) (H : Hp) : Prop := ∃ a b c : Int, H p = some (.lst [.int a, .int b, .int c]) ∧ (0 ≤ b ∧ b < 2 ^ 200) ∧ 0 ≤ c ∧ c ≤ n
theorem Po.ex {p : Addr} {n : Nat} {H H' : Hp} (h : Po p n H) (e : Ex H H') : Po p n H' := by
  obtain ⟨a, b, c, h1, h2⟩ := h
  exact ⟨a, b, c, e p _ h1, h2⟩
theorem Po.mono {p : Addr} {n m : Nat} {H : Hp} (h : Po p n H) (e : n ≤ m) : Po p m H := by
  obtain ⟨a, b, c, h1, h2, h3, h4⟩ := h
  exact ⟨a, b, c, h1, h2, h3, by omega⟩
theorem pow3_ok {i : Int} (h : i.natAbs < 2 ^ 250) : CPowX i 3 := by
  have := PyProof.Rows.intBits_le h
  unfold CPowX
  omega
theorem divw_ok {i j : Int} (h : 0 < j) (hb : j < 2 ^ 200) : CDivW i j := wide_div (b := 200) h (by omega) (by decide) (by decide)
theorem mulk_ok {i j : Int} (h : i.natAbs < 2 ^ 100000) (hb : j.natAbs < 2 ^ 100000) : CMulX i j := mulx_ok h hb (by decide)
def sp_law_store (K : PySem.W.Frag) : Sp := fun vs H Q _ => ∃ (s : Addr) (ns : List Int) (i : Nat), vs = [.ref s, .int (i : Int)] ∧ SqL K H s (ns.map V.int) ∧ i ≤ 100 ∧ ∀ p H', H p = none → Ex H H' → Po p 0 H' → Q (.ref p) H'
def sp_law_pick : Sp := fun vs H Q _ => ∃ (p : Addr) (n : Nat) (w : Int), vs = [.ref p, .int w] ∧ Po p n H ∧ n < 1000000000 ∧ 0 < w ∧ w < 2 ^ 200 ∧
  ∀ r H', 0 ≤ r → r < w → Po p (n + 1) H' → Ex (Hm p H) H' → Q (.int r) H'
section
variable {P : Program} {w : World} {K : PySem.W.Frag} {mg : Str → Option Value} {base : Heap}
theorem ok_law_pick (T : Tx K mg) : FnOk P w K mg base CX0 1 T.f_law_pick T.d_law_pick ["store", "bound"] sp_law_pick := by
  refine T.F_law_pick.ok sc_law_pick (fun vs H Q E h => ?_) (fun cdv A outer s H vs Q E hr h => ?_)
  · obtain ⟨p, n, w, rfl, _⟩ := h
    rfl
  · obtain ⟨p, n, w, rfl, ⟨a, b, c, hp, ⟨hb0, hb1⟩, hc0, hc1⟩, hn, hw0, hw1, k⟩ := h
    refine ⟨_, (pss_cons (ps_if (pt_cmpR op_gt (pe_ix ix_list (pv 0) pe_int (fun _ _ => rfl)) pe_int (nomark _)) (pss_cons (ps_set (i := 2) sc_law_pick.nd rfl (Or.inl rfl) (pe_op op_mod (pe_callTy call_intI (by rfl) T.m_int (by decide +kernel) (pa_cons (pe_ix ix_list (pv 0) pe_int (fun _ _ => rfl)) pa_nil)) (pv 1)))
      (pss_cons (ps_asg (pe_op op_fdivW (pe_ix ix_list (pv 0) pe_int (fun _ _ => rfl)) (pv 1)) (pg_sub (pv 0) pe_int set_list))
      (pss_one (ps_ret (pv 2))))) pss_nil)
      (pss_cons (ps_asg (pe_op op_add (pe_ix ix_list (pv 0) pe_int (fun _ _ => rfl)) pe_int) (pg_sub (pv 0) pe_int set_list))
      (pss_cons (ps_set (i := 3) sc_law_pick.nd rfl (Or.inl rfl) (pe_op op_mod (pe_callTy call_intI (by rfl) T.m_int (by decide +kernel) (pa_cons (pe_op op_powX (pe_op op_add (pe_ix ix_list (pv 0) pe_int (fun _ _ => rfl)) (pe_op op_mulX pe_int (pe_ix ix_list (pv 0) pe_int (fun _ _ => rfl)))) pe_int) pa_nil)) (pe_op op_add (pe_op op_powX pe_int pe_int) pe_int)))
      (pss_cons (ps_set (i := 3) sc_law_pick.nd rfl (Or.inl rfl) (pe_op op_mod (pe_callTy call_intI (by rfl) T.m_int (by decide +kernel) (pa_cons (pe_op op_powX (pe_op op_add (pv 3) (pe_op op_mulX pe_int (pe_ix ix_list (pv 0) pe_int (fun _ _ => rfl)))) pe_int) pa_nil)) (pe_op op_add (pe_op op_powX pe_int pe_int) pe_int)))
      (pss_one (ps_ret (pe_op op_mod (pe_callTy call_intI (by rfl) T.m_int (by decide +kernel) (pa_cons (pe_op op_fdivW (pv 3) pe_int) pa_nil)) (pv 1)))))))), ?_⟩
    have hp0 : Hm p H p = none := hm_p
    refine q_when (by walk_at "et") (fun hb H1 e1 => ?_) (fun hb H1 e1 => ?_)
    · have hp1 := e1 p _ hp
      refine q_asg (by walk_at "ev") fun H2 e2 => ?_
      have hp2 := e2 p _ hp1
      have hd : CDivW a w := divw_ok hw0 hw1
      refine q_setL (j := 0) hp2 (by walk_at "ev") (by walk_at "ev") ev_c (by show 0 < 3; decide) fun H3 e3 => ?_
      refine s_ret (by walk_at "ev") fun H4 e4 => ?_
      refine k _ _ (Int.emod_nonneg _ (by omega)) (Int.emod_lt_of_pos _ hw0) ⟨a / w, b, c, e4 p _ upd_same, ⟨hb0, hb1⟩, hc0, by omega⟩ ?_
      exact Ex.trans (Ex.mut (hm_sub.trans (e1.trans (e2.trans e3))) hp0) e4
    · have hp1 := e1 p _ hp
      refine q_setL (j := 2) hp1 (by walk_at "ev") (by walk_at "ev") ev_c (by show 2 < 3; decide) fun H2 e2 => ?_
      have hp2 : ∀ H3, Ex (upd H2 p (.lst ([V.int a, .int b, .int c].set 2 (.int (c + 1))))) H3 → H3 p = some (.lst [.int a, .int b, .int (c + 1)]) := fun H3 e => e p _ upd_same
      have hq := hp2 _ (Ex.refl _)
      have hm1 : CMulX 32416187567 (c + 1) := mulx_ok (a := 64) (b := 64) (by decide) (by omega) (by decide)
      have hw1' : CPowX (b + 32416187567 * (c + 1)) 3 := pow3_ok (by omega)
      have hw2 : CPowX 10 40 := ⟨by decide, by decide +kernel⟩
      refine q_asg (by walk_at "ev") fun H3 e3 => ?_
      have hq3 := hp2 _ e3
      have hm2 : CMulX 27644437 (c + 1) := mulx_ok (a := 64) (b := 64) (by decide) (by omega) (by decide)
      generalize hz : (b + 32416187567 * (c + 1)) ^ (3 : Int).toNat % ((10 : Int) ^ (40 : Int).toNat + 121) = z
      have hz0 : 0 ≤ z := by
        rw [← hz]
        exact Int.emod_nonneg _ (by decide)
      have hz1 : z < (10 : Int) ^ (40 : Int).toNat + 121 := by
        rw [← hz]
        exact Int.emod_lt_of_pos _ (by decide)
      have hz2 : z < 2 ^ 200 := Int.lt_trans hz1 (by decide)
      have hw3 : CPowX (z + 27644437 * (c + 1)) 3 := pow3_ok (by omega)
      have hw4 : CPowX 10 39 := ⟨by decide, by decide +kernel⟩
      refine q_asg (by walk_at "ev") fun H4 e4 => ?_
      generalize (z + 27644437 * (c + 1)) ^ (3 : Int).toNat % ((10 : Int) ^ (39 : Int).toNat + 3) = y
      have hd : CDivW y 16381 := divw_ok (by decide) (by decide)
      refine s_ret (by walk_at "ev") fun H5 e5 => ?_
      refine k _ _ (Int.emod_nonneg _ (by omega)) (Int.emod_lt_of_pos _ hw0) ⟨a, b, c + 1, hp2 _ (e3.trans (e4.trans e5)), ⟨hb0, hb1⟩, by omega, by omega⟩ ?_
      exact Ex.trans (Ex.mut (hm_sub.trans (e1.trans e2)) hp0) (e3.trans (e4.trans e5))
theorem ok_law_store (T : Tx K mg) : FnOk P w K mg base CX0 1 T.f_law_store T.d_law_store ["script", "k"] (sp_law_store K) := by
  refine T.F_law_store.ok sc_law_store (fun vs H Q E h => ?_) (fun cdv A outer s H vs Q E hr h => ?_)
  · obtain ⟨a, ns, i, rfl, _⟩ := h
    rfl
  · obtain ⟨a, ns, i, rfl, hs, hi, k⟩ := h
    refine ⟨_, (pss_cons (ps_set (i := 2) sc_law_store.nd rfl (Or.inl rfl) (pe_ifExp (pt_cmpR op_lt (pv 1) (pe_callB call_lenR (by rfl) T.m_len (by decide +kernel) (pa_cons (pv 0) pa_nil)) (nomark _)) (pe_callB call_absR (by rfl) T.m_abs (by decide +kernel) (pa_cons (pe_ix ix_list (pv 0) (pv 1) (fun _ _ => rfl)) pa_nil)) pe_int))
      (pss_one (ps_ret (pe_lst (pa_cons (pe_callB (call_maxR rfl) (by rfl) T.m_max (by decide +kernel) (pa_cons pe_int (pa_cons (pe_op op_sub (pv 2) (pe_op op_powX pe_int pe_int)) pa_nil))) (pa_cons (pe_op op_add (pe_op op_mulX (pe_op op_mod (pe_callTy call_intI (by rfl) T.m_int (by decide +kernel) (pa_cons (pv 2) pa_nil)) (pe_op op_add (pe_op op_powX pe_int pe_int) pe_int)) pe_int) (pe_op op_mulX pe_int (pv 1))) (pa_cons pe_int pa_nil))))))), ?_⟩
    have hlen : (ns.map V.int).length = ns.length := List.length_map ..
    refine q_asg (v := .int (if ns.getD i 0 < 0 then -(ns.getD i 0) else ns.getD i 0)) ?_ fun H1 e1 => ?_
    · refine ev_if (b := decide ((i : Int) < ((ns.map V.int).length : Int))) (by walk_at "et") (fun hb => ?_) (fun hb => ?_)
      · have hb := of_decide_eq_true hb
        rw [hlen] at hb
        have hlt : i < ns.length := by omega
        refine ev_abs (ev_op (ev_var rfl) (ev_var rfl) (rv_ixL hs (atI_nat (j := i) ?_)))
        rw [List.getElem?_map, List.getElem?_eq_getElem hlt]
        simp [List.getD_eq_getElem?_getD, hlt]
      · have hb := of_decide_eq_false hb
        rw [hlen] at hb
        have e0 : ns.getD i 0 = 0 := by
          rw [List.getD_eq_getElem?_getD, List.getElem?_eq_none (by omega)]
          rfl
        rw [e0]
        exact ev_c (v := .int 0)
    · generalize (if ns.getD i 0 < 0 then -(ns.getD i 0) else ns.getD i 0) = z
      have hw1 : CPowX 10 18 := ⟨by decide, by decide +kernel⟩
      have hw2 : CPowX 10 37 := ⟨by decide, by decide +kernel⟩
      have hy0 : 0 ≤ z % ((10 : Int) ^ (37 : Int).toNat + 43) := Int.emod_nonneg _ (by decide)
      have hy1 : z % ((10 : Int) ^ (37 : Int).toNat + 43) < (10 : Int) ^ (37 : Int).toNat + 43 := Int.emod_lt_of_pos _ (by decide)
      have hy2 : z % ((10 : Int) ^ (37 : Int).toNat + 43) < 2 ^ 150 := Int.lt_trans hy1 (by decide)
      have hpos : 0 < (10 : Int) ^ (37 : Int).toNat + 43 := by decide
      have hm1 : CMulX (z % ((10 : Int) ^ (37 : Int).toNat + 43)) 83 := mulx_ok (a := 150) (b := 64) (by omega) (by decide) (by decide)
      have hm2 : CMulX 7 (i : Int) := mulx_ok (a := 64) (b := 64) (by decide) (by omega) (by decide)
      refine s_retL (el_lst (ea_cons (by walk_at "ev") (ea_cons (by walk_at "ev") (ea_cons ev_c ea_nil))) (Nat.le_of_ble_eq_true rfl)) fun p H2 hp e2 hl => ?_
      refine k p H2 (fresh_back e1 hp) (e1.trans e2) ⟨_, _, _, hl, ⟨?_, ?_⟩, by omega, by omega⟩
      · generalize z % ((10 : Int) ^ (37 : Int).toNat + 43) = y at hy0 hy2 ⊢
        omega
      · generalize z % ((10 : Int) ^ (37 : Int).toNat + 43) = y at hy0 hy2 ⊢
        omega
end

/-! ### expressions that draw -/
theorem hm_trans {p : Addr} {H H1 H2 : Hp} (a : Ex (Hm p H) H1) (b : Ex (Hm p H1) H2) : Ex (Hm p H) H2 := fun x o h => by
  have ne : x ≠ p := fun z => by
    subst z
    rw [hm_p] at h
    cases h
  have h1 := a x o h
  refine b x o ?_
  unfold Hm
  rw [if_neg ne]
  exact h1
theorem hm_next {p : Addr} {H0 H H1 : Hp} (h0 : H0 p = none) (e : Ex H0 H) (s : Ex (Hm p H) H1) : Ex H0 H1 := (ex_hm e h0).trans s
theorem hm_of {p : Addr} {H H1 : Hp} (e : Ex H H1) : Ex (Hm p H) H1 := hm_sub.trans e
theorem hm_at {p a : Addr} {H H1 : Hp} {o : HO} (s : Ex (Hm p H) H1) (ne : a ≠ p) (h : H a = some o) : H1 a = some o := s a o (by
  unfold Hm
  rw [if_neg ne]
  exact h)
theorem Po.ne {p l : Addr} {n : Nat} {H : Hp} (h : Po p n H) (hl : H l = none) : l ≠ p := fun z => by
  subst z
  obtain ⟨_, _, _, h1, _⟩ := h
  rw [hl] at h1
  cases h1
def EvP (p : Addr) (k : Nat) (te : TE) (σ : L2.St) (H0 : Hp) (R : V → Hp → Prop) : Prop := ∀ n H1, Ex H0 H1 → Po p n H1 → n + k ≤ 1000000000 →
  ∀ Q : VK, (∀ v H2, R v H2 → Po p (n + k) H2 → Ex (Hm p H1) H2 → Q v H2) → te σ H1 Q
def Stb (p : Addr) (R : V → Hp → Prop) : Prop := ∀ v H H', R v H → Ex (Hm p H) H' → R v H'
section
variable {K : PySem.W.Frag} {σ : L2.St} {H0 H : Hp} {p : Addr} {k k1 k2 : Nat} {te ta tb : TE} {R Ra Rb : V → Hp → Prop}
theorem ep_ev {v : V} (h : Ev te σ H0 v) : EvP p 0 te σ H0 (fun x _ => x = v) := fun n H1 e hp _ Q q => h H1 e Q fun H2 e2 => q v H2 rfl (hp.ex e2) (hm_of e2)
theorem ep_L {xs : List V} (h : EvL te σ H0 xs) : EvP p 0 te σ H0 (fun x H => ∃ l, l ≠ p ∧ x = .ref l ∧ H l = some (.lst xs)) := fun n H1 e hp _ Q q => h H1 e Q fun l H2 hl e2 h2 => q _ H2 ⟨l, hp.ne hl, rfl, h2⟩ (hp.ex e2) (hm_of e2)
theorem stb_L {xs : List V} : Stb p (fun x H => ∃ l, l ≠ p ∧ x = .ref l ∧ H l = some (.lst xs)) := fun v H H' ⟨l, ne, e, h⟩ s => ⟨l, ne, e, hm_at s ne h⟩
theorem stb_c {C : V → Prop} : Stb p (fun x _ => C x) := fun _ _ _ h _ => h
theorem ep_op {r : R2} (h0 : H0 p = none) (ha : EvP p k1 ta σ H0 Ra) (hb : EvP p k2 tb σ H0 Rb) (s1 : Stb p Ra) (s : Stb p R) (hr : ∀ x y H, Ra x H → Rb y H → ∃ z, R z H ∧ RV r x y H z) : EvP p (k1 + k2) (tOp r ta tb) σ H0 R :=
  fun n H1 e hp hn Q q => ha n H1 e hp (by omega) _ fun x H2 hx p2 e2 => hb (n + k1) H2 (hm_next h0 e e2) p2 (by omega) _ fun y H3 hy p3 e3 => by
    obtain ⟨z, hz, hv⟩ := hr x y H3 (s1 x H2 H3 hx e3) hy
    refine hv H3 (Ex.refl H3) Q fun H4 e4 => q z H4 (s z H3 H4 hz (hm_of e4)) ?_ (hm_trans (hm_trans e2 e3) (hm_of e4))
    rw [← Nat.add_assoc]
    exact p3.ex e4
theorem ep_dip {tw : TE} {E : XK} {C : Int → Prop} (h0 : H0 p = none) (hp : Ev ta σ H0 (.ref p)) (hw : EvP p k tw σ H0 (fun v _ => ∃ w, v = .int w ∧ 0 < w ∧ w < 2 ^ 200 ∧ C w)) :
    EvP p (k + 1) (tCall sp_law_pick [] E (tCons ta (tCons tw tNil))) σ H0 (fun v _ => ∃ r w, v = .int r ∧ 0 ≤ r ∧ r < w ∧ C w) :=
  fun n H1 e hpo hn Q q => hp H1 e _ fun H2 e2 => hw n H2 (e.trans e2) (hpo.ex e2) (by omega) _ fun y H3 hy p3 e3 => by
    obtain ⟨w, rfl, w0, w1, c⟩ := hy
    exact ⟨p, n + k, w, rfl, p3, by omega, w0, w1, fun r H' r0 r1 p4 e4 => q _ H' ⟨r, w, rfl, r0, r1, c⟩ p4 (hm_trans (hm_trans (hm_of e2) e3) e4)⟩
theorem ep_is {R' : V → Hp → Prop} (h : EvP p k te σ H0 R) (e : ∀ v H, R v H → R' v H) : EvP p k te σ H0 R' := fun n H1 a b c Q q => h n H1 a b c Q fun v H2 hv => q v H2 (e v H2 hv)
/-- the width is a pure int -/
theorem ep_dipI {tw : TE} {E : XK} {w : Int} (h0 : H0 p = none) (hp : Ev ta σ H0 (.ref p)) (hw : Ev tw σ H0 (.int w)) (w0 : 0 < w) (w1 : w < 2 ^ 200) :
    EvP p 1 (tCall sp_law_pick [] E (tCons ta (tCons tw tNil))) σ H0 (fun v _ => ∃ r, v = .int r ∧ 0 ≤ r ∧ r < w) :=
  ep_is (ep_dip (k := 0) (C := fun z => z = w) h0 hp (ep_is (ep_ev hw) fun v H e => ⟨w, e, w0, w1, rfl⟩)) fun v H ⟨r, z, e, r0, r1, e2⟩ => ⟨r, e, r0, e2 ▸ r1⟩
/-- a + b, b drawn -/
theorem ep_add {a : Int} {C : Int → Prop} (h0 : H0 p = none) (ha : Ev ta σ H0 (.int a)) (hb : EvP p k tb σ H0 (fun v _ => ∃ r, v = .int r ∧ C r)) : EvP p (0 + k) (tOp (rI0 fun i j => .int (i + j)) ta tb) σ H0 (fun v _ => ∃ r, v = .int (a + r) ∧ C r) :=
  ep_op h0 (ep_ev ha) hb stb_c stb_c fun x y H e ⟨r, e2, c⟩ => ⟨.int (a + r), ⟨r, rfl, c⟩, by
    subst e
    subst e2
    exact rv_I0⟩
theorem p_asg {i n : Nat} {D : Ends} (h : EvP p k te σ H0 R) (e : Ex H0 H) (hp : Po p n H) (hn : n + k ≤ 1000000000) (q : ∀ v H2, R v H2 → Po p (n + k) H2 → Ex (Hm p H) H2 → D.nx (σ.set i (some v)) H2) : tAsg te (gName i) D σ H := h n H e hp hn _ q
theorem pq_asg {i n : Nat} {D : Ends} {tz : TS} (h : EvP p k te σ H0 R) (e : Ex H0 H) (hp : Po p n H) (hn : n + k ≤ 1000000000) (q : ∀ v H2, R v H2 → Po p (n + k) H2 → Ex (Hm p H) H2 → tz D (σ.set i (some v)) H2) : tSeq (tAsg te (gName i)) tz D σ H := h n H e hp hn _ q
/-- tests that draw -/
def EtP (p : Addr) (k : Nat) (t : TT) (σ : L2.St) (H0 : Hp) (b : Bool) : Prop := ∀ n H1, Ex H0 H1 → Po p n H1 → n + k ≤ 1000000000 →
  ∀ Q : Bool → Hp → Prop, (∀ H2, Po p (n + k) H2 → Ex (Hm p H1) H2 → Q b H2) → t σ H1 Q
variable {t u : TT} {b c : Bool}
theorem tp_B (h : EvP p k te σ H0 (fun v _ => v = .bl b)) : EtP p k (tB te) σ H0 b := fun n H1 e hp hn Q q => h n H1 e hp hn _ fun v H2 hv p2 e2 => ⟨b, hv, q H2 p2 e2⟩
theorem tp_not (h : EtP p k t σ H0 b) : EtP p k (tNot t) σ H0 (!b) := fun n H1 e hp hn Q q => h n H1 e hp hn _ fun H2 p2 e2 => q H2 p2 e2
theorem tp_is (h : EtP p k t σ H0 b) (e : b = c) : EtP p k t σ H0 c := e ▸ h
theorem tp_or (h0 : H0 p = none) (h : EtP p k1 t σ H0 false) (h' : EtP p k2 u σ H0 b) : EtP p (k1 + k2) (tOr t u) σ H0 b := fun n H1 e hp hn Q q => h n H1 e hp (by omega) _ fun H2 p2 e2 => by
  show u σ H2 Q
  refine h' (n + k1) H2 (hm_next h0 e e2) p2 (by omega) Q fun H3 p3 e3 => q H3 ?_ (hm_trans e2 e3)
  rw [← Nat.add_assoc]
  exact p3
theorem tp_et (h : EvT t σ H0 b) : EtP p 0 t σ H0 b := fun n H1 e hp _ Q q => h H1 e Q fun H2 e2 => q H2 (hp.ex e2) (hm_of e2)
/-- a test that is false: what follows -/
theorem pq_no {n : Nat} {D : Ends} {tu tz : TS} (h : EtP p k t σ H0 false) (e : Ex H0 H) (hp : Po p n H) (hn : n + k ≤ 1000000000) (q : ∀ H2, Po p (n + k) H2 → Ex (Hm p H) H2 → tz D σ H2) : tSeq (tIfS t tu tNext) tz D σ H := h n H e hp hn _ q
theorem ps_no {n : Nat} {D : Ends} {tu : TS} (h : EtP p k t σ H0 false) (e : Ex H0 H) (hp : Po p n H) (hn : n + k ≤ 1000000000) (q : ∀ H2, Po p (n + k) H2 → Ex (Hm p H) H2 → D.nx σ H2) : tIfS t tu tNext D σ H := h n H e hp hn _ q
/-- pouch = _law_store(script, at) -/
theorem pq_pouch {ta : TA} {E : XK} {D : Ends} {tz : TS} {j i : Nat} {s : Addr} {ns : List Int} (h : EvA ta σ H [.ref s, .int (i : Int)]) (hs : SqL K H s (ns.map V.int)) (hi : i ≤ 100) (q : ∀ p H2, H p = none → Ex H H2 → Po p 0 H2 → tz D (σ.set j (some (.ref p))) H2) :
    tSeq (tAsg (tCall (sp_law_store K) [] E ta) (gName j)) tz D σ H := h H (Ex.refl H) _ fun H1 e1 => ⟨s, ns, i, rfl, ex_l e1 hs, hi, fun p H2 hp e2 hpo => q p H2 (fresh_back e1 hp) (e1.trans e2) hpo⟩
end

def iz (xs : List Nat) : List Int := xs.map fun x : Nat => (x : Int)
def nv (xs : List Nat) : List V := (iz xs).map V.int
theorem nv_len (xs : List Nat) : (nv xs).length = xs.length := by simp [nv, iz]
theorem nv_get {xs : List Nat} {i x : Nat} (h : xs[i]? = some x) : (nv xs)[i]? = some (.int x) := by simp [nv, iz, h]
theorem nv_app (xs ys : List Nat) : nv (xs ++ ys) = nv xs ++ nv ys := by simp [nv, iz]
theorem nv_eq (xs : List Nat) : nv xs = xs.map fun x : Nat => V.int (x : Int) := by simp [nv, iz]
def sp_is_whole : Sp := fun vs H Q _ => ∃ x : Int, vs = [.int x] ∧ RetV (.bl true) H Q
theorem sv_whole {H : Hp} {x : Int} : SpV sp_is_whole ([.int x] ++ []) H (.bl true) := fun H1 _ Q q E => ⟨x, rfl, q⟩
section
variable {P : Program} {w : World} {K : PySem.W.Frag} {mg : Str → Option Value} {base : Heap}
theorem ok_is_whole (T : Tx K mg) : FnOk P w K mg base CX0 1 T.f_is_whole T.d_is_whole ["thing"] sp_is_whole := by
  refine T.F_is_whole.ok sc_is_whole (fun vs H Q E h => ?_) (fun cdv A outer s H vs Q E hr h => ?_)
  · obtain ⟨x, rfl, _⟩ := h
    rfl
  · obtain ⟨x, rfl, k⟩ := h
    refine ⟨_, (pss_one (ps_ret (pe_cmpR op_eqTy (pe_typeOf (by rfl) T.m_type (pv 0)) (pe_bltn (v := .ty "int") (by rfl) T.m_int (by decide +kernel) rfl) (nomark _)))), ?_⟩
    refine s_ret (by walk_at "ev") fun H1 e1 => ?_
    rw [show decide (("int" : String) = "int") = true from decide_eq_true rfl]
    exact k _ e1
end

section
variable {P : Program} {w : World} {K : PySem.W.Frag} {mg : Str → Option Value} {base : Heap}
local macro_rules | `(tactic| walk_at "call") => `(tactic| (with_reducible exact sv_whole))
def sp_is_within : Sp := fun vs H Q _ => ∃ x l m : Int, vs = [.int x, .int l, .int m] ∧ RetV (.bl (decide (l ≤ x) && decide (x ≤ m))) H Q
theorem sv_between {H : Hp} {x l m : Int} : SpV sp_is_within ([.int x, .int l, .int m] ++ []) H (.bl (decide (l ≤ x) && decide (x ≤ m))) := fun H1 _ Q q E => ⟨x, l, m, rfl, q⟩
theorem ok_is_within (T : Tx K mg) : FnOk P w K mg base CX0 2 T.f_is_within T.d_is_within ["thing", "least", "most"] sp_is_within := by
  refine T.F_is_within.ok sc_is_within (fun vs H Q E h => ?_) (fun cdv A outer s H vs Q E hr h => ?_)
  · obtain ⟨x, l, m, rfl, _⟩ := h
    rfl
  · obtain ⟨x, l, m, rfl, k⟩ := h
    refine ⟨_, (pss_one (ps_ret (pe_and (pe_call (ok_is_whole T) (hr.mono (by decide)) (by rfl) T.g_is_whole T.F_is_whole.kp T.b_is_whole .nil pass0 (pa_cons (pv 0) pa_nil)) (pe_one (pe_chain op_le op_le (pv 1) (pv 0) (pv 2)))))), ?_⟩
    refine s_ret (by walk_at "ev") fun H1 e1 => ?_
    exact k _ e1
local macro_rules | `(tactic| walk_at "call") => `(tactic| (with_reducible exact sv_between))
def sp_check1 (lo hi : Int) : Sp := fun vs H Q _ => ∃ x : Int, vs = [.int x] ∧ lo ≤ x ∧ x ≤ hi ∧ RetV .non H Q
theorem sv_check1 {H : Hp} {lo hi x : Int} (h0 : lo ≤ x) (h1 : x ≤ hi) : SpV (sp_check1 lo hi) ([.int x] ++ []) H .non := fun H1 _ Q q E => ⟨x, rfl, h0, h1, q⟩
theorem ok_check_guests (T : Tx K mg) : FnOk P w K mg base CX0 3 T.f_check_guests T.d_check_guests ["guests"] (sp_check1 1 20) := by
  refine T.F_check_guests.ok sc_check_guests (fun vs H Q E h => ?_) (fun cdv A outer s H vs Q E hr h => ?_)
  · obtain ⟨x, rfl, _⟩ := h
    rfl
  · obtain ⟨x, rfl, h0, h1, k⟩ := h
    refine ⟨_, (pss_one (ps_if (pt_not (pt_val (pe_call (ok_is_within T) (hr.mono (by decide)) (by rfl) T.g_is_within T.F_is_within.kp T.b_is_within .nil pass0 (pa_cons (pv 0) (pa_cons pe_int (pa_cons (pe_gc (by rfl) T.c_MOST_GUESTS) pa_nil)))))) (pss_one ps_never) pss_nil)), ?_⟩
    refine s_when (by walk_at "et") (fun hb H1 e1 => ?_) fun hb H1 e1 => k _ e1
    rw [decide_eq_true h0, decide_eq_true h1] at hb
    cases hb
theorem ok_check_weight (T : Tx K mg) : FnOk P w K mg base CX0 3 T.f_check_weight T.d_check_weight ["weight"] (sp_check1 1 1000000000000) := by
  refine T.F_check_weight.ok sc_check_weight (fun vs H Q E h => ?_) (fun cdv A outer s H vs Q E hr h => ?_)
  · obtain ⟨x, rfl, _⟩ := h
    rfl
  · obtain ⟨x, rfl, h0, h1, k⟩ := h
    refine ⟨_, (pss_one (ps_if (pt_not (pt_val (pe_call (ok_is_within T) (hr.mono (by decide)) (by rfl) T.g_is_within T.F_is_within.kp T.b_is_within .nil pass0 (pa_cons (pv 0) (pa_cons pe_int (pa_cons (pe_gc (by rfl) T.c_MOST_WEIGHT) pa_nil)))))) (pss_one ps_never) pss_nil)), ?_⟩
    refine s_when (by walk_at "et") (fun hb H1 e1 => ?_) fun hb H1 e1 => k _ e1
    rw [decide_eq_true h0, decide_eq_true h1] at hb
    cases hb
def sp_check_number : Sp := fun vs H Q _ => ∃ x lo hi : Int, vs = [.int x, .int lo, .int hi] ∧ lo ≤ x ∧ x ≤ hi ∧ RetV .non H Q
theorem sv_check_number {H : Hp} {lo hi x : Int} (h0 : lo ≤ x) (h1 : x ≤ hi) : SpV sp_check_number ([.int x, .int lo, .int hi] ++ []) H .non := fun H1 _ Q q E => ⟨x, lo, hi, rfl, h0, h1, q⟩
theorem ok_check_number (T : Tx K mg) : FnOk P w K mg base CX0 3 T.f_check_number T.d_check_number ["number", "least", "most"] sp_check_number := by
  refine T.F_check_number.ok sc_check_number (fun vs H Q E h => ?_) (fun cdv A outer s H vs Q E hr h => ?_)
  · obtain ⟨x, lo, hi, rfl, _⟩ := h
    rfl
  · obtain ⟨x, lo, hi, rfl, h0, h1, k⟩ := h
    refine ⟨_, (pss_one (ps_if (pt_not (pt_val (pe_call (ok_is_within T) (hr.mono (by decide)) (by rfl) T.g_is_within T.F_is_within.kp T.b_is_within .nil pass0 (pa_cons (pv 0) (pa_cons (pv 1) (pa_cons (pv 2) pa_nil)))))) (pss_one ps_never) pss_nil)), ?_⟩
    refine s_when (by walk_at "et") (fun hb H1 e1 => ?_) fun hb H1 e1 => k _ e1
    rw [decide_eq_true h0, decide_eq_true h1] at hb
    cases hb
local macro_rules | `(tactic| walk_at "call") => `(tactic| ((with_reducible refine' sv_check1 ?c1 ?c2); (case c1 => walk_at "side"); (case c2 => walk_at "side")))
local macro_rules | `(tactic| walk_at "call") => `(tactic| ((with_reducible refine' sv_check_number ?c1 ?c2); (case c1 => walk_at "side"); (case c2 => walk_at "side")))
/-! ### fraction -/
def cd (a b : Int) : Int := ((Nat.gcd a.natAbs b.natAbs : Nat) : Int)
theorem cd_pos {a b : Int} (h : 0 < b) : 0 < cd a b := by
  unfold cd
  have := Nat.gcd_pos_of_pos_right a.natAbs (show 0 < b.natAbs by omega)
  omega
theorem cd_le {a b : Int} (h : 0 < b) : cd a b ≤ b := by
  unfold cd
  have := Nat.le_of_dvd (show 0 < b.natAbs by omega) (Nat.gcd_dvd_right a.natAbs b.natAbs)
  omega
theorem cd_dvd1 {a b : Int} : cd a b ∣ a := Int.ofNat_dvd_left.mpr (Nat.gcd_dvd_left a.natAbs b.natAbs)
theorem cd_dvd2 {a b : Int} : cd a b ∣ b := Int.ofNat_dvd_left.mpr (Nat.gcd_dvd_right a.natAbs b.natAbs)
def sp_fraction : Sp := fun vs H Q _ => ∃ a b : Int, vs = [.int a, .int b] ∧ 0 < b ∧ b.natAbs < 2 ^ 8000 ∧ RetU [.int (a / cd a b), .int (b / cd a b)] H Q
theorem su_fraction {H : Hp} {a b : Int} (h0 : 0 < b) (h1 : b.natAbs < 2 ^ 8000) : SpU sp_fraction ([.int a, .int b] ++ []) H [.int (a / cd a b), .int (b / cd a b)] := fun H1 _ Q q E => ⟨a, b, rfl, h0, h1, q⟩
theorem ok_fraction (T : Tx K mg) : FnOk P w K mg base CX0 1 T.f_fraction T.d_fraction ["top", "bottom"] sp_fraction := by
  refine T.F_fraction.ok sc_fraction (fun vs H Q E h => ?_) (fun cdv A outer s H vs Q E hr h => ?_)
  · obtain ⟨a, b, rfl, _⟩ := h
    rfl
  · obtain ⟨a, b, rfl, h0, h1, k⟩ := h
    refine ⟨_, (pss_cons (ps_set (i := 2) sc_fraction.nd rfl (Or.inl rfl) (pe_callBfun cr_gcd (by rfl) T.i_gcd (pa_cons (pv 0) (pa_cons (pv 1) pa_nil))))
      (pss_one (ps_ret (pe_tup (pa_cons (pe_op op_fdivW (pv 0) (pv 2)) (pa_cons (pe_op op_fdivW (pv 1) (pv 2)) pa_nil)))))), ?_⟩
    refine q_asg (by walk_at "ev") fun H1 e1 => ?_
    have hd : ∀ x : Int, CDivW x (cd a b) := fun x => wide_div (cd_pos h0) (Nat.lt_of_le_of_lt (by have := cd_le (a := a) h0; have := cd_pos (a := a) h0; omega) h1) (by decide) (by decide)
    have hd1 := hd a
    have hd2 := hd b
    refine s_retU (by walk_at "eu") fun p H2 hp e2 h2 => k p H2 (fresh_back e1 hp) (e1.trans e2) h2
local macro_rules | `(tactic| walk_at "callU") => `(tactic| ((with_reducible refine' su_fraction ?c1 ?c2); (case c1 => walk_at "side"); (case c2 => walk_at "side")))
end

/-! ### rising products -/
def rise (w : Int) : Nat → Int
  | 0 => 1
  | n + 1 => rise w n * (w + n)
theorem rise_pos {w : Int} (h : 1 ≤ w) : ∀ n, 0 < rise w n
  | 0 => by
    show (0 : Int) < 1
    decide
  | n + 1 => Int.mul_pos (rise_pos h n) (by omega)

local macro_rules | `(tactic| walk_at "call") => `(tactic| (with_reducible exact sv_whole))
local macro_rules | `(tactic| walk_at "call") => `(tactic| (with_reducible exact sv_between))
local macro_rules | `(tactic| walk_at "call") => `(tactic| ((with_reducible refine' sv_check1 ?c1 ?c2); (case c1 => walk_at "side"); (case c2 => walk_at "side")))
local macro_rules | `(tactic| walk_at "call") => `(tactic| ((with_reducible refine' sv_check_number ?c1 ?c2); (case c1 => walk_at "side"); (case c2 => walk_at "side")))
local macro_rules | `(tactic| walk_at "callU") => `(tactic| ((with_reducible refine' su_fraction ?c1 ?c2); (case c1 => walk_at "side"); (case c2 => walk_at "side")))

/-! ### numbers -/
theorem rise_le {w : Int} (h : w.natAbs < 2 ^ 130) : ∀ n : Nat, n ≤ 100 → (rise w n).natAbs ≤ 2 ^ (131 * n)
  | 0, _ => by
    show (1 : Int).natAbs ≤ 2 ^ 0
    decide
  | n + 1, hn => by
    have ih := rise_le h n (by omega)
    show (rise w n * (w + n)).natAbs ≤ _
    rw [Int.natAbs_mul, Nat.mul_succ, Nat.pow_add]
    exact Nat.mul_le_mul ih (by omega)
def sp_rise : Sp := fun vs H Q _ => ∃ (b : Int) (n : Nat), vs = [.int b, .int n] ∧ b.natAbs < 2 ^ 130 ∧ n ≤ 60 ∧ RetV (.int (rise b n)) H Q
theorem sv_rise {H : Hp} {b : Int} {n : Nat} (hb : b.natAbs < 2 ^ 130) (h1 : n ≤ 60) : SpV sp_rise ([.int b, .int (n : Int)] ++ []) H (.int (rise b n)) := fun H1 _ Q q E => ⟨b, n, rfl, hb, h1, q⟩
section
variable {P : Program} {w : World} {K : PySem.W.Frag} {mg : Str → Option Value} {base : Heap}
theorem ok_rising (T : Tx K mg) : FnOk P w K mg base CX0 1 T.f_rising T.d_rising ["weight","guests"] sp_rise := by
  refine T.F_rising.ok sc_rising (fun vs H Q E h => ?_) (fun cdv A outer s H vs Q E hr h => ?_)
  · obtain ⟨b, n, rfl, _⟩ := h
    rfl
  · obtain ⟨b, n, rfl, hb, hn, k⟩ := h
    refine ⟨_, (pss_cons (ps_set (i := 2) sc_rising.nd rfl (Or.inl rfl) pe_int)
      (pss_cons (ps_for PassesOwn.never rfl (pi_range1 (by rfl) T.m_range (pa_cons (pv 1) pa_nil)) (pg_name (i := 3) sc_rising.nd rfl (Or.inl rfl)) (pss_one (ps_set (i := 2) sc_rising.nd rfl (Or.inl rfl) (pe_op op_mulX (pv 2) (pe_op op_add (pv 0) (pv 3))))))
      (pss_one (ps_ret (pv 2))))), ?_⟩
    refine q_asg ev_c fun H1 e1 => ?_
    refine q_forR1 (n := (n : Int)) (by walk_at "ea") ⟨by omega, by omega⟩ (fun i σ' H' => ∃ y, σ' = [some (.int b), some (.int n), some (.int (rise b i)), y] ∧ Ex H H') (fun H2 e2 => ⟨none, rfl, e1.trans e2⟩) ?_ ?_
    · rintro i σ' H' hi ⟨y, rfl, e⟩
      have hs : (b + (i : Int)).natAbs < 2 ^ 131 := by omega
      have hm : CMulX (rise b i) (b + (i : Int)) := mulx_ok (lt_of_le2 (rise_le hb i (by omega))) hs (by omega)
      exact s_asg (by walk_at "ev") fun H2 e2 => ⟨_, rfl, e.trans e2⟩
    · rintro σ' H' ⟨y, rfl, e⟩
      exact s_ret (by walk_at "ev") fun H2 e2 => k _ (e.trans e2)

theorem ok_law_rising (T : Tx K mg) : FnOk P w K mg base CX0 1 T.f_law_rising T.d_law_rising ["base","many_here"] sp_rise := by
  refine T.F_law_rising.ok sc_law_rising (fun vs H Q E h => ?_) (fun cdv A outer s H vs Q E hr h => ?_)
  · obtain ⟨b, n, rfl, _⟩ := h
    rfl
  · obtain ⟨b, n, rfl, hb, hn, k⟩ := h
    refine ⟨_, (pss_cons (ps_set (i := 2) sc_law_rising.nd rfl (Or.inl rfl) pe_int)
      (pss_cons (ps_for PassesOwn.never rfl (pi_range1 (by rfl) T.m_range (pa_cons (pv 1) pa_nil)) (pg_name (i := 3) sc_law_rising.nd rfl (Or.inl rfl)) (pss_one (ps_set (i := 2) sc_law_rising.nd rfl (Or.inl rfl) (pe_op op_mulX (pv 2) (pe_op op_add (pv 0) (pv 3))))))
      (pss_one (ps_ret (pv 2))))), ?_⟩
    refine q_asg ev_c fun H1 e1 => ?_
    refine q_forR1 (n := (n : Int)) (by walk_at "ea") ⟨by omega, by omega⟩ (fun i σ' H' => ∃ y, σ' = [some (.int b), some (.int n), some (.int (rise b i)), y] ∧ Ex H H') (fun H2 e2 => ⟨none, rfl, e1.trans e2⟩) ?_ ?_
    · rintro i σ' H' hi ⟨y, rfl, e⟩
      have hs : (b + (i : Int)).natAbs < 2 ^ 131 := by omega
      have hm : CMulX (rise b i) (b + (i : Int)) := mulx_ok (lt_of_le2 (rise_le hb i (by omega))) hs (by omega)
      exact s_asg (by walk_at "ev") fun H2 e2 => ⟨_, rfl, e.trans e2⟩
    · rintro σ' H' ⟨y, rfl, e⟩
      exact s_ret (by walk_at "ev") fun H2 e2 => k _ (e.trans e2)

end

def frac (a b : Int) : List V := [.int (a / cd a b), .int (b / cd a b)]
def sp_lowest : Sp := fun vs H Q _ => ∃ a b : Int, vs = [.int a, .int b] ∧ 0 ≤ a ∧ 0 < b ∧ b.natAbs < 2 ^ 8000 ∧ RetU (frac a b) H Q
theorem su_lowest {H : Hp} {a b : Int} (h0 : 0 ≤ a) (h1 : 0 < b) (h2 : b.natAbs < 2 ^ 8000) : SpU sp_lowest ([.int a, .int b] ++ []) H (frac a b) := fun H1 _ Q q E => ⟨a, b, rfl, h0, h1, h2, q⟩
section
variable {P : Program} {w : World} {K : PySem.W.Frag} {mg : Str → Option Value} {base : Heap}
theorem ok_law_lowest (T : Tx K mg) : FnOk P w K mg base CX0 1 T.f_law_lowest T.d_law_lowest ["top", "bottom"] sp_lowest := by
  refine T.F_law_lowest.ok sc_law_lowest (fun vs H Q E h => ?_) (fun cdv A outer s H vs Q E hr h => ?_)
  · obtain ⟨a, b, rfl, _⟩ := h
    rfl
  · obtain ⟨a, b, rfl, ha, hb, hs, k⟩ := h
    refine ⟨_, (pss_cons (ps_par (i := 2) (j := 3) (by rfl) sc_law_lowest.nd rfl rfl (by decide) rfl rfl (pa_cons (pv 0) (pa_cons (pv 1) pa_nil)) (by rfl))
      (pss_cons (ps_while PassesOwn.never (pt_cmpR op_gt (pv 3) pe_int (nomark _)) (pss_one (ps_par (i := 2) (j := 3) (by rfl) sc_law_lowest.nd rfl rfl (by decide) rfl rfl (pa_cons (pv 3) (pa_cons (pe_op op_mod (pe_callTy call_intI (by rfl) T.m_int (by decide +kernel) (pa_cons (pv 2) pa_nil)) (pv 3)) pa_nil)) (by rfl))))
      (pss_one (ps_ret (pe_tup (pa_cons (pe_op op_fdivW (pv 0) (pv 2)) (pa_cons (pe_op op_fdivW (pv 1) (pv 2)) pa_nil))))))), ?_⟩
    obtain ⟨A, rfl⟩ : ∃ z : Nat, a = z := ⟨a.toNat, by omega⟩
    obtain ⟨B, rfl⟩ : ∃ z : Nat, b = z := ⟨b.toNat, by omega⟩
    refine q_par (by walk_at "ea") fun H1 e1 => ?_
    refine q_while (fun m σ' H' => ∃ x y : Nat, σ' = [some (.int (A : Int)), some (.int (B : Int)), some (.int (x : Int)), some (.int (y : Int))] ∧ Ex H H' ∧ Nat.gcd x y = Nat.gcd A B ∧ (y = 0 → 0 < x) ∧ m = y) B ⟨A, B, rfl, e1, rfl, by omega, rfl⟩ ?_
    rintro m σ' H' ⟨x, y, rfl, e, g, hx, hm⟩
    refine ⟨decide (y ≠ 0), et_is (by walk_at "et") ?_, fun hb2 H2 e2 => ?_, fun hb2 H2 e2 => ?_⟩
    · rw [Bool.eq_iff_iff]
      simp only [decide_eq_true_eq]
      omega
    · have hy := of_decide_eq_true hb2
      refine ⟨fun σ2 H3 => σ2 = [some (.int (A : Int)), some (.int (B : Int)), some (.int (y : Int)), some (.int ((x % y : Nat) : Int))] ∧ Ex H H3, fun σ2 H3 ⟨q1, q2⟩ => ⟨x % y, by rw [hm]; exact Nat.mod_lt _ (by omega), y, x % y, q1, q2, ?_, by omega, rfl⟩, ?_⟩
      · rw [Nat.gcd_comm, ← Nat.gcd_rec, Nat.gcd_comm]
        exact g
      · refine s_par (ea_cons (ev_var rfl) (ea_cons (ev_op (ev_intI (ev_var rfl)) (ev_var rfl) (rv_I (by omega))) ea_nil)) fun H3 e3 => ⟨?_, e.trans (e2.trans e3)⟩
        rw [Int.natCast_emod]
        rfl
    · have hy : y = 0 := by simpa using hb2
      subst hy
      rw [Nat.gcd_zero_right] at g
      have gx : (x : Int) = cd (A : Int) (B : Int) := by
        unfold cd
        rw [Int.natAbs_natCast, Int.natAbs_natCast, ← g]
      rw [gx]
      have hd : ∀ z : Int, CDivW z (cd (A : Int) (B : Int)) := fun z => wide_div (cd_pos hb) (Nat.lt_of_le_of_lt (by have := cd_le (a := (A : Int)) hb; have := cd_pos (a := (A : Int)) hb; omega) hs) (by decide) (by decide)
      exact s_retU (eu_tup (ea_cons (ev_op (ev_var rfl) (ev_var rfl) (rv_I (hd _))) (ea_cons (ev_op (ev_var rfl) (ev_var rfl) (rv_I (hd _))) ea_nil)) (Nat.le_of_ble_eq_true rfl)) fun p H3 hp e3 h3 => k p H3 (fresh_back (e.trans e2) hp) (e.trans (e2.trans e3)) h3
end

/-- rising from s: s (s + 1) .. -/
theorem rise_fac (s : Nat) : ∀ m : Nat, (fac s : Int) * rise ((s + 1 : Nat) : Int) m = (fac (s + m) : Int)
  | 0 => by
    show (fac s : Int) * 1 = _
    rw [Int.mul_one]
    rfl
  | m + 1 => by
    have ih := rise_fac s m
    show (fac s : Int) * (rise ((s + 1 : Nat) : Int) m * (((s + 1 : Nat) : Int) + m)) = ((fac (s + m + 1) : Nat) : Int)
    rw [fac_succ, ← Int.mul_assoc, ih]
    push_cast
    congr 1
    omega
theorem cho_rise {s m : Nat} (h : 1 ≤ s) : (cho (s + m - 1) (s - 1) : Int) * (fac m : Int) = rise (s : Int) m := by
  obtain ⟨t, rfl⟩ : ∃ t, s = t + 1 := ⟨s - 1, by omega⟩
  have a := cho_fac (n := t + m) (k := t) (by omega)
  have b := rise_fac t m
  rw [show t + m - t = m by omega] at a
  rw [show t + 1 + m - 1 = t + m by omega, show t + 1 - 1 = t by omega]
  have c : (fac t : Int) * ((cho (t + m) t : Int) * (fac m : Int)) = (fac t : Int) * rise ((t + 1 : Nat) : Int) m := by
    rw [b, ← a]
    push_cast
    grind
  have p := fac_pos t
  exact Int.eq_of_mul_eq_mul_left (by omega) c

/-! ### fractions of one ratio -/
theorem cd_scale {k a b : Int} (hk : 0 ≤ k) : cd (k * a) (k * b) = k * cd a b := by
  unfold cd
  rw [Int.natAbs_mul, Int.natAbs_mul, Nat.gcd_mul_left, Int.natCast_mul]
  congr 1
  omega
theorem quo_scale {k a b : Int} (hk : 0 < k) : k * a / cd (k * a) (k * b) = a / cd a b ∧ k * b / cd (k * a) (k * b) = b / cd a b := by
  rw [cd_scale (by omega)]
  exact ⟨Int.mul_ediv_mul_of_pos _ _ hk, Int.mul_ediv_mul_of_pos _ _ hk⟩
theorem quo_eq {a b c d : Int} (hb : 0 < b) (hd : 0 < d) (h : a * d = c * b) : a / cd a b = c / cd c d ∧ b / cd a b = d / cd c d := by
  have x := quo_scale (k := d) (a := a) (b := b) hd
  have y := quo_scale (k := b) (a := c) (b := d) hb
  rw [show d * a = b * c by rw [Int.mul_comm d a, h, Int.mul_comm], show d * b = b * d from Int.mul_comm _ _] at x
  exact ⟨x.1.symm.trans y.1, x.2.symm.trans y.2⟩

local macro_rules | `(tactic| walk_at "call") => `(tactic| (with_reducible exact sv_whole))
local macro_rules | `(tactic| walk_at "call") => `(tactic| (with_reducible exact sv_between))
local macro_rules | `(tactic| walk_at "call") => `(tactic| ((with_reducible refine' sv_check1 ?c1 ?c2); (case c1 => walk_at "side"); (case c2 => walk_at "side")))
local macro_rules | `(tactic| walk_at "call") => `(tactic| ((with_reducible refine' sv_check_number ?c1 ?c2); (case c1 => walk_at "side"); (case c2 => walk_at "side")))
local macro_rules | `(tactic| walk_at "callU") => `(tactic| ((with_reducible refine' su_fraction ?c1 ?c2); (case c1 => walk_at "side"); (case c2 => walk_at "side")))
local macro_rules | `(tactic| walk_at "call") => `(tactic| ((with_reducible refine' sv_rise ?c1 ?c2); (case c1 => walk_at "side"); (case c2 => walk_at "side")))

def sums (w : Int) : Nat → List Int
  | 0 => [1]
  | n + 1 => List.zipWith (· + ·) ((sums w n).map (· * (n : Int)) ++ [0]) (0 :: (sums w n).map (· * w))
theorem sums_len (w : Int) : ∀ n, (sums w n).length = n + 1
  | 0 => rfl
  | n + 1 => by
    show (List.zipWith (· + ·) ((sums w n).map (· * (n : Int)) ++ [0]) (0 :: (sums w n).map (· * w))).length = _
    have ih := sums_len w n
    simp [ih]
/-- how many seatings of n guests have t tables -/
def stir : Nat → Nat → Nat
  | 0, 0 => 1
  | 0, _ + 1 => 0
  | n + 1, 0 => n * stir n 0
  | n + 1, t + 1 => n * stir n (t + 1) + stir n t
theorem stir_big : ∀ n t, n < t → stir n t = 0
  | 0, t + 1, _ => rfl
  | n + 1, t + 1, h => by
    show n * stir n (t + 1) + stir n t = 0
    rw [stir_big n (t + 1) (by omega), stir_big n t (by omega)]
    simp
theorem sums_get (w : Int) : ∀ n t, t ≤ n → (sums w n)[t]? = some ((stir n t : Int) * w ^ t)
  | 0, 0, _ => by
    show some (1 : Int) = some (((1 : Nat) : Int) * w ^ 0)
    rw [Int.pow_zero]
    rfl
  | n + 1, 0, _ => by
    have ih := sums_get w n 0 (by omega)
    have hl := sums_len w n
    show (List.zipWith (· + ·) ((sums w n).map (· * (n : Int)) ++ [0]) (0 :: (sums w n).map (· * w)))[0]? = some (((n * stir n 0 : Nat) : Int) * w ^ 0)
    rw [List.getElem?_zipWith, List.getElem?_append_left (by rw [List.length_map]; omega), List.getElem?_map, ih]
    simp
    grind
  | n + 1, t + 1, h => by
    have hl := sums_len w n
    have ih := sums_get w n t (by omega)
    show (List.zipWith (· + ·) ((sums w n).map (· * (n : Int)) ++ [0]) (0 :: (sums w n).map (· * w)))[t + 1]? = some (((n * stir n (t + 1) + stir n t : Nat) : Int) * w ^ (t + 1))
    rw [List.getElem?_zipWith, List.getElem?_cons_succ, List.getElem?_map, ih]
    by_cases ht : t + 1 ≤ n
    · have ih2 := sums_get w n (t + 1) ht
      rw [List.getElem?_append_left (by rw [List.length_map]; omega), List.getElem?_map, ih2]
      simp
      rw [Int.pow_succ]
      grind
    · have e : t = n := by omega
      subst e
      rw [List.getElem?_append_right (by rw [List.length_map]; omega), List.length_map, hl, stir_big t (t + 1) (by omega)]
      simp
      rw [Int.pow_succ]
      grind
theorem sums_small {w : Int} (h0 : 0 ≤ w) (h1 : w ≤ 2 ^ 42) : ∀ n, n ≤ 20 → ∀ x ∈ sums w n, 0 ≤ x ∧ x ≤ 2 ^ (43 * n)
  | 0, _, x, hx => by
    have e : x = 1 := by simpa [sums] using hx
    subst e
    decide
  | n + 1, hn, x, hx => by
    have ih := sums_small h0 h1 n (by omega)
    have hp : (0 : Int) ≤ 2 ^ (43 * n) := Int.pow_nonneg (by decide)
    have e43 : (2 : Int) ^ (43 * (n + 1)) = 2 ^ (43 * n) * 2 ^ 43 := by rw [Nat.mul_succ, Int.pow_add]
    rw [e43]
    have hx : x ∈ List.zipWith (· + ·) ((sums w n).map (· * (n : Int)) ++ [0]) (0 :: (sums w n).map (· * w)) := hx
    obtain ⟨i, hi⟩ := List.mem_iff_getElem?.mp hx
    rw [List.getElem?_zipWith] at hi
    have one : ∀ a, ((sums w n).map (· * (n : Int)) ++ [0])[i]? = some a → 0 ≤ a ∧ a ≤ 2 ^ (43 * n) * 20 := fun a ha => by
      rcases List.mem_append.mp (List.mem_iff_getElem?.mpr ⟨i, ha⟩) with h | h
      · obtain ⟨y, hy, rfl⟩ := List.mem_map.mp h
        obtain ⟨y0, y1⟩ := ih y hy
        exact ⟨Int.mul_nonneg y0 (by omega), Int.mul_le_mul y1 (by omega) (by omega) hp⟩
      · have : a = 0 := by simpa using h
        omega
    have two : ∀ b, (0 :: (sums w n).map (· * w))[i]? = some b → 0 ≤ b ∧ b ≤ 2 ^ (43 * n) * 2 ^ 42 := fun b hb => by
      rcases List.mem_cons.mp (List.mem_iff_getElem?.mpr ⟨i, hb⟩) with h | h
      · omega
      · obtain ⟨y, hy, rfl⟩ := List.mem_map.mp h
        obtain ⟨y0, y1⟩ := ih y hy
        exact ⟨Int.mul_nonneg y0 h0, Int.mul_le_mul y1 h1 h0 hp⟩
    cases ha : ((sums w n).map (· * (n : Int)) ++ [0])[i]? with
    | none =>
      rw [ha] at hi
      cases hi
    | some a =>
      cases hb : (0 :: (sums w n).map (· * w))[i]? with
      | none =>
        rw [ha, hb] at hi
        cases hi
      | some b =>
        rw [ha, hb] at hi
        have e : a + b = x := Option.some.inj hi
        have A := one a ha
        have B := two b hb
        omega

section
variable {P : Program} {w : World} {K : PySem.W.Frag} {mg : Str → Option Value} {base : Heap}
/-- the product of all (f.1 * x + f.2) -/
def sstep (ns : List Int) (f : Int × Int) : List Int := List.zipWith (· + ·) (ns.map (· * f.2) ++ [0]) (0 :: ns.map (· * f.1))
def sumsF (fs : List (Int × Int)) : List Int := fs.foldl sstep [1]
theorem sumsF_take {fs : List (Int × Int)} {i : Nat} {f : Int × Int} (h : fs[i]? = some f) : sumsF (fs.take (i + 1)) = sstep (sumsF (fs.take i)) f := by
  unfold sumsF
  rw [List.take_add_one, h, List.foldl_append]
  rfl
theorem sstep_len (ns : List Int) (f : Int × Int) : (sstep ns f).length = ns.length + 1 := by
  simp [sstep]
theorem foldS_len : ∀ (fs : List (Int × Int)) (ns : List Int), (fs.foldl sstep ns).length = ns.length + fs.length
  | [], _ => rfl
  | f :: r, ns => by
    rw [List.foldl_cons, foldS_len r, sstep_len, List.length_cons]
    omega
theorem sumsF_len (fs : List (Int × Int)) : (sumsF fs).length = fs.length + 1 := by
  unfold sumsF
  rw [foldS_len, List.length_singleton]
  omega
def FOk (fs : List (Int × Int)) : Prop := fs.length ≤ 40 ∧ ∀ f ∈ fs, 0 ≤ f.1 ∧ f.1 ≤ 2 ^ 42 ∧ 0 ≤ f.2 ∧ f.2 ≤ 2 ^ 42
theorem sstep_small {ns : List Int} {f : Int × Int} {B : Int} (hB : 0 ≤ B) (h : ∀ x ∈ ns, 0 ≤ x ∧ x ≤ B) (h0 : 0 ≤ f.1) (h1 : f.1 ≤ 2 ^ 42) (h2 : 0 ≤ f.2) (h3 : f.2 ≤ 2 ^ 42) : ∀ x ∈ sstep ns f, 0 ≤ x ∧ x ≤ B * 2 ^ 43 := fun x hx => by
  obtain ⟨i, hi⟩ := List.mem_iff_getElem?.mp hx
  unfold sstep at hi
  rw [List.getElem?_zipWith] at hi
  have two : ∀ (g : Int), 0 ≤ g → g ≤ 2 ^ 42 → ∀ y ∈ ns.map (· * g), 0 ≤ y ∧ y ≤ B * 2 ^ 42 := fun g g0 g1 y hy => by
    obtain ⟨z, hz, rfl⟩ := List.mem_map.mp hy
    obtain ⟨z0, z1⟩ := h z hz
    exact ⟨Int.mul_nonneg z0 g0, Int.mul_le_mul z1 g1 g0 hB⟩
  have A : ∀ a, (ns.map (· * f.2) ++ [0])[i]? = some a → 0 ≤ a ∧ a ≤ B * 2 ^ 42 := fun a ha => by
    rcases List.mem_append.mp (List.mem_iff_getElem?.mpr ⟨i, ha⟩) with h | h
    · exact two _ h2 h3 a h
    · have : a = 0 := by simpa using h
      subst this
      exact ⟨Int.le_refl _, Int.mul_nonneg hB (by decide)⟩
  have C : ∀ b, (0 :: ns.map (· * f.1))[i]? = some b → 0 ≤ b ∧ b ≤ B * 2 ^ 42 := fun b hb => by
    rcases List.mem_cons.mp (List.mem_iff_getElem?.mpr ⟨i, hb⟩) with h | h
    · subst h
      exact ⟨Int.le_refl _, Int.mul_nonneg hB (by decide)⟩
    · exact two _ h0 h1 b h
  cases ha : (ns.map (· * f.2) ++ [0])[i]? with
  | none =>
    rw [ha] at hi
    cases hi
  | some a =>
    cases hb : (0 :: ns.map (· * f.1))[i]? with
    | none =>
      rw [ha, hb] at hi
      cases hi
    | some b =>
      rw [ha, hb] at hi
      have e : a + b = x := Option.some.inj hi
      have p := A a ha
      have q := C b hb
      omega
theorem foldS_small : ∀ (fs : List (Int × Int)), (∀ f ∈ fs, 0 ≤ f.1 ∧ f.1 ≤ 2 ^ 42 ∧ 0 ≤ f.2 ∧ f.2 ≤ 2 ^ 42) → ∀ (ns : List Int) (k : Nat), (∀ x ∈ ns, 0 ≤ x ∧ x ≤ 2 ^ (43 * k)) → ∀ x ∈ fs.foldl sstep ns, 0 ≤ x ∧ x ≤ 2 ^ (43 * (k + fs.length))
  | [], _, ns, k, h => h
  | f :: r, hf, ns, k, h => by
    obtain ⟨a, b, c, d⟩ := hf f List.mem_cons_self
    have e43 : (2 : Int) ^ (43 * (k + 1)) = 2 ^ (43 * k) * 2 ^ 43 := by rw [Nat.mul_succ, Int.pow_add]
    have ih := foldS_small r (fun g hg => hf g (List.mem_cons_of_mem _ hg)) (sstep ns f) (k + 1) (fun x hx => by
      rw [e43]
      exact sstep_small (Int.pow_nonneg (by decide)) h a b c d x hx)
    rw [show k + (f :: r).length = k + 1 + r.length by rw [List.length_cons]; omega]
    exact ih
theorem sumsF_small {fs : List (Int × Int)} (h : FOk fs) : ∀ x ∈ sumsF fs, 0 ≤ x ∧ x ≤ 2 ^ (43 * fs.length) := by
  have q := foldS_small fs h.2 [1] 0 (fun x hx => by
    have e : x = 1 := by simpa using hx
    subst e
    decide)
  rw [Nat.zero_add] at q
  exact q
theorem FOk.take {fs : List (Int × Int)} (h : FOk fs) (i : Nat) : FOk (fs.take i) := ⟨by
  have := h.1
  rw [List.length_take]
  omega, fun f hf => h.2 f (List.mem_of_mem_take hf)⟩
def twoV (f : Int × Int) : List V := [.int f.1, .int f.2]
def sp_sums_by_tables : Sp := fun vs H Q _ => ∃ (a : Addr) (ws : List V) (fs : List (Int × Int)), vs = [.ref a] ∧ H a = some (.lst ws) ∧ TL H ws (fs.map twoV) ∧ FOk fs ∧ RetL ((sumsF fs).map V.int) H Q
def mulV (g : Int) : V → V
  | .int x => .int (x * g)
  | v => v
def addV : V → V → V
  | .int x, .int y => .int (x + y)
  | v, _ => v
theorem map_mulV (g : Int) (ns : List Int) : (ns.map V.int).map (mulV g) = (ns.map (· * g)).map V.int := by
  rw [List.map_map, List.map_map]
  rfl
theorem zip_addV : ∀ ns ms : List Int, List.zipWith addV (ns.map V.int) (ms.map V.int) = (List.zipWith (· + ·) ns ms).map V.int
  | [], _ => rfl
  | _ :: _, [] => rfl
  | x :: r, y :: s => congrArg (V.int (x + y) :: ·) (zip_addV r s)
theorem ok_sums_by_tables (T : Tx K mg) : FnOk P w K mg base CX0 1 T.f_sums_by_tables T.d_sums_by_tables ["factors"] sp_sums_by_tables := by
  refine T.F_sums_by_tables.ok sc_sums_by_tables (fun vs H Q E h => ?_) (fun cdv A outer s H vs Q E hr h => ?_)
  · obtain ⟨a, ws, fs, rfl, _⟩ := h
    rfl
  · obtain ⟨a, ws, fs, rfl, ha, ht, hf, k⟩ := h
    refine ⟨_, (pss_cons (ps_set (i := 1) sc_sums_by_tables.nd rfl (Or.inl rfl) (pe_lst (pa_cons pe_int pa_nil)))
      (pss_cons (ps_for PassesOwn.never rfl (pi_list (pv 0)) (pg_tup rfl (pgs_cons (pg_name (i := 2) sc_sums_by_tables.nd rfl (Or.inr rfl)) (pgs_cons (pg_name (i := 3) sc_sums_by_tables.nd rfl (Or.inr rfl)) pgs_nil))) (pss_cons (ps_set (i := 5) sc_sums_by_tables.nd rfl (Or.inl rfl) (pe_op op_cat (pe_lc (own := [("part", 4)]) (g := (gName 4)) (tt := tYes) rfl sc_sums_by_tables.nd (pi_list (pv 1)) (blkOk_by (own := [("part", 4)]) (N := n_sums_by_tables) (sc := defScope s_sums_by_tables) (by decide +kernel)) (fun _ _ _ _ _ => (pg_name (i := 4) sc_sums_by_tables.nd rfl (Or.inl rfl))) (fun _ _ _ _ _ => pts_nil) (fun _ _ _ _ _ => (pe_op op_mulX (pv 4) (pv 3)))) (pe_lst (pa_cons pe_int pa_nil))))
      (pss_cons (ps_set (i := 6) sc_sums_by_tables.nd rfl (Or.inl rfl) (pe_op op_cat (pe_lst (pa_cons pe_int pa_nil)) (pe_lc (own := [("part", 4)]) (g := (gName 4)) (tt := tYes) rfl sc_sums_by_tables.nd (pi_list (pv 1)) (blkOk_by (own := [("part", 4)]) (N := n_sums_by_tables) (sc := defScope s_sums_by_tables) (by decide +kernel)) (fun _ _ _ _ _ => (pg_name (i := 4) sc_sums_by_tables.nd rfl (Or.inl rfl))) (fun _ _ _ _ _ => pts_nil) (fun _ _ _ _ _ => (pe_op op_mulX (pv 4) (pv 2))))))
      (pss_one (ps_setLc (i := 1) (own := [("one", 7), ("other", 8)]) (g := (gTup _ 2 (gCons (gName 7) (gCons (gName 8) gNil)))) (tt := tYes) rfl sc_sums_by_tables.nd rfl rfl (sw_true rfl rfl rfl (by decide +kernel)) (pi_zip (by rfl) T.m_zip (pa_cons (pv 5) (pa_cons (pv 6) pa_nil))) (blkOk_by (own := [("one", 7), ("other", 8)]) (N := n_sums_by_tables) (sc := defScope s_sums_by_tables) (by decide +kernel)) (fun _ _ _ _ _ => (pg_tup rfl (pgs_cons (pg_name (i := 7) sc_sums_by_tables.nd rfl (Or.inl rfl)) (pgs_cons (pg_name (i := 8) sc_sums_by_tables.nd rfl (Or.inl rfl)) pgs_nil)))) (fun _ _ _ _ _ => pts_nil) (fun _ _ _ _ _ => (pe_op op_add (pv 7) (pv 8))))))))
      (pss_one (ps_ret (pv 1))))), ?_⟩
    have hwl : ws.length = fs.length := by rw [ht.len, List.length_map]
    have hfl := hf.1
    refine q_asgL (by walk_at "el") fun p H1 hp e1 h1 => ?_
    refine q_forL (ev_var rfl) (sq_of (e1 a _ ha))
      (fun i σ' H' => ∃ q y2 y3 y5 y6, σ' = [some (.ref a), some (.ref q), y2, y3, none, y5, y6, none, none] ∧ H q = none ∧ Ex H H' ∧ H' q = some (.lst ((sumsF (fs.take i)).map V.int)))
      (fun H2 e2 => ⟨p, none, none, none, none, rfl, hp, e1.trans e2, e2 p _ h1⟩) (fun i σ' H' _ ⟨q, y2, y3, y5, y6, _, _, e, _⟩ => sq_of (e a _ ha)) ?_ ?_
    · rintro i x σ' H' hx ⟨q, y2, y3, y5, y6, rfl, hq, e, hl⟩
      obtain ⟨b, r, rfl, hb, hr2⟩ := ht.get hx
      obtain ⟨f, hfi, rfl⟩ : ∃ f, fs[i]? = some f ∧ twoV f = r := by
        rw [List.getElem?_map] at hr2
        exact Option.map_eq_some_iff.mp hr2
      have him : i < fs.length := (List.getElem?_eq_some_iff.mp hfi).1
      obtain ⟨fa, fb, fc, fd⟩ := hf.2 f (List.mem_iff_getElem?.mpr ⟨i, hfi⟩)
      have hsm := sumsF_small (hf.take i)
      have hlen := sumsF_len (fs.take i)
      have hti : (fs.take i).length = i := by
        rw [List.length_take]
        omega
      rw [hti] at hsm hlen
      have cm : ∀ (g : Int), g.natAbs < 2 ^ 64 → ∀ (j : Nat) (y : V), ((sumsF (fs.take i)).map V.int)[j]? = some y → ∃ z, y = .int z ∧ CMulX z g := fun g hg j y hy => by
        rw [List.getElem?_map] at hy
        cases hz : (sumsF (fs.take i))[j]? with
        | none =>
          rw [hz] at hy
          cases hy
        | some z =>
          rw [hz] at hy
          obtain ⟨z0, z1⟩ := hsm z (List.mem_iff_getElem?.mpr ⟨j, hz⟩)
          have hp2 : (2 : Int) ^ (43 * i) = ((2 ^ (43 * i) : Nat) : Int) := by simp
          rw [hp2] at z1
          exact ⟨z, (Option.some.inj hy).symm, mulx_ok (lt_of_le2 (k := 43 * i) (by omega)) hg (by omega)⟩
      refine ⟨b, [.int f.1, .int f.2], rfl, st_of (e b _ hb), rfl, .int f.1, [.int f.2], rfl, .int f.2, [], rfl, rfl, ?_⟩
      refine q_asgL (el_cat (el_map (mulV f.2) (ev_var rfl) (sq_of hl) (by rw [List.length_map]; omega) (fun _ => rfl) fun j y H2 e2 hy => ?_) (by walk_at "el") (by simp; omega)) fun p5 H2 hp5 e2 h2 => ?_
      · obtain ⟨z, rfl, hc⟩ := cm f.2 (by omega) j y hy
        exact ev_op (ev_var rfl) (ev_var rfl) (rv_I hc)
      have hl2 := e2 q _ hl
      refine q_asgL (el_cat (by walk_at "el") (el_map (mulV f.1) (ev_var rfl) (sq_of hl2) (by rw [List.length_map]; omega) (fun _ => rfl) fun j y H3 e3 hy => ?_) (by simp; omega)) fun p6 H3 hp6 e3 h3 => ?_
      · obtain ⟨z, rfl, hc⟩ := cm f.1 (by omega) j y hy
        exact ev_op (ev_var rfl) (ev_var rfl) (rv_I hc)
      rw [map_mulV] at h2 h3
      have g2 : H3 p5 = some (.lst (((sumsF (fs.take i)).map (· * f.2) ++ [0]).map V.int)) := by
        rw [List.map_append]
        exact e3 p5 _ h2
      have g3 : H3 p6 = some (.lst ((0 :: (sumsF (fs.take i)).map (· * f.1)).map V.int)) := h3
      refine s_asgL (el_zip addV (by walk_at "ea") (sq_of g2) (sq_of g3) (by simp) (by simp; omega) (fun _ _ => rfl) fun j a b H4 e4 ha hb => ?_) fun p2 H4 hp2 e4 h4 => ?_
      · rw [List.getElem?_map] at ha hb
        obtain ⟨a', _, rfl⟩ := Option.map_eq_some_iff.mp ha
        obtain ⟨b', _, rfl⟩ := Option.map_eq_some_iff.mp hb
        exact ev_op (ev_var rfl) (ev_var rfl) rv_I0
      · rw [zip_addV] at h4
        exact ⟨p2, _, _, _, _, rfl, fresh_back (e.trans (e2.trans e3)) hp2, e.trans (e2.trans (e3.trans e4)), by rw [sumsF_take hfi]; exact h4⟩
    · rintro σ' H' ⟨q, y2, y3, y5, y6, rfl, hq, e, hl⟩
      rw [hwl, List.take_length] at hl
      refine s_ret (ev_var rfl) fun H2 e2 => k q H2 hq (e.trans e2) (e2 q _ hl)

theorem el_call1LT {σ : L2.St} {H : Hp} {te : TE} {sp : Sp} {dvs ys : List V} {xs : List (List V)} {E : XK} (h : EvLT te σ H xs) (hs : ∀ p ws H1, Ex H H1 → H1 p = some (.lst ws) → TL H1 ws xs → SpL sp ([.ref p] ++ dvs) H1 ys) : EvL (tCall sp dvs E (tCons te tNil)) σ H ys := fun H1 e Q q =>
  h H1 e _ fun p ws H2 _ e2 h2 hw => hs p ws H2 (e.trans e2) h2 hw H2 (Ex.refl _) Q (fun l H3 hl e3 h3 => q l H3 (fresh_back e2 hl) (e2.trans e3) h3) E
theorem sl_sums {H : Hp} {a : Addr} {ws : List V} {fs : List (Int × Int)} (ha : H a = some (.lst ws)) (ht : TL H ws (fs.map twoV)) (hf : FOk fs) : SpL sp_sums_by_tables ([.ref a] ++ []) H ((sumsF fs).map V.int) := fun H1 e Q q E => ⟨a, ws, fs, rfl, e a _ ha, ht.ex e, hf, q⟩
/-- the factors of weights_by_tables -/
def facs (w : Int) (n : Nat) : List (Int × Int) := (List.range n).map fun i : Nat => (w, (i : Int))
theorem fok_facs {w : Int} {n : Nat} (hn : n ≤ 20) (h0 : 0 ≤ w) (h1 : w ≤ 2 ^ 42) : FOk (facs w n) := ⟨by
  unfold facs
  rw [List.length_map, List.length_range]
  omega, fun f hf => by
  obtain ⟨i, hi, rfl⟩ := List.mem_map.mp hf
  have := List.mem_range.mp hi
  exact ⟨h0, h1, by show (0 : Int) ≤ (i : Int); omega, by show (i : Int) ≤ 2 ^ 42; omega⟩⟩

theorem sumsF_facs (w : Int) : ∀ n, sumsF (facs w n) = sums w n
  | 0 => rfl
  | n + 1 => by
    have ih := sumsF_facs w n
    unfold sumsF facs at ih ⊢
    rw [List.range_succ, List.map_append, List.foldl_append, ih]
    rfl
def sp_weights_by_tables : Sp := fun vs H Q _ => ∃ (n : Nat) (w : Int), vs = [.int n, .int w] ∧ n ≤ 20 ∧ 0 ≤ w ∧ w ≤ 2 ^ 42 ∧ RetL ((sums w n).map V.int) H Q
theorem sl_wbt {H : Hp} {n : Nat} {w : Int} (h0 : n ≤ 20) (h1 : 0 ≤ w) (h2 : w ≤ 2 ^ 42) : SpL sp_weights_by_tables ([.int (n : Int), .int w] ++ []) H ((sums w n).map V.int) := fun H1 _ Q q E => ⟨n, w, rfl, h0, h1, h2, q⟩
theorem ok_weights_by_tables (T : Tx K mg) : FnOk P w K mg base CX0 2 T.f_weights_by_tables T.d_weights_by_tables ["guests", "weight"] sp_weights_by_tables := by
  refine T.F_weights_by_tables.ok sc_weights_by_tables (fun vs H Q E h => ?_) (fun cdv A outer s H vs Q E hr h => ?_)
  · obtain ⟨n, x, rfl, _⟩ := h
    rfl
  · obtain ⟨n, x, rfl, hn, hx0, hx1, k⟩ := h
    refine ⟨_, (pss_one (ps_ret (pe_call (ok_sums_by_tables T) (hr.mono (by decide)) (by rfl) T.g_sums_by_tables T.F_sums_by_tables.kp T.b_sums_by_tables .nil pass0 (pa_cons (pe_lc (own := [("guest", 2)]) (g := (gName 2)) (tt := tYes) rfl sc_weights_by_tables.nd (pi_range1 (by rfl) T.m_range (pa_cons (pv 0) pa_nil)) (blkOk_by (own := [("guest", 2)]) (N := n_weights_by_tables) (sc := defScope s_weights_by_tables) (by decide +kernel)) (fun _ _ _ _ _ => (pg_name (i := 2) sc_weights_by_tables.nd rfl (Or.inl rfl))) (fun _ _ _ _ _ => pts_nil) (fun _ _ _ _ _ => (pe_tup (pa_cons (pv 1) (pa_cons (pv 2) pa_nil))))) pa_nil)))), ?_⟩
    have lt := elt_R1 (te := tTup (tCons (tVar 1) (tCons (tVar 2) tNil))) (ta := tCons (tVar 0) tNil) (j := 2) (vs := [2]) (H := H) (σ := start n_weights_by_tables [.int (n : Int), .int x]) (n := (n : Int)) (fun i : Nat => twoV (x, (i : Int))) (ea_cons (ev_var (i := 0) rfl) ea_nil) ⟨by omega, by omega⟩ (fun _ => rfl) (fun i H1 e hi => eu_tup (ea_cons (ev_var rfl) (ea_cons (ev_var rfl) ea_nil)) (Nat.le_of_ble_eq_true rfl))
    have e : (List.range (n : Int).toNat).map (fun i : Nat => twoV (x, (i : Int))) = (facs x n).map twoV := by
      unfold facs
      rw [List.map_map]
      rfl
    rw [e] at lt
    refine s_retL (el_call1LT lt fun p ws H1 e1 h1 hw => sl_sums h1 hw (fok_facs hn hx0 hx1)) fun p H1 hp e1 h1 => k p H1 hp e1 ?_
    rw [sumsF_facs] at h1
    exact h1

def sp_sum_at : Sp := fun vs H Q _ => ∃ (a : Addr) (ws : List V) (fs : List (Int × Int)) (t : Nat), vs = [.ref a, .int (t : Int)] ∧ H a = some (.lst ws) ∧ TL H ws (fs.map twoV) ∧ FOk fs ∧ RetV (.int ((sumsF fs).getD t 0)) H Q
theorem ok_sum_at (T : Tx K mg) : FnOk P w K mg base CX0 2 T.f_sum_at T.d_sum_at ["factors", "number"] sp_sum_at := by
  refine T.F_sum_at.ok sc_sum_at (fun vs H Q E h => ?_) (fun cdv A outer s H vs Q E hr h => ?_)
  · obtain ⟨a, ws, fs, t, rfl, _⟩ := h
    rfl
  · obtain ⟨a, ws, fs, t, rfl, ha, ht, hf, k⟩ := h
    refine ⟨_, (pss_cons (ps_set (i := 2) sc_sum_at.nd rfl (Or.inl rfl) (pe_call (ok_sums_by_tables T) (hr.mono (by decide)) (by rfl) T.g_sums_by_tables T.F_sums_by_tables.kp T.b_sums_by_tables .nil pass0 (pa_cons (pv 0) pa_nil)))
      (pss_one (ps_ret (pe_ifExp (pt_cmpR op_lt (pv 1) (pe_callB call_lenR (by rfl) T.m_len (by decide +kernel) (pa_cons (pv 2) pa_nil)) (nomark _)) (pe_ix ix_list (pv 2) (pv 1) (fun _ _ => rfl)) pe_int)))), ?_⟩
    refine q_asgL (xs := (sumsF fs).map V.int) (el_call (ea_cons (ev_var rfl) ea_nil) (sl_sums ha ht hf)) fun p H1 hp e1 h1 => ?_
    have hlen : ((sumsF fs).map V.int).length = (sumsF fs).length := List.length_map ..
    refine s_ret (v := .int ((sumsF fs).getD t 0)) (ev_if (b := decide ((t : Int) < (((sumsF fs).map V.int).length : Int))) (et_test (ev_op (ev_var rfl) (ev_len (K := K) (ev_var rfl) (sq_of h1)) rv_I0)) (fun hb => ?_) (fun hb => ?_)) fun H2 e2 => k _ (e1.trans e2)
    · have hb := of_decide_eq_true hb
      rw [hlen] at hb
      have hlt : t < (sumsF fs).length := by omega
      refine ev_op (ev_var rfl) (ev_var rfl) (rv_ixL (K := K) (sq_of h1) (atI_nat (j := t) ?_))
      rw [List.getElem?_map, List.getElem?_eq_getElem hlt]
      simp [List.getD_eq_getElem?_getD, hlt]
    · have hb := of_decide_eq_false hb
      rw [hlen] at hb
      have e0 : (sumsF fs).getD t 0 = 0 := by
        rw [List.getD_eq_getElem?_getD, List.getElem?_eq_none (by omega)]
        rfl
      rw [e0]
      exact ev_c

end

local macro_rules | `(tactic| walk_at "call") => `(tactic| (with_reducible exact sv_whole))
local macro_rules | `(tactic| walk_at "call") => `(tactic| (with_reducible exact sv_between))
local macro_rules | `(tactic| walk_at "call") => `(tactic| ((with_reducible refine' sv_check1 ?c1 ?c2); (case c1 => walk_at "side"); (case c2 => walk_at "side")))
local macro_rules | `(tactic| walk_at "call") => `(tactic| ((with_reducible refine' sv_check_number ?c1 ?c2); (case c1 => walk_at "side"); (case c2 => walk_at "side")))
local macro_rules | `(tactic| walk_at "callU") => `(tactic| ((with_reducible refine' su_fraction ?c1 ?c2); (case c1 => walk_at "side"); (case c2 => walk_at "side")))
local macro_rules | `(tactic| walk_at "call") => `(tactic| ((with_reducible refine' sv_rise ?c1 ?c2); (case c1 => walk_at "side"); (case c2 => walk_at "side")))

/-! ### data -/
def di (r : List Nat) : PyData := .list ((iz r).map PyData.int)
theorem shaped_di (r : List Nat) : SeqAt.shaped (di r) = true := shaped_ints _
section
variable {K : PySem.W.Frag} {σ : L2.St} {H : Hp} {te : TE}
theorem dpa_nv (r : List Nat) : DpAll K H (nv r) ((iz r).map PyData.int) := dpa_ints _
theorem dp_L {a : Addr} {r : List Nat} (h : H a = some (.lst (nv r))) : Dp K H (.ref a) (di r) := .lst (sq_of h) (dpa_nv r)
theorem ed_L {r : List Nat} (h : EvL te σ H (nv r)) : EvD K te σ H (di r) := ed_ofL h (dpa_nv r)
end
def shareD (a b : Int) : PyData := .tuple [.int (a / cd a b), .int (b / cd a b)]
theorem dpa_frac {K : PySem.W.Frag} {H : Hp} (a b : Int) : DpAll K H (frac a b) [.int (a / cd a b), .int (b / cd a b)] := .cons (.int _) (.cons (.int _) .nil)
theorem dpa_fracs {K : PySem.W.Frag} {H : Hp} (f : Nat → Int × Int) : ∀ {ws : List V} (l : List Nat), TL H ws (l.map fun t => frac (f t).1 (f t).2) → DpAll K H ws (l.map fun t => shareD (f t).1 (f t).2)
  | [], [], _ => .nil
  | _ :: _, t :: l, .cons ⟨b, e, h⟩ q => by
    subst e
    exact .cons (.tup (st_of h) (dpa_frac _ _)) (dpa_fracs f l q)
theorem shaped_sh (a b : Int) : SeqAt.shaped (.tuple [.int a, .int b]) = true := by
  simp [SeqAt.shaped, PyData.canLay0, PyData.canLayAll0, PyData.depth, PyData.depthAll]
theorem shaped_shD (a b : Int) : SeqAt.shaped (shareD a b) = true := shaped_sh _ _
theorem canLay_shs (f : Nat → Int × Int) : ∀ l : List Nat, PyData.canLayAll0 (l.map fun t => shareD (f t).1 (f t).2) = true
  | [] => rfl
  | m :: r => by
    have := canLay_shs f r
    show (PyData.canLayAll0 (shareD _ _ :: r.map _)) = true
    rw [PyData.canLayAll0, this]
    simp [PyData.canLay0, PyData.canLayAll0, shareD]
theorem depth_shs (f : Nat → Int × Int) : ∀ l : List Nat, PyData.depthAll (l.map fun t => shareD (f t).1 (f t).2) ≤ 1
  | [] => by simp [PyData.depthAll]
  | m :: r => by
    have := depth_shs f r
    show PyData.depthAll (shareD _ _ :: r.map _) ≤ 1
    rw [PyData.depthAll]
    have e : (shareD (f m).1 (f m).2).depth ≤ 1 := by simp [PyData.depthAll, PyData.depth, shareD]
    omega
theorem shaped_shs (f : Nat → Int × Int) (l : List Nat) : SeqAt.shaped (.list (l.map fun t => shareD (f t).1 (f t).2)) = true := by
  have := depth_shs f l
  simp [SeqAt.shaped, PyData.canLay0, canLay_shs, PyData.depth]
  omega
section
variable {K : PySem.W.Frag} {σ : L2.St} {H : Hp} {te : TE}
theorem ed_fracs {f : Nat → Int × Int} {l : List Nat} (h : EvLT te σ H (l.map fun t => frac (f t).1 (f t).2)) : EvD K te σ H (.list (l.map fun t => shareD (f t).1 (f t).2)) := fun H1 e Q q => h H1 e _ fun p ws H2 _ e2 h2 ht => q _ H2 e2 (.lst (sq_of h2) (dpa_fracs f l ht))
theorem ed_frac {a b : Int} (h : EvU te σ H (frac a b)) : EvD K te σ H (shareD a b) := ed_ofU h (dpa_frac a b)
end
/-- a list of small numbers, told -/
theorem shn_di {r : List Nat} (hl : r.length ≤ 100) (h : ∀ x ∈ r, x ≤ 1000) : ShN (di r) 200000 := by
  have := shn_list (n := 1921) (ds := (iz r).map PyData.int) fun d hd => by
    obtain ⟨i, hi, rfl⟩ := List.mem_map.mp hd
    obtain ⟨x, hx, rfl⟩ := List.mem_map.mp hi
    have := h x hx
    refine ⟨shn_int2 ?_, Nat.zero_le _⟩
    exact lt2_mono (show ((x : Int)).natAbs < 2 ^ 64 by omega) (by decide)
  refine ⟨this.shw, this.nod, ?_, this.dep⟩
  have l := this.len
  have : ((iz r).map PyData.int).length ≤ 100 := by simp [iz]; omega
  exact Nat.le_trans l (by omega)
theorem shn_two {r s : List Nat} (hr : ShN (di r) 200000) (hs : ShN (di s) 200000) : ShN (.list [di r, di s]) 400100 := by
  have := shn_list (n := 200000) (ds := [di r, di s]) fun d hd => by
    rcases List.mem_cons.mp hd with e | hd
    · rw [e]
      exact ⟨hr, by simp [di, PyData.depth, depth_ints]⟩
    · rw [List.mem_singleton.mp hd]
      exact ⟨hs, by simp [di, PyData.depth, depth_ints]⟩
  refine ⟨this.shw, this.nod, Nat.le_trans this.len (by show (200000 + 2) * 2 + 3 ≤ 400100; decide), this.dep⟩

/-! ### groups of guests -/
theorem nv_flat (r : List Nat) : (nv r).all flatV = true := by
  rw [nv_eq, List.all_map, List.all_eq_true]
  intro x _
  rfl
theorem nv_in (r : List Nat) (x : Nat) : inV (.int x) (nv r) = decide (x ∈ r) := by
  unfold inV
  rw [nv_eq, List.any_map, Bool.eq_iff_iff, List.any_eq_true, decide_eq_true_iff]
  constructor
  · rintro ⟨y, hy, e⟩
    have : ((y : Int) == (x : Int)) = true := e
    have := eq_of_beq this
    have : y = x := by omega
    exact this ▸ hy
  · intro h
    exact ⟨x, h, beq_self_eq_true _⟩

/-- an ascending list of guests below n -/
structure Gang (n : Nat) (g : List Nat) : Prop where
  ne : g ≠ []
  up : g.Pairwise (· < ·)
  lt : ∀ x ∈ g, x < n
theorem Gang.nd {n : Nat} {g : List Nat} (h : Gang n g) : g.Nodup := h.up.imp fun z => Nat.ne_of_lt z
theorem Gang.len {n : Nat} {g : List Nat} (h : Gang n g) : g.length ≤ n := by
  have := h.nd.length_le_of_subset (l₂ := List.range n) fun x hx => List.mem_range.mpr (h.lt x hx)
  rwa [List.length_range] at this
theorem Gang.pos {n : Nat} {g : List Nat} (h : Gang n g) : 1 ≤ g.length := by
  have := h.ne
  cases g with
  | nil => exact absurd rfl this
  | cons x r => simp
theorem iz_up {g : List Nat} (h : g.Pairwise (· < ·)) : (iz g).Pairwise (· < ·) := by
  unfold iz
  exact List.pairwise_map.mpr (h.imp fun z => by omega)
def sp_ascending : Sp := fun vs H Q _ => ∃ (a : Addr) (g : List Nat) (n : Nat), vs = [.ref a, .int 0, .int ((n : Int) - 1)] ∧ H a = some (.lst (nv g)) ∧ Gang n g ∧ n ≤ 20 ∧ RetV (.bl true) H Q
theorem sv_ascending {H : Hp} {a : Addr} {g : List Nat} {n : Nat} (ha : H a = some (.lst (nv g))) (o : Gang n g) (hn : n ≤ 20) : SpV sp_ascending ([.ref a, .int 0, .int ((n : Int) - 1)] ++ []) H (.bl true) := fun H1 e Q q E => ⟨a, g, n, rfl, e a _ ha, o, hn, q⟩
def sp_check_guest : Sp := fun vs H Q _ => ∃ x n : Int, vs = [.int x, .int n] ∧ 0 ≤ x ∧ x < n ∧ RetV .non H Q
theorem sv_check_guest {H : Hp} {x n : Int} (h0 : 0 ≤ x) (h1 : x < n) : SpV sp_check_guest ([.int x, .int n] ++ []) H .non := fun H1 _ Q q E => ⟨x, n, rfl, h0, h1, q⟩
def sp_check_any : Sp := fun vs H Q _ => ∃ x : Int, vs = [.int x] ∧ RetV .non H Q
theorem sv_check_any {H : Hp} {x : Int} : SpV sp_check_any ([.int x] ++ []) H .non := fun H1 _ Q q E => ⟨x, rfl, q⟩
def sp_check_group : Sp := fun vs H Q _ => ∃ (a : Addr) (g : List Nat) (n : Nat), vs = [.ref a, .int (n : Int)] ∧ H a = some (.lst (nv g)) ∧ Gang n g ∧ n ≤ 20 ∧ RetV .non H Q
theorem sv_check_group {H : Hp} {a : Addr} {g : List Nat} {n : Nat} (ha : H a = some (.lst (nv g))) (o : Gang n g) (hn : n ≤ 20) : SpV sp_check_group ([.ref a, .int (n : Int)] ++ []) H .non := fun H1 e Q q E => ⟨a, g, n, rfl, e a _ ha, o, hn, q⟩
def sp_check_openers : Sp := fun vs H Q _ => ∃ (a : Addr) (g : List Nat) (n : Nat), vs = [.ref a, .int (n : Int)] ∧ H a = some (.lst (nv g)) ∧ Gang n g ∧ g[0]? = some 0 ∧ n ≤ 20 ∧ RetV .non H Q
theorem sv_check_openers {H : Hp} {a : Addr} {g : List Nat} {n : Nat} (ha : H a = some (.lst (nv g))) (o : Gang n g) (h0 : g[0]? = some 0) (hn : n ≤ 20) : SpV sp_check_openers ([.ref a, .int (n : Int)] ++ []) H .non := fun H1 e Q q E => ⟨a, g, n, rfl, e a _ ha, o, h0, hn, q⟩
/-- the ways of the others -/
def wayO (g : List Nat) (n : Nat) : Int := (List.range n).foldl (fun m x => if x ∈ g then m else m * (x : Int)) 1
theorem wayO_next (g : List Nat) (n : Nat) : wayO g (n + 1) = if n ∈ g then wayO g n else wayO g n * (n : Int) := by
  unfold wayO
  rw [List.range_succ, List.foldl_append]
  rfl
theorem wayO_bd (g : List Nat) : ∀ n, n ≤ 20 → 0 ≤ wayO g n ∧ (wayO g n).natAbs < 2 ^ (5 * n + 1)
  | 0, _ => ⟨(by decide : (0 : Int) ≤ 1), (by decide : (1 : Int).natAbs < 2 ^ (5 * 0 + 1))⟩
  | n + 1, hn => by
    obtain ⟨a, b⟩ := wayO_bd g n (by omega)
    rw [wayO_next]
    split
    · exact ⟨a, Nat.lt_of_lt_of_le b (Nat.pow_le_pow_right (by decide) (by omega))⟩
    · refine ⟨Int.mul_nonneg a (by omega), ?_⟩
      rw [Int.natAbs_mul, show 5 * (n + 1) + 1 = (5 * n + 1) + 5 by omega, Nat.pow_add]
      exact Nat.mul_lt_mul_of_lt_of_le b (by omega) (by decide)
def sp_ways_of_openers : Sp := fun vs H Q _ => ∃ (a : Addr) (g : List Nat) (n : Nat), vs = [.int (n : Int), .ref a] ∧ H a = some (.lst (nv g)) ∧ n ≤ 20 ∧ g.length ≤ 20 ∧ RetV (.int (wayO g n)) H Q
theorem sv_ways_of {H : Hp} {a : Addr} {g : List Nat} {n : Nat} (ha : H a = some (.lst (nv g))) (hn : n ≤ 20) (hg : g.length ≤ 20) : SpV sp_ways_of_openers ([.int (n : Int), .ref a] ++ []) H (.int (wayO g n)) := fun H1 e Q q E => ⟨a, g, n, rfl, e a _ ha, hn, hg, q⟩
def pw (w : Int) : Nat → Int
  | 0 => 1
  | n + 1 => pw w n * w
theorem pw_bd {w : Int} (h0 : 1 ≤ w) (h1 : w ≤ 1000000000000) : ∀ n, n ≤ 20 → 0 < pw w n ∧ (pw w n).natAbs < 2 ^ (40 * n + 1)
  | 0, _ => ⟨(by decide : (0 : Int) < 1), (by decide : (1 : Int).natAbs < 2 ^ (40 * 0 + 1))⟩
  | n + 1, hn => by
    obtain ⟨a, b⟩ := pw_bd h0 h1 n (by omega)
    show 0 < pw w n * w ∧ (pw w n * w).natAbs < _
    refine ⟨Int.mul_pos a (by omega), ?_⟩
    rw [Int.natAbs_mul, show 40 * (n + 1) + 1 = (40 * n + 1) + 40 by omega, Nat.pow_add]
    exact Nat.mul_lt_mul_of_lt_of_le b (by omega) (by decide)
def sp_raised : Sp := fun vs H Q _ => ∃ (w : Int) (n : Nat), vs = [.int w, .int (n : Int)] ∧ n ≤ 20 ∧ 1 ≤ w ∧ w ≤ 1000000000000 ∧ RetV (.int (pw w n)) H Q
theorem sv_raised {H : Hp} {w : Int} {n : Nat} (hn : n ≤ 20) (h0 : 1 ≤ w) (h1 : w ≤ 1000000000000) : SpV sp_raised ([.int w, .int (n : Int)] ++ []) H (.int (pw w n)) := fun H1 e Q q E => ⟨w, n, rfl, hn, h0, h1, q⟩
section
variable {P : Program} {w : World} {K : PySem.W.Frag} {mg : Str → Option Value} {base : Heap}
theorem ok_check_guest (T : Tx K mg) : FnOk P w K mg base CX0 3 T.f_check_guest T.d_check_guest ["guest", "guests"] sp_check_guest := by
  refine T.F_check_guest.ok sc_check_guest (fun vs H Q E h => ?_) (fun cdv A outer s H vs Q E hr h => ?_)
  · obtain ⟨x, n, rfl, _⟩ := h
    rfl
  · obtain ⟨x, n, rfl, h0, h1, k⟩ := h
    refine ⟨_, (pss_one (ps_if (pt_not (pt_val (pe_call (ok_is_within T) (hr.mono (by decide)) (by rfl) T.g_is_within T.F_is_within.kp T.b_is_within .nil pass0 (pa_cons (pv 0) (pa_cons pe_int (pa_cons (pe_op op_sub (pv 1) pe_int) pa_nil)))))) (pss_one ps_never) pss_nil)), ?_⟩
    refine s_when (by walk_at "et") (fun hb H1 e1 => ?_) fun hb H1 e1 => k _ e1
    rw [decide_eq_true h0, decide_eq_true (show x ≤ n - 1 by omega)] at hb
    cases hb
theorem ok_check_any_number (T : Tx K mg) : FnOk P w K mg base CX0 2 T.f_check_any_number T.d_check_any_number ["number"] sp_check_any := by
  refine T.F_check_any_number.ok sc_check_any_number (fun vs H Q E h => ?_) (fun cdv A outer s H vs Q E hr h => ?_)
  · obtain ⟨x, rfl, _⟩ := h
    rfl
  · obtain ⟨x, rfl, k⟩ := h
    refine ⟨_, (pss_one (ps_if (pt_not (pt_val (pe_call (ok_is_whole T) (hr.mono (by decide)) (by rfl) T.g_is_whole T.F_is_whole.kp T.b_is_whole .nil pass0 (pa_cons (pv 0) pa_nil)))) (pss_one ps_never) pss_nil)), ?_⟩
    exact s_when (b := false) (et_not (a := true) (et_B (ev_call (ea_cons (ev_var rfl) ea_nil) sv_whole))) (fun hb H1 e1 => Bool.noConfusion hb) fun hb H1 e1 => k _ e1
theorem ok_raised (T : Tx K mg) : FnOk P w K mg base CX0 1 T.f_raised T.d_raised ["base", "times"] sp_raised := by
  refine T.F_raised.ok sc_raised (fun vs H Q E h => ?_) (fun cdv A outer s H vs Q E hr h => ?_)
  · obtain ⟨x, n, rfl, _⟩ := h
    rfl
  · obtain ⟨x, n, rfl, hn, h0, h1, k⟩ := h
    refine ⟨_, (pss_cons (ps_set (i := 2) sc_raised.nd rfl (Or.inl rfl) pe_int)
      (pss_cons (ps_for PassesOwn.never rfl (pi_range1 (by rfl) T.m_range (pa_cons (pv 1) pa_nil)) (pg_name (i := 3) sc_raised.nd rfl (Or.inl rfl)) (pss_one (ps_set (i := 2) sc_raised.nd rfl (Or.inl rfl) (pe_op op_mulX (pv 2) (pv 0)))))
      (pss_one (ps_ret (pv 2))))), ?_⟩
    refine q_asg (v := .int 1) ev_c fun H1 e1 => ?_
    refine q_forR1 (n := (n : Int)) (ea_cons (ev_var rfl) ea_nil) ⟨by omega, by omega⟩ (fun i σ' H' => ∃ y : Option V, σ' = [some (.int x), some (.int (n : Int)), some (.int (pw x i)), y] ∧ Ex H H') (fun H2 e2 => ⟨none, rfl, e1.trans e2⟩) ?_ ?_
    · rintro i σ' H' hi ⟨y, rfl, e⟩
      have b := (pw_bd h0 h1 i (by omega)).2
      have m : CMulX (pw x i) x := mulx_ok (a := 1000) (b := 64) (Nat.lt_of_lt_of_le b (Nat.pow_le_pow_right (by decide) (by omega))) (by omega) (by decide)
      exact s_asg (ev_op (ev_var rfl) (ev_var rfl) (rv_I m)) fun H2 e2 => ⟨_, rfl, e.trans e2⟩
    · rintro σ' H' ⟨y, rfl, e⟩
      rw [Int.toNat_natCast]
      exact s_ret (ev_var rfl) fun H2 e2 => k H2 (e.trans e2)
theorem ok_ways_of_openers (T : Tx K mg) : FnOk P w K mg base CX0 1 T.f_ways_of_openers T.d_ways_of_openers ["guests", "group"] sp_ways_of_openers := by
  refine T.F_ways_of_openers.ok sc_ways_of_openers (fun vs H Q E h => ?_) (fun cdv A outer s H vs Q E hr h => ?_)
  · obtain ⟨a, g, n, rfl, _⟩ := h
    rfl
  · obtain ⟨a, g, n, rfl, ha, hn, hg, k⟩ := h
    refine ⟨_, (pss_cons (ps_set (i := 2) sc_ways_of_openers.nd rfl (Or.inl rfl) pe_int)
      (pss_cons (ps_for PassesOwn.never rfl (pi_range1 (by rfl) T.m_range (pa_cons (pv 0) pa_nil)) (pg_name (i := 3) sc_ways_of_openers.nd rfl (Or.inl rfl)) (pss_one (ps_if (pt_cmpR op_notIn_seq (pv 3) (pv 1) (by rfl)) (pss_one (ps_set (i := 2) sc_ways_of_openers.nd rfl (Or.inl rfl) (pe_op op_mulX (pv 2) (pv 3)))) pss_nil)))
      (pss_one (ps_ret (pv 2))))), ?_⟩
    refine q_asg (v := .int 1) ev_c fun H1 e1 => ?_
    refine q_forR1 (n := (n : Int)) (ea_cons (ev_var rfl) ea_nil) ⟨by omega, by omega⟩ (fun i σ' H' => ∃ y : Option V, σ' = [some (.int (n : Int)), some (.ref a), some (.int (wayO g i)), y] ∧ Ex H H') (fun H2 e2 => ⟨none, rfl, e1.trans e2⟩) ?_ ?_
    · rintro i σ' H' hi ⟨y, rfl, e⟩
      have b := (wayO_bd g i (by omega)).2
      have m : CMulX (wayO g i) (i : Int) := mulx_ok (a := 200) (b := 64) (Nat.lt_of_lt_of_le b (Nat.pow_le_pow_right (by decide) (by omega))) (by omega) (by decide)
      refine s_when (b := !decide (i ∈ g)) (et_is (et_test (ev_op (ev_var rfl) (ev_var rfl) (rv_niL (sq_of (e a _ ha)) rfl (nv_flat g)))) (by rw [nv_in])) (fun hb H2 e2 => ?_) fun hb H2 e2 => ?_
      · have ne : i ∉ g := by simpa using hb
        exact s_asg (ev_op (ev_var rfl) (ev_var rfl) (rv_I m)) fun H3 e3 => ⟨some (.int (i : Int)), by rw [wayO_next, if_neg ne]; rfl, e.trans (e2.trans e3)⟩
      · have ne : i ∈ g := by simpa using hb
        exact ⟨some (.int (i : Int)), by rw [wayO_next, if_pos ne]; rfl, e.trans e2⟩
    · rintro σ' H' ⟨y, rfl, e⟩
      rw [Int.toNat_natCast]
      exact s_ret (ev_var rfl) fun H2 e2 => k H2 (e.trans e2)
theorem ok_is_ascending (T : Tx K mg) : FnOk P w K mg base CX0 3 T.f_is_ascending T.d_is_ascending ["thing", "least", "most"] sp_ascending := by
  refine T.F_is_ascending.ok sc_is_ascending (fun vs H Q E h => ?_) (fun cdv A outer s H vs Q E hr h => ?_)
  · obtain ⟨a, g, n, rfl, _⟩ := h
    rfl
  · obtain ⟨a, g, n, rfl, ha, o, hn, k⟩ := h
    refine ⟨_, (pss_cons (ps_if (PW.pt (pw_or (pt_cmpR (op_neTyS (hu_of hr)) (pe_typeOf (by rfl) T.m_type (pv 0)) (pe_bltn (v := .ty "list") (by rfl) T.m_list (by decide +kernel) rfl) (nomark _)) (pw_or1 (pt_cmpR op_eq (pe_callB call_lenR (by rfl) T.m_len (by decide +kernel) (pa_cons (pv 0) pa_nil)) pe_int (nomark _))))) (pss_one (ps_ret pe_bl)) pss_nil)
      (pss_cons (ps_if (pt_not (pt_val (pe_callB (cr_all rfl) (by rfl) T.m_all (by decide +kernel) (pa_cons (pe_lc (own := [("item", 3)]) (g := (gName 3)) (tt := tYes) rfl sc_is_ascending.nd (pi_list (pv 0)) (blkOk_by (own := [("item", 3)]) (N := n_is_ascending) (sc := defScope s_is_ascending) (by decide +kernel)) (fun _ _ _ _ _ => (pg_name (i := 3) sc_is_ascending.nd rfl (Or.inl rfl))) (fun _ _ _ _ _ => pts_nil) (fun _ _ _ _ _ => (pe_call (ok_is_within T) (hr.mono (by decide)) (by rfl) T.g_is_within T.F_is_within.kp T.b_is_within .nil pass0 (pa_cons (pv 3) (pa_cons (pv 1) (pa_cons (pv 2) pa_nil)))))) pa_nil)))) (pss_one (ps_ret pe_bl)) pss_nil)
      (pss_one (ps_ret (pe_cmpR (op_eqD hr.units) (pv 0) (pe_callB (id := "sorted") (r := rSortedSet _) (cr_sortedSet rfl) (by rfl) T.m_sorted (by decide +kernel) (pa_cons (pe_callTy (r := rSetI _ _) (cr_setI rfl) (by rfl) T.m_set (by decide +kernel) (pa_cons (pv 0) pa_nil)) pa_nil)) (nomark _)))))), ?_⟩
    have hl := nv_len g
    have gl := o.len
    have gp := o.pos
    have hm : (nv g).map (fun _ => V.bl true) = (List.replicate g.length true).map V.bl := by
      rw [nv_eq, List.map_map, List.map_replicate]
      exact List.map_const' ..
    refine q_when (b := false) (et_is (et_or (et_test (ev_op (ev_typeL (ev_var rfl) ha) ev_c (rv_neTyS PySem.TypeEq.meta_list))) fun _ => et_test (ev_op (ev_len (K := K) (ev_var rfl) (sq_of ha)) ev_c (rv_eq rfl))) ?_) (fun hb => Bool.noConfusion hb) fun _ H1 e1 => ?_
    · have : ¬ (V.int ((nv g).length : Int) = V.int 0) := fun z => by
        have := V.int.inj z
        omega
      rw [decide_eq_false this]
      simp
    have ha1 := e1 a _ ha
    refine q_when (b := false) (et_is (et_not (a := true) (et_B (ev_is (ev_allN (bs := List.replicate g.length true) ?_) (by simp)))) rfl) (fun hb => Bool.noConfusion hb) fun _ H2 e2 => ?_
    · rw [← hm]
      refine el_map (fun _ => V.bl true) (ev_var rfl) (sq_of ha1) (by omega) (fun _ => rfl) fun i x H2 e2 hx => ?_
      rw [nv_eq, List.getElem?_map] at hx
      obtain ⟨z, hz, rfl⟩ := Option.map_eq_some_iff.mp hx
      have := o.lt z (List.mem_of_getElem? hz)
      refine ev_is (ev_call (ea_cons (ev_var rfl) (ea_cons (ev_var rfl) (ea_cons (ev_var rfl) ea_nil))) sv_between) ?_
      rw [decide_eq_true (show (0 : Int) ≤ (z : Int) by omega), decide_eq_true (show (z : Int) ≤ (n : Int) - 1 by omega)]
      rfl
    · have ha2 := e2 a _ ha1
      have ss := el_sortSet (K := K) (w := w) (ta := tVar 0) (σ := [some (.ref a), some (.int 0), some (.int ((n : Int) - 1)), none]) (H := H2) (l := a) (ns := iz g) (zs := iz g) (ev_var (i := 0) (v := .ref a) rfl) (sq_of ha2) (by simp [iz]; omega) (iz_up o.up) (fun k => Iff.rfl)
      exact s_ret (v := .bl true) (ev_is (ev_eqD (ed_of (ev_var rfl) (dp_L ha2)) (ed_L ss) (shaped_di g) (shaped_di g)) (by rw [eqv_same (shaped_di g)])) fun H3 e3 => k H3 (e1.trans (e2.trans e3))
end

local macro_rules | `(tactic| walk_at "call") => `(tactic| (with_reducible exact sv_whole))
local macro_rules | `(tactic| walk_at "call") => `(tactic| (with_reducible exact sv_between))
local macro_rules | `(tactic| walk_at "call") => `(tactic| ((with_reducible refine' sv_check1 ?c1 ?c2); (case c1 => walk_at "side"); (case c2 => walk_at "side")))
local macro_rules | `(tactic| walk_at "call") => `(tactic| ((with_reducible refine' sv_check_number ?c1 ?c2); (case c1 => walk_at "side"); (case c2 => walk_at "side")))
local macro_rules | `(tactic| walk_at "callU") => `(tactic| ((with_reducible refine' su_fraction ?c1 ?c2); (case c1 => walk_at "side"); (case c2 => walk_at "side")))
local macro_rules | `(tactic| walk_at "call") => `(tactic| ((with_reducible refine' sv_rise ?c1 ?c2); (case c1 => walk_at "side"); (case c2 => walk_at "side")))

/-! ### shares of openers -/
theorem two_ok {k : Nat} {x : Int} (h : x.natAbs < 2 ^ k) (hk : k ≤ 8000) : x.natAbs < 2 ^ 8000 := Nat.lt_of_lt_of_le h (Nat.pow_le_pow_right (by decide) hk)
def loT (w : Int) (g : Nat) : Nat → Int
  | 0 => w
  | k + 1 => loT w g k * ((g : Int) + 1 + (k : Int))
def loB (w : Int) (g : Nat) : Nat → Int
  | 0 => w + (g : Int)
  | k + 1 => loB w g k * (w + ((g : Int) + 1 + (k : Int)))
theorem lo_bd {w : Int} (h0 : 1 ≤ w) (h1 : w ≤ 1000000000000) {g : Nat} : ∀ k, g + 1 + k ≤ 20 → 0 < loT w g k ∧ (loT w g k).natAbs < 2 ^ (41 * (k + 1)) ∧ 0 < loB w g k ∧ (loB w g k).natAbs < 2 ^ (41 * (k + 1))
  | 0, hg => ⟨(by show 0 < w; omega), (by show w.natAbs < 2 ^ 41; omega), (by show 0 < w + (g : Int); omega), (by show (w + (g : Int)).natAbs < 2 ^ 41; omega)⟩
  | k + 1, hg => by
    obtain ⟨a, b, c, d⟩ := lo_bd h0 h1 (g := g) k (by omega)
    show 0 < loT w g k * ((g : Int) + 1 + (k : Int)) ∧ (loT w g k * ((g : Int) + 1 + (k : Int))).natAbs < _ ∧ 0 < loB w g k * (w + ((g : Int) + 1 + (k : Int))) ∧ (loB w g k * (w + ((g : Int) + 1 + (k : Int)))).natAbs < _
    rw [Int.natAbs_mul, Int.natAbs_mul, show 41 * (k + 1 + 1) = 41 * (k + 1) + 41 by omega, Nat.pow_add]
    exact ⟨Int.mul_pos a (by omega), Nat.mul_lt_mul_of_lt_of_le b (by omega) (by decide), Int.mul_pos c (by omega), Nat.mul_lt_mul_of_lt_of_le d (by omega) (by decide)⟩
def sp_opener_share : Sp := fun vs H Q _ => ∃ (n g : Nat) (w : Int), vs = [.int (n : Int), .int w, .int (g : Int)] ∧ g < n ∧ n ≤ 20 ∧ 1 ≤ w ∧ w ≤ 1000000000000 ∧ RetU (frac w (w + (g : Int))) H Q
def sp_last_opener : Sp := fun vs H Q _ => ∃ (n g : Nat) (w : Int), vs = [.int (n : Int), .int w, .int (g : Int)] ∧ g < n ∧ n ≤ 20 ∧ 1 ≤ w ∧ w ≤ 1000000000000 ∧ RetU (frac (loT w g (n - (g + 1))) (loB w g (n - (g + 1)))) H Q
def sp_count_openers : Sp := fun vs H Q _ => ∃ (n : Nat) (a : Addr) (g : List Nat), vs = [.int (n : Int), .ref a] ∧ H a = some (.lst (nv g)) ∧ Gang n g ∧ g[0]? = some 0 ∧ n ≤ 20 ∧ RetV (.int (wayO g n)) H Q
def sp_openers_share : Sp := fun vs H Q _ => ∃ (n : Nat) (w : Int) (a : Addr) (g : List Nat), vs = [.int (n : Int), .int w, .ref a] ∧ H a = some (.lst (nv g)) ∧ Gang n g ∧ g[0]? = some 0 ∧ n ≤ 20 ∧ 1 ≤ w ∧ w ≤ 1000000000000 ∧ RetU (frac (wayO g n * pw w g.length) (rise w n)) H Q
section
variable {P : Program} {w : World} {K : PySem.W.Frag} {mg : Str → Option Value} {base : Heap}
theorem ok_check_group (T : Tx K mg) : FnOk P w K mg base CX0 4 T.f_check_group T.d_check_group ["group", "guests"] sp_check_group := by
  refine T.F_check_group.ok sc_check_group (fun vs H Q E h => ?_) (fun cdv A outer s H vs Q E hr h => ?_)
  · obtain ⟨a, g, n, rfl, _⟩ := h
    rfl
  · obtain ⟨a, g, n, rfl, ha, o, hn, k⟩ := h
    refine ⟨_, (pss_one (ps_if (pt_not (pt_val (pe_call (ok_is_ascending T) (hr.mono (by decide)) (by rfl) T.g_is_ascending T.F_is_ascending.kp T.b_is_ascending .nil pass0 (pa_cons (pv 0) (pa_cons pe_int (pa_cons (pe_op op_sub (pv 1) pe_int) pa_nil)))))) (pss_one ps_never) pss_nil)), ?_⟩
    exact s_when (b := false) (et_not (a := true) (et_B (ev_call (ea_cons (ev_var rfl) (ea_cons ev_c (ea_cons (ev_op (ev_var rfl) ev_c rv_I0) ea_nil))) (sv_ascending ha o hn)))) (fun hb H1 e1 => Bool.noConfusion hb) fun hb H1 e1 => k _ e1
theorem ok_check_openers (T : Tx K mg) : FnOk P w K mg base CX0 5 T.f_check_openers T.d_check_openers ["group", "guests"] sp_check_openers := by
  refine T.F_check_openers.ok sc_check_openers (fun vs H Q E h => ?_) (fun cdv A outer s H vs Q E hr h => ?_)
  · obtain ⟨a, g, n, rfl, _⟩ := h
    rfl
  · obtain ⟨a, g, n, rfl, ha, o, h0, hn, k⟩ := h
    refine ⟨_, (pss_cons (ps_expr (pe_call (ok_check_group T) (hr.mono (by decide)) (by rfl) T.g_check_group T.F_check_group.kp T.b_check_group .nil pass0 (pa_cons (pv 0) (pa_cons (pv 1) pa_nil))))
      (pss_one (ps_if (pt_cmpR op_ne (pe_ix ix_list (pv 0) pe_int (fun _ _ => rfl)) pe_int (nomark _)) (pss_one ps_never) pss_nil))), ?_⟩
    refine q_drop (ev_call (ea_cons (ev_var rfl) (ea_cons (ev_var rfl) ea_nil)) (sv_check_group ha o hn)) fun H1 e1 => ?_
    refine s_when (b := false) (et_is (et_test (ev_op (ev_op (ev_var rfl) ev_c (rv_ixL (K := K) (sq_of (e1 a _ ha)) (atI_nat (j := 0) (nv_get h0)))) ev_c (rv_ne rfl))) (by simp)) (fun hb H2 e2 => Bool.noConfusion hb) fun hb H2 e2 => k _ (e1.trans e2)
theorem ok_opener_share (T : Tx K mg) : FnOk P w K mg base CX0 4 T.f_opener_share T.d_opener_share ["guests", "weight", "guest"] sp_opener_share := by
  refine T.F_opener_share.ok sc_opener_share (fun vs H Q E h => ?_) (fun cdv A outer s H vs Q E hr h => ?_)
  · obtain ⟨n, g, x, rfl, _⟩ := h
    rfl
  · obtain ⟨n, g, x, rfl, hg, hn, h0, h1, k⟩ := h
    refine ⟨_, (pss_cons (ps_expr (pe_call (ok_check_guests T) (hr.mono (by decide)) (by rfl) T.g_check_guests T.F_check_guests.kp T.b_check_guests .nil pass0 (pa_cons (pv 0) pa_nil)))
      (pss_cons (ps_expr (pe_call (ok_check_weight T) (hr.mono (by decide)) (by rfl) T.g_check_weight T.F_check_weight.kp T.b_check_weight .nil pass0 (pa_cons (pv 1) pa_nil)))
      (pss_cons (ps_expr (pe_call (ok_check_guest T) (hr.mono (by decide)) (by rfl) T.g_check_guest T.F_check_guest.kp T.b_check_guest .nil pass0 (pa_cons (pv 2) (pa_cons (pv 0) pa_nil))))
      (pss_one (ps_ret (pe_call (ok_fraction T) (hr.mono (by decide)) (by rfl) T.g_fraction T.F_fraction.kp T.b_fraction .nil pass0 (pa_cons (pv 1) (pa_cons (pe_op op_add (pv 1) (pv 2)) pa_nil)))))))), ?_⟩
    refine q_drop (ev_call (ea_cons (ev_var rfl) ea_nil) (sv_check1 (by omega) (by omega))) fun H1 e1 => ?_
    refine q_drop (ev_call (ea_cons (ev_var rfl) ea_nil) (sv_check1 h0 h1)) fun H2 e2 => ?_
    refine q_drop (ev_call (ea_cons (ev_var rfl) (ea_cons (ev_var rfl) ea_nil)) (sv_check_guest (by omega) (by omega))) fun H3 e3 => ?_
    exact s_retU (eu_call (ea_cons (ev_var rfl) (ea_cons (ev_op (ev_var rfl) (ev_var rfl) rv_I0) ea_nil)) (su_fraction (by omega) (two_ok (k := 64) (by omega) (by decide)))) fun p H4 hp e4 h4 => k p H4 (fresh_back (e1.trans (e2.trans e3)) hp) (e1.trans (e2.trans (e3.trans e4))) h4
theorem ok_last_opener_share (T : Tx K mg) : FnOk P w K mg base CX0 4 T.f_last_opener_share T.d_last_opener_share ["guests", "weight", "guest"] sp_last_opener := by
  refine T.F_last_opener_share.ok sc_last_opener_share (fun vs H Q E h => ?_) (fun cdv A outer s H vs Q E hr h => ?_)
  · obtain ⟨n, g, x, rfl, _⟩ := h
    rfl
  · obtain ⟨n, g, x, rfl, hg, hn, h0, h1, k⟩ := h
    refine ⟨_, (pss_cons (ps_expr (pe_call (ok_check_guests T) (hr.mono (by decide)) (by rfl) T.g_check_guests T.F_check_guests.kp T.b_check_guests .nil pass0 (pa_cons (pv 0) pa_nil)))
      (pss_cons (ps_expr (pe_call (ok_check_weight T) (hr.mono (by decide)) (by rfl) T.g_check_weight T.F_check_weight.kp T.b_check_weight .nil pass0 (pa_cons (pv 1) pa_nil)))
      (pss_cons (ps_expr (pe_call (ok_check_guest T) (hr.mono (by decide)) (by rfl) T.g_check_guest T.F_check_guest.kp T.b_check_guest .nil pass0 (pa_cons (pv 2) (pa_cons (pv 0) pa_nil))))
      (pss_cons (ps_set (i := 3) sc_last_opener_share.nd rfl (Or.inl rfl) (pv 1))
      (pss_cons (ps_set (i := 4) sc_last_opener_share.nd rfl (Or.inl rfl) (pe_op op_add (pv 1) (pv 2)))
      (pss_cons (ps_for PassesOwn.never rfl (pi_range2 (by rfl) T.m_range (pa_cons (pe_op op_add (pv 2) pe_int) (pa_cons (pv 0) pa_nil))) (pg_name (i := 5) sc_last_opener_share.nd rfl (Or.inl rfl)) (pss_cons (ps_set (i := 3) sc_last_opener_share.nd rfl (Or.inl rfl) (pe_op op_mulX (pv 3) (pv 5)))
      (pss_one (ps_set (i := 4) sc_last_opener_share.nd rfl (Or.inl rfl) (pe_op op_mulX (pv 4) (pe_op op_add (pv 1) (pv 5)))))))
      (pss_one (ps_ret (pe_call (ok_fraction T) (hr.mono (by decide)) (by rfl) T.g_fraction T.F_fraction.kp T.b_fraction .nil pass0 (pa_cons (pv 3) (pa_cons (pv 4) pa_nil))))))))))), ?_⟩
    refine q_drop (ev_call (ea_cons (ev_var rfl) ea_nil) (sv_check1 (by omega) (by omega))) fun H1 e1 => ?_
    refine q_drop (ev_call (ea_cons (ev_var rfl) ea_nil) (sv_check1 h0 h1)) fun H2 e2 => ?_
    refine q_drop (ev_call (ea_cons (ev_var rfl) (ea_cons (ev_var rfl) ea_nil)) (sv_check_guest (by omega) (by omega))) fun H3 e3 => ?_
    refine q_asg (v := .int x) (ev_var rfl) fun H4 e4 => ?_
    refine q_asg (v := .int (x + (g : Int))) (ev_op (ev_var rfl) (ev_var rfl) rv_I0) fun H5 e5 => ?_
    refine q_forR2 (lo := (g : Int) + 1) (n := (n : Int)) (ea_cons (ev_op (ev_var rfl) ev_c rv_I0) (ea_cons (ev_var rfl) ea_nil)) ⟨by omega, by omega, by omega, by omega⟩ (fun i σ' H' => ∃ y : Option V, σ' = [some (.int (n : Int)), some (.int x), some (.int (g : Int)), some (.int (loT x g i)), some (.int (loB x g i)), y] ∧ Ex H H')
      (fun H6 e6 => ⟨none, rfl, e1.trans (e2.trans (e3.trans (e4.trans (e5.trans e6))))⟩) ?_ ?_
    · rintro i σ' H' hi ⟨y, rfl, e⟩
      obtain ⟨a, b, c, d⟩ := lo_bd h0 h1 (g := g) i (by omega)
      have m1 : CMulX (loT x g i) ((g : Int) + 1 + (i : Int)) := mulx_ok (a := 41 * (i + 1)) (b := 64) b (by omega) (by omega)
      have m2 : CMulX (loB x g i) (x + ((g : Int) + 1 + (i : Int))) := mulx_ok (a := 41 * (i + 1)) (b := 64) d (by omega) (by omega)
      refine q_asg (v := .int (loT x g (i + 1))) (ev_op (ev_var rfl) (ev_var rfl) (rv_I m1)) fun H6 e6 => ?_
      exact s_asg (v := .int (loB x g (i + 1))) (ev_op (ev_var rfl) (ev_op (ev_var rfl) (ev_var rfl) rv_I0) (rv_I m2)) fun H7 e7 => ⟨_, rfl, e.trans (e6.trans e7)⟩
    · rintro σ' H' ⟨y, rfl, e⟩
      have en : ((n : Int) - ((g : Int) + 1)).toNat = n - (g + 1) := by omega
      rw [en]
      obtain ⟨a, b, c, d⟩ := lo_bd h0 h1 (g := g) (n - (g + 1)) (by omega)
      exact s_retU (eu_call (ea_cons (ev_var rfl) (ea_cons (ev_var rfl) ea_nil)) (su_fraction c (two_ok d (by omega)))) fun p H4 hp e4 h4 => k p H4 (fresh_back e hp) (e.trans e4) h4
theorem ok_count_openers (T : Tx K mg) : FnOk P w K mg base CX0 6 T.f_count_openers T.d_count_openers ["guests", "group"] sp_count_openers := by
  refine T.F_count_openers.ok sc_count_openers (fun vs H Q E h => ?_) (fun cdv A outer s H vs Q E hr h => ?_)
  · obtain ⟨n, a, g, rfl, _⟩ := h
    rfl
  · obtain ⟨n, a, g, rfl, ha, o, h0, hn, k⟩ := h
    refine ⟨_, (pss_cons (ps_expr (pe_call (ok_check_guests T) (hr.mono (by decide)) (by rfl) T.g_check_guests T.F_check_guests.kp T.b_check_guests .nil pass0 (pa_cons (pv 0) pa_nil)))
      (pss_cons (ps_expr (pe_call (ok_check_openers T) (hr.mono (by decide)) (by rfl) T.g_check_openers T.F_check_openers.kp T.b_check_openers .nil pass0 (pa_cons (pv 1) (pa_cons (pv 0) pa_nil))))
      (pss_one (ps_ret (pe_call (ok_ways_of_openers T) (hr.mono (by decide)) (by rfl) T.g_ways_of_openers T.F_ways_of_openers.kp T.b_ways_of_openers .nil pass0 (pa_cons (pv 0) (pa_cons (pv 1) pa_nil))))))), ?_⟩
    have gl := o.len
    have gp := o.pos
    refine q_drop (ev_call (ea_cons (ev_var rfl) ea_nil) (sv_check1 (by omega) (by omega))) fun H1 e1 => ?_
    refine q_drop (ev_call (ea_cons (ev_var rfl) (ea_cons (ev_var rfl) ea_nil)) (sv_check_openers (e1 a _ ha) o h0 hn)) fun H2 e2 => ?_
    exact s_ret (ev_call (ea_cons (ev_var rfl) (ea_cons (ev_var rfl) ea_nil)) (sv_ways_of (e2 a _ (e1 a _ ha)) hn (by omega))) fun H3 e3 => k H3 (e1.trans (e2.trans e3))
theorem ok_openers_share (T : Tx K mg) : FnOk P w K mg base CX0 6 T.f_openers_share T.d_openers_share ["guests", "weight", "group"] sp_openers_share := by
  refine T.F_openers_share.ok sc_openers_share (fun vs H Q E h => ?_) (fun cdv A outer s H vs Q E hr h => ?_)
  · obtain ⟨n, x, a, g, rfl, _⟩ := h
    rfl
  · obtain ⟨n, x, a, g, rfl, ha, o, h0, hn, hx0, hx1, k⟩ := h
    refine ⟨_, (pss_cons (ps_expr (pe_call (ok_check_guests T) (hr.mono (by decide)) (by rfl) T.g_check_guests T.F_check_guests.kp T.b_check_guests .nil pass0 (pa_cons (pv 0) pa_nil)))
      (pss_cons (ps_expr (pe_call (ok_check_weight T) (hr.mono (by decide)) (by rfl) T.g_check_weight T.F_check_weight.kp T.b_check_weight .nil pass0 (pa_cons (pv 1) pa_nil)))
      (pss_cons (ps_expr (pe_call (ok_check_openers T) (hr.mono (by decide)) (by rfl) T.g_check_openers T.F_check_openers.kp T.b_check_openers .nil pass0 (pa_cons (pv 2) (pa_cons (pv 0) pa_nil))))
      (pss_one (ps_ret (pe_call (ok_fraction T) (hr.mono (by decide)) (by rfl) T.g_fraction T.F_fraction.kp T.b_fraction .nil pass0 (pa_cons (pe_op op_mulX (pe_call (ok_ways_of_openers T) (hr.mono (by decide)) (by rfl) T.g_ways_of_openers T.F_ways_of_openers.kp T.b_ways_of_openers .nil pass0 (pa_cons (pv 0) (pa_cons (pv 2) pa_nil))) (pe_call (ok_raised T) (hr.mono (by decide)) (by rfl) T.g_raised T.F_raised.kp T.b_raised .nil pass0 (pa_cons (pv 1) (pa_cons (pe_callB call_lenR (by rfl) T.m_len (by decide +kernel) (pa_cons (pv 2) pa_nil)) pa_nil)))) (pa_cons (pe_call (ok_rising T) (hr.mono (by decide)) (by rfl) T.g_rising T.F_rising.kp T.b_rising .nil pass0 (pa_cons (pv 1) (pa_cons (pv 0) pa_nil))) pa_nil)))))))), ?_⟩
    have gl := o.len
    have gp := o.pos
    refine q_drop (ev_call (ea_cons (ev_var rfl) ea_nil) (sv_check1 (by omega) (by omega))) fun H1 e1 => ?_
    refine q_drop (ev_call (ea_cons (ev_var rfl) ea_nil) (sv_check1 hx0 hx1)) fun H2 e2 => ?_
    refine q_drop (ev_call (ea_cons (ev_var rfl) (ea_cons (ev_var rfl) ea_nil)) (sv_check_openers (e2 a _ (e1 a _ ha)) o h0 hn)) fun H3 e3 => ?_
    have ha3 := e3 a _ (e2 a _ (e1 a _ ha))
    have ln := ev_len (K := K) (ta := tVar 2) (σ := start n_openers_share [.int (n : Int), .int x, .ref a]) (H := H3) (ev_var (i := 2) (v := .ref a) rfl) (sq_of ha3)
    rw [nv_len] at ln
    have b1 := (wayO_bd g n (by omega)).2
    have b2 := (pw_bd hx0 hx1 g.length (by omega)).2
    have m : CMulX (wayO g n) (pw x g.length) := mulx_ok b1 b2 (by omega)
    have rp := rise_pos hx0 n
    have rl := rise_le (w := x) (by omega) n (by omega)
    exact s_retU (eu_call (ea_cons (ev_op (ev_call (ea_cons (ev_var rfl) (ea_cons (ev_var rfl) ea_nil)) (sv_ways_of ha3 hn (by omega))) (ev_call (ea_cons (ev_var rfl) (ea_cons ln ea_nil)) (sv_raised (by omega) hx0 hx1)) (rv_I m)) (ea_cons (ev_call (ea_cons (ev_var rfl) (ea_cons (ev_var rfl) ea_nil)) (sv_rise (by omega) (by omega))) ea_nil)) (su_fraction rp (two_ok (k := 131 * n + 1) (Nat.lt_of_le_of_lt rl (Nat.pow_lt_pow_right (by decide) (by omega))) (by omega)))) fun p H4 hp e4 h4 => k p H4 (fresh_back (e1.trans (e2.trans e3)) hp) (e1.trans (e2.trans (e3.trans e4))) h4
end

local macro_rules | `(tactic| walk_at "call") => `(tactic| (with_reducible exact sv_whole))
local macro_rules | `(tactic| walk_at "call") => `(tactic| (with_reducible exact sv_between))
local macro_rules | `(tactic| walk_at "call") => `(tactic| ((with_reducible refine' sv_check1 ?c1 ?c2); (case c1 => walk_at "side"); (case c2 => walk_at "side")))
local macro_rules | `(tactic| walk_at "call") => `(tactic| ((with_reducible refine' sv_check_number ?c1 ?c2); (case c1 => walk_at "side"); (case c2 => walk_at "side")))
local macro_rules | `(tactic| walk_at "callU") => `(tactic| ((with_reducible refine' su_fraction ?c1 ?c2); (case c1 => walk_at "side"); (case c2 => walk_at "side")))
local macro_rules | `(tactic| walk_at "call") => `(tactic| ((with_reducible refine' sv_rise ?c1 ?c2); (case c1 => walk_at "side"); (case c2 => walk_at "side")))

/-! ### shares of tables -/
section
variable {K : PySem.W.Frag} {σ : L2.St} {H : Hp} {ta tb te : TE} {D : Ends} {tz : TS}
theorem ev_call2LT {sp : Sp} {dvs : List V} {xs : List (List V)} {x z : V} {E : XK} (h : EvLT te σ H xs) (h2 : ∀ H1, Ex H H1 → Ev tb σ H1 x) (hs : ∀ p ws H1, Ex H H1 → H1 p = some (.lst ws) → TL H1 ws xs → SpV sp ([.ref p, x] ++ dvs) H1 z) : Ev (tCall sp dvs E (tCons te (tCons tb tNil))) σ H z := fun H1 e Q q =>
  h H1 e _ fun p ws H2 _ e2 h3 hw => h2 H2 (e.trans e2) H2 (Ex.refl _) _ fun H3 e3 => hs p ws H3 ((e.trans e2).trans e3) (e3 p _ h3) (TL.ex e3 hw) H3 (Ex.refl _) Q (fun H4 e4 => q H4 (e2.trans (e3.trans e4))) E
end

theorem sums_nn {w : Int} (h0 : 1 ≤ w) (h1 : w ≤ 1000000000000) {n : Nat} (hn : n ≤ 20) (t : Nat) : 0 ≤ (sums w n).getD t 0 ∧ ((sums w n).getD t 0).natAbs < 2 ^ 900 := by
  rcases Nat.lt_or_ge t (sums w n).length with h | h
  · have e : (sums w n).getD t 0 = (sums w n)[t] := by rw [List.getD_eq_getElem?_getD, List.getElem?_eq_getElem h]; rfl
    have := sums_small (w := w) (by omega) (by omega) n hn (sums w n)[t] (List.getElem_mem h)
    rw [e]
    refine ⟨this.1, ?_⟩
    have a : (2 : Int) ^ (43 * n) = ((2 ^ (43 * n) : Nat) : Int) := by simp
    rw [a] at this
    have b : 2 ^ (43 * n) < 2 ^ 900 := Nat.pow_lt_pow_right (by decide) (by omega)
    omega
  · have e : (sums w n).getD t 0 = 0 := by rw [List.getD_eq_getElem?_getD, List.getElem?_eq_none h]; rfl
    rw [e]
    exact ⟨by decide, by decide⟩
theorem fac_bd {n : Nat} (hn : n ≤ 40) : ((fac n : Nat) : Int).natAbs < 2 ^ 300 := by
  have : ∀ m, m ≤ 40 → fac m ≤ 2 ^ (6 * m) := fun m => by
    induction m with
    | zero => intro _; exact Nat.le_refl _
    | succ m ih =>
      intro hm
      rw [fac_succ, show 6 * (m + 1) = 6 * m + 6 by omega, Nat.pow_add]
      exact Nat.mul_le_mul (ih (by omega)) (by omega)
  have a := this n hn
  have b : 2 ^ (6 * n) < 2 ^ 300 := Nat.pow_lt_pow_right (by decide) (by omega)
  omega
theorem rise_ok {w : Int} (h0 : 1 ≤ w) (h1 : w ≤ 1000000000000) {n : Nat} (hn : n ≤ 20) : 0 < rise w n ∧ (rise w n).natAbs < 2 ^ 3000 := by
  refine ⟨rise_pos h0 n, ?_⟩
  have := rise_le (w := w) (by omega) n (by omega)
  exact Nat.lt_of_le_of_lt this (Nat.pow_lt_pow_right (by decide) (by omega))
def tabW (w : Int) (g : List Nat) : Int := w * ((fac (g.length - 1) : Nat) : Int)
theorem tabW_bd {w : Int} (h0 : 1 ≤ w) (h1 : w ≤ 1000000000000) {g : List Nat} (hg : g.length ≤ 20) : 0 < tabW w g ∧ (tabW w g).natAbs < 2 ^ 400 := by
  unfold tabW
  have a := fac_pos (g.length - 1)
  have b := fac_bd (n := g.length - 1) (by omega)
  refine ⟨Int.mul_pos (by omega) (by omega), ?_⟩
  rw [Int.natAbs_mul, show 400 = 100 + 300 by omega, Nat.pow_add]
  exact Nat.mul_lt_mul_of_le_of_lt (by omega) b (by decide)
def sp_rank_share : Sp := fun vs H Q _ => ∃ (n r g : Nat) (w : Int), vs = [.int (n : Int), .int w, .int (r : Int), .int (g : Int)] ∧ g < n ∧ r < n ∧ n ≤ 20 ∧ 1 ≤ w ∧ w ≤ 1000000000000 ∧ RetU (frac ((sums w g).getD r 0 * w) (rise w (g + 1))) H Q
def sp_table_weight : Sp := fun vs H Q _ => ∃ (w : Int) (a : Addr) (g : List Nat), vs = [.int w, .ref a] ∧ H a = some (.lst (nv g)) ∧ 1 ≤ g.length ∧ g.length ≤ 20 ∧ 1 ≤ w ∧ w ≤ 1000000000000 ∧ RetV (.int (tabW w g)) H Q
theorem sv_table_weight {H : Hp} {w : Int} {a : Addr} {g : List Nat} (ha : H a = some (.lst (nv g))) (g0 : 1 ≤ g.length) (g1 : g.length ≤ 20) (h0 : 1 ≤ w) (h1 : w ≤ 1000000000000) : SpV sp_table_weight ([.int w, .ref a] ++ []) H (.int (tabW w g)) := fun H1 e Q q E => ⟨w, a, g, rfl, e a _ ha, g0, g1, h0, h1, q⟩
def sp_together : Sp := fun vs H Q _ => ∃ (n : Nat) (w : Int) (a : Addr) (g : List Nat), vs = [.int (n : Int), .int w, .ref a] ∧ H a = some (.lst (nv g)) ∧ Gang n g ∧ n ≤ 20 ∧ 1 ≤ w ∧ w ≤ 1000000000000 ∧ RetU (frac (tabW w g) (rise w g.length)) H Q
def sp_just : Sp := fun vs H Q _ => ∃ (n : Nat) (w : Int) (a : Addr) (g : List Nat), vs = [.int (n : Int), .int w, .ref a] ∧ H a = some (.lst (nv g)) ∧ Gang n g ∧ n ≤ 20 ∧ 1 ≤ w ∧ w ≤ 1000000000000 ∧ RetU (frac (tabW w g * rise w (n - g.length)) (rise w n)) H Q
section
variable {P : Program} {w : World} {K : PySem.W.Frag} {mg : Str → Option Value} {base : Heap}
theorem ok_table_weight (T : Tx K mg) : FnOk P w K mg base CX0 1 T.f_table_weight T.d_table_weight ["weight", "group"] sp_table_weight := by
  refine T.F_table_weight.ok sc_table_weight (fun vs H Q E h => ?_) (fun cdv A outer s H vs Q E hr h => ?_)
  · obtain ⟨x, a, g, rfl, _⟩ := h
    rfl
  · obtain ⟨x, a, g, rfl, ha, g0, g1, h0, h1, k⟩ := h
    refine ⟨_, (pss_one (ps_ret (pe_op op_mulX (pv 0) (pe_callBfun cr_factorial (by rfl) T.i_factorial (pa_cons (pe_op op_sub (pe_callB call_lenR (by rfl) T.m_len (by decide +kernel) (pa_cons (pv 1) pa_nil)) pe_int) pa_nil))))), ?_⟩
    have ln := ev_len (K := K) (ta := tVar 1) (σ := start n_table_weight [.int x, .ref a]) (H := H) (ev_var (i := 1) (v := .ref a) rfl) (sq_of ha)
    rw [nv_len] at ln
    have fb := fac_bd (n := g.length - 1) (by omega)
    have m : CMulX x ((fac (g.length - 1) : Nat) : Int) := mulx_ok (a := 64) (b := 300) (by omega) fb (by decide)
    exact s_ret (ev_op (ev_var rfl) (ev_fac (n := g.length - 1) (ev_is (ev_op ln ev_c rv_I0) (by congr 1; omega)) (by omega)) (rv_I m)) fun H1 e1 => k H1 e1
theorem ok_rank_share (T : Tx K mg) : FnOk P w K mg base CX0 4 T.f_rank_share T.d_rank_share ["guests", "weight", "rank", "guest"] sp_rank_share := by
  refine T.F_rank_share.ok sc_rank_share (fun vs H Q E h => ?_) (fun cdv A outer s H vs Q E hr h => ?_)
  · obtain ⟨n, r, g, x, rfl, _⟩ := h
    rfl
  · obtain ⟨n, r, g, x, rfl, hg, hr', hn, h0, h1, k⟩ := h
    refine ⟨_, (pss_cons (ps_expr (pe_call (ok_check_guests T) (hr.mono (by decide)) (by rfl) T.g_check_guests T.F_check_guests.kp T.b_check_guests .nil pass0 (pa_cons (pv 0) pa_nil)))
      (pss_cons (ps_expr (pe_call (ok_check_weight T) (hr.mono (by decide)) (by rfl) T.g_check_weight T.F_check_weight.kp T.b_check_weight .nil pass0 (pa_cons (pv 1) pa_nil)))
      (pss_cons (ps_expr (pe_call (ok_check_number T) (hr.mono (by decide)) (by rfl) T.g_check_number T.F_check_number.kp T.b_check_number .nil pass0 (pa_cons (pv 2) (pa_cons pe_int (pa_cons (pe_op op_sub (pv 0) pe_int) pa_nil)))))
      (pss_cons (ps_expr (pe_call (ok_check_guest T) (hr.mono (by decide)) (by rfl) T.g_check_guest T.F_check_guest.kp T.b_check_guest .nil pass0 (pa_cons (pv 3) (pa_cons (pv 0) pa_nil))))
      (pss_cons (ps_set (i := 5) sc_rank_share.nd rfl (Or.inl rfl) (pe_call (ok_sum_at T) (hr.mono (by decide)) (by rfl) T.g_sum_at T.F_sum_at.kp T.b_sum_at .nil pass0 (pa_cons (pe_lc (own := [("former", 4)]) (g := (gName 4)) (tt := tYes) rfl sc_rank_share.nd (pi_range1 (by rfl) T.m_range (pa_cons (pv 3) pa_nil)) (blkOk_by (own := [("former", 4)]) (N := n_rank_share) (sc := defScope s_rank_share) (by decide +kernel)) (fun _ _ _ _ _ => (pg_name (i := 4) sc_rank_share.nd rfl (Or.inl rfl))) (fun _ _ _ _ _ => pts_nil) (fun _ _ _ _ _ => (pe_tup (pa_cons (pv 1) (pa_cons (pv 4) pa_nil))))) (pa_cons (pv 2) pa_nil))))
      (pss_one (ps_ret (pe_call (ok_fraction T) (hr.mono (by decide)) (by rfl) T.g_fraction T.F_fraction.kp T.b_fraction .nil pass0 (pa_cons (pe_op op_mulX (pv 5) (pv 1)) (pa_cons (pe_call (ok_rising T) (hr.mono (by decide)) (by rfl) T.g_rising T.F_rising.kp T.b_rising .nil pass0 (pa_cons (pv 1) (pa_cons (pe_op op_add (pv 3) pe_int) pa_nil))) pa_nil)))))))))), ?_⟩
    refine q_drop (ev_call (ea_cons (ev_var rfl) ea_nil) (sv_check1 (by omega) (by omega))) fun H1 e1 => ?_
    refine q_drop (ev_call (ea_cons (ev_var rfl) ea_nil) (sv_check1 h0 h1)) fun H2 e2 => ?_
    refine q_drop (ev_call (ea_cons (ev_var rfl) (ea_cons ev_c (ea_cons (ev_op (ev_var rfl) ev_c rv_I0) ea_nil))) (sv_check_number (by omega) (by omega))) fun H3 e3 => ?_
    refine q_drop (ev_call (ea_cons (ev_var rfl) (ea_cons (ev_var rfl) ea_nil)) (sv_check_guest (by omega) (by omega))) fun H4 e4 => ?_
    have lt := elt_R1 (te := tTup (tCons (tVar 1) (tCons (tVar 4) tNil))) (ta := tCons (tVar 3) tNil) (j := 4) (vs := [4]) (H := H4) (σ := start n_rank_share [.int (n : Int), .int x, .int (r : Int), .int (g : Int)]) (n := (g : Int)) (fun i : Nat => twoV (x, (i : Int))) (ea_cons (ev_var (i := 3) rfl) ea_nil) ⟨by omega, by omega⟩ (fun _ => rfl) (fun i H1 e hi => eu_tup (ea_cons (ev_var rfl) (ea_cons (ev_var rfl) ea_nil)) (Nat.le_of_ble_eq_true rfl))
    have e : (List.range (g : Int).toNat).map (fun i : Nat => twoV (x, (i : Int))) = (facs x g).map twoV := by
      unfold facs
      rw [List.map_map, Int.toNat_natCast]
      rfl
    rw [e] at lt
    have sb := sums_nn h0 h1 (n := g) (by omega) r
    refine q_asg (v := .int ((sums x g).getD r 0)) (ev_call2LT lt (fun H1 _ => ev_var rfl) fun p ws H1 e1 h1' hw H2 e2 Q q E => ⟨p, ws, facs x g, r, rfl, e2 p _ h1', TL.ex e2 hw, fok_facs (by omega) (by omega) (by omega), by rw [sumsF_facs]; exact q⟩) fun H5 e5 => ?_
    have m : CMulX ((sums x g).getD r 0) x := mulx_ok (a := 900) (b := 64) sb.2 (by omega) (by decide)
    have rk := rise_ok h0 h1 (n := g + 1) (by omega)
    exact s_retU (eu_call (ea_cons (ev_op (ev_var rfl) (ev_var rfl) (rv_I m)) (ea_cons (ev_call (vs := [.int x, .int ((g + 1 : Nat) : Int)]) (ea_cons (ev_var rfl) (ea_cons (ev_is (ev_op (ev_var rfl) ev_c rv_I0) (by congr 1)) ea_nil)) (sv_rise (n := g + 1) (by omega) (by omega))) ea_nil)) (su_fraction rk.1 (two_ok rk.2 (by decide)))) fun p H6 hp e6 h6 => k p H6 (fresh_back (e1.trans (e2.trans (e3.trans (e4.trans e5)))) hp) (e1.trans (e2.trans (e3.trans (e4.trans (e5.trans e6))))) h6
theorem ok_together_share (T : Tx K mg) : FnOk P w K mg base CX0 5 T.f_together_share T.d_together_share ["guests", "weight", "group"] sp_together := by
  refine T.F_together_share.ok sc_together_share (fun vs H Q E h => ?_) (fun cdv A outer s H vs Q E hr h => ?_)
  · obtain ⟨n, x, a, g, rfl, _⟩ := h
    rfl
  · obtain ⟨n, x, a, g, rfl, ha, o, hn, h0, h1, k⟩ := h
    refine ⟨_, (pss_cons (ps_expr (pe_call (ok_check_guests T) (hr.mono (by decide)) (by rfl) T.g_check_guests T.F_check_guests.kp T.b_check_guests .nil pass0 (pa_cons (pv 0) pa_nil)))
      (pss_cons (ps_expr (pe_call (ok_check_weight T) (hr.mono (by decide)) (by rfl) T.g_check_weight T.F_check_weight.kp T.b_check_weight .nil pass0 (pa_cons (pv 1) pa_nil)))
      (pss_cons (ps_expr (pe_call (ok_check_group T) (hr.mono (by decide)) (by rfl) T.g_check_group T.F_check_group.kp T.b_check_group .nil pass0 (pa_cons (pv 2) (pa_cons (pv 0) pa_nil))))
      (pss_one (ps_ret (pe_call (ok_fraction T) (hr.mono (by decide)) (by rfl) T.g_fraction T.F_fraction.kp T.b_fraction .nil pass0 (pa_cons (pe_call (ok_table_weight T) (hr.mono (by decide)) (by rfl) T.g_table_weight T.F_table_weight.kp T.b_table_weight .nil pass0 (pa_cons (pv 1) (pa_cons (pv 2) pa_nil))) (pa_cons (pe_call (ok_rising T) (hr.mono (by decide)) (by rfl) T.g_rising T.F_rising.kp T.b_rising .nil pass0 (pa_cons (pv 1) (pa_cons (pe_callB call_lenR (by rfl) T.m_len (by decide +kernel) (pa_cons (pv 2) pa_nil)) pa_nil))) pa_nil)))))))), ?_⟩
    have gl := o.len
    have gp := o.pos
    refine q_drop (ev_call (ea_cons (ev_var rfl) ea_nil) (sv_check1 (by omega) (by omega))) fun H1 e1 => ?_
    refine q_drop (ev_call (ea_cons (ev_var rfl) ea_nil) (sv_check1 h0 h1)) fun H2 e2 => ?_
    refine q_drop (ev_call (ea_cons (ev_var rfl) (ea_cons (ev_var rfl) ea_nil)) (sv_check_group (e2 a _ (e1 a _ ha)) o hn)) fun H3 e3 => ?_
    have ha3 := e3 a _ (e2 a _ (e1 a _ ha))
    have ln := ev_len (K := K) (ta := tVar 2) (σ := start n_together_share [.int (n : Int), .int x, .ref a]) (H := H3) (ev_var (i := 2) (v := .ref a) rfl) (sq_of ha3)
    rw [nv_len] at ln
    have rk := rise_ok h0 h1 (n := g.length) (by omega)
    exact s_retU (eu_call (ea_cons (ev_call (ea_cons (ev_var rfl) (ea_cons (ev_var rfl) ea_nil)) (sv_table_weight ha3 gp (by omega) h0 h1)) (ea_cons (ev_call (ea_cons (ev_var rfl) (ea_cons ln ea_nil)) (sv_rise (by omega) (by omega))) ea_nil)) (su_fraction rk.1 (two_ok rk.2 (by decide)))) fun p H4 hp e4 h4 => k p H4 (fresh_back (e1.trans (e2.trans e3)) hp) (e1.trans (e2.trans (e3.trans e4))) h4
theorem ok_just_share (T : Tx K mg) : FnOk P w K mg base CX0 5 T.f_just_share T.d_just_share ["guests", "weight", "group"] sp_just := by
  refine T.F_just_share.ok sc_just_share (fun vs H Q E h => ?_) (fun cdv A outer s H vs Q E hr h => ?_)
  · obtain ⟨n, x, a, g, rfl, _⟩ := h
    rfl
  · obtain ⟨n, x, a, g, rfl, ha, o, hn, h0, h1, k⟩ := h
    refine ⟨_, (pss_cons (ps_expr (pe_call (ok_check_guests T) (hr.mono (by decide)) (by rfl) T.g_check_guests T.F_check_guests.kp T.b_check_guests .nil pass0 (pa_cons (pv 0) pa_nil)))
      (pss_cons (ps_expr (pe_call (ok_check_weight T) (hr.mono (by decide)) (by rfl) T.g_check_weight T.F_check_weight.kp T.b_check_weight .nil pass0 (pa_cons (pv 1) pa_nil)))
      (pss_cons (ps_expr (pe_call (ok_check_group T) (hr.mono (by decide)) (by rfl) T.g_check_group T.F_check_group.kp T.b_check_group .nil pass0 (pa_cons (pv 2) (pa_cons (pv 0) pa_nil))))
      (pss_cons (ps_set (i := 3) sc_just_share.nd rfl (Or.inl rfl) (pe_op op_mulX (pe_call (ok_table_weight T) (hr.mono (by decide)) (by rfl) T.g_table_weight T.F_table_weight.kp T.b_table_weight .nil pass0 (pa_cons (pv 1) (pa_cons (pv 2) pa_nil))) (pe_call (ok_rising T) (hr.mono (by decide)) (by rfl) T.g_rising T.F_rising.kp T.b_rising .nil pass0 (pa_cons (pv 1) (pa_cons (pe_op op_sub (pv 0) (pe_callB call_lenR (by rfl) T.m_len (by decide +kernel) (pa_cons (pv 2) pa_nil))) pa_nil)))))
      (pss_one (ps_ret (pe_call (ok_fraction T) (hr.mono (by decide)) (by rfl) T.g_fraction T.F_fraction.kp T.b_fraction .nil pass0 (pa_cons (pv 3) (pa_cons (pe_call (ok_rising T) (hr.mono (by decide)) (by rfl) T.g_rising T.F_rising.kp T.b_rising .nil pass0 (pa_cons (pv 1) (pa_cons (pv 0) pa_nil))) pa_nil))))))))), ?_⟩
    have gl := o.len
    have gp := o.pos
    refine q_drop (ev_call (ea_cons (ev_var rfl) ea_nil) (sv_check1 (by omega) (by omega))) fun H1 e1 => ?_
    refine q_drop (ev_call (ea_cons (ev_var rfl) ea_nil) (sv_check1 h0 h1)) fun H2 e2 => ?_
    refine q_drop (ev_call (ea_cons (ev_var rfl) (ea_cons (ev_var rfl) ea_nil)) (sv_check_group (e2 a _ (e1 a _ ha)) o hn)) fun H3 e3 => ?_
    have ha3 := e3 a _ (e2 a _ (e1 a _ ha))
    have ln := ev_len (K := K) (ta := tVar 2) (σ := start n_just_share [.int (n : Int), .int x, .ref a]) (H := H3) (ev_var (i := 2) (v := .ref a) rfl) (sq_of ha3)
    rw [nv_len] at ln
    have rk := rise_ok h0 h1 (n := n) (by omega)
    have rj := rise_ok h0 h1 (n := n - g.length) (by omega)
    have tb := tabW_bd h0 h1 (g := g) (by omega)
    have m : CMulX (tabW x g) (rise x (n - g.length)) := mulx_ok tb.2 rj.2 (by decide)
    refine q_asg (v := .int (tabW x g * rise x (n - g.length))) (ev_op (ev_call (ea_cons (ev_var rfl) (ea_cons (ev_var rfl) ea_nil)) (sv_table_weight ha3 gp (by omega) h0 h1)) (ev_call (ea_cons (ev_var rfl) (ea_cons (ev_is (ev_op (ev_var rfl) ln rv_I0) (by congr 1; omega)) ea_nil)) (sv_rise (n := n - g.length) (by omega) (by omega))) (rv_I m)) fun H4 e4 => ?_
    exact s_retU (eu_call (ea_cons (ev_var rfl) (ea_cons (ev_call (ea_cons (ev_var rfl) (ea_cons (ev_var rfl) ea_nil)) (sv_rise (by omega) (by omega))) ea_nil)) (su_fraction rk.1 (two_ok rk.2 (by decide)))) fun p H5 hp e5 h5 => k p H5 (fresh_back (e1.trans (e2.trans (e3.trans e4))) hp) (e1.trans (e2.trans (e3.trans (e4.trans e5)))) h5
end

local macro_rules | `(tactic| walk_at "call") => `(tactic| (with_reducible exact sv_whole))
local macro_rules | `(tactic| walk_at "call") => `(tactic| (with_reducible exact sv_between))
local macro_rules | `(tactic| walk_at "call") => `(tactic| ((with_reducible refine' sv_check1 ?c1 ?c2); (case c1 => walk_at "side"); (case c2 => walk_at "side")))
local macro_rules | `(tactic| walk_at "call") => `(tactic| ((with_reducible refine' sv_check_number ?c1 ?c2); (case c1 => walk_at "side"); (case c2 => walk_at "side")))
local macro_rules | `(tactic| walk_at "callU") => `(tactic| ((with_reducible refine' su_fraction ?c1 ?c2); (case c1 => walk_at "side"); (case c2 => walk_at "side")))
local macro_rules | `(tactic| walk_at "call") => `(tactic| ((with_reducible refine' sv_rise ?c1 ?c2); (case c1 => walk_at "side"); (case c2 => walk_at "side")))

/-! ### tables of a group, what is told of numbers of tables -/
section
variable {K : PySem.W.Frag} {σ : L2.St} {H : Hp} {ta tb te tl : TE}
theorem elt_mapN {xs : List V} {j : Nat} {vs : List Nat} (f : Nat → List V) (h : EvL tl σ H xs) (hz : xs.length ≤ 40000) (hw : ∀ x, wipe ((wipe σ vs).set j (some x)) vs = wipe σ vs)
    (he : ∀ (i : Nat) (x : V) H1, Ex H H1 → xs[i]? = some x → EvU te ((wipe σ vs).set j (some x)) H1 (f i)) : EvLT (tLc (iList K tl) (gName j) tYes te vs) σ H ((List.range xs.length).map f) := fun H1 e Q q =>
  h H1 e _ fun l H2 nl e2 h2 => elt_map (K := K) (tl := fun _ H' R => R (.ref l) H') (H := H2) (σ := σ) (xs := xs) f (fun H3 _ Q q => q H3 (Ex.refl _)) (sq_of h2) hz hw (fun i x H3 e3 hx => he i x H3 (e.trans (e2.trans e3)) hx) H2 (Ex.refl _) Q fun p ws H3 hp e3 h3 t3 => q p ws H3 (fresh_back e2 hp) (e2.trans e3) h3 t3
/-- [a tuple] + an old list of tuples -/
theorem elt_cons1 {r : List V} {b : Addr} {ws : List V} {rs : List (List V)} (h : EvU te σ H r) (hb : Ev tb σ H (.ref b)) (hl : H b = some (.lst ws)) (ht : TL H ws rs) (hz : ws.length ≤ 1000) : EvLT (tOp rCat (tLst (tCons te tNil)) tb) σ H (r :: rs) := fun H1 e Q q =>
  h H1 e _ fun u H2 nu e2 hu => ⟨sz_of (by show 1 ≤ 100000; decide), fun l hl2 => hb _ (e.trans (e2.trans (Ex.new hl2))) _ fun H4 e4 => by
    have ul : u ≠ l := fun z => by
      subst z
      rw [hu] at hl2
      cases hl2
    have hu4 := e4 u _ ((Ex.new hl2) u _ hu)
    have hb4 := e4 b _ ((Ex.new hl2) b _ (e2 b _ (e b _ hl)))
    have E4 := e.trans (e2.trans ((Ex.new hl2 (o := .lst [.ref u])).trans e4))
    refine ⟨l, b, [.ref u], ws, rfl, rfl, e4 l _ upd_same, hb4, sz_of (by show 1 + ws.length ≤ 100000; omega), fun p hp => q p ([.ref u] ++ ws) _ (fresh_back (e2.trans ((Ex.new hl2 (o := .lst [.ref u])).trans e4)) hp) ((e2.trans ((Ex.new hl2 (o := .lst [.ref u])).trans e4)).trans (Ex.new hp)) upd_same ?_⟩
    exact .cons ⟨u, rfl, (Ex.new hp) u _ hu4⟩ ((ht.ex E4).ex (Ex.new hp))⟩
end
def othF (len n : Nat) : List (Int × Int) := (List.range (n - len)).map fun i : Nat => (1, ((len + i : Nat) : Int))
theorem fok_oth {len n : Nat} (hn : n ≤ 20) : FOk ((1, 0) :: othF len n) := ⟨by
  rw [List.length_cons]
  unfold othF
  rw [List.length_map, List.length_range]
  omega, fun f hf => by
  rcases List.mem_cons.mp hf with e | hf
  · rw [e]
    exact ⟨by decide, by decide, by decide, by decide⟩
  · obtain ⟨i, hi, rfl⟩ := List.mem_map.mp hf
    have := List.mem_range.mp hi
    exact ⟨(by decide : (0 : Int) ≤ 1), (by decide +kernel : (1 : Int) ≤ 2 ^ 42), by show (0 : Int) ≤ ((len + i : Nat) : Int); omega, by show ((len + i : Nat) : Int) ≤ 2 ^ 42; omega⟩⟩
theorem sumsF_nn {fs : List (Int × Int)} (h : FOk fs) (hl : fs.length ≤ 21) (t : Nat) : 0 ≤ (sumsF fs).getD t 0 ∧ ((sumsF fs).getD t 0).natAbs < 2 ^ 1000 := by
  rcases Nat.lt_or_ge t (sumsF fs).length with z | z
  · have e : (sumsF fs).getD t 0 = (sumsF fs)[t] := by rw [List.getD_eq_getElem?_getD, List.getElem?_eq_getElem z]; rfl
    have := sumsF_small h (sumsF fs)[t] (List.getElem_mem z)
    rw [e]
    refine ⟨this.1, ?_⟩
    have a : (2 : Int) ^ (43 * fs.length) = ((2 ^ (43 * fs.length) : Nat) : Int) := by simp
    rw [a] at this
    have b : 2 ^ (43 * fs.length) < 2 ^ 1000 := Nat.pow_lt_pow_right (by decide) (by omega)
    omega
  · have e : (sumsF fs).getD t 0 = 0 := by rw [List.getD_eq_getElem?_getD, List.getElem?_eq_none z]; rfl
    rw [e]
    exact ⟨by decide, by decide⟩
def sp_tables_shares : Sp := fun vs H Q _ => ∃ (n : Nat) (w : Int) (a : Addr) (g : List Nat), vs = [.int (n : Int), .int w, .ref a] ∧ H a = some (.lst (nv g)) ∧ Gang n g ∧ n ≤ 20 ∧ 1 ≤ w ∧ w ≤ 1000000000000 ∧ (∀ p ws H2, H p = none → Ex H H2 → H2 p = some (.lst ws) → TL H2 ws ((List.range (g.length + 1)).map fun t => frac ((sums w g.length).getD t 0) (rise w g.length)) → Q (.ref p) H2)
def sp_given : Sp := fun vs H Q _ => ∃ (n m : Nat) (a : Addr) (g : List Nat), vs = [.int (n : Int), .int (m : Int), .ref a] ∧ H a = some (.lst (nv g)) ∧ Gang n g ∧ n ≤ 20 ∧ 1 ≤ m ∧ m ≤ n ∧ RetU (frac (((fac (g.length - 1) : Nat) : Int) * (sumsF ((1, 0) :: othF g.length n)).getD m 0) ((sums 1 n).getD m 0)) H Q
theorem stir_pos : ∀ {n m : Nat}, 1 ≤ m → m ≤ n → 0 < stir n m := by
  intro n
  induction n with
  | zero => intro m h0 h1; omega
  | succ n ih =>
    intro m h0 h1
    cases m with
    | zero => omega
    | succ t =>
      show 0 < n * stir n (t + 1) + stir n t
      cases t with
      | zero =>
        cases n with
        | zero => decide
        | succ k =>
          have := Nat.mul_pos (show 0 < k + 1 by omega) (ih (m := 0 + 1) (by omega) (by omega))
          omega
      | succ u =>
        have := ih (m := u + 1) (by omega) (by omega)
        omega
theorem sums_pos1 {n m : Nat} (h0 : 1 ≤ m) (h1 : m ≤ n) : 0 < (sums 1 n).getD m 0 := by
  rw [List.getD_eq_getElem?_getD, sums_get 1 n m h1]
  have := stir_pos h0 h1
  show 0 < (stir n m : Int) * 1 ^ m
  rw [Int.one_pow]
  omega
theorem ev_ixN {K : PySem.W.Frag} {σ : L2.St} {H : Hp} {ta tb : TE} {xs : List V} {i : Int} {v : V} (h : EvL ta σ H xs) (hb : Ev tb σ H (.int i)) (hi : atI xs i = some v) : Ev (tOp (rIxL K) ta tb) σ H v := fun H1 e Q q =>
  h H1 e _ fun p H2 hp e2 h2 => hb H2 (e.trans e2) _ fun H3 e3 => rv_ixL (K := K) (sq_of (e3 p _ h2)) hi H3 (Ex.refl H3) Q fun H4 e4 => q H4 (e2.trans (e3.trans e4))
section
variable {P : Program} {w : World} {K : PySem.W.Frag} {mg : Str → Option Value} {base : Heap}
theorem ok_tables_shares (T : Tx K mg) : FnOk P w K mg base CX0 5 T.f_tables_shares T.d_tables_shares ["guests", "weight", "group"] sp_tables_shares := by
  refine T.F_tables_shares.ok sc_tables_shares (fun vs H Q E h => ?_) (fun cdv A outer s H vs Q E hr h => ?_)
  · obtain ⟨n, x, a, g, rfl, _⟩ := h
    rfl
  · obtain ⟨n, x, a, g, rfl, ha, o, hn, h0, h1, k⟩ := h
    refine ⟨_, (pss_cons (ps_expr (pe_call (ok_check_guests T) (hr.mono (by decide)) (by rfl) T.g_check_guests T.F_check_guests.kp T.b_check_guests .nil pass0 (pa_cons (pv 0) pa_nil)))
      (pss_cons (ps_expr (pe_call (ok_check_weight T) (hr.mono (by decide)) (by rfl) T.g_check_weight T.F_check_weight.kp T.b_check_weight .nil pass0 (pa_cons (pv 1) pa_nil)))
      (pss_cons (ps_expr (pe_call (ok_check_group T) (hr.mono (by decide)) (by rfl) T.g_check_group T.F_check_group.kp T.b_check_group .nil pass0 (pa_cons (pv 2) (pa_cons (pv 0) pa_nil))))
      (pss_cons (ps_set (i := 3) sc_tables_shares.nd rfl (Or.inr rfl) (pe_call (ok_rising T) (hr.mono (by decide)) (by rfl) T.g_rising T.F_rising.kp T.b_rising .nil pass0 (pa_cons (pv 1) (pa_cons (pe_callB call_lenR (by rfl) T.m_len (by decide +kernel) (pa_cons (pv 2) pa_nil)) pa_nil))))
      (pss_one (ps_ret (pe_lc (own := [("part", 4)]) (g := (gName 4)) (tt := tYes) rfl sc_tables_shares.nd (pi_list (pe_call (ok_weights_by_tables T) (hr.mono (by decide)) (by rfl) T.g_weights_by_tables T.F_weights_by_tables.kp T.b_weights_by_tables .nil pass0 (pa_cons (pe_callB (id := "len") (r := rLenS K) call_lenR (by rfl) T.m_len (by decide +kernel) (pa_cons (pv 2) pa_nil)) (pa_cons (pv 1) pa_nil)))) (blkOk_by (own := [("part", 4)]) (N := n_tables_shares) (sc := defScope s_tables_shares) (by decide +kernel)) (fun _ _ _ _ _ => (pg_name (i := 4) sc_tables_shares.nd rfl (Or.inl rfl))) (fun _ _ _ _ _ => pts_nil) (fun _ _ _ _ _ => (pe_call (ok_fraction T) (hr.mono (by decide)) (by rfl) T.g_fraction T.F_fraction.kp T.b_fraction .nil pass0 (pa_cons (pv 4) (pa_cons (pv 3) pa_nil))))))))))), ?_⟩
    have gl := o.len
    have gp := o.pos
    refine q_drop (ev_call (ea_cons (ev_var rfl) ea_nil) (sv_check1 (by omega) (by omega))) fun H1 e1 => ?_
    refine q_drop (ev_call (ea_cons (ev_var rfl) ea_nil) (sv_check1 h0 h1)) fun H2 e2 => ?_
    refine q_drop (ev_call (ea_cons (ev_var rfl) (ea_cons (ev_var rfl) ea_nil)) (sv_check_group (e2 a _ (e1 a _ ha)) o hn)) fun H3 e3 => ?_
    have ha3 := e3 a _ (e2 a _ (e1 a _ ha))
    have ln : ∀ (σ : L2.St) (H4 : Hp), σ[2]? = some (some (.ref a)) → Ex H3 H4 → Ev (tCB (rLenS K) (tCons (tVar 2) tNil)) σ H4 (.int (g.length : Int)) := fun σ H4 hσ e4 => by
      have := ev_len (K := K) (ta := tVar 2) (σ := σ) (H := H4) (ev_var (i := 2) (v := .ref a) hσ) (sq_of (e4 a _ ha3))
      rw [nv_len] at this
      exact this
    have rk := rise_ok h0 h1 (n := g.length) (by omega)
    refine q_asg (v := .int (rise x g.length)) (ev_call (ea_cons (ev_var rfl) (ea_cons (ln _ _ rfl (Ex.refl _)) ea_nil)) (sv_rise (by omega) (by omega))) fun H4 e4 => ?_
    have sl := sums_len x g.length
    have g0 := elt_mapN (K := K) (te := tCall sp_fraction [] E0 (tCons (tVar 4) (tCons (tVar 3) tNil))) (tl := tCall sp_weights_by_tables [] E0 (tCons (tCB (rLenS K) (tCons (tVar 2) tNil)) (tCons (tVar 1) tNil))) (j := 4) (vs := [4]) (H := H4) (xs := (sums x g.length).map V.int) (σ := [some (.int (n : Int)), some (.int x), some (.ref a), some (.int (rise x g.length)), none]) (fun t => frac ((sums x g.length).getD t 0) (rise x g.length)) (el_call (ea_cons (ln _ _ rfl e4) (ea_cons (ev_var rfl) ea_nil)) (sl_wbt (by omega) (by omega) (by omega))) (by rw [List.length_map, sl]; omega) (fun _ => rfl) fun i v H5 e5 hv => ?_
    · rw [List.length_map, sl] at g0
      exact s_retLT g0 fun p ws H5 hp e5 h5 t5 => k p ws H5 (fresh_back (e1.trans (e2.trans (e3.trans e4))) hp) (e1.trans (e2.trans (e3.trans (e4.trans e5)))) h5 t5
    · rw [List.getElem?_map] at hv
      obtain ⟨z, hz, rfl⟩ := Option.map_eq_some_iff.mp hv
      have ez : (sums x g.length).getD i 0 = z := by rw [List.getD_eq_getElem?_getD, hz]; rfl
      rw [ez]
      exact eu_call (ea_cons (ev_var rfl) (ea_cons (ev_var rfl) ea_nil)) (su_fraction rk.1 (two_ok rk.2 (by decide)))
theorem ok_given_tables (T : Tx K mg) : FnOk P w K mg base CX0 5 T.f_given_tables T.d_given_tables ["guests", "number", "group"] sp_given := by
  refine T.F_given_tables.ok sc_given_tables (fun vs H Q E h => ?_) (fun cdv A outer s H vs Q E hr h => ?_)
  · obtain ⟨n, m, a, g, rfl, _⟩ := h
    rfl
  · obtain ⟨n, m, a, g, rfl, ha, o, hn, hm0, hm1, k⟩ := h
    refine ⟨_, (pss_cons (ps_expr (pe_call (ok_check_guests T) (hr.mono (by decide)) (by rfl) T.g_check_guests T.F_check_guests.kp T.b_check_guests .nil pass0 (pa_cons (pv 0) pa_nil)))
      (pss_cons (ps_expr (pe_call (ok_check_number T) (hr.mono (by decide)) (by rfl) T.g_check_number T.F_check_number.kp T.b_check_number .nil pass0 (pa_cons (pv 1) (pa_cons pe_int (pa_cons (pv 0) pa_nil)))))
      (pss_cons (ps_expr (pe_call (ok_check_group T) (hr.mono (by decide)) (by rfl) T.g_check_group T.F_check_group.kp T.b_check_group .nil pass0 (pa_cons (pv 2) (pa_cons (pv 0) pa_nil))))
      (pss_cons (ps_setLc (i := 4) (own := [("guest", 3)]) (g := (gName 3)) (tt := tYes) rfl sc_given_tables.nd rfl rfl (sw_true rfl rfl rfl (by decide +kernel)) (pi_range2 (by rfl) T.m_range (pa_cons (pe_callB (id := "len") (r := rLenS K) call_lenR (by rfl) T.m_len (by decide +kernel) (pa_cons (pv 2) pa_nil)) (pa_cons (pv 0) pa_nil))) (blkOk_by (own := [("guest", 3)]) (N := n_given_tables) (sc := defScope s_given_tables) (by decide +kernel)) (fun _ _ _ _ _ => (pg_name (i := 3) sc_given_tables.nd rfl (Or.inl rfl))) (fun _ _ _ _ _ => pts_nil) (fun _ _ _ _ _ => (pe_tup (pa_cons pe_int (pa_cons (pv 3) pa_nil)))))
      (pss_cons (ps_set (i := 5) sc_given_tables.nd rfl (Or.inl rfl) (pe_op op_mulX (pe_callBfun cr_factorial (by rfl) T.i_factorial (pa_cons (pe_op op_sub (pe_callB call_lenR (by rfl) T.m_len (by decide +kernel) (pa_cons (pv 2) pa_nil)) pe_int) pa_nil)) (pe_call (ok_sum_at T) (hr.mono (by decide)) (by rfl) T.g_sum_at T.F_sum_at.kp T.b_sum_at .nil pass0 (pa_cons (pe_op op_cat (pe_lst (pa_cons (pe_tup (pa_cons pe_int (pa_cons pe_int pa_nil))) pa_nil)) (pv 4)) (pa_cons (pv 1) pa_nil)))))
      (pss_one (ps_ret (pe_call (ok_fraction T) (hr.mono (by decide)) (by rfl) T.g_fraction T.F_fraction.kp T.b_fraction .nil pass0 (pa_cons (pv 5) (pa_cons (pe_ix ix_list (pe_call (ok_weights_by_tables T) (hr.mono (by decide)) (by rfl) T.g_weights_by_tables T.F_weights_by_tables.kp T.b_weights_by_tables .nil pass0 (pa_cons (pv 0) (pa_cons pe_int pa_nil))) (pv 1) (fun _ _ => rfl)) pa_nil)))))))))), ?_⟩
    have gl := o.len
    have gp := o.pos
    refine q_drop (ev_call (ea_cons (ev_var rfl) ea_nil) (sv_check1 (by omega) (by omega))) fun H1 e1 => ?_
    refine q_drop (ev_call (ea_cons (ev_var rfl) (ea_cons ev_c (ea_cons (ev_var rfl) ea_nil))) (sv_check_number (by omega) (by omega))) fun H2 e2 => ?_
    refine q_drop (ev_call (ea_cons (ev_var rfl) (ea_cons (ev_var rfl) ea_nil)) (sv_check_group (e2 a _ (e1 a _ ha)) o hn)) fun H3 e3 => ?_
    have ha3 := e3 a _ (e2 a _ (e1 a _ ha))
    have ln : ∀ (σ : L2.St) (H4 : Hp), σ[2]? = some (some (.ref a)) → Ex H3 H4 → Ev (tCB (rLenS K) (tCons (tVar 2) tNil)) σ H4 (.int (g.length : Int)) := fun σ H4 hσ e4 => by
      have := ev_len (K := K) (ta := tVar 2) (σ := σ) (H := H4) (ev_var (i := 2) (v := .ref a) hσ) (sq_of (e4 a _ ha3))
      rw [nv_len] at this
      exact this
    have lt := elt_R2 (te := tTup (tCons (tC (.int 1)) (tCons (tVar 3) tNil))) (ta := tCons (tCB (rLenS K) (tCons (tVar 2) tNil)) (tCons (tVar 0) tNil)) (j := 3) (vs := [3]) (H := H3) (σ := start n_given_tables [.int (n : Int), .int (m : Int), .ref a]) (lo := (g.length : Int)) (n := (n : Int)) (fun i : Nat => twoV (1, ((g.length + i : Nat) : Int))) (ea_cons (ln _ _ rfl (Ex.refl _)) (ea_cons (ev_var (i := 0) rfl) ea_nil)) ⟨by omega, by omega, by omega, by omega⟩ (fun _ => rfl) (fun i H1 e hi => eu_tup (ea_cons ev_c (ea_cons (ev_is (ev_var rfl) (congrArg V.int (by omega))) ea_nil)) (Nat.le_of_ble_eq_true rfl))
    have e : (List.range ((n : Int) - (g.length : Int)).toNat).map (fun i : Nat => twoV (1, ((g.length + i : Nat) : Int))) = (othF g.length n).map twoV := by
      unfold othF
      rw [List.map_map, show ((n : Int) - (g.length : Int)).toNat = n - g.length by omega]
      rfl
    rw [e] at lt
    refine q_asgLT lt fun p ws H4 hp e4 h4 t4 => ?_
    have wl := t4.len
    have ol : (othF g.length n).length = n - g.length := by unfold othF; rw [List.length_map, List.length_range]
    rw [List.length_map, ol] at wl
    have sn := sumsF_nn (fok_oth (len := g.length) hn) (by rw [List.length_cons, ol]; omega) m
    have fb := fac_bd (n := g.length - 1) (by omega)
    have mm : CMulX ((fac (g.length - 1) : Nat) : Int) ((sumsF ((1, 0) :: othF g.length n)).getD m 0) := mulx_ok fb sn.2 (by decide)
    have sb := sums_nn (w := 1) (by decide) (by decide) (n := n) hn m
    refine q_asg (v := .int (((fac (g.length - 1) : Nat) : Int) * (sumsF ((1, 0) :: othF g.length n)).getD m 0)) (ev_op (ev_fac (n := g.length - 1) (ev_is (ev_op (ln _ _ rfl e4) ev_c rv_I0) (by congr 1; omega)) (by omega)) (ev_call2LT (xs := ((1, 0) :: othF g.length n).map twoV) (elt_cons1 (r := twoV (1, 0)) (eu_tup (ea_cons ev_c (ea_cons ev_c ea_nil)) (Nat.le_of_ble_eq_true rfl)) (ev_var rfl) h4 t4 (by omega)) (fun H1 _ => ev_var rfl) fun p ws H1 e1 h1' hw H2 e2 Q q E => ⟨p, ws, (1, 0) :: othF g.length n, m, rfl, e2 p _ h1', TL.ex e2 hw, fok_oth hn, q⟩) (rv_I mm)) fun H5 e5 => ?_
    have sg : (sums 1 n)[m]? = some ((sums 1 n).getD m 0) := by
      have := sums_len 1 n
      rw [List.getD_eq_getElem?_getD, List.getElem?_eq_getElem (by omega)]
      rfl
    have pos : 0 < (sums 1 n).getD m 0 := sums_pos1 hm0 hm1
    exact s_retU (eu_call (ea_cons (ev_var rfl) (ea_cons (ev_ixN (el_call (ea_cons (ev_var rfl) (ea_cons ev_c ea_nil)) (sl_wbt hn (by decide) (by decide))) (ev_var rfl) (atI_nat (j := m) (by rw [List.getElem?_map, sg]; rfl))) ea_nil)) (su_fraction pos (two_ok sb.2 (by decide)))) fun p H6 hp e6 h6 => k p H6 (fresh_back (e1.trans (e2.trans (e3.trans (e4.trans e5)))) hp) (e1.trans (e2.trans (e3.trans (e4.trans (e5.trans e6))))) h6
end

local macro_rules | `(tactic| walk_at "call") => `(tactic| (with_reducible exact sv_whole))
local macro_rules | `(tactic| walk_at "call") => `(tactic| (with_reducible exact sv_between))
local macro_rules | `(tactic| walk_at "call") => `(tactic| ((with_reducible refine' sv_check1 ?c1 ?c2); (case c1 => walk_at "side"); (case c2 => walk_at "side")))
local macro_rules | `(tactic| walk_at "call") => `(tactic| ((with_reducible refine' sv_check_number ?c1 ?c2); (case c1 => walk_at "side"); (case c2 => walk_at "side")))
local macro_rules | `(tactic| walk_at "callU") => `(tactic| ((with_reducible refine' su_fraction ?c1 ?c2); (case c1 => walk_at "side"); (case c2 => walk_at "side")))
local macro_rules | `(tactic| walk_at "call") => `(tactic| ((with_reducible refine' sv_rise ?c1 ?c2); (case c1 => walk_at "side"); (case c2 => walk_at "side")))

/-! ### home by steps -/
theorem prm60 {n k : Nat} (h : k ≤ n) (hn : n ≤ 60) : 0 ≤ prm n k ∧ (prm n k).natAbs < 2 ^ 400 := by
  have a := prm_fac h
  have b := prm_pos h
  have c := fac_pos (n - k)
  refine ⟨by omega, ?_⟩
  have d : ∀ m, m ≤ 60 → fac m ≤ 2 ^ (6 * m) := fun m => by
    induction m with
    | zero => intro _; exact Nat.le_refl _
    | succ m ih =>
      intro hm
      rw [fac_succ, show 6 * (m + 1) = 6 * m + 6 by omega, Nat.pow_add]
      exact Nat.mul_le_mul (ih (by omega)) (by omega)
  have e := d n hn
  have f : 2 ^ (6 * n) < 2 ^ 400 := Nat.pow_lt_pow_right (by decide) (by omega)
  have : prm n k * 1 ≤ prm n k * (fac (n - k) : Int) := Int.mul_le_mul_of_nonneg_left (by omega) (by omega)
  rw [a, Int.mul_one] at this
  omega
def wsz (n : Nat) (w : Int) (s : Nat) : Int := w * prm (n - 1) (s - 1) * rise w (n - s)
def hsz (n : Nat) (st : Int) : List Nat := ((List.range n).filter fun i : Nat => decide (st % ((1 : Int) + (i : Int)) = 0)).map fun i => i + 1
def homW (n : Nat) (w st : Int) : Int := ((hsz n st).map fun s => wsz n w s).sum
theorem hsz_mem {n : Nat} {st : Int} {s : Nat} (h : s ∈ hsz n st) : 1 ≤ s ∧ s ≤ n := by
  obtain ⟨i, hi, rfl⟩ := List.mem_map.mp h
  have := List.mem_range.mp (List.mem_filter.mp hi).1
  omega
theorem hsz_len (n : Nat) (st : Int) : (hsz n st).length ≤ n := by
  unfold hsz
  rw [List.length_map]
  have := List.length_filter_le (fun i : Nat => decide (st % ((1 : Int) + (i : Int)) = 0)) (List.range n)
  rwa [List.length_range] at this
def sp_tabs_weight : Sp := fun vs H Q _ => ∃ (n s : Nat) (w : Int), vs = [.int (n : Int), .int w, .int (s : Int)] ∧ 1 ≤ s ∧ s ≤ n ∧ n ≤ 20 ∧ 1 ≤ w ∧ w ≤ 1000000000000 ∧ RetV (.int (w * prm (n - 1) (s - 1))) H Q
theorem sv_tabs_weight {H : Hp} {n s : Nat} {w : Int} (s0 : 1 ≤ s) (s1 : s ≤ n) (hn : n ≤ 20) (h0 : 1 ≤ w) (h1 : w ≤ 1000000000000) : SpV sp_tabs_weight ([.int (n : Int), .int w, .int (s : Int)] ++ []) H (.int (w * prm (n - 1) (s - 1))) := fun H1 e Q q E => ⟨n, s, w, rfl, s0, s1, hn, h0, h1, q⟩
def sp_with_size : Sp := fun vs H Q _ => ∃ (n s : Nat) (w : Int), vs = [.int (n : Int), .int w, .int (s : Int)] ∧ 1 ≤ s ∧ s ≤ n ∧ n ≤ 20 ∧ 1 ≤ w ∧ w ≤ 1000000000000 ∧ RetV (.int (wsz n w s)) H Q
theorem sv_with_size {H : Hp} {n s : Nat} {w : Int} (s0 : 1 ≤ s) (s1 : s ≤ n) (hn : n ≤ 20) (h0 : 1 ≤ w) (h1 : w ≤ 1000000000000) : SpV sp_with_size ([.int (n : Int), .int w, .int (s : Int)] ++ []) H (.int (wsz n w s)) := fun H1 e Q q E => ⟨n, s, w, rfl, s0, s1, hn, h0, h1, q⟩
def sp_home_weight : Sp := fun vs H Q _ => ∃ (n : Nat) (w st : Int), vs = [.int (n : Int), .int w, .int st] ∧ n ≤ 20 ∧ 1 ≤ w ∧ w ≤ 1000000000000 ∧ RetV (.int (homW n w st)) H Q
theorem sv_home_weight {H : Hp} {n : Nat} {w st : Int} (hn : n ≤ 20) (h0 : 1 ≤ w) (h1 : w ≤ 1000000000000) : SpV sp_home_weight ([.int (n : Int), .int w, .int st] ++ []) H (.int (homW n w st)) := fun H1 e Q q E => ⟨n, w, st, rfl, hn, h0, h1, q⟩
def sp_home_share : Sp := fun vs H Q _ => ∃ (n : Nat) (w st : Int), vs = [.int (n : Int), .int w, .int st] ∧ 1 ≤ n ∧ n ≤ 20 ∧ 1 ≤ w ∧ w ≤ 1000000000000 ∧ RetU (frac (homW n w st) (rise w n)) H Q
def othV (n : Nat) (w st : Int) : List V := if n = 1 then [.int 0, .int 1] else frac (rise w n - homW n w st) (rise w n * ((n : Int) - 1))
def sp_other_share : Sp := fun vs H Q _ => ∃ (n : Nat) (w st : Int), vs = [.int (n : Int), .int w, .int st] ∧ 1 ≤ n ∧ n ≤ 20 ∧ 1 ≤ w ∧ w ≤ 1000000000000 ∧ RetU (othV n w st) H Q
section
variable {P : Program} {w : World} {K : PySem.W.Frag} {mg : Str → Option Value} {base : Heap}
theorem ok_tables_weight (T : Tx K mg) : FnOk P w K mg base CX0 1 T.f_tables_weight T.d_tables_weight ["guests", "weight", "size"] sp_tabs_weight := by
  refine T.F_tables_weight.ok sc_tables_weight (fun vs H Q E h => ?_) (fun cdv A outer s H vs Q E hr h => ?_)
  · obtain ⟨n, s, x, rfl, _⟩ := h
    rfl
  · obtain ⟨n, s, x, rfl, s0, s1, hn, h0, h1, k⟩ := h
    refine ⟨_, (pss_one (ps_ret (pe_op op_mulX (pv 1) (pe_callBfun cr_perm (by rfl) T.i_perm (pa_cons (pe_op op_sub (pv 0) pe_int) (pa_cons (pe_op op_sub (pv 2) pe_int) pa_nil)))))), ?_⟩
    have pb := prm60 (n := n - 1) (k := s - 1) (by omega) (by omega)
    have m : CMulX x (prm (n - 1) (s - 1)) := mulx_ok (a := 64) (b := 400) (by omega) pb.2 (by decide)
    exact s_ret (ev_op (ev_var rfl) (ev_perm (n := n - 1) (k := s - 1) (ev_is (ev_op (ev_var rfl) ev_c rv_I0) (by congr 1; omega)) (ev_is (ev_op (ev_var rfl) ev_c rv_I0) (by congr 1; omega)) (by omega) (by omega)) (rv_I m)) fun H1 e1 => k H1 e1
theorem ok_weight_with_size (T : Tx K mg) : FnOk P w K mg base CX0 2 T.f_weight_with_size T.d_weight_with_size ["guests", "weight", "size"] sp_with_size := by
  refine T.F_weight_with_size.ok sc_weight_with_size (fun vs H Q E h => ?_) (fun cdv A outer s H vs Q E hr h => ?_)
  · obtain ⟨n, s, x, rfl, _⟩ := h
    rfl
  · obtain ⟨n, s, x, rfl, s0, s1, hn, h0, h1, k⟩ := h
    refine ⟨_, (pss_one (ps_ret (pe_op op_mulX (pe_call (ok_tables_weight T) (hr.mono (by decide)) (by rfl) T.g_tables_weight T.F_tables_weight.kp T.b_tables_weight .nil pass0 (pa_cons (pv 0) (pa_cons (pv 1) (pa_cons (pv 2) pa_nil)))) (pe_call (ok_rising T) (hr.mono (by decide)) (by rfl) T.g_rising T.F_rising.kp T.b_rising .nil pass0 (pa_cons (pv 1) (pa_cons (pe_op op_sub (pv 0) (pv 2)) pa_nil)))))), ?_⟩
    have pb := prm60 (n := n - 1) (k := s - 1) (by omega) (by omega)
    have rb := rise_ok h0 h1 (n := n - s) (by omega)
    have b : (x * prm (n - 1) (s - 1)).natAbs < 2 ^ 500 := by
      rw [Int.natAbs_mul, show 500 = 100 + 400 by omega, Nat.pow_add]
      exact Nat.mul_lt_mul_of_le_of_lt (by omega) pb.2 (by decide)
    have m : CMulX (x * prm (n - 1) (s - 1)) (rise x (n - s)) := mulx_ok b rb.2 (by decide)
    exact s_ret (ev_op (ev_call (ea_cons (ev_var rfl) (ea_cons (ev_var rfl) (ea_cons (ev_var rfl) ea_nil))) (sv_tabs_weight s0 s1 hn h0 h1)) (ev_call (ea_cons (ev_var rfl) (ea_cons (ev_is (ev_op (ev_var rfl) (ev_var rfl) rv_I0) (by congr 1; omega)) ea_nil)) (sv_rise (n := n - s) (by omega) (by omega))) (rv_I m)) fun H1 e1 => k H1 e1
theorem ok_home_weight (T : Tx K mg) : FnOk P w K mg base CX0 3 T.f_home_weight T.d_home_weight ["guests", "weight", "steps"] sp_home_weight := by
  refine T.F_home_weight.ok sc_home_weight (fun vs H Q E h => ?_) (fun cdv A outer s H vs Q E hr h => ?_)
  · obtain ⟨n, x, st, rfl, _⟩ := h
    rfl
  · obtain ⟨n, x, st, rfl, hn, h0, h1, k⟩ := h
    refine ⟨_, (pss_cons (ps_setLc (i := 4) (own := [("size", 3)]) (g := (gName 3)) rfl sc_home_weight.nd rfl rfl (sw_true rfl rfl rfl (by decide +kernel)) (pi_range2 (by rfl) T.m_range (pa_cons pe_int (pa_cons (pe_op op_add (pv 0) pe_int) pa_nil))) (blkOk_by (own := [("size", 3)]) (N := n_home_weight) (sc := defScope s_home_weight) (by decide +kernel)) (fun _ _ _ _ _ => (pg_name (i := 3) sc_home_weight.nd rfl (Or.inl rfl))) (fun _ _ _ _ _ => (pts_one (pt_cmpR op_eq (pe_op op_mod (pv 2) (pv 3)) pe_int (nomark _)))) (fun _ _ _ _ _ => (pv 3)))
      (pss_one (ps_ret (pe_callB (cr_sum rfl) (by rfl) T.m_sum (by decide +kernel) (pa_cons (pe_lc (own := [("size", 3)]) (g := (gName 3)) (tt := tYes) rfl sc_home_weight.nd (pi_list (pv 4)) (blkOk_by (own := [("size", 3)]) (N := n_home_weight) (sc := defScope s_home_weight) (by decide +kernel)) (fun _ _ _ _ _ => (pg_name (i := 3) sc_home_weight.nd rfl (Or.inl rfl))) (fun _ _ _ _ _ => pts_nil) (fun _ _ _ _ _ => (pe_call (ok_weight_with_size T) (hr.mono (by decide)) (by rfl) T.g_weight_with_size T.F_weight_with_size.kp T.b_weight_with_size .nil pass0 (pa_cons (pv 0) (pa_cons (pv 1) (pa_cons (pv 3) pa_nil)))))) pa_nil))))), ?_⟩
    refine q_asgL (xs := nv (hsz n st)) ?_ fun p H1 hp e1 hp1 => ?_
    · have g := el_lcR2 (te := tVar 3) (ta := tCons (tC (.int 1)) (tCons (tOp (rI0 fun i j => .int (i + j)) (tVar 0) (tC (.int 1))) tNil)) (t := tTest (tOp rEq (tOp (rI (fun _ j => 0 < j) fun i j => .int (i % j)) (tVar 2) (tVar 3)) (tC (.int 0)))) (j := 3) (vs := [3]) (H := H) (σ := start n_home_weight [.int (n : Int), .int x, .int st]) (lo := 1) (n := (n : Int) + 1) (fun i => decide (st % ((1 : Int) + (i : Int)) = 0)) (fun i => .int ((1 : Int) + (i : Int))) (ea_cons ev_c (ea_cons (ev_op (ev_var rfl) ev_c rv_I0) ea_nil)) ⟨by omega, by omega, by omega, by omega⟩ (fun _ => rfl) (fun i H1 e hi => et_is (et_test (ev_op (ev_op (ev_var rfl) (ev_var rfl) (rv_I (show (0 : Int) < 1 + (i : Int) by omega))) ev_c (rv_eq rfl))) ?_) (fun i H1 e hi _ => ev_var rfl)
      · have e : given ((n : Int) + 1 - 1).toNat (fun i => decide (st % ((1 : Int) + (i : Int)) = 0)) (fun i => V.int ((1 : Int) + (i : Int))) = nv (hsz n st) := by
          unfold given hsz
          rw [nv_eq, List.map_map, show ((n : Int) + 1 - 1).toNat = n by omega]
          refine List.map_congr_left fun i _ => ?_
          show V.int ((1 : Int) + (i : Int)) = V.int ((i + 1 : Nat) : Int)
          congr 1
          omega
        rw [e] at g
        exact g
      · rw [Bool.eq_iff_iff, decide_eq_true_iff, decide_eq_true_iff]
        exact ⟨fun z => V.int.inj z, fun z => by rw [z]⟩
    have hl := nv_len (hsz n st)
    have ll := hsz_len n st
    refine s_ret (v := .int (homW n x st)) (ev_sumN (ns := (hsz n st).map fun s => wsz n x s) ?_) fun H2 e2 => k H2 (e1.trans e2)
    have g := el_map (K := K) (te := tCall sp_with_size [] E0 (tCons (tVar 0) (tCons (tVar 1) (tCons (tVar 3) tNil)))) (tl := tVar 4) (j := 3) (vs := [3]) (H := H1) (a := p) (xs := nv (hsz n st)) (σ := [some (.int (n : Int)), some (.int x), some (.int st), none, some (.ref p)]) (fun v => match v with
      | .int i => .int (wsz n x i.toNat)
      | _ => .non) (ev_var rfl) (sq_of hp1) (by omega) (fun _ => rfl) fun i v H2 e2 hv => ?_
    · have e : (nv (hsz n st)).map (fun v => match v with
        | .int i => V.int (wsz n x i.toNat)
        | _ => .non) = ((hsz n st).map fun s => wsz n x s).map V.int := by
        rw [nv_eq, List.map_map, List.map_map]
        rfl
      rw [e] at g
      exact g
    · rw [nv_eq, List.getElem?_map] at hv
      obtain ⟨z, hz, rfl⟩ := Option.map_eq_some_iff.mp hv
      have hm := hsz_mem (List.mem_of_getElem? hz)
      exact ev_call (ea_cons (ev_var rfl) (ea_cons (ev_var rfl) (ea_cons (ev_var rfl) ea_nil))) (sv_with_size hm.1 hm.2 hn h0 h1)
theorem ok_home_share (T : Tx K mg) : FnOk P w K mg base CX0 4 T.f_home_share T.d_home_share ["guests", "weight", "steps"] sp_home_share := by
  refine T.F_home_share.ok sc_home_share (fun vs H Q E h => ?_) (fun cdv A outer s H vs Q E hr h => ?_)
  · obtain ⟨n, x, st, rfl, _⟩ := h
    rfl
  · obtain ⟨n, x, st, rfl, n1, hn, h0, h1, k⟩ := h
    refine ⟨_, (pss_cons (ps_expr (pe_call (ok_check_guests T) (hr.mono (by decide)) (by rfl) T.g_check_guests T.F_check_guests.kp T.b_check_guests .nil pass0 (pa_cons (pv 0) pa_nil)))
      (pss_cons (ps_expr (pe_call (ok_check_weight T) (hr.mono (by decide)) (by rfl) T.g_check_weight T.F_check_weight.kp T.b_check_weight .nil pass0 (pa_cons (pv 1) pa_nil)))
      (pss_cons (ps_expr (pe_call (ok_check_any_number T) (hr.mono (by decide)) (by rfl) T.g_check_any_number T.F_check_any_number.kp T.b_check_any_number .nil pass0 (pa_cons (pv 2) pa_nil)))
      (pss_one (ps_ret (pe_call (ok_fraction T) (hr.mono (by decide)) (by rfl) T.g_fraction T.F_fraction.kp T.b_fraction .nil pass0 (pa_cons (pe_call (ok_home_weight T) (hr.mono (by decide)) (by rfl) T.g_home_weight T.F_home_weight.kp T.b_home_weight .nil pass0 (pa_cons (pv 0) (pa_cons (pv 1) (pa_cons (pv 2) pa_nil)))) (pa_cons (pe_call (ok_rising T) (hr.mono (by decide)) (by rfl) T.g_rising T.F_rising.kp T.b_rising .nil pass0 (pa_cons (pv 1) (pa_cons (pv 0) pa_nil))) pa_nil)))))))), ?_⟩
    refine q_drop (ev_call (ea_cons (ev_var rfl) ea_nil) (sv_check1 (by omega) (by omega))) fun H1 e1 => ?_
    refine q_drop (ev_call (ea_cons (ev_var rfl) ea_nil) (sv_check1 h0 h1)) fun H2 e2 => ?_
    refine q_drop (ev_call (ea_cons (ev_var rfl) ea_nil) sv_check_any) fun H3 e3 => ?_
    have rk := rise_ok h0 h1 (n := n) (by omega)
    exact s_retU (eu_call (ea_cons (ev_call (ea_cons (ev_var rfl) (ea_cons (ev_var rfl) (ea_cons (ev_var rfl) ea_nil))) (sv_home_weight hn h0 h1)) (ea_cons (ev_call (ea_cons (ev_var rfl) (ea_cons (ev_var rfl) ea_nil)) (sv_rise (by omega) (by omega))) ea_nil)) (su_fraction rk.1 (two_ok rk.2 (by decide)))) fun p H4 hp e4 h4 => k p H4 (fresh_back (e1.trans (e2.trans e3)) hp) (e1.trans (e2.trans (e3.trans e4))) h4
theorem ok_other_share (T : Tx K mg) : FnOk P w K mg base CX0 4 T.f_other_share T.d_other_share ["guests", "weight", "steps"] sp_other_share := by
  refine T.F_other_share.ok sc_other_share (fun vs H Q E h => ?_) (fun cdv A outer s H vs Q E hr h => ?_)
  · obtain ⟨n, x, st, rfl, _⟩ := h
    rfl
  · obtain ⟨n, x, st, rfl, n1, hn, h0, h1, k⟩ := h
    refine ⟨_, (pss_cons (ps_expr (pe_call (ok_check_guests T) (hr.mono (by decide)) (by rfl) T.g_check_guests T.F_check_guests.kp T.b_check_guests .nil pass0 (pa_cons (pv 0) pa_nil)))
      (pss_cons (ps_expr (pe_call (ok_check_weight T) (hr.mono (by decide)) (by rfl) T.g_check_weight T.F_check_weight.kp T.b_check_weight .nil pass0 (pa_cons (pv 1) pa_nil)))
      (pss_cons (ps_expr (pe_call (ok_check_any_number T) (hr.mono (by decide)) (by rfl) T.g_check_any_number T.F_check_any_number.kp T.b_check_any_number .nil pass0 (pa_cons (pv 2) pa_nil)))
      (pss_cons (ps_if (pt_cmpR op_eq (pv 0) pe_int (nomark _)) (pss_one (ps_ret (pe_tup (pa_cons pe_int (pa_cons pe_int pa_nil))))) pss_nil)
      (pss_cons (ps_set (i := 3) sc_other_share.nd rfl (Or.inl rfl) (pe_call (ok_rising T) (hr.mono (by decide)) (by rfl) T.g_rising T.F_rising.kp T.b_rising .nil pass0 (pa_cons (pv 1) (pa_cons (pv 0) pa_nil))))
      (pss_one (ps_ret (pe_call (ok_fraction T) (hr.mono (by decide)) (by rfl) T.g_fraction T.F_fraction.kp T.b_fraction .nil pass0 (pa_cons (pe_op op_sub (pv 3) (pe_call (ok_home_weight T) (hr.mono (by decide)) (by rfl) T.g_home_weight T.F_home_weight.kp T.b_home_weight .nil pass0 (pa_cons (pv 0) (pa_cons (pv 1) (pa_cons (pv 2) pa_nil))))) (pa_cons (pe_op op_mulX (pv 3) (pe_op op_sub (pv 0) pe_int)) pa_nil)))))))))), ?_⟩
    refine q_drop (ev_call (ea_cons (ev_var rfl) ea_nil) (sv_check1 (by omega) (by omega))) fun H1 e1 => ?_
    refine q_drop (ev_call (ea_cons (ev_var rfl) ea_nil) (sv_check1 h0 h1)) fun H2 e2 => ?_
    refine q_drop (ev_call (ea_cons (ev_var rfl) ea_nil) sv_check_any) fun H3 e3 => ?_
    have rk := rise_ok h0 h1 (n := n) (by omega)
    refine q_when (b := decide (n = 1)) (et_is (et_test (ev_op (ev_var rfl) ev_c (rv_eq rfl))) ?_) (fun hb H4 e4 => ?_) fun hb H4 e4 => ?_
    · rw [Bool.eq_iff_iff, decide_eq_true_iff, decide_eq_true_iff]
      exact ⟨fun z => by have := V.int.inj z; omega, fun z => by rw [z]; rfl⟩
    · have n1' : n = 1 := of_decide_eq_true hb
      have e : othV n x st = [.int 0, .int 1] := by
        unfold othV
        rw [if_pos n1']
      exact s_retU (eu_tup (ea_cons ev_c (ea_cons ev_c ea_nil)) (Nat.le_of_ble_eq_true rfl)) fun p H5 hp e5 h5 => k p H5 (fresh_back (e1.trans (e2.trans (e3.trans e4))) hp) (e1.trans (e2.trans (e3.trans (e4.trans e5)))) (by rw [e]; exact h5)
    · have n1' : n ≠ 1 := of_decide_eq_false hb
      have e : othV n x st = frac (rise x n - homW n x st) (rise x n * ((n : Int) - 1)) := by
        unfold othV
        rw [if_neg n1']
      refine q_asg (v := .int (rise x n)) (ev_call (ea_cons (ev_var rfl) (ea_cons (ev_var rfl) ea_nil)) (sv_rise (by omega) (by omega))) fun H5 e5 => ?_
      have m : CMulX (rise x n) ((n : Int) - 1) := mulx_ok (a := 3000) (b := 64) rk.2 (by omega) (by decide)
      have bb : (rise x n * ((n : Int) - 1)).natAbs < 2 ^ 3100 := by
        rw [Int.natAbs_mul, show 3100 = 3000 + 100 by omega, Nat.pow_add]
        exact Nat.mul_lt_mul_of_lt_of_le rk.2 (by omega) (by decide)
      refine s_retU (xs := frac (rise x n - homW n x st) (rise x n * ((n : Int) - 1))) (eu_call (ea_cons (ev_op (ev_var rfl) (ev_call (ea_cons (ev_var rfl) (ea_cons (ev_var rfl) (ea_cons (ev_var rfl) ea_nil))) (sv_home_weight hn h0 h1)) rv_I0) (ea_cons (ev_op (ev_var rfl) (ev_op (ev_var rfl) ev_c rv_I0) (rv_I m)) ea_nil)) (su_fraction (Int.mul_pos rk.1 (by omega)) (two_ok bb (by decide)))) fun p H6 hp e6 h6 => k p H6 (fresh_back (e1.trans (e2.trans (e3.trans (e4.trans e5)))) hp) (e1.trans (e2.trans (e3.trans (e4.trans (e5.trans e6))))) (by rw [e]; exact h6)
end

local macro_rules | `(tactic| walk_at "call") => `(tactic| (with_reducible exact sv_whole))
local macro_rules | `(tactic| walk_at "call") => `(tactic| (with_reducible exact sv_between))
local macro_rules | `(tactic| walk_at "call") => `(tactic| ((with_reducible refine' sv_check1 ?c1 ?c2); (case c1 => walk_at "side"); (case c2 => walk_at "side")))
local macro_rules | `(tactic| walk_at "call") => `(tactic| ((with_reducible refine' sv_check_number ?c1 ?c2); (case c1 => walk_at "side"); (case c2 => walk_at "side")))
local macro_rules | `(tactic| walk_at "callU") => `(tactic| ((with_reducible refine' su_fraction ?c1 ?c2); (case c1 => walk_at "side"); (case c2 => walk_at "side")))
local macro_rules | `(tactic| walk_at "call") => `(tactic| ((with_reducible refine' sv_rise ?c1 ?c2); (case c1 => walk_at "side"); (case c2 => walk_at "side")))

/-! ### groups without a common guest -/
theorem it_gen {J : It} {n : Nat} {G : Hp → Prop} {Y : Nat → Hp → V → Hp → Prop} (w : Walk J n G Y) {S : Hp} {Qd : Hp → Prop} {B : (Hp → Prop) → V → Hp → Prop} (Pv : Nat → Hp → Prop) (h0 : Pv 0 S) (hG : ∀ i H, i ≤ n → Pv i H → G H)
    (hs : ∀ i x H H', i < n → Pv i H → Y i H x H' → B (Pv (i + 1)) x H') (hd : ∀ H, Pv n H → Qd H) :
    ∃ W : Nat → Nat → Hp → Prop, (∃ m, W 0 m S) ∧ ∀ i m H, W i m H →
      (J.stop i H ∧ Qd H) ∨ (J.go i H ∧ ∃ Nx : Hp → Prop, (∀ H', Nx H' → ∃ m', m' < m ∧ W (i + 1) m' H') ∧ ∀ x H', J.yld i H x H' → B Nx x H') := by
  refine ⟨fun i m H => m = n - i ∧ i ≤ n ∧ Pv i H, ⟨n, by simp, Nat.zero_le _, h0⟩, ?_⟩
  rintro i m H ⟨rfl, hi, p⟩
  have q := hG i H hi p
  by_cases hlt : i < n
  · exact .inr ⟨w.goes i H hlt q, Pv (i + 1), fun H' p' => ⟨n - (i + 1), by omega, rfl, hlt, p'⟩, fun x H' y => hs i x H H' hlt p (w.yields i H x H' hlt q y)⟩
  · have e : i = n := by omega
    subst e
    exact .inl ⟨w.stops H q, hd H p⟩

/-- a list at b -/
def Lb (H : Hp) (v : V) (r : List Nat) : Prop := ∃ b, v = .ref b ∧ H b = some (.lst (nv r))
theorem Lb.ex {H H' : Hp} {v : V} {r : List Nat} (e : Ex H H') (h : Lb H v r) : Lb H' v r := by
  obtain ⟨b, rfl, h⟩ := h
  exact ⟨b, rfl, e b _ h⟩
abbrev PL (H : Hp) (ws : List V) (gs : List (List Nat)) : Prop := Paired (Lb H) ws gs
theorem PL.ex {H H' : Hp} (e : Ex H H') : ∀ {ws : List V} {gs : List (List Nat)}, PL H ws gs → PL H' ws gs
  | [], [], .nil => .nil
  | _ :: _, _ :: _, .cons a r => .cons (a.ex e) (PL.ex e r)
structure Lots (n : Nat) (gs : List (List Nat)) : Prop where
  ne : gs ≠ []
  each : ∀ g ∈ gs, Gang n g
  nd : gs.flatten.Nodup
theorem flat_take {gs : List (List Nat)} {i : Nat} {g : List Nat} (h : gs[i]? = some g) : (gs.take (i + 1)).flatten = (gs.take i).flatten ++ g := by
  rw [List.take_add_one, h, List.flatten_append]
  simp
theorem Lots.all {n : Nat} {gs : List (List Nat)} (o : Lots n gs) : gs.flatten.length ≤ n := by
  have := o.nd.length_le_of_subset (l₂ := List.range n) fun x hx => by
    obtain ⟨g, hg, hx⟩ := List.mem_flatten.mp hx
    exact List.mem_range.mpr ((o.each g hg).lt x hx)
  rwa [List.length_range] at this
theorem flat_ge : ∀ {gs : List (List Nat)}, (∀ g ∈ gs, 1 ≤ g.length) → gs.length ≤ gs.flatten.length
  | [], _ => Nat.le_refl _
  | g :: r, h => by
    have a := flat_ge (gs := r) fun x hx => h x (by simp [hx])
    have b := h g (by simp)
    rw [List.flatten_cons, List.length_append, List.length_cons]
    omega
theorem Lots.len {n : Nat} {gs : List (List Nat)} (o : Lots n gs) : gs.length ≤ n := Nat.le_trans (flat_ge fun g hg => (o.each g hg).pos) o.all
/-- [x for t in ts for x in t], ts a list of lists -/
theorem el_lc2L {K : PySem.W.Frag} {σ : L2.St} {H : Hp} {tl : TE} {j l : Nat} {vs vs1 : List Nat} {a : Addr} {ws : List V} {gs : List (List Nat)} (h : Ev tl σ H (.ref a)) (ha : H a = some (.lst ws)) (ht : PL H ws gs) (hz : gs.flatten.length ≤ 40000)
    (hw : ∀ x, wipe ((wipe σ vs).set j (some x)) vs = wipe σ vs) (hj : ∀ x, ((wipe σ vs).set j (some x))[j]? = some (some x))
    (hw1 : ∀ x y, wipe ((wipe ((wipe σ vs).set j (some x)) vs1).set l (some y)) vs1 = wipe ((wipe σ vs).set j (some x)) vs1) (hl : ∀ x y, ((wipe ((wipe σ vs).set j (some x)) vs1).set l (some y))[l]? = some (some y)) :
    EvL (tLc2 (iList K tl) (gName j) tYes (iList K (tVar j)) (gName l) tYes (tVar l) vs vs1) σ H (nv gs.flatten) := fun H0 e Q q => h H0 e _ fun H1 e1 => ⟨a, rfl, ⟨ws, sq_of (e1 a _ (e a _ ha))⟩, fun Dl hD => by
  have ht := PL.ex (e.trans e1) ht
  have h1 := e1 a _ (e a _ ha)
  have hlen : ws.length = gs.length := Paired.length ht
  refine it_gen walk_list (fun i H' => Ex H1 H' ∧ H' Dl = some (.lst (nv (gs.take i).flatten))) ⟨Ex.new hD, upd_same⟩ (fun i H' _ p => sq_of (p.1 a _ h1)) ?_ fun H' p => ?_
  · rintro i x Hh H' hi ⟨p1, p2⟩ ⟨rfl, hx⟩
    obtain ⟨r, hr, b, rfl, hb⟩ := paired_get ht hx
    have hlr : (gs.take (i + 1)).flatten.length ≤ 40000 := by
      have : (gs.take (i + 1)).flatten.length ≤ gs.flatten.length := by
        conv => rhs; rw [← List.take_append_drop (i + 1) gs, List.flatten_append, List.length_append]
        omega
      omega
    rw [flat_take hr, List.length_append] at hlr
    refine ⟨hw _, ?_⟩
    simp only [tYes, ↓reduceIte]
    refine ⟨.ref b, hj _, b, rfl, ⟨nv r, sq_of (p1 b _ hb)⟩, ?_⟩
    refine it_gen (walk_list (K := K) (a := b) (xs := nv r)) (fun m H2 => Ex H1 H2 ∧ H2 Dl = some (.lst (nv (gs.take i).flatten ++ (nv r).take m))) ⟨p1, by rw [p2]; simp⟩ (fun m H2 _ p => sq_of (p.1 b _ hb)) ?_ fun H2 p => ?_
    · rintro m y H2 H3 hm ⟨p3, p4⟩ ⟨rfl, hy⟩
      refine ⟨hw1 _ _, ?_⟩
      simp only [tYes, ↓reduceIte]
      refine ⟨y, hl _ _, _, p4, sz_lt (by rw [List.length_append, List.length_take, nv_len, nv_len]; omega), Ex.mut p3 hD, ?_⟩
      rw [upd_same, List.take_add_one, hy, List.append_assoc]
      rfl
    · obtain ⟨p3, p4⟩ := p
      refine ⟨p3, ?_⟩
      rw [p4, flat_take hr, List.take_of_length_le (Nat.le_refl _), nv_app]
  · obtain ⟨p1, p2⟩ := p
    rw [hlen, List.take_of_length_le (Nat.le_refl _)] at p2
    exact q Dl H' (fresh_back e1 hD) (e1.trans p1) p2⟩
def sp_are_groups : Sp := fun vs H Q _ => ∃ (a : Addr) (ws : List V) (gs : List (List Nat)) (n : Nat), vs = [.ref a, .int (n : Int)] ∧ H a = some (.lst ws) ∧ PL H ws gs ∧ Lots n gs ∧ n ≤ 20 ∧ RetV (.bl true) H Q
theorem sv_are_groups {H : Hp} {a : Addr} {ws : List V} {gs : List (List Nat)} {n : Nat} (ha : H a = some (.lst ws)) (ht : PL H ws gs) (o : Lots n gs) (hn : n ≤ 20) : SpV sp_are_groups ([.ref a, .int (n : Int)] ++ []) H (.bl true) := fun H1 e Q q E => ⟨a, ws, gs, n, rfl, e a _ ha, PL.ex e ht, o, hn, q⟩
def sp_check_groups : Sp := fun vs H Q _ => ∃ (a : Addr) (ws : List V) (gs : List (List Nat)) (n : Nat), vs = [.ref a, .int (n : Int)] ∧ H a = some (.lst ws) ∧ PL H ws gs ∧ Lots n gs ∧ n ≤ 20 ∧ RetV .non H Q
theorem sv_check_groups {H : Hp} {a : Addr} {ws : List V} {gs : List (List Nat)} {n : Nat} (ha : H a = some (.lst ws)) (ht : PL H ws gs) (o : Lots n gs) (hn : n ≤ 20) : SpV sp_check_groups ([.ref a, .int (n : Int)] ++ []) H .non := fun H1 e Q q E => ⟨a, ws, gs, n, rfl, e a _ ha, PL.ex e ht, o, hn, q⟩
theorem ev_lenSetI {K : PySem.W.Frag} {σ : L2.St} {H : Hp} {ta : TE} {l : Addr} {ns : List Int} (h : Ev ta σ H (.ref l)) (hl : SqL K H l (ns.map V.int)) (nd : ns.Nodup) (hz : ns.length ≤ 4000) : Ev (RZ.tLenSetI K ta) σ H (.int (ns.length : Nat)) := fun H1 e Q q =>
  h H1 e _ fun H2 e2 => ⟨l, ns, rfl, ex_l (e.trans e2) hl, nd, hz, q H2 e2⟩
section
variable {P : Program} {w : World} {K : PySem.W.Frag} {mg : Str → Option Value} {base : Heap}
theorem ok_are_groups (T : Tx K mg) : FnOk P w K mg base CX0 4 T.f_are_groups T.d_are_groups ["thing", "guests"] sp_are_groups := by
  refine T.F_are_groups.ok sc_are_groups (fun vs H Q E h => ?_) (fun cdv A outer s H vs Q E hr h => ?_)
  · obtain ⟨a, ws, gs, n, rfl, _⟩ := h
    rfl
  · obtain ⟨a, ws, gs, n, rfl, ha, ht, o, hn, k⟩ := h
    refine ⟨_, (pss_cons (ps_if (PW.pt (pw_or (pt_cmpR (op_neTyS (hu_of hr)) (pe_typeOf (by rfl) T.m_type (pv 0)) (pe_bltn (v := .ty "list") (by rfl) T.m_list (by decide +kernel) rfl) (nomark _)) (pw_or1 (pt_not (pt_val (pe_callB (cr_all rfl) (by rfl) T.m_all (by decide +kernel) (pa_cons (pe_lc (own := [("group", 2)]) (g := (gName 2)) (tt := tYes) rfl sc_are_groups.nd (pi_list (pv 0)) (blkOk_by (own := [("group", 2)]) (N := n_are_groups) (sc := defScope s_are_groups) (by decide +kernel)) (fun _ _ _ _ _ => (pg_name (i := 2) sc_are_groups.nd rfl (Or.inl rfl))) (fun _ _ _ _ _ => pts_nil) (fun _ _ _ _ _ => (pe_call (ok_is_ascending T) (hr.mono (by decide)) (by rfl) T.g_is_ascending T.F_is_ascending.kp T.b_is_ascending .nil pass0 (pa_cons (pv 2) (pa_cons pe_int (pa_cons (pe_op op_sub (pv 1) pe_int) pa_nil)))))) pa_nil))))))) (pss_one (ps_ret pe_bl)) pss_nil)
      (pss_cons (ps_setLc2 (i := 4) (wi1 := iList K (tVar 2)) (own := [("group", 2), ("guest", 3)]) (vs1 := [3]) (g := (gName 2)) (g1 := (gName 3)) (tt := tYes) (tt1 := tYes) rfl sc_are_groups.nd rfl rfl (sw_true rfl rfl rfl (by decide +kernel)) (pi_list (pv 0)) (blkOk_by (own := [("group", 2), ("guest", 3)]) (N := n_are_groups) (sc := defScope s_are_groups) (by decide +kernel)) (by decide) (fun _ _ _ _ _ => (pg_name (i := 2) sc_are_groups.nd rfl (Or.inl rfl))) (fun _ _ _ _ _ => pts_nil) (fun _ _ _ _ _ => (pi_list (pv 2))) (fun _ _ _ _ _ => (pg_name (i := 3) sc_are_groups.nd rfl (Or.inl rfl))) (fun _ _ _ _ _ => pts_nil) (fun _ _ _ _ _ => (pv 3)))
      (pss_one (ps_ret (pe_and (pe_cmpR op_gt (pe_callB call_lenR (by rfl) T.m_len (by decide +kernel) (pa_cons (pv 0) pa_nil)) pe_int (nomark _)) (pe_one (pe_cmpR op_eq (RZ.pe_lenSetI (by rfl) T.m_len (by rfl) T.m_set (pv 4)) (pe_callB call_lenR (by rfl) T.m_len (by decide +kernel) (pa_cons (pv 4) pa_nil)) (nomark _)))))))), ?_⟩
    have hlen : ws.length = gs.length := Paired.length ht
    have gl := o.len
    have gf := o.all
    have hm : ws.map (fun _ => V.bl true) = (List.replicate ws.length true).map V.bl := by
      rw [List.map_replicate]
      exact List.map_const' ..
    refine q_when (b := false) (et_is (et_or (et_test (ev_op (ev_typeL (ev_var rfl) ha) ev_c (rv_neTyS PySem.TypeEq.meta_list))) fun _ => et_not (et_B (ev_allN (bs := List.replicate ws.length true) ?_))) (by simp)) (fun hb => Bool.noConfusion hb) fun _ H1 e1 => ?_
    · rw [← hm]
      refine el_map (fun _ => V.bl true) (ev_var rfl) (sq_of ha) (by omega) (fun _ => rfl) fun i x H2 e2 hx => ?_
      obtain ⟨g, hg, b, rfl, hb⟩ := paired_get ht hx
      exact ev_call (ea_cons (ev_var rfl) (ea_cons ev_c (ea_cons (ev_op (ev_var rfl) ev_c rv_I0) ea_nil))) (sv_ascending (e2 b _ hb) (o.each g (List.mem_of_getElem? hg)) hn)
    have ha1 := e1 a _ ha
    refine q_asgL (xs := nv gs.flatten) (el_lc2L (ev_var rfl) ha1 (PL.ex e1 ht) (by omega) (fun _ => rfl) (fun _ => rfl) (fun _ _ => rfl) (fun _ _ => rfl)) fun p H2 hp e2 hp2 => ?_
    have ha2 := e2 a _ ha1
    have nd : (iz gs.flatten).Nodup := by
      unfold iz
      exact List.Pairwise.map _ (fun x y (z : x ≠ y) => by omega) o.nd
    have il : (iz gs.flatten).length = gs.flatten.length := by unfold iz; rw [List.length_map]
    have ls := ev_lenSetI (K := K) (ta := tVar 4) (σ := [some (.ref a), some (.int (n : Int)), none, none, some (.ref p)]) (H := H2) (l := p) (ns := iz gs.flatten) (ev_var (i := 4) (v := .ref p) rfl) (sq_of hp2) nd (by omega)
    rw [il] at ls
    have ll := ev_len (K := K) (ta := tVar 4) (σ := [some (.ref a), some (.int (n : Int)), none, none, some (.ref p)]) (H := H2) (ev_var (i := 4) (v := .ref p) rfl) (sq_of hp2)
    rw [nv_len] at ll
    have gp : 0 < ws.length := by
      rw [hlen]
      exact List.length_pos_iff.mpr o.ne
    refine s_ret (v := .bl true) (ev_is (ev_andV (ev_op (ev_len (K := K) (ev_var rfl) (sq_of ha2)) ev_c rv_I0) fun _ => ev_op ls ll (rv_eq rfl)) ?_) fun H3 e3 => k _ (e1.trans (e2.trans e3))
    rw [decide_eq_true (show (0 : Int) < (ws.length : Int) by omega)]
    simp
theorem ok_check_groups (T : Tx K mg) : FnOk P w K mg base CX0 5 T.f_check_groups T.d_check_groups ["groups", "guests"] sp_check_groups := by
  refine T.F_check_groups.ok sc_check_groups (fun vs H Q E h => ?_) (fun cdv A outer s H vs Q E hr h => ?_)
  · obtain ⟨a, ws, gs, n, rfl, _⟩ := h
    rfl
  · obtain ⟨a, ws, gs, n, rfl, ha, ht, o, hn, k⟩ := h
    refine ⟨_, (pss_one (ps_if (pt_not (pt_val (pe_call (ok_are_groups T) (hr.mono (by decide)) (by rfl) T.g_are_groups T.F_are_groups.kp T.b_are_groups .nil pass0 (pa_cons (pv 0) (pa_cons (pv 1) pa_nil))))) (pss_one ps_never) pss_nil)), ?_⟩
    exact s_when (b := false) (et_not (a := true) (et_B (ev_call (ea_cons (ev_var rfl) (ea_cons (ev_var rfl) ea_nil)) (sv_are_groups ha ht o hn)))) (fun hb H1 e1 => Bool.noConfusion hb) fun hb H1 e1 => k _ e1
end

local macro_rules | `(tactic| walk_at "call") => `(tactic| (with_reducible exact sv_whole))
local macro_rules | `(tactic| walk_at "call") => `(tactic| (with_reducible exact sv_between))
local macro_rules | `(tactic| walk_at "call") => `(tactic| ((with_reducible refine' sv_check1 ?c1 ?c2); (case c1 => walk_at "side"); (case c2 => walk_at "side")))
local macro_rules | `(tactic| walk_at "call") => `(tactic| ((with_reducible refine' sv_check_number ?c1 ?c2); (case c1 => walk_at "side"); (case c2 => walk_at "side")))
local macro_rules | `(tactic| walk_at "callU") => `(tactic| ((with_reducible refine' su_fraction ?c1 ?c2); (case c1 => walk_at "side"); (case c2 => walk_at "side")))
local macro_rules | `(tactic| walk_at "call") => `(tactic| ((with_reducible refine' sv_rise ?c1 ?c2); (case c1 => walk_at "side"); (case c2 => walk_at "side")))

/-! ### groups at tables of their own -/
theorem sum_cast : ∀ ls : List Nat, (ls.map fun n : Nat => (n : Int)).sum = (ls.sum : Int)
  | [] => rfl
  | z :: r => by
    rw [List.map_cons, List.sum_cons, sum_cast r, List.sum_cons]
    omega
theorem given_at {n : Nat} (v : Nat → V) : given n (fun _ => true) v = (List.range n).map v := by
  unfold given
  rw [List.filter_eq_self.mpr fun _ _ => rfl]
def lotT (w : Int) (gs : List (List Nat)) : Int := gs.foldl (fun t g => t * tabW w g) 1
theorem lotT_next {w : Int} {gs : List (List Nat)} {i : Nat} {g : List Nat} (h : gs[i]? = some g) : lotT w (gs.take (i + 1)) = lotT w (gs.take i) * tabW w g := by
  unfold lotT
  rw [List.take_add_one, h, List.foldl_append]
  rfl
def sp_split_share : Sp := fun vs H Q _ => ∃ (n : Nat) (w : Int) (a : Addr) (ws : List V) (gs : List (List Nat)), vs = [.int (n : Int), .int w, .ref a] ∧ H a = some (.lst ws) ∧ PL H ws gs ∧ Lots n gs ∧ n ≤ 20 ∧ 1 ≤ w ∧ w ≤ 1000000000000 ∧ RetU (frac (lotT w gs) (rise w gs.flatten.length)) H Q
section
variable {P : Program} {w : World} {K : PySem.W.Frag} {mg : Str → Option Value} {base : Heap}
theorem ok_split_share (T : Tx K mg) : FnOk P w K mg base CX0 6 T.f_split_share T.d_split_share ["guests", "weight", "groups"] sp_split_share := by
  refine T.F_split_share.ok sc_split_share (fun vs H Q E h => ?_) (fun cdv A outer s H vs Q E hr h => ?_)
  · obtain ⟨n, x, a, ws, gs, rfl, _⟩ := h
    rfl
  · obtain ⟨n, x, a, ws, gs, rfl, ha, ht, o, hn, h0, h1, k⟩ := h
    refine ⟨_, (pss_cons (ps_expr (pe_call (ok_check_guests T) (hr.mono (by decide)) (by rfl) T.g_check_guests T.F_check_guests.kp T.b_check_guests .nil pass0 (pa_cons (pv 0) pa_nil)))
      (pss_cons (ps_expr (pe_call (ok_check_weight T) (hr.mono (by decide)) (by rfl) T.g_check_weight T.F_check_weight.kp T.b_check_weight .nil pass0 (pa_cons (pv 1) pa_nil)))
      (pss_cons (ps_expr (pe_call (ok_check_groups T) (hr.mono (by decide)) (by rfl) T.g_check_groups T.F_check_groups.kp T.b_check_groups .nil pass0 (pa_cons (pv 2) (pa_cons (pv 0) pa_nil))))
      (pss_cons (ps_set (i := 3) sc_split_share.nd rfl (Or.inl rfl) pe_int)
      (pss_cons (ps_for PassesOwn.never rfl (pi_list (pv 2)) (pg_name (i := 4) sc_split_share.nd rfl (Or.inl rfl)) (pss_one (ps_set (i := 3) sc_split_share.nd rfl (Or.inl rfl) (pe_op op_mulX (pv 3) (pe_call (ok_table_weight T) (hr.mono (by decide)) (by rfl) T.g_table_weight T.F_table_weight.kp T.b_table_weight .nil pass0 (pa_cons (pv 1) (pa_cons (pv 4) pa_nil)))))))
      (pss_one (ps_ret (pe_call (ok_fraction T) (hr.mono (by decide)) (by rfl) T.g_fraction T.F_fraction.kp T.b_fraction .nil pass0 (pa_cons (pv 3) (pa_cons (pe_call (ok_rising T) (hr.mono (by decide)) (by rfl) T.g_rising T.F_rising.kp T.b_rising .nil pass0 (pa_cons (pv 1) (pa_cons (pe_callB (cr_sum rfl) (by rfl) T.m_sum (by decide +kernel) (pa_cons (pe_lc (own := [("group", 4)]) (g := (gName 4)) (tt := tYes) rfl sc_split_share.nd (pi_list (pv 2)) (blkOk_by (own := [("group", 4)]) (N := n_split_share) (sc := defScope s_split_share) (by decide +kernel)) (fun _ _ _ _ _ => (pg_name (i := 4) sc_split_share.nd rfl (Or.inl rfl))) (fun _ _ _ _ _ => pts_nil) (fun _ _ _ _ _ => (pe_callB (id := "len") (r := rLenS K) call_lenR (by rfl) T.m_len (by decide +kernel) (pa_cons (pv 4) pa_nil)))) pa_nil)) pa_nil))) pa_nil)))))))))), ?_⟩
    have hlen : ws.length = gs.length := Paired.length ht
    have gl := o.len
    have gf := o.all
    have n1 : 1 ≤ n := by
      have := List.length_pos_iff.mpr o.ne
      omega
    refine q_drop (ev_call (ea_cons (ev_var rfl) ea_nil) (sv_check1 (by omega) (by omega))) fun H1 e1 => ?_
    refine q_drop (ev_call (ea_cons (ev_var rfl) ea_nil) (sv_check1 h0 h1)) fun H2 e2 => ?_
    refine q_drop (ev_call (ea_cons (ev_var rfl) (ea_cons (ev_var rfl) ea_nil)) (sv_check_groups (e2 a _ (e1 a _ ha)) (PL.ex (e1.trans e2) ht) o hn)) fun H3 e3 => ?_
    have E3 := e1.trans (e2.trans e3)
    refine q_asg (v := .int 1) ev_c fun H4 e4 => ?_
    refine q_forLn (xs := ws) (K := K) (ev_var rfl) (sq_of (e4 a _ (E3 a _ ha))) (fun i σ' H' => ∃ y : Option V, σ' = [some (.int (n : Int)), some (.int x), some (.ref a), some (.int (lotT x (gs.take i))), y] ∧ Ex H H' ∧ (lotT x (gs.take i)).natAbs < 2 ^ (1 + 400 * i))
      (fun H5 e5 => ⟨none, rfl, E3.trans (e4.trans e5), (by decide : (1 : Int).natAbs < 2 ^ (1 + 400 * 0))⟩) (fun i σ' H' _ ⟨_, _, e, _⟩ => sq_of (e a _ ha)) ?_ ?_
    · rintro i v σ' H' hv ⟨y, rfl, e, b⟩
      obtain ⟨g, hg, c, rfl, hc⟩ := paired_get ht hv
      have og := o.each g (List.mem_of_getElem? hg)
      have ogl := og.len
      have tb := tabW_bd h0 h1 (g := g) (by omega)
      have il := (List.getElem?_eq_some_iff.mp hg).1
      have m : CMulX (lotT x (gs.take i)) (tabW x g) := mulx_ok b tb.2 (by omega)
      refine s_asg (v := .int (lotT x (gs.take (i + 1)))) ?_ fun H5 e5 => ⟨_, rfl, e.trans e5, ?_⟩
      · rw [lotT_next hg]
        exact ev_op (ev_var rfl) (ev_call (ea_cons (ev_var rfl) (ea_cons (ev_var rfl) ea_nil)) (sv_table_weight (e c _ hc) og.pos (by omega) h0 h1)) (rv_I m)
      · rw [lotT_next hg, Int.natAbs_mul, show 1 + 400 * (i + 1) = (1 + 400 * i) + 400 by omega, Nat.pow_add]
        exact Nat.mul_lt_mul_of_lt_of_le b (Nat.le_of_lt tb.2) (Nat.pow_pos (by decide))
    · rintro σ' H' ⟨y, rfl, e, b⟩
      rw [hlen, List.take_of_length_le (Nat.le_refl _)]
      have rk := rise_ok h0 h1 (n := gs.flatten.length) (by omega)
      have sm : ((gs.map List.length).map fun n : Nat => (n : Int)).sum = (gs.flatten.length : Int) := by
        rw [List.length_flatten, sum_cast]
      have wsum : Ev (tCB (rSum K) (tCons (tLc (iList K (tVar 2)) (gName 4) tYes (tCB (rLenS K) (tCons (tVar 4) tNil)) [4]) tNil)) [some (.int (n : Int)), some (.int x), some (.ref a), some (.int (lotT x gs)), y] H' (.int (gs.flatten.length : Int)) := by
        rw [← sm]
        refine ev_sumN (ns := (gs.map List.length).map fun n : Nat => (n : Int)) ?_
        have g0 := el_lcL (K := K) (te := tCB (rLenS K) (tCons (tVar 4) tNil)) (tl := tVar 2) (t := tYes) (j := 4) (vs := [4]) (H := H') (a := a) (xs := ws) (σ := [some (.int (n : Int)), some (.int x), some (.ref a), some (.int (lotT x gs)), y]) (fun _ => true) (fun i => .int ((gs.getD i []).length : Int)) (ev_var rfl) (sq_of (e a _ ha)) (by omega) (fun _ => rfl) (fun _ _ _ _ _ => et_yes) fun i v H5 e5 hv _ => ?_
        · have e0 : given ws.length (fun _ => true) (fun i => V.int ((gs.getD i []).length : Int)) = ((gs.map List.length).map fun n : Nat => (n : Int)).map V.int := by
            rw [given_at, hlen, List.map_map, List.map_map]
            refine List.ext_getElem? fun i => ?_
            rw [List.getElem?_map, List.getElem?_map]
            by_cases hi : i < gs.length
            · rw [List.getElem?_range hi, List.getElem?_eq_getElem hi]
              show some (V.int ((gs.getD i []).length : Int)) = some (V.int ((gs[i]).length : Int))
              rw [List.getD_eq_getElem?_getD, List.getElem?_eq_getElem hi]
              rfl
            · rw [List.getElem?_eq_none (by simp; omega), List.getElem?_eq_none (by omega)]
              rfl
          rw [e0] at g0
          exact g0
        · obtain ⟨g, hg, c, rfl, hc⟩ := paired_get ht hv
          have eg : gs.getD i [] = g := by rw [List.getD_eq_getElem?_getD, hg]; rfl
          have := ev_len (K := K) (ta := tVar 4) (σ := (wipe [some (.int (n : Int)), some (.int x), some (.ref a), some (.int (lotT x gs)), y] [4]).set 4 (some (.ref c))) (H := H5) (ev_var (i := 4) (v := .ref c) rfl) (sq_of (e5 c _ (e c _ hc)))
          rw [nv_len] at this
          rw [eg]
          exact this
      exact s_retU (eu_call (ea_cons (ev_var rfl) (ea_cons (ev_call (ea_cons (ev_var rfl) (ea_cons wsum ea_nil)) (sv_rise (by omega) (by omega))) ea_nil)) (su_fraction rk.1 (two_ok rk.2 (by decide)))) fun p H5 hp e5 h5 => k p H5 (fresh_back e hp) (e.trans e5) h5
end

local macro_rules | `(tactic| walk_at "call") => `(tactic| (with_reducible exact sv_whole))
local macro_rules | `(tactic| walk_at "call") => `(tactic| (with_reducible exact sv_between))
local macro_rules | `(tactic| walk_at "call") => `(tactic| ((with_reducible refine' sv_check1 ?c1 ?c2); (case c1 => walk_at "side"); (case c2 => walk_at "side")))
local macro_rules | `(tactic| walk_at "call") => `(tactic| ((with_reducible refine' sv_check_number ?c1 ?c2); (case c1 => walk_at "side"); (case c2 => walk_at "side")))
local macro_rules | `(tactic| walk_at "callU") => `(tactic| ((with_reducible refine' su_fraction ?c1 ?c2); (case c1 => walk_at "side"); (case c2 => walk_at "side")))
local macro_rules | `(tactic| walk_at "call") => `(tactic| ((with_reducible refine' sv_rise ?c1 ?c2); (case c1 => walk_at "side"); (case c2 => walk_at "side")))

/-! ### the law's helpers -/
/-! ### drawn lists -/
def EvPA (p : Addr) (k : Nat) (ta : TA) (σ : L2.St) (H0 : Hp) (C : List V → Prop) : Prop := ∀ n H1, Ex H0 H1 → Po p n H1 → n + k ≤ 1000000000 →
  ∀ Q : List V → Hp → Prop, (∀ vs H2, C vs → Po p (n + k) H2 → Ex (Hm p H1) H2 → Q vs H2) → ta σ H1 Q
section
variable {K : PySem.W.Frag} {σ : L2.St} {H0 H : Hp} {p : Addr} {k k1 k2 : Nat} {te ta tb : TE} {R Ra Rb : V → Hp → Prop} {tr : TA} {A : V → Prop} {B C : List V → Prop}
theorem epa_nil : EvPA p 0 tNil σ H0 (fun vs => vs = []) := fun n H1 e hp _ Q q => q [] H1 rfl hp (hm_of (Ex.refl _))
theorem epa_cons (h0 : H0 p = none) (h : EvP p k1 te σ H0 (fun v _ => A v)) (hr : EvPA p k2 tr σ H0 B) : EvPA p (k1 + k2) (tCons te tr) σ H0 (fun vs => ∃ v r, vs = v :: r ∧ A v ∧ B r) := fun n H1 e hp hn Q q =>
  h n H1 e hp (by omega) _ fun v H2 hv p2 e2 => hr (n + k1) H2 (hm_next h0 e e2) p2 (by omega) _ fun vs H3 hvs p3 e3 => q (v :: vs) H3 ⟨v, vs, rfl, hv, hvs⟩ (by rw [← Nat.add_assoc]; exact p3) (hm_trans e2 e3)
theorem epa_pure {v : V} (h0 : H0 p = none) (h : Ev te σ H0 v) (hr : EvPA p k2 tr σ H0 B) : EvPA p (0 + k2) (tCons te tr) σ H0 (fun vs => ∃ x r, vs = x :: r ∧ x = v ∧ B r) := epa_cons (A := fun x => x = v) h0 (ep_ev h) hr
theorem ep_lst (h : EvPA p k tr σ H0 C) (hs : ∀ vs, C vs → vs.length ≤ 100000) : EvP p k (tLst tr) σ H0 (fun x H => ∃ l vs, l ≠ p ∧ x = .ref l ∧ H l = some (.lst vs) ∧ C vs) := fun n H1 e hp hn Q q =>
  h n H1 e hp hn _ fun vs H2 c p2 e2 => ⟨sz_of (hs vs c), fun l hl => q _ _ ⟨l, vs, p2.ne hl, rfl, upd_same, c⟩ (p2.ex (Ex.new hl)) (hm_trans e2 (hm_of (Ex.new hl)))⟩
theorem stb_lst : Stb p (fun x H => ∃ l vs, l ≠ p ∧ x = .ref l ∧ H l = some (.lst vs) ∧ C vs) := fun v H H' ⟨l, vs, ne, e, h, c⟩ s => ⟨l, vs, ne, e, hm_at s ne h, c⟩
theorem ep_ix (h0 : H0 p = none) {ix : V → Prop} (ha : EvP p k1 (tLst tr) σ H0 (fun x H => ∃ l vs, l ≠ p ∧ x = .ref l ∧ H l = some (.lst vs) ∧ C vs)) (hb : EvP p k2 tb σ H0 (fun v _ => ix v)) (hat : ∀ vs v, C vs → ix v → ∃ i z, v = .int i ∧ atI vs i = some z ∧ A z) :
    EvP p (k1 + k2) (tOp (rIxL K) (tLst tr) tb) σ H0 (fun v _ => A v) := ep_op h0 ha hb stb_lst stb_c fun x y H hx hy => by
  obtain ⟨l, vs, ne, rfl, hl, c⟩ := hx
  obtain ⟨i, z, rfl, hz, az⟩ := hat vs y c hy
  exact ⟨z, az, rv_ixL (sq_of hl) hz⟩
theorem ep_isZ (h0 : H0 p = none) (h : EvP p k te σ H0 (fun v _ => ∃ r, v = .int r ∧ 0 ≤ r)) : EvP p (k + 0) (tCB rIntB (tCons (tOp rEq te (tC (.int 0))) tNil)) σ H0 (fun v _ => v = .int 0 ∨ v = .int 1) := fun n H1 e hp hn Q q =>
  (ep_op (k1 := k) (k2 := 0) (R := fun v _ => ∃ b, v = .bl b) h0 h (ep_ev (v := .int 0) ev_c) stb_c stb_c fun x y H ⟨r, e1, _⟩ e2 => ⟨.bl (decide (x = y)), ⟨_, rfl⟩, by
    subst e1
    subst e2
    exact rv_eq rfl⟩) n H1 e hp hn _ fun v H2 ⟨b, hb⟩ p2 e2 => ⟨b, by rw [hb], q _ H2 (by cases b <;> simp) p2 e2⟩
theorem pq_parL {n i j : Nat} {D : Ends} {tz : TS} {ys : List V} (h : EvP p k ta σ H0 R) (e : Ex H0 H) (hp : Po p n H) (hn : n + k ≤ 1000000000) (hb : ∀ H1, EvL tb σ H1 ys) (q : ∀ v l H2 H3, R v H2 → H2 l = none → Ex H2 H3 → H3 l = some (.lst ys) → Po p (n + k) H3 → Ex (Hm p H) H2 → tz D ((σ.set i (some v)).set j (some (.ref l))) H3) :
    tSeq (tPar i j (tCons ta (tCons tb tNil))) tz D σ H := h n H e hp hn _ fun v H2 hv p2 e2 => hb H2 H2 (Ex.refl _) _ fun l H3 hl e3 h3 => ⟨_, _, rfl, q v l H2 H3 hv hl e3 h3 (p2.ex e3) e2⟩
end

/-! ### the weight, the law's case -/
def sp_law_heavy : Sp := fun vs H Q _ => ∃ (p : Addr) (n : Nat), vs = [.ref p] ∧ Po p n H ∧ n + 3 < 1000000000 ∧ ∀ (w : Int) H', 1 ≤ w → w ≤ 1000000000000 → Po p (n + 3) H' → Ex (Hm p H) H' → Q (.int w) H'
theorem p_ret {σ : L2.St} {H0 H : Hp} {p : Addr} {k n : Nat} {te : TE} {R : V → Hp → Prop} {D : Ends} (h : EvP p k te σ H0 R) (e : Ex H0 H) (hp : Po p n H) (hn : n + k ≤ 1000000000) (q : ∀ v H2, R v H2 → Po p (n + k) H2 → Ex (Hm p H) H2 → D.rt v H2) : tRet te D σ H := h n H e hp hn _ q
section
variable {K : PySem.W.Frag} {σ : L2.St} {H0 H : Hp} {p : Addr} {k k1 k2 : Nat} {te ta tb : TE} {R : V → Hp → Prop} {D : Ends} {tu tz : TS}
/-- a - b, b drawn -/
theorem ep_sub {a : Int} {C : Int → Prop} (h0 : H0 p = none) (ha : Ev ta σ H0 (.int a)) (hb : EvP p k tb σ H0 (fun v _ => ∃ r, v = .int r ∧ C r)) : EvP p (0 + k) (tOp (rI0 fun i j => .int (i - j)) ta tb) σ H0 (fun v _ => ∃ r, v = .int (a - r) ∧ C r) :=
  ep_op h0 (ep_ev ha) hb stb_c stb_c fun x y H e ⟨r, e2, c⟩ => ⟨.int (a - r), ⟨r, rfl, c⟩, by
    subst e
    subst e2
    exact rv_I0⟩
/-- for i in range(a drawn number) -/
theorem pq_forR1 {n j : Nat} {C : Nat → Prop} (h : EvP p k te σ H0 (fun v _ => ∃ m : Nat, v = .int (m : Int) ∧ C m)) (e : Ex H0 H) (hp : Po p n H) (hn : n + k ≤ 1000000000)
    (q : ∀ (m : Nat) H2, C m → Po p (n + k) H2 → Ex (Hm p H) H2 → tSeq (tFor (iRng1 (tCons (tC (.int (m : Int))) tNil)) (gName j) tu) tz D σ H2) : tSeq (tFor (iRng1 (tCons te tNil)) (gName j) tu) tz D σ H := h n H e hp hn _ fun v H2 ⟨m, ev, hm⟩ p2 e2 => by
  subst ev
  exact q m H2 hm p2 e2
end
section
variable {P : Program} {w : World} {K : PySem.W.Frag} {mg : Str → Option Value} {base : Heap}
theorem ok_law_heavy (T : Tx K mg) : FnOk P w K mg base CX0 2 T.f_law_heavy T.d_law_heavy ["store"] sp_law_heavy := by
  refine T.F_law_heavy.ok sc_law_heavy (fun vs H Q E h => ?_) (fun cdv A outer s H vs Q E hr h => ?_)
  · obtain ⟨p, n, rfl, _⟩ := h
    rfl
  · obtain ⟨p, n, rfl, hpo, hn, k⟩ := h
    refine ⟨_, (pss_one (ps_ret (pe_ix ix_list (pe_lst (pa_cons pe_int (pa_cons pe_int (pa_cons (pe_op op_add pe_int (pe_call (ok_law_pick T) (hr.mono (by decide)) (by rfl) T.g_law_pick T.F_law_pick.kp T.b_law_pick .nil pass0 (pa_cons (pv 0) (pa_cons pe_int pa_nil)))) (pa_cons (pe_op op_sub (pe_op op_powX pe_int pe_int) (pe_call (ok_law_pick T) (hr.mono (by decide)) (by rfl) T.g_law_pick T.F_law_pick.kp T.b_law_pick .nil pass0 (pa_cons (pv 0) (pa_cons (pe_op op_powX pe_int pe_int) pa_nil)))) pa_nil))))) (pe_call (ok_law_pick T) (hr.mono (by decide)) (by rfl) T.g_law_pick T.F_law_pick.kp T.b_law_pick .nil pass0 (pa_cons (pv 0) (pa_cons pe_int pa_nil))) (fun _ _ => rfl)))), ?_⟩
    have ten : Ev (tOp (rI CPowX fun i j => .int (i ^ j.toNat)) (tC (.int 10)) (tC (.int 12))) (start n_law_heavy [.ref p]) (Hm p H) (.int 1000000000000) := ev_op ev_c ev_c (rv_I (by constructor <;> decide +kernel))
    refine p_ret (p := p) (k := ((0 + (0 + ((0 + 1) + ((0 + 1) + 0))))) + 1) (H0 := Hm p H) (R := fun v _ => ∃ w : Int, v = .int w ∧ 1 ≤ w ∧ w ≤ 1000000000000) (ep_ix (A := fun v => ∃ w : Int, v = .int w ∧ 1 ≤ w ∧ w ≤ 1000000000000) (ix := fun v => ∃ r, v = .int r ∧ 0 ≤ r ∧ r < 4) (C := fun vs => ∃ a b : Int, vs = [.int 1, .int 2, .int (1 + a), .int (1000000000000 - b)] ∧ (0 ≤ a ∧ a < 9) ∧ (0 ≤ b ∧ b < 1000000000000)) hm_p
        (ep_is (ep_lst (epa_pure hm_p ev_c (epa_pure hm_p ev_c (epa_cons (A := fun v => ∃ a : Int, v = .int (1 + a) ∧ (0 ≤ a ∧ a < 9)) hm_p (ep_add (C := fun r => 0 ≤ r ∧ r < 9) hm_p ev_c (ep_dipI (w := 9) hm_p (ev_var rfl) ev_c (by decide) (by decide))) (epa_cons (A := fun v => ∃ b : Int, v = .int (1000000000000 - b) ∧ (0 ≤ b ∧ b < 1000000000000)) hm_p (ep_sub (C := fun r => 0 ≤ r ∧ r < 1000000000000) hm_p ten (ep_dipI (w := 1000000000000) hm_p (ev_var rfl) ten (by decide) (by decide))) epa_nil)))) ?_) ?_) (ep_dipI (w := 4) hm_p (ev_var rfl) ev_c (by decide) (by decide)) ?_) hm_sub hpo (by omega) ?_
    · rintro vs ⟨_, _, rfl, _, _, _, rfl, _, _, _, rfl, _, _, _, rfl, _, rfl⟩
      exact Nat.le_of_ble_eq_true rfl
    · rintro v H4 ⟨l, vs, ne, rfl, hl, _, _, rfl, rfl, _, _, rfl, rfl, _, _, rfl, ⟨a, rfl, ha⟩, _, _, rfl, ⟨b, rfl, hb⟩, rfl⟩
      exact ⟨l, _, ne, rfl, hl, a, b, rfl, ha, hb⟩
    · rintro vs v ⟨a, b, rfl, ⟨a0, a1⟩, ⟨b0, b1⟩⟩ ⟨i, rfl, i0, i1⟩
      have : i = 0 ∨ i = 1 ∨ i = 2 ∨ i = 3 := by omega
      rcases this with rfl | rfl | rfl | rfl
      · exact ⟨0, .int 1, rfl, rfl, 1, rfl, by decide, by decide⟩
      · exact ⟨1, .int 2, rfl, rfl, 2, rfl, by decide, by decide⟩
      · exact ⟨2, .int (1 + a), rfl, rfl, _, rfl, by omega, by omega⟩
      · exact ⟨3, .int (1000000000000 - b), rfl, rfl, _, rfl, by omega, by omega⟩
    · rintro v H2 ⟨x, rfl, x0, x1⟩ p2 e2
      exact k x H2 x0 x1 (p2.mono (by omega)) e2
end

section
variable {K : PySem.W.Frag} {σ : L2.St} {H0 H : Hp} {ta tb tc te tm tw : TE} {t : TT} {p : Addr} {k k1 k2 : Nat} {R : V → Hp → Prop}
theorem ep_if {b : Bool} (ht : EvT t σ H0 b) (h1 : b = true → EvP p k ta σ H0 R) (h2 : b = false → EvP p k tb σ H0 R) : EvP p k (tIf t ta tb) σ H0 R := fun n H1 e hp hn Q q => ht H1 e _ fun H2 e2 => by
  cases b with
  | true =>
    show ta σ H2 Q
    exact h1 rfl n H2 (e.trans e2) (hp.ex e2) hn Q fun v H3 hv p3 e3 => q v H3 hv p3 (hm_trans (hm_of e2) e3)
  | false =>
    show tb σ H2 Q
    exact h2 rfl n H2 (e.trans e2) (hp.ex e2) hn Q fun v H3 hv p3 e3 => q v H3 hv p3 (hm_trans (hm_of e2) e3)
theorem ep_mono (h : EvP p k te σ H0 R) (hk : k ≤ k1) : EvP p k1 te σ H0 R := fun n H1 e hp hn Q q => h n H1 e hp (by omega) Q fun v H2 hv p2 e2 => q v H2 hv (p2.mono (by omega)) e2

end
theorem Po.upd {p l : Addr} {n : Nat} {H : Hp} {o : HO} (h : Po p n H) (ne : l ≠ p) : Po p n (upd H l o) := by
  obtain ⟨a, b, c, h1, h2⟩ := h
  exact ⟨a, b, c, by rw [upd_ne (Ne.symm ne)]; exact h1, h2⟩
section
variable {K : PySem.W.Frag} {σ : L2.St} {H0 H : Hp} {ta tb tc te t0 : TE} {tn : TA} {p : Addr} {k k1 k2 : Nat} {R : V → Hp → Prop} {D : Ends} {tz : TS}
/-- [i for i in range(m) if a draw says so] -/
theorem pq_lcT {n m ke i j : Nat} {vs : List Nat} (h0 : H0 p = none) (hn : EvA tn σ H [.int (m : Int)]) (hm : m ≤ 1000) (hw : ∀ x, wipe ((wipe σ vs).set j (some x)) vs = wipe σ vs) (hj : ∀ x, ((wipe σ vs).set j (some x))[j]? = some (some x))
    (he : ∀ c : Nat, c < m → EvP p ke t0 ((wipe σ vs).set j (some (.int (c : Int)))) H0 (fun v _ => ∃ b, v = .bl b)) (e : Ex H0 H) (hp : Po p n H) (hb : n + ke * m ≤ 1000000000)
    (q : ∀ l g H2, H l = none → l ≠ p → H2 l = some (.lst (nv g)) → g.Pairwise (· < ·) → (∀ x ∈ g, x < m) → Po p (n + ke * m) H2 → Ex (Hm p H) H2 → tz D (σ.set i (some (.ref l))) H2) :
    tSeq (tAsg (tLc (iRng1 tn) (gName j) (tTest t0) (tVar j) vs) (gName i)) tz D σ H := hn H (Ex.refl H) _ fun H1 e1 => ⟨(m : Int), rfl, by omega, by omega, fun Dl hD => by
  have p1 := hp.ex e1
  have Dp := p1.ne hD
  have mono : ∀ i, i ≤ m → ke * i ≤ ke * m := fun i hi => Nat.mul_le_mul_left _ (by omega)
  refine lc_range (lo := 0) (n := ((m : Int)).toNat) (fun i H' => Ex (Hm p H1) H' ∧ Po p (n + ke * i) H' ∧ ∃ g : List Nat, H' Dl = some (.lst (nv g)) ∧ g.Pairwise (· < ·) ∧ (∀ x ∈ g, x < i) ∧ g.length ≤ i) ⟨hm_of (Ex.new hD), (p1.ex (Ex.new hD)).mono (by omega), [], upd_same, List.Pairwise.nil, fun v hv => by simp at hv, Nat.le_refl _⟩ (fun i H' hi z => ?_) fun H' z => ?_
  · obtain ⟨e2, p2, g, hu, gp, gl, gn⟩ := z
    rw [Int.toNat_natCast] at hi
    have z0 : (0 : Int) + (i : Int) = (i : Int) := Int.zero_add _
    have m1 := mono (i + 1) (by omega)
    rw [Nat.mul_add, Nat.mul_one] at m1
    show wipe ((wipe σ vs).set j (some (.int ((0 : Int) + (i : Int))))) vs = wipe σ vs ∧ t0 ((wipe σ vs).set j (some (.int ((0 : Int) + (i : Int))))) H' fun v H3 => ∃ b, v = .bl b ∧ (if b = true then (tVar j) ((wipe σ vs).set j (some (.int ((0 : Int) + (i : Int))))) H3 fun y H4 => ∃ acc, H4 Dl = some (.lst acc) ∧ acc.length < sizeLine ∧ (Ex (Hm p H1) (upd H4 Dl (.lst (acc ++ [y]))) ∧ Po p (n + ke * (i + 1)) (upd H4 Dl (.lst (acc ++ [y]))) ∧ ∃ g : List Nat, (upd H4 Dl (.lst (acc ++ [y]))) Dl = some (.lst (nv g)) ∧ g.Pairwise (· < ·) ∧ (∀ x ∈ g, x < i + 1) ∧ g.length ≤ i + 1) else (Ex (Hm p H1) H3 ∧ Po p (n + ke * (i + 1)) H3 ∧ ∃ g : List Nat, H3 Dl = some (.lst (nv g)) ∧ g.Pairwise (· < ·) ∧ (∀ x ∈ g, x < i + 1) ∧ g.length ≤ i + 1))
    rw [z0]
    refine ⟨hw _, he i (by omega) (n + ke * i) H' (hm_next h0 (e.trans e1) e2) p2 (by omega) _ fun v H3 ⟨b, hb2⟩ p4 e4 => ⟨b, hb2, ?_⟩⟩
    have hu3 := hm_at e4 Dp hu
    cases b with
    | true =>
      rw [if_pos rfl]
      refine ⟨.int (i : Int), hj _, nv g, hu3, sz_lt (by rw [nv_len]; omega), Ex.mut (hm_trans e2 e4) (by unfold Hm; rw [if_neg Dp]; exact hD), ?_, g ++ [i], ?_, ?_, ?_, ?_⟩
      · rw [Nat.mul_add, Nat.mul_one, ← Nat.add_assoc]
        exact p4.upd Dp
      · rw [upd_same, nv_app]
        rfl
      · rw [List.pairwise_append]
        exact ⟨gp, List.pairwise_singleton _ _, fun x hx y hy => by rw [List.mem_singleton.mp hy]; exact gl x hx⟩
      · intro x hx
        rcases List.mem_append.mp hx with z | z
        · have := gl x z
          omega
        · rw [List.mem_singleton.mp z]
          omega
      · rw [List.length_append]
        show g.length + 1 ≤ i + 1
        omega
    | false =>
      rw [if_neg (by simp)]
      refine ⟨hm_trans e2 e4, ?_, g, hu3, gp, fun x hx => by have := gl x hx; omega, by omega⟩
      rw [Nat.mul_add, Nat.mul_one, ← Nat.add_assoc]
      exact p4
  · obtain ⟨e2, p2, g, hu, gp, gl, gn⟩ := z
    rw [Int.toNat_natCast] at gl p2
    exact q Dl g H' (fresh_back e1 hD) Dp hu gp gl p2 (hm_trans (hm_of e1) e2)⟩
end
theorem ep_evH {σ : L2.St} {H0 : Hp} {p l : Addr} {te : TE} {v : V} {o : HO} (h : Ev te σ H0 v) (hl : H0 l = some o) : EvP p 0 te σ H0 (fun x H => x = v ∧ H l = some o) := fun n H1 e hp _ Q q =>
  h H1 e _ fun H2 e2 => q _ H2 ⟨rfl, e2 l _ (e l _ hl)⟩ (hp.ex e2) (hm_of e2)
def sp_law_gang : Sp := fun vs H Q _ => ∃ (p : Addr) (n m : Nat), vs = [.ref p, .int (m : Int)] ∧ Po p n H ∧ n + 100 < 1000000000 ∧ 1 ≤ m ∧ m ≤ 20 ∧ ∀ l g H', l ≠ p → H' l = some (.lst (nv g)) → Gang m g → Po p (n + 30) H' → Ex (Hm p H) H' → Q (.ref l) H'
section
variable {P : Program} {w : World} {K : PySem.W.Frag} {mg : Str → Option Value} {base : Heap}
theorem ok_law_gang (T : Tx K mg) : FnOk P w K mg base CX0 2 T.f_law_gang T.d_law_gang ["store", "many_here"] sp_law_gang := by
  refine T.F_law_gang.ok sc_law_gang (fun vs H Q E h => ?_) (fun cdv A outer s H vs Q E hr h => ?_)
  · obtain ⟨p, n, m, rfl, _⟩ := h
    rfl
  · obtain ⟨p, n, m, rfl, hpo, hn, m1, m20, k⟩ := h
    refine ⟨_, (pss_cons (ps_setLc (i := 3) (own := [("who", 2)]) (g := (gName 2)) rfl sc_law_gang.nd rfl rfl (sw_true rfl rfl rfl (by decide +kernel)) (pi_range1 (by rfl) T.m_range (pa_cons (pv 1) pa_nil)) (blkOk_by (own := [("who", 2)]) (N := n_law_gang) (sc := defScope s_law_gang) (by decide +kernel)) (fun _ _ _ _ _ => (pg_name (i := 2) sc_law_gang.nd rfl (Or.inl rfl))) (fun _ _ _ _ _ => (pts_one (pt_cmpR op_eq (pe_call (ok_law_pick T) (hr.mono (by decide)) (by rfl) T.g_law_pick T.F_law_pick.kp T.b_law_pick .nil pass0 (pa_cons (pv 0) (pa_cons pe_int pa_nil))) pe_int (nomark _)))) (fun _ _ _ _ _ => (pv 2)))
      (pss_one (ps_ret (pe_ifExp (pt_cmpR (op_neD hr.units) (pv 3) (pe_lst pa_nil) (nomark _)) (pv 3) (pe_lst (pa_cons (pe_call (ok_law_pick T) (hr.mono (by decide)) (by rfl) T.g_law_pick T.F_law_pick.kp T.b_law_pick .nil pass0 (pa_cons (pv 0) (pa_cons (pv 1) pa_nil))) pa_nil)))))), ?_⟩
    refine pq_lcT (p := p) (H0 := Hm p H) (m := m) (ke := 1 + 0) hm_p (ea_cons (ev_var rfl) ea_nil) (by omega) (fun _ => rfl) (fun _ => rfl) (fun c _ => ?_) hm_sub hpo (by omega) ?_
    · exact ep_op hm_p (ep_dipI (w := 2) hm_p (ev_var rfl) ev_c (by decide) (by decide)) (ep_ev (v := .int 0) ev_c) stb_c stb_c fun x y H4 ⟨r, ex, _⟩ ey => ⟨.bl (decide (V.int r = V.int 0)), ⟨_, rfl⟩, by
        subst ex ey
        exact rv_eq rfl⟩
    rintro l g H2 nl lp hl2 gp gl p2 e2
    have hlm : Hm p H2 l = some (.lst (nv g)) := by
      unfold Hm
      rw [if_neg lp]
      exact hl2
    refine p_ret (p := p) (k := (0 + 1) + 0) (H0 := Hm p H2) (R := fun v H' => ∃ l' g', v = .ref l' ∧ l' ≠ p ∧ H' l' = some (.lst (nv g')) ∧ Gang m g') (ep_if (b := !PyData.eqv (di g) (.list [])) (et_test (ev_neD (ed_of (ev_var rfl) (dp_L hlm)) (ed_lst eda_nil (Nat.le_of_ble_eq_true rfl)) (shaped_di g) (by decide +kernel))) (fun hb => ?_) (fun hb => ?_)) hm_sub p2 (by omega) ?_
    · have ne : g ≠ [] := fun z => by
        subst z
        exact absurd hb (by decide +kernel)
      exact ep_mono (ep_is (ep_evH (v := .ref l) (ev_var rfl) hlm) fun v H4 ⟨hv, h4⟩ => ⟨l, g, hv, lp, h4, ⟨ne, gp, gl⟩⟩) (by omega)
    · refine ep_is (ep_lst (epa_cons (A := fun v => ∃ c : Nat, v = .int (c : Int) ∧ c < m) hm_p (ep_is (ep_dipI (w := (m : Int)) hm_p (ev_var rfl) (ev_var rfl) (by omega) (by omega)) ?_) epa_nil) ?_) ?_
      · rintro v _ ⟨r, rfl, r0, r1⟩
        exact ⟨r.toNat, by congr 1; omega, by omega⟩
      · rintro vs ⟨_, _, rfl, _, rfl⟩
        exact Nat.le_of_ble_eq_true rfl
      · rintro v H4 ⟨l', vs, ne, rfl, hl', _, _, rfl, ⟨c, rfl, hc⟩, rfl⟩
        exact ⟨l', [c], rfl, ne, hl', ⟨by simp, List.pairwise_singleton _ _, fun x hx => by rw [List.mem_singleton.mp hx]; exact hc⟩⟩
    · rintro v H4 ⟨l', g', rfl, lp', hl', o⟩ p4 e4
      exact k l' g' H4 lp' hl' o (p4.mono (by omega)) (hm_trans e2 e4)
end

local macro_rules | `(tactic| walk_at "call") => `(tactic| (with_reducible exact sv_whole))
local macro_rules | `(tactic| walk_at "call") => `(tactic| (with_reducible exact sv_between))
local macro_rules | `(tactic| walk_at "call") => `(tactic| ((with_reducible refine' sv_check1 ?c1 ?c2); (case c1 => walk_at "side"); (case c2 => walk_at "side")))
local macro_rules | `(tactic| walk_at "call") => `(tactic| ((with_reducible refine' sv_check_number ?c1 ?c2); (case c1 => walk_at "side"); (case c2 => walk_at "side")))
local macro_rules | `(tactic| walk_at "callU") => `(tactic| ((with_reducible refine' su_fraction ?c1 ?c2); (case c1 => walk_at "side"); (case c2 => walk_at "side")))
local macro_rules | `(tactic| walk_at "call") => `(tactic| ((with_reducible refine' sv_rise ?c1 ?c2); (case c1 => walk_at "side"); (case c2 => walk_at "side")))

/-! ### the law's rows and sums -/
def zipI (f : Int → Int → Int) : V → V → V
  | .int a, .int b => .int (f a b)
  | _, _ => .non
theorem zipV (f : Int → Int → Int) : ∀ xs ys : List Int, List.zipWith (zipI f) (xs.map V.int) (ys.map V.int) = (List.zipWith f xs ys).map V.int
  | [], _ => by simp
  | _ :: _, [] => by simp
  | x :: xs, y :: ys => by
    rw [List.map_cons, List.map_cons, List.zipWith_cons_cons, zipV f xs ys, List.zipWith_cons_cons]
    rfl
theorem sums_step (w : Int) (n : Nat) : List.zipWith (fun a b => a + (n : Int) * b) (0 :: (sums w n).map (w * ·)) (sums w n ++ [0]) = sums w (n + 1) := by
  show _ = List.zipWith (· + ·) ((sums w n).map (· * (n : Int)) ++ [0]) (0 :: (sums w n).map (· * w))
  have e1 : (sums w n).map (· * (n : Int)) ++ [0] = (sums w n ++ [0]).map (· * (n : Int)) := by simp
  have e2 : (sums w n).map (w * ·) = (sums w n).map (· * w) := List.map_congr_left fun x _ => Int.mul_comm w x
  rw [e1, e2, List.zipWith_map_left, List.zipWith_comm]
  congr 1
  funext a b
  rw [Int.mul_comm, Int.add_comm]
def sp_law_row : Sp := fun vs H Q _ => ∃ (w : Int) (m : Nat), vs = [.int w, .int (m : Int)] ∧ m ≤ 20 ∧ 1 ≤ w ∧ w ≤ 1000000000000 ∧ RetL ((sums w m).map V.int) H Q
theorem sl_row {H : Hp} {w : Int} {m : Nat} (hm : m ≤ 20) (h0 : 1 ≤ w) (h1 : w ≤ 1000000000000) : SpL sp_law_row ([.int w, .int (m : Int)] ++ []) H ((sums w m).map V.int) := fun H1 _ Q q E => ⟨w, m, rfl, hm, h0, h1, q⟩
def sp_law_parts : Sp := fun vs H Q _ => ∃ (a : Addr) (ws : List V) (as : List Int) (B : Int), vs = [.ref a] ∧ H a = some (.lst ws) ∧ TL H ws (as.map fun x => frac x B) ∧ (∀ x ∈ as, 0 ≤ x ∧ x.natAbs < 2 ^ 3100) ∧ as.length ≤ 40 ∧ 0 < B ∧ B.natAbs < 2 ^ 3000 ∧ RetU (frac as.sum B) H Q
theorem frac_eq {a b c d : Int} (hb : 0 < b) (hd : 0 < d) (h : a * d = c * b) : frac a b = frac c d := by
  obtain ⟨x, y⟩ := quo_eq hb hd h
  unfold frac
  rw [x, y]
theorem cd_both {a b : Int} (ha : 0 ≤ a) (hb : 0 < b) : ∃ g x y : Int, 0 < g ∧ 0 ≤ x ∧ 0 < y ∧ a = g * x ∧ b = g * y ∧ a / cd a b = x ∧ b / cd a b = y := by
  have g := cd_pos (a := a) hb
  have da : cd a b ∣ a := cd_dvd1
  have db : cd a b ∣ b := cd_dvd2
  obtain ⟨x, hx⟩ := da
  obtain ⟨y, hy⟩ := db
  refine ⟨cd a b, x, y, g, ?_, ?_, hx, hy, ?_, ?_⟩
  · rcases Int.lt_or_le x 0 with z | z
    · have := Int.mul_neg_of_pos_of_neg g z
      omega
    · exact z
  · rcases Int.lt_or_le 0 y with z | z
    · exact z
    · have := Int.mul_nonpos_of_nonneg_of_nonpos (Int.le_of_lt g) z
      omega
  · conv => lhs; arg 1; rw [hx]
    exact Int.mul_ediv_cancel_left _ (by omega)
  · conv => lhs; arg 1; rw [hy]
    exact Int.mul_ediv_cancel_left _ (by omega)
theorem sum_bd : ∀ {as : List Int}, (∀ x ∈ as, 0 ≤ x ∧ x.natAbs < 2 ^ 3100) → 0 ≤ as.sum ∧ as.sum.natAbs ≤ as.length * 2 ^ 3100
  | [], _ => ⟨Int.le_refl _, Nat.zero_le _⟩
  | x :: r, h => by
    have a := sum_bd (as := r) fun y hy => h y (by simp [hy])
    have b := h x (by simp)
    rw [List.sum_cons, List.length_cons, Nat.add_mul, Nat.one_mul]
    generalize 2 ^ 3100 = M at *
    generalize r.length * M = N at *
    omega
section
variable {P : Program} {w : World} {K : PySem.W.Frag} {mg : Str → Option Value} {base : Heap}
theorem ok_law_row (T : Tx K mg) : FnOk P w K mg base CX0 1 T.f_law_row T.d_law_row ["heavy", "many_here"] sp_law_row := by
  refine T.F_law_row.ok sc_law_row (fun vs H Q E h => ?_) (fun cdv A outer s H vs Q E hr h => ?_)
  · obtain ⟨x, m, rfl, _⟩ := h
    rfl
  · obtain ⟨x, m, rfl, hm, h0, h1, k⟩ := h
    refine ⟨_, (pss_cons (ps_set (i := 2) sc_law_row.nd rfl (Or.inl rfl) (pe_lst (pa_cons pe_int pa_nil)))
      (pss_cons (ps_for PassesOwn.never rfl (pi_range1 (by rfl) T.m_range (pa_cons (pv 1) pa_nil)) (pg_name (i := 3) sc_law_row.nd rfl (Or.inr rfl)) (pss_cons (ps_set (i := 5) sc_law_row.nd rfl (Or.inl rfl) (pe_op op_cat (pe_lst (pa_cons pe_int pa_nil)) (pe_lc (own := [("part", 4)]) (g := (gName 4)) (tt := tYes) rfl sc_law_row.nd (pi_list (pv 2)) (blkOk_by (own := [("part", 4)]) (N := n_law_row) (sc := defScope s_law_row) (by decide +kernel)) (fun _ _ _ _ _ => (pg_name (i := 4) sc_law_row.nd rfl (Or.inl rfl))) (fun _ _ _ _ _ => pts_nil) (fun _ _ _ _ _ => (pe_op op_mulX (pv 0) (pv 4))))))
      (pss_one (ps_setLc (i := 2) (own := [("one", 6), ("two", 7)]) (g := (gTup _ 2 (gCons (gName 6) (gCons (gName 7) gNil)))) (tt := tYes) rfl sc_law_row.nd rfl rfl (sw_true rfl rfl rfl (by decide +kernel)) (pi_zip (by rfl) T.m_zip (pa_cons (pv 5) (pa_cons (pe_op op_cat (pv 2) (pe_lst (pa_cons pe_int pa_nil))) pa_nil))) (blkOk_by (own := [("one", 6), ("two", 7)]) (N := n_law_row) (sc := defScope s_law_row) (by decide +kernel)) (fun _ _ _ _ _ => (pg_tup rfl (pgs_cons (pg_name (i := 6) sc_law_row.nd rfl (Or.inl rfl)) (pgs_cons (pg_name (i := 7) sc_law_row.nd rfl (Or.inl rfl)) pgs_nil)))) (fun _ _ _ _ _ => pts_nil) (fun _ _ _ _ _ => (pe_op op_add (pv 6) (pe_op op_mulX (pv 3) (pv 7))))))))
      (pss_one (ps_ret (pv 2))))), ?_⟩
    refine q_asgL (xs := (sums x 0).map V.int) (el_lst (ea_cons ev_c ea_nil) (Nat.le_of_ble_eq_true rfl)) fun p H1 hp e1 hp1 => ?_
    refine q_forR1 (n := (m : Int)) (ea_cons (ev_var rfl) ea_nil) ⟨by omega, by omega⟩ (fun i σ' H' => ∃ (q : Addr) (y3 y4 y5 y6 y7 : Option V), σ' = [some (.int x), some (.int (m : Int)), some (.ref q), y3, y4, y5, y6, y7] ∧ Ex H H' ∧ H q = none ∧ H' q = some (.lst ((sums x i).map V.int)))
      (fun H2 e2 => ⟨p, none, none, none, none, none, rfl, e1.trans e2, hp, e2 p _ hp1⟩) ?_ ?_
    · rintro i σ' H' hi ⟨q, y3, y4, y5, y6, y7, rfl, e, hq, hl⟩
      have sl := sums_len x i
      have small : ∀ z ∈ sums x i, z.natAbs < 2 ^ 900 := fun z hz => by
        have := sums_small (w := x) (by omega) (by omega) i (by omega) z hz
        have a : (2 : Int) ^ (43 * i) = ((2 ^ (43 * i) : Nat) : Int) := by simp
        rw [a] at this
        have b : 2 ^ (43 * i) < 2 ^ 900 := Nat.pow_lt_pow_right (by decide) (by omega)
        omega
      refine q_asgL (xs := (0 :: (sums x i).map (x * ·)).map V.int) ?_ fun r H2 hr2 e2 hr3 => ?_
      · have e0 : ((0 :: (sums x i).map (x * ·)).map V.int : List V) = [V.int 0] ++ ((sums x i).map V.int).map (fun v => zipI (fun a b => a * b) (.int x) v) := by
          rw [List.map_cons, List.map_map, List.map_map]
          rfl
        rw [e0]
        refine el_cat (el_lst (ea_cons ev_c ea_nil) (Nat.le_of_ble_eq_true rfl)) (el_map (fun v => zipI (fun a b => a * b) (.int x) v) (ev_var rfl) (sq_of hl) (by rw [List.length_map]; omega) (fun _ => rfl) fun j v H3 e3 hv => ?_) (by simp; omega)
        rw [List.getElem?_map] at hv
        obtain ⟨z, hz, rfl⟩ := Option.map_eq_some_iff.mp hv
        have m1 : CMulX x z := mulx_ok (a := 64) (b := 900) (by omega) (small z (List.mem_of_getElem? hz)) (by decide)
        exact ev_op (ev_var rfl) (ev_var rfl) (rv_I m1)
      have hl2 := e2 q _ hl
      refine s_asgL (xs := (sums x (i + 1)).map V.int) ?_ fun q2 H3 hq2 e3 hl3 => ⟨q2, _, _, _, _, _, rfl, e.trans (e2.trans e3), fresh_back (e.trans e2) hq2, hl3⟩
      rw [← sums_step, ← zipV]
      have e1' : ((sums x i ++ [0]).map V.int : List V) = (sums x i).map V.int ++ [V.int 0] := by rw [List.map_append]; rfl
      rw [e1']
      refine el_zipO (K := K) (zipI fun a b => a + (i : Int) * b) (ev_var rfl) (sq_of hr3) (el_catL (ev_var rfl) hl2 (el_lst (ea_cons ev_c ea_nil) (Nat.le_of_ble_eq_true rfl)) (by simp; omega)) (by simp) (by simp; omega) (fun _ _ => rfl) fun n y z H4 e4 hy hz => ?_
      rw [List.getElem?_map] at hy
      obtain ⟨a, ha, rfl⟩ := Option.map_eq_some_iff.mp hy
      rw [← e1', List.getElem?_map] at hz
      obtain ⟨b, hb, rfl⟩ := Option.map_eq_some_iff.mp hz
      have bb : b.natAbs < 2 ^ 900 := by
        rcases List.mem_append.mp (List.mem_of_getElem? hb) with z | z
        · exact small b z
        · rw [List.mem_singleton.mp z]
          decide
      have m1 : CMulX (i : Int) b := mulx_ok (a := 64) (b := 900) (by omega) bb (by decide)
      exact ev_op (ev_var rfl) (ev_op (ev_var rfl) (ev_var rfl) (rv_I m1)) rv_I0
    · rintro σ' H' ⟨q, y3, y4, y5, y6, y7, rfl, e, hq, hl⟩
      rw [Int.toNat_natCast] at hl
      exact s_ret (ev_var rfl) fun H2 e2 => k q H2 hq (e.trans e2) (e2 q _ hl)
theorem ok_law_parts (T : Tx K mg) : FnOk P w K mg base CX0 2 T.f_law_parts T.d_law_parts ["parts"] sp_law_parts := by
  refine T.F_law_parts.ok sc_law_parts (fun vs H Q E h => ?_) (fun cdv A outer s H vs Q E hr h => ?_)
  · obtain ⟨a, ws, as, B, rfl, _⟩ := h
    rfl
  · obtain ⟨a, ws, as, B, rfl, ha, ht, hp, hl, hB, hBs, k⟩ := h
    refine ⟨_, (pss_cons (ps_asg (pe_tup (pa_cons pe_int (pa_cons pe_int pa_nil))) (pg_tup rfl (pgs_cons (pg_name (i := 1) sc_law_parts.nd rfl (Or.inl rfl)) (pgs_cons (pg_name (i := 2) sc_law_parts.nd rfl (Or.inl rfl)) pgs_nil))))
      (pss_cons (ps_for PassesOwn.never rfl (pi_list (pv 0)) (pg_tup rfl (pgs_cons (pg_name (i := 3) sc_law_parts.nd rfl (Or.inl rfl)) (pgs_cons (pg_name (i := 4) sc_law_parts.nd rfl (Or.inl rfl)) pgs_nil))) (pss_cons (ps_par (i := 1) (j := 2) (by rfl) sc_law_parts.nd rfl rfl (by decide) rfl rfl (pa_cons (pe_op op_add (pe_op op_mulX (pv 1) (pv 4)) (pe_op op_mulX (pv 3) (pv 2))) (pa_cons (pe_op op_mulX (pv 2) (pv 4)) pa_nil)) (by rfl))
      (pss_one (ps_asg (pe_call (ok_law_lowest T) (hr.mono (by decide)) (by rfl) T.g_law_lowest T.F_law_lowest.kp T.b_law_lowest .nil pass0 (pa_cons (pv 1) (pa_cons (pv 2) pa_nil))) (pg_tup rfl (pgs_cons (pg_name (i := 1) sc_law_parts.nd rfl (Or.inl rfl)) (pgs_cons (pg_name (i := 2) sc_law_parts.nd rfl (Or.inl rfl)) pgs_nil)))))))
      (pss_one (ps_ret (pe_tup (pa_cons (pv 1) (pa_cons (pv 2) pa_nil))))))), ?_⟩
    have wl := ht.len
    rw [List.length_map] at wl
    refine q_tup2U (K := K) (x := .int 0) (y := .int 1) (eu_tup (ea_cons ev_c (ea_cons ev_c ea_nil)) (Nat.le_of_ble_eq_true rfl)) fun H1 e1 => ?_
    refine q_forL (ev_var rfl) (sq_of (e1 a _ ha)) (fun i σ' H' => ∃ (t b : Int) (y3 y4 : Option V), σ' = [some (.ref a), some (.int t), some (.int b), y3, y4] ∧ Ex H H' ∧ [V.int t, V.int b] = frac (as.take i).sum B)
      (fun H2 e2 => ⟨0, 1, none, none, rfl, e1.trans e2, ?_⟩) (fun i σ' H' _ ⟨_, _, _, _, _, e, _⟩ => sq_of (e a _ ha)) ?_ ?_
    · show [V.int 0, V.int 1] = frac 0 B
      rw [← frac_eq (a := 0) (b := 1) (by decide) hB (by omega)]
      rfl
    · rintro i v σ' H' hv ⟨t, b, y3, y4, rfl, e, f⟩
      obtain ⟨c, r, rfl, hc, hr2⟩ := ht.get hv
      rw [List.getElem?_map] at hr2
      obtain ⟨z, hz, rfl⟩ := Option.map_eq_some_iff.mp hr2
      have il := (List.getElem?_eq_some_iff.mp hz).1
      obtain ⟨z0, zb⟩ := hp z (List.mem_of_getElem? hz)
      obtain ⟨s0, sb⟩ := sum_bd (as := as.take i) fun y hy => hp y (List.mem_of_mem_take hy)
      have tl : (as.take i).length ≤ 40 := by rw [List.length_take]; omega
      have nx : (as.take (i + 1)).sum = (as.take i).sum + z := by
        rw [List.take_add_one, hz, List.sum_append]
        simp
      generalize (as.take i).sum = S at *
      obtain ⟨g, x1, y1, g0, x10, y10, eS, eB, q1, q2⟩ := cd_both (a := S) (b := B) s0 hB
      obtain ⟨g', x2, y2, g0', x20, y20, ez, eB', q1', q2'⟩ := cd_both (a := z) (b := B) z0 hB
      have f1 : frac S B = [.int x1, .int y1] := by unfold frac; rw [q1, q2]
      have f2 : frac z B = [.int x2, .int y2] := by unfold frac; rw [q1', q2']
      rw [f1] at f
      obtain ⟨rfl, rfl⟩ : t = x1 ∧ b = y1 := by
        have a1 := (List.cons.inj f).1
        have a2 := (List.cons.inj (List.cons.inj f).2).1
        exact ⟨V.int.inj a1, V.int.inj a2⟩
      have x1b : t.natAbs < 2 ^ 3110 := by
        have : t * 1 ≤ t * g := Int.mul_le_mul_of_nonneg_left (by omega) x10
        have l2 : (as.take i).length * 2 ^ 3100 < 2 ^ 3110 := by
          have : (as.take i).length * 2 ^ 3100 ≤ 40 * 2 ^ 3100 := Nat.mul_le_mul_right _ tl
          have l3 : 40 * 2 ^ 3100 < 2 ^ 3110 := by decide +kernel
          omega
        rw [Int.mul_comm t g, ← eS] at this
        omega
      have x2b : x2.natAbs < 2 ^ 3100 := by
        have : x2 * 1 ≤ x2 * g' := Int.mul_le_mul_of_nonneg_left (by omega) x20
        rw [Int.mul_comm x2 g', ← ez] at this
        omega
      have y1b : b.natAbs < 2 ^ 3000 := by
        have : b * 1 ≤ b * g := Int.mul_le_mul_of_nonneg_left (by omega) (by omega)
        rw [Int.mul_comm b g, ← eB] at this
        omega
      have y2b : y2.natAbs < 2 ^ 3000 := by
        have : y2 * 1 ≤ y2 * g' := Int.mul_le_mul_of_nonneg_left (by omega) (by omega)
        rw [Int.mul_comm y2 g', ← eB'] at this
        omega
      have m1 : CMulX t y2 := mulx_ok x1b y2b (by decide)
      have m2 : CMulX x2 b := mulx_ok x2b y1b (by decide)
      have m3 : CMulX b y2 := mulx_ok y1b y2b (by decide)
      refine ⟨c, [.int x2, .int y2], rfl, st_of (by rw [← f2]; exact e c _ hc), rfl, .int x2, [.int y2], rfl, .int y2, [], rfl, rfl, ?_⟩
      refine q_par (x := .int (t * y2 + x2 * b)) (y := .int (b * y2)) (ea_cons (ev_op (ev_op (ev_var rfl) (ev_var rfl) (rv_I m1)) (ev_op (ev_var rfl) (ev_var rfl) (rv_I m2)) rv_I0) (ea_cons (ev_op (ev_var rfl) (ev_var rfl) (rv_I m3)) ea_nil)) fun H2 e2 => ?_
      have bp : 0 < b * y2 := Int.mul_pos y10 y20
      have bb : (b * y2).natAbs < 2 ^ 8000 := by
        rw [Int.natAbs_mul]
        have h6 : 2 ^ 3000 * 2 ^ 3000 < 2 ^ 8000 := by decide +kernel
        exact Nat.lt_trans (Nat.mul_lt_mul_of_lt_of_le y1b (Nat.le_of_lt y2b) (Nat.pow_pos (by decide))) h6
      have fe : frac (t * y2 + x2 * b) (b * y2) = frac (S + z) B := by
        refine frac_eq bp hB ?_
        have k1 : t * y2 * B = S * (b * y2) := by
          rw [eS, eB]
          simp only [Int.mul_assoc, Int.mul_left_comm, Int.mul_comm]
        have k2 : x2 * b * B = z * (b * y2) := by
          rw [ez, eB']
          simp only [Int.mul_assoc, Int.mul_left_comm, Int.mul_comm]
        rw [Int.add_mul, k1, k2, ← Int.add_mul]
      have fr : ∀ a b : Int, frac a b = [.int (a / cd a b), .int (b / cd a b)] := fun _ _ => rfl
      refine s_tup2U (K := K) (x := .int ((t * y2 + x2 * b) / cd (t * y2 + x2 * b) (b * y2))) (y := .int ((b * y2) / cd (t * y2 + x2 * b) (b * y2))) (eu_call (ea_cons (ev_var rfl) (ea_cons (ev_var rfl) ea_nil)) (su_lowest (Int.add_nonneg (Int.mul_nonneg x10 (by omega)) (Int.mul_nonneg x20 (by omega))) bp bb)) fun H3 e3 => ⟨_, _, _, _, rfl, e.trans (e2.trans e3), ?_⟩
      rw [nx, ← fe]
      rfl
    · rintro σ' H' ⟨t, b, y3, y4, rfl, e, f⟩
      rw [wl, List.take_of_length_le (Nat.le_refl _)] at f
      exact s_retU (eu_tup (ea_cons (ev_var rfl) (ea_cons (ev_var rfl) ea_nil)) (Nat.le_of_ble_eq_true rfl)) fun p H2 hp2 e2 h2 => k p H2 (fresh_back e hp2) (e.trans e2) (by rw [← f]; exact h2)
end

/-! ### home by steps, the law's count -/
theorem prm_zero (n : Nat) : prm n 0 = 1 := by
  have h := prm_fac (Nat.zero_le n)
  have p := fac_pos n
  rw [Nat.sub_zero] at h
  exact Int.eq_of_mul_eq_mul_right (a := (fac n : Int)) (by omega) (by rw [h, Int.one_mul])
theorem prm_next {n k : Nat} (h : k + 1 ≤ n) : prm n (k + 1) = prm n k * ((n : Int) - (k : Int)) := by
  have a := prm_fac (n := n) (k := k) (by omega)
  have b := prm_fac (n := n) (k := k + 1) h
  have p := fac_pos (n - (k + 1))
  rw [show n - k = (n - (k + 1)) + 1 by omega, fac_succ] at a
  refine Int.eq_of_mul_eq_mul_right (a := (fac (n - (k + 1)) : Int)) (by omega) ?_
  rw [b, ← a]
  push_cast
  have e : ((n : Int) - (k : Int)) = ((n - (k + 1) : Nat) : Int) + 1 := by omega
  rw [e]
  simp only [Int.mul_assoc, Int.mul_left_comm, Int.mul_comm]
theorem prm_up {n k : Nat} (h : k ≤ n) : prm (n + 1) (k + 1) = ((n : Int) + 1) * prm n k := by
  have a := prm_fac (n := n) (k := k) h
  have b := prm_fac (n := n + 1) (k := k + 1) (by omega)
  have p := fac_pos (n - k)
  rw [show n + 1 - (k + 1) = n - k by omega, fac_succ] at b
  refine Int.eq_of_mul_eq_mul_right (a := (fac (n - k) : Int)) (by omega) ?_
  rw [b, Int.mul_assoc, a]
  push_cast
  rw [Int.mul_comm]
/-- all sizes up to i that the steps go round -/
def homP (n : Nat) (w st : Int) (i : Nat) : Int := ((((List.range i).filter fun i : Nat => decide (st % ((1 : Int) + (i : Int)) = 0)).map fun i => i + 1).map fun s => wsz n w s).sum
theorem homP_all (n : Nat) (w st : Int) : homP n w st n = homW n w st := rfl
theorem homP_next (n : Nat) (w st : Int) (i : Nat) : homP n w st (i + 1) = if st % ((1 : Int) + (i : Int)) = 0 then homP n w st i + wsz n w (i + 1) else homP n w st i := by
  unfold homP
  rw [List.range_succ, List.filter_append]
  split
  · rename_i e
    rw [List.filter_cons, if_pos (by simpa using e)]
    simp
  · rename_i e
    rw [List.filter_cons, if_neg (by simpa using e)]
    simp
def allW (n : Nat) (w : Int) (i : Nat) : Int := ((List.range i).map fun i => wsz n w (i + 1)).sum
theorem wsz_nn {n s : Nat} {w : Int} (h0 : 1 ≤ w) (h1 : 1 ≤ s) (h2 : s ≤ n) : 0 ≤ wsz n w s := by
  unfold wsz
  have a := prm_pos (n := n - 1) (k := s - 1) (by omega)
  have b := rise_pos h0 (n - s)
  exact Int.mul_nonneg (Int.mul_nonneg (by omega) (by omega)) (by omega)
theorem homP_le {n : Nat} {w : Int} (st : Int) (h0 : 1 ≤ w) : ∀ i, i ≤ n → 0 ≤ homP n w st i ∧ homP n w st i ≤ allW n w i
  | 0, _ => ⟨Int.le_refl _, Int.le_refl _⟩
  | i + 1, hi => by
    obtain ⟨a, b⟩ := homP_le (n := n) st h0 i (by omega)
    have c := wsz_nn (n := n) (s := i + 1) h0 (by omega) hi
    have d : allW n w (i + 1) = allW n w i + wsz n w (i + 1) := by
      unfold allW
      rw [List.range_succ, List.map_append, List.sum_append]
      simp
    rw [homP_next, d]
    split <;> omega
theorem allW_one (w : Int) : ∀ n, allW (n + 1) w (n + 1) = rise w (n + 1)
  | 0 => by
    unfold allW wsz
    show w * prm 0 0 * rise w 0 + 0 = 1 * (w + ((0 : Nat) : Int))
    rw [prm_zero]
    show w * 1 * 1 + 0 = 1 * (w + 0)
    omega
  | n + 1 => by
    have ih := allW_one w n
    have e : allW (n + 2) w (n + 2) = wsz (n + 2) w 1 + ((n : Int) + 1) * allW (n + 1) w (n + 1) := by
      unfold allW
      rw [List.range_succ_eq_map, List.map_cons, List.sum_cons, List.map_map]
      congr 1
      have : ∀ l : List Nat, (∀ i ∈ l, i ≤ n) → (l.map ((fun i => wsz (n + 2) w (i + 1)) ∘ Nat.succ)).sum = ((n : Int) + 1) * (l.map fun i => wsz (n + 1) w (i + 1)).sum := fun l => by
        induction l with
        | nil => intro _; simp
        | cons x r ihl =>
          intro hx
          rw [List.map_cons, List.sum_cons, List.map_cons, List.sum_cons, ihl fun y hy => hx y (by simp [hy]), Int.mul_add]
          congr 1
          show w * prm (n + 2 - 1) (x + 1 + 1 - 1) * rise w (n + 2 - (x + 1 + 1)) = ((n : Int) + 1) * (w * prm (n + 1 - 1) (x + 1 - 1) * rise w (n + 1 - (x + 1)))
          rw [show n + 2 - 1 = n + 1 by omega, show x + 1 + 1 - 1 = x + 1 by omega, show n + 1 - 1 = n by omega, show x + 1 - 1 = x by omega, show n + 2 - (x + 1 + 1) = n + 1 - (x + 1) by omega, prm_up (hx x (by simp))]
          simp only [Int.mul_assoc, Int.mul_left_comm, Int.mul_comm]
      exact this _ fun i hi => by have := List.mem_range.mp hi; omega
    rw [e, ih]
    have e1 : wsz (n + 2) w 1 = w * rise w (n + 1) := by
      unfold wsz
      rw [show 1 - 1 = 0 from rfl, prm_zero, show n + 2 - 1 = n + 1 by omega, Int.mul_one]
    rw [e1]
    show _ = rise w (n + 1) * (w + ((n + 1 : Nat) : Int))
    push_cast
    grind
theorem homW_bd {n : Nat} {w st : Int} (h0 : 1 ≤ w) (n1 : 1 ≤ n) : 0 ≤ homW n w st ∧ homW n w st ≤ rise w n := by
  have a := homP_le (n := n) st h0 n (Nat.le_refl _)
  obtain ⟨m, rfl⟩ : ∃ m, n = m + 1 := ⟨n - 1, by omega⟩
  rw [allW_one] at a
  exact a

local macro_rules | `(tactic| walk_at "call") => `(tactic| (with_reducible exact sv_whole))
local macro_rules | `(tactic| walk_at "call") => `(tactic| (with_reducible exact sv_between))
local macro_rules | `(tactic| walk_at "call") => `(tactic| ((with_reducible refine' sv_check1 ?c1 ?c2); (case c1 => walk_at "side"); (case c2 => walk_at "side")))
local macro_rules | `(tactic| walk_at "call") => `(tactic| ((with_reducible refine' sv_check_number ?c1 ?c2); (case c1 => walk_at "side"); (case c2 => walk_at "side")))
local macro_rules | `(tactic| walk_at "callU") => `(tactic| ((with_reducible refine' su_fraction ?c1 ?c2); (case c1 => walk_at "side"); (case c2 => walk_at "side")))
local macro_rules | `(tactic| walk_at "call") => `(tactic| ((with_reducible refine' sv_rise ?c1 ?c2); (case c1 => walk_at "side"); (case c2 => walk_at "side")))

/-! ### home by steps, the law -/
section
variable {K : PySem.W.Frag} {σ : L2.St} {H0 H : Hp} {ta tb te : TE} {t : TT} {p : Addr} {k : Nat} {R : V → Hp → Prop} {D : Ends} {tz : TS}
theorem pq_parV {n i j : Nat} {y : V} (h : EvP p k ta σ H0 R) (e : Ex H0 H) (hp : Po p n H) (hn : n + k ≤ 1000000000) (hb : ∀ H1, Ev tb σ H1 y) (q : ∀ v H2, R v H2 → Po p (n + k) H2 → Ex (Hm p H) H2 → ∀ H3, Ex H2 H3 → tz D ((σ.set i (some v)).set j (some y)) H3) :
    tSeq (tPar i j (tCons ta (tCons tb tNil))) tz D σ H := h n H e hp hn _ fun v H2 hv p2 e2 => hb H2 H2 (Ex.refl _) _ fun H3 e3 => ⟨_, _, rfl, q v H2 hv p2 e2 H3 e3⟩
theorem eu_if {b : Bool} {xs : List V} (h : EvT t σ H b) (h1 : b = true → EvU ta σ H xs) (h2 : b = false → EvU tb σ H xs) : EvU (tIf t ta tb) σ H xs := fun H1 e Q q => h H1 e _ fun H2 e2 => by
  cases b with
  | true =>
    show ta σ H2 Q
    exact h1 rfl H2 (e.trans e2) Q fun l H3 hl e3 h3 => q l H3 (fresh_back e2 hl) (e2.trans e3) h3
  | false =>
    show tb σ H2 Q
    exact h2 rfl H2 (e.trans e2) Q fun l H3 hl e3 h3 => q l H3 (fresh_back e2 hl) (e2.trans e3) h3
end
theorem su_home {H : Hp} {n : Nat} {w st : Int} (n1 : 1 ≤ n) (hn : n ≤ 20) (h0 : 1 ≤ w) (h1 : w ≤ 1000000000000) : SpU sp_home_share ([.int (n : Int), .int w, .int st] ++ []) H (frac (homW n w st) (rise w n)) := fun H1 _ Q q E => ⟨n, w, st, rfl, n1, hn, h0, h1, q⟩
theorem su_other {H : Hp} {n : Nat} {w st : Int} (n1 : 1 ≤ n) (hn : n ≤ 20) (h0 : 1 ≤ w) (h1 : w ≤ 1000000000000) : SpU sp_other_share ([.int (n : Int), .int w, .int st] ++ []) H (othV n w st) := fun H1 _ Q q E => ⟨n, w, st, rfl, n1, hn, h0, h1, q⟩
def sp_steps_right : Sp := fun vs H Q _ => ∃ (p : Addr) (n m : Nat) (x : Int), vs = [.ref p, .int (m : Int), .int x] ∧ Po p n H ∧ n + 1000 < 1000000000 ∧ 1 ≤ m ∧ m ≤ 20 ∧ 1 ≤ x ∧ x ≤ 1000000000000 ∧ ∀ H', Po p (n + 500) H' → Ex (Hm p H) H' → Q (.bl true) H'
section
variable {P : Program} {w : World} {K : PySem.W.Frag} {mg : Str → Option Value} {base : Heap}
theorem ok_law_steps_right (T : Tx K mg) : FnOk P w K mg base CX0 5 T.f_law_steps_right T.d_law_steps_right ["store", "many_here", "heavy"] sp_steps_right := by
  refine T.F_law_steps_right.ok sc_law_steps_right (fun vs H Q E h => ?_) (fun cdv A outer s H vs Q E hr h => ?_)
  · obtain ⟨p, n, m, x, rfl, _⟩ := h
    rfl
  · obtain ⟨p, n, m, x, rfl, hpo, hn, m1, m20, h0, h1, k⟩ := h
    refine ⟨_, (pss_cons (ps_par (i := 3) (j := 4) (by rfl) sc_law_steps_right.nd rfl rfl (by decide) rfl rfl (pa_cons (pe_ix ix_list (pe_lst (pa_cons (pe_op op_sub (pe_call (ok_law_pick T) (hr.mono (by decide)) (by rfl) T.g_law_pick T.F_law_pick.kp T.b_law_pick .nil pass0 (pa_cons (pv 0) (pa_cons pe_int pa_nil))) pe_int) (pa_cons (pe_op op_mulX pe_int (pe_call (ok_law_pick T) (hr.mono (by decide)) (by rfl) T.g_law_pick T.F_law_pick.kp T.b_law_pick .nil pass0 (pa_cons (pv 0) (pa_cons (pe_op op_powX pe_int pe_int) pa_nil)))) pa_nil))) (pe_call (ok_law_pick T) (hr.mono (by decide)) (by rfl) T.g_law_pick T.F_law_pick.kp T.b_law_pick .nil pass0 (pa_cons (pv 0) (pa_cons pe_int pa_nil))) (fun _ _ => rfl)) (pa_cons pe_int pa_nil)) (by rfl))
      (pss_cons (ps_for PassesOwn.never rfl (pi_range2 (by rfl) T.m_range (pa_cons pe_int (pa_cons (pe_op op_add (pv 1) pe_int) pa_nil))) (pg_name (i := 5) sc_law_steps_right.nd rfl (Or.inl rfl)) (pss_one (ps_if (pt_cmpR op_eq (pe_op op_mod (pe_callTy call_intI (by rfl) T.m_int (by decide +kernel) (pa_cons (pv 3) pa_nil)) (pv 5)) pe_int (nomark _)) (pss_cons (ps_set (i := 6) sc_law_steps_right.nd rfl (Or.inl rfl) pe_int)
      (pss_cons (ps_for PassesOwn.never rfl (pi_range1 (by rfl) T.m_range (pa_cons (pe_op op_sub (pv 5) pe_int) pa_nil)) (pg_name (i := 7) sc_law_steps_right.nd rfl (Or.inl rfl)) (pss_one (ps_set (i := 6) sc_law_steps_right.nd rfl (Or.inl rfl) (pe_op op_mulX (pv 6) (pe_op op_sub (pe_op op_sub (pv 1) pe_int) (pv 7))))))
      (pss_one (ps_set (i := 4) sc_law_steps_right.nd rfl (Or.inl rfl) (pe_op op_add (pv 4) (pe_op op_mulX (pe_op op_mulX (pv 2) (pv 6)) (pe_call (ok_law_rising T) (hr.mono (by decide)) (by rfl) T.g_law_rising T.F_law_rising.kp T.b_law_rising .nil pass0 (pa_cons (pv 2) (pa_cons (pe_op op_sub (pv 1) (pv 5)) pa_nil))))))))) pss_nil)))
      (pss_cons (ps_set (i := 8) sc_law_steps_right.nd rfl (Or.inl rfl) (pe_call (ok_law_rising T) (hr.mono (by decide)) (by rfl) T.g_law_rising T.F_law_rising.kp T.b_law_rising .nil pass0 (pa_cons (pv 2) (pa_cons (pv 1) pa_nil))))
      (pss_cons (ps_if (pt_cmpR (op_neD hr.units) (pe_call (ok_home_share T) (hr.mono (by decide)) (by rfl) T.g_home_share T.F_home_share.kp T.b_home_share .nil pass0 (pa_cons (pv 1) (pa_cons (pv 2) (pa_cons (pv 3) pa_nil)))) (pe_call (ok_law_lowest T) (hr.mono (by decide)) (by rfl) T.g_law_lowest T.F_law_lowest.kp T.b_law_lowest .nil pass0 (pa_cons (pv 4) (pa_cons (pv 8) pa_nil))) (nomark _)) (pss_one (ps_ret pe_bl)) pss_nil)
      (pss_cons (ps_set (i := 9) sc_law_steps_right.nd rfl (Or.inl rfl) (pe_ifExp (pt_cmpR op_gt (pv 1) pe_int (nomark _)) (pe_call (ok_law_lowest T) (hr.mono (by decide)) (by rfl) T.g_law_lowest T.F_law_lowest.kp T.b_law_lowest .nil pass0 (pa_cons (pe_op op_sub (pv 8) (pv 4)) (pa_cons (pe_op op_mulX (pv 8) (pe_op op_sub (pv 1) pe_int)) pa_nil))) (pe_tup (pa_cons pe_int (pa_cons pe_int pa_nil)))))
      (pss_one (ps_ret (pe_cmpR (op_eqD hr.units) (pe_call (ok_other_share T) (hr.mono (by decide)) (by rfl) T.g_other_share T.F_other_share.kp T.b_other_share .nil pass0 (pa_cons (pv 1) (pa_cons (pv 2) (pa_cons (pv 3) pa_nil)))) (pv 9) (nomark _))))))))), ?_⟩
    have ten : Ev (tOp (rI CPowX fun i j => .int (i ^ j.toNat)) (tC (.int 10)) (tC (.int 20))) (start n_law_steps_right [.ref p, .int (m : Int), .int x]) (Hm p H) (.int 100000000000000000000) := ev_op ev_c ev_c (rv_I (by constructor <;> decide +kernel))
    refine pq_parV (p := p) (k := ((1 + 0) + ((0 + 1) + 0)) + 1) (H0 := Hm p H) (R := fun v _ => ∃ f : Int, v = .int f) (y := .int 0) (ep_ix (A := fun v => ∃ f : Int, v = .int f) (ix := fun v => ∃ r, v = .int r ∧ 0 ≤ r ∧ r < 2) (C := fun vs => ∃ a b : Int, vs = [.int a, .int b]) hm_p
        (ep_is (ep_lst (epa_cons (A := fun v => ∃ a : Int, v = .int a) hm_p (ep_op hm_p (ep_dipI (w := 40) hm_p (ev_var rfl) ev_c (by decide) (by decide)) (ep_ev (v := .int 20) ev_c) stb_c stb_c fun a b H4 ⟨r, ea, _⟩ eb => ⟨.int (r - 20), ⟨_, rfl⟩, by
          subst ea eb
          exact rv_I0⟩) (epa_cons (A := fun v => ∃ a : Int, v = .int a) hm_p (ep_op hm_p (ep_ev (v := .int 232792560) ev_c) (ep_dipI (w := 100000000000000000000) hm_p (ev_var rfl) ten (by decide) (by decide)) stb_c stb_c fun a b H4 ea ⟨r, eb, r0, r1⟩ => ⟨.int (232792560 * r), ⟨_, rfl⟩, by
          subst ea eb
          exact rv_I (mulx_ok (a := 64) (b := 100) (by decide) (by omega) (by decide))⟩) epa_nil)) ?_) ?_) (ep_dipI (w := 2) hm_p (ev_var rfl) ev_c (by decide) (by decide)) ?_) hm_sub hpo (by omega) (fun _ => ev_c) ?_
    · rintro vs ⟨_, _, rfl, _, _, _, rfl, _, rfl⟩
      exact Nat.le_of_ble_eq_true rfl
    · rintro v H4 ⟨l, vs, ne, rfl, hl, _, _, rfl, ⟨a, rfl⟩, _, _, rfl, ⟨b, rfl⟩, rfl⟩
      exact ⟨l, _, ne, rfl, hl, a, b, rfl⟩
    · rintro vs v ⟨a, b, rfl⟩ ⟨i, rfl, i0, i1⟩
      have : i = 0 ∨ i = 1 := by omega
      rcases this with rfl | rfl
      · exact ⟨0, .int a, rfl, rfl, a, rfl⟩
      · exact ⟨1, .int b, rfl, rfl, b, rfl⟩
    rintro v H2 ⟨st, rfl⟩ p2 e2 H3 e3
    have p3 := p2.ex e3
    refine q_forR2 (lo := 1) (n := (m : Int) + 1) (ea_cons ev_c (ea_cons (ev_op (ev_var rfl) ev_c rv_I0) ea_nil)) ⟨by omega, by omega, by omega, by omega⟩ (fun i σ' H' => ∃ (y5 y6 y7 : Option V), σ' = [some (.ref p), some (.int (m : Int)), some (.int x), some (.int st), some (.int (homP m x st i)), y5, y6, y7, none, none] ∧ Ex H3 H')
      (fun H4 e4 => ⟨none, none, none, rfl, e4⟩) ?_ ?_
    · rintro i σ' H' hi ⟨y5, y6, y7, rfl, e⟩
      refine s_when (b := decide (st % ((1 : Int) + (i : Int)) = 0)) (et_is (et_test (ev_op (ev_op (by walk_at "ev") (ev_var rfl) (rv_I (show (0 : Int) < 1 + (i : Int) by omega))) ev_c (rv_eq rfl))) ?_) (fun hb H4 e4 => ?_) fun hb H4 e4 => ?_
      · rw [Bool.eq_iff_iff, decide_eq_true_iff, decide_eq_true_iff]
        exact ⟨fun z => V.int.inj z, fun z => by rw [z]⟩
      · have hb := of_decide_eq_true hb
        refine q_asg (v := .int (prm (m - 1) 0)) (ev_is ev_c (by rw [prm_zero])) fun H5 e5 => ?_
        refine q_forR1 (n := (i : Int)) (ea_cons (ev_is (ev_op (ev_var rfl) ev_c rv_I0) (by congr 1; omega)) ea_nil) ⟨by omega, by omega⟩ (fun j σ' H' => ∃ (y7 : Option V), σ' = [some (.ref p), some (.int (m : Int)), some (.int x), some (.int st), some (.int (homP m x st i)), some (.int ((1 : Int) + (i : Int))), some (.int (prm (m - 1) j)), y7, none, none] ∧ Ex H3 H')
          (fun H6 e6 => ⟨y7, rfl, e.trans (e4.trans (e5.trans e6))⟩) ?_ ?_
        · rintro j σ' H6 hj ⟨y7, rfl, e6⟩
          have pb := prm60 (n := m - 1) (k := j) (by omega) (by omega)
          have mm : CMulX (prm (m - 1) j) ((m : Int) - 1 - (j : Int)) := mulx_ok (a := 400) (b := 64) pb.2 (by omega) (by decide)
          refine s_asg (v := .int (prm (m - 1) (j + 1))) (ev_is (ev_op (ev_var rfl) (ev_op (ev_op (ev_var rfl) ev_c rv_I0) (ev_var rfl) rv_I0) (rv_I mm)) ?_) fun H7 e7 => ⟨_, rfl, e6.trans e7⟩
          rw [prm_next (n := m - 1) (k := j) (by omega)]
          congr 2
          omega
        · rintro σ' H6 ⟨y7, rfl, e6⟩
          rw [Int.toNat_natCast]
          have pb := prm60 (n := m - 1) (k := i) (by omega) (by omega)
          have rb := rise_ok h0 h1 (n := m - (i + 1)) (by omega)
          have b1 : (x * prm (m - 1) i).natAbs < 2 ^ 500 := by
            rw [Int.natAbs_mul, show 500 = 100 + 400 by omega, Nat.pow_add]
            exact Nat.mul_lt_mul_of_le_of_lt (by omega) pb.2 (by decide)
          have m1' : CMulX x (prm (m - 1) i) := mulx_ok (a := 64) (b := 400) (by omega) pb.2 (by decide)
          have m2' : CMulX (x * prm (m - 1) i) (rise x (m - (i + 1))) := mulx_ok b1 rb.2 (by decide)
          refine s_asg (v := .int (homP m x st (i + 1))) (ev_is (ev_op (ev_var rfl) (ev_op (ev_op (ev_var rfl) (ev_var rfl) (rv_I m1')) (ev_call (vs := [.int x, .int ((m - (i + 1) : Nat) : Int)]) (ea_cons (ev_var rfl) (ea_cons (ev_is (ev_op (ev_var rfl) (ev_var rfl) rv_I0) (by congr 1; omega)) ea_nil)) (sv_rise (n := m - (i + 1)) (by omega) (by omega))) (rv_I m2')) rv_I0) ?_) fun H7 e7 => ⟨_, _, _, rfl, e6.trans e7⟩
          rw [homP_next, if_pos hb]
          rfl
      · have hb := of_decide_eq_false hb
        exact ⟨_, _, _, by rw [homP_next, if_neg hb]; rfl, e.trans e4⟩
    · rintro σ' H' ⟨y5, y6, y7, rfl, e⟩
      have en : ((m : Int) + 1 - 1).toNat = m := by omega
      rw [en, homP_all]
      have rk := rise_ok h0 h1 (n := m) m20
      have hw := homW_bd (n := m) (w := x) (st := st) h0 m1
      refine q_asg (v := .int (rise x m)) (ev_call (ea_cons (ev_var rfl) (ea_cons (ev_var rfl) ea_nil)) (sv_rise (by omega) (by omega))) fun H4 e4 => ?_
      have sh := shaped_shD (homW m x st) (rise x m)
      refine q_when (b := false) (et_is (et_test (ev_neD (ed_frac (eu_call (ea_cons (ev_var rfl) (ea_cons (ev_var rfl) (ea_cons (ev_var rfl) ea_nil))) (su_home m1 m20 h0 h1))) (ed_frac (eu_call (ea_cons (ev_var rfl) (ea_cons (ev_var rfl) ea_nil)) (su_lowest hw.1 rk.1 (two_ok rk.2 (by decide))))) sh sh)) (by rw [eqv_same sh]; rfl)) (fun hb => Bool.noConfusion hb) fun _ H5 e5 => ?_
      have mm : CMulX (rise x m) ((m : Int) - 1) := mulx_ok (a := 3000) (b := 64) rk.2 (by omega) (by decide)
      have bb : (rise x m * ((m : Int) - 1)).natAbs < 2 ^ 3100 := by
        rw [Int.natAbs_mul, show 3100 = 3000 + 100 by omega, Nat.pow_add]
        exact Nat.mul_lt_mul_of_lt_of_le rk.2 (by omega) (by decide)
      refine q_asgU (xs := othV m x st) (eu_if (b := decide (1 < m)) (et_is (et_test (ev_op (ev_var rfl) ev_c rv_I0)) ?_) (fun hb => ?_) fun hb => ?_) fun u H6 hu e6 hu6 => ?_
      · rw [Bool.eq_iff_iff, decide_eq_true_iff, decide_eq_true_iff]
        omega
      · have hb := of_decide_eq_true hb
        have eo : othV m x st = frac (rise x m - homW m x st) (rise x m * ((m : Int) - 1)) := by
          unfold othV
          rw [if_neg (by omega)]
        rw [eo]
        exact eu_call (ea_cons (ev_op (ev_var rfl) (ev_var rfl) rv_I0) (ea_cons (ev_op (ev_var rfl) (ev_op (ev_var rfl) ev_c rv_I0) (rv_I mm)) ea_nil)) (su_lowest (by omega) (Int.mul_pos rk.1 (by omega)) (two_ok bb (by decide)))
      · have hb := of_decide_eq_false hb
        have eo : othV m x st = [.int 0, .int 1] := by
          unfold othV
          rw [if_pos (by omega)]
        rw [eo]
        exact eu_tup (ea_cons ev_c (ea_cons ev_c ea_nil)) (Nat.le_of_ble_eq_true rfl)
      obtain ⟨a, b, eo⟩ : ∃ a b : Int, othV m x st = [.int a, .int b] := by
        unfold othV
        split
        · exact ⟨_, _, rfl⟩
        · exact ⟨_, _, rfl⟩
      have so : EvU (tCall sp_other_share [] E0 (tCons (tVar 1) (tCons (tVar 2) (tCons (tVar 3) tNil)))) [some (.ref p), some (.int (m : Int)), some (.int x), some (.int st), some (.int (homW m x st)), y5, y6, y7, some (.int (rise x m)), some (.ref u)] H6 (othV m x st) := eu_call (ea_cons (ev_var rfl) (ea_cons (ev_var rfl) (ea_cons (ev_var rfl) ea_nil))) (su_other m1 m20 h0 h1)
      rw [eo] at so hu6
      refine s_ret (v := .bl true) (ev_is (ev_eqD (ed_ofU so (.cons (.int _) (.cons (.int _) .nil))) (ed_of (ev_var rfl) (.tup (st_of hu6) (.cons (.int _) (.cons (.int _) .nil)))) (shaped_sh a b) (shaped_sh a b)) (by rw [eqv_same (shaped_sh a b)])) fun H7 e7 => ?_
      have ee : Ex H3 H7 := e.trans (e4.trans (e5.trans (e6.trans e7)))
      exact k H7 ((p3.ex ee).mono (by omega)) (hm_trans e2 (hm_of (e3.trans ee)))
end

/-! ### the last opener: one common bottom -/
def lastV (w : Int) (n g : Nat) : Int := loT w g (n - (g + 1)) * rise w g
theorem loB_rise (w : Int) (g : Nat) : ∀ k : Nat, loB w g k * rise w g = rise w (g + k + 1)
  | 0 => by
    show (w + (g : Int)) * rise w g = rise w g * (w + (g : Int))
    exact Int.mul_comm ..
  | k + 1 => by
    show loB w g k * (w + ((g : Int) + 1 + (k : Int))) * rise w g = rise w (g + k + 1) * (w + ((g + k + 1 : Nat) : Int))
    have ih := loB_rise w g k
    rw [← ih, show ((g + k + 1 : Nat) : Int) = (g : Int) + 1 + (k : Int) by omega]
    grind
theorem lastV_frac {w : Int} (h0 : 1 ≤ w) (h1 : w ≤ 1000000000000) {n g : Nat} (hg : g < n) (hn : n ≤ 20) : frac (loT w g (n - (g + 1))) (loB w g (n - (g + 1))) = frac (lastV w n g) (rise w n) := by
  have b := lo_bd h0 h1 (g := g) (n - (g + 1)) (by omega)
  refine frac_eq b.2.2.1 (rise_pos h0 n) ?_
  have e := loB_rise w g (n - (g + 1))
  rw [show g + (n - (g + 1)) + 1 = n by omega] at e
  rw [← e]
  unfold lastV
  grind
theorem lastV_next (w : Int) {n g : Nat} (hg : g < n) : lastV w (n + 1) g = lastV w n g * (n : Int) := by
  unfold lastV
  obtain ⟨k, rfl⟩ : ∃ k, n = g + 1 + k := ⟨n - (g + 1), by omega⟩
  rw [show g + 1 + k + 1 - (g + 1) = k + 1 by omega, show g + 1 + k - (g + 1) = k by omega]
  show loT w g k * ((g : Int) + 1 + (k : Int)) * rise w g = loT w g k * rise w g * ((g + 1 + k : Nat) : Int)
  rw [show ((g + 1 + k : Nat) : Int) = (g : Int) + 1 + (k : Int) by omega]
  grind
def lastS (w : Int) (n : Nat) : List Int := (List.range n).map (lastV w n)
theorem sum_mulR (c : Int) : ∀ l : List Int, (l.map fun x => x * c).sum = l.sum * c
  | [] => by simp
  | x :: l => by
    simp only [List.map_cons, List.sum_cons]
    rw [sum_mulR c l]
    grind
theorem lastS_next (w : Int) (n : Nat) : (lastS w (n + 1)).sum = (lastS w n).sum * (n : Int) + w * rise w n := by
  have e : lastS w (n + 1) = (lastS w n).map (fun x => x * (n : Int)) ++ [w * rise w n] := by
    unfold lastS
    rw [List.range_succ, List.map_append, List.map_map]
    congr 1
    · refine List.map_congr_left fun g hg => ?_
      exact lastV_next w (List.mem_range.mp hg)
    · show [lastV w (n + 1) n] = _
      unfold lastV
      rw [Nat.sub_self]
      rfl
  rw [e, List.sum_append, sum_mulR]
  simp
theorem lastS_sum (w : Int) : ∀ n : Nat, (lastS w (n + 1)).sum = rise w (n + 1)
  | 0 => by
    rw [lastS_next]
    show _ * ((0 : Nat) : Int) + w * 1 = 1 * (w + ((0 : Nat) : Int))
    simp
  | n + 1 => by
    rw [lastS_next, lastS_sum w n]
    show _ = rise w (n + 1) * (w + ((n + 1 : Nat) : Int))
    grind
theorem lastV_bd {w : Int} (h0 : 1 ≤ w) (h1 : w ≤ 1000000000000) {n g : Nat} (hg : g < n) (hn : n ≤ 20) : 0 ≤ lastV w n g ∧ (lastV w n g).natAbs < 2 ^ 3100 := by
  have b := lo_bd h0 h1 (g := g) (n - (g + 1)) (by omega)
  have c := rise_pos h0 g
  have d := lo_bd h0 h1 (g := g)
  have z : (rise w g).natAbs < 2 ^ 3000 := (rise_ok h0 h1 (n := g) (by omega)).2
  have e := loB_rise w g (n - (g + 1))
  rw [show g + (n - (g + 1)) + 1 = n by omega] at e
  have le : ∀ k, loT w g k ≤ loB w g k := by
    intro k
    induction k with
    | zero =>
      show w ≤ w + (g : Int)
      omega
    | succ k ih =>
      show loT w g k * ((g : Int) + 1 + (k : Int)) ≤ loB w g k * (w + ((g : Int) + 1 + (k : Int)))
      have bp : 0 ≤ loB w g k := by
        clear ih
        induction k with
        | zero =>
          show 0 ≤ w + (g : Int)
          omega
        | succ k ih =>
          show 0 ≤ loB w g k * (w + ((g : Int) + 1 + (k : Int)))
          exact Int.mul_nonneg ih (by omega)
      exact Int.le_trans (Int.mul_le_mul_of_nonneg_right ih (by omega)) (Int.mul_le_mul_of_nonneg_left (by omega) bp)
  have l2 : lastV w n g ≤ rise w n := by
    rw [← e]
    exact Int.mul_le_mul_of_nonneg_right (le _) (by omega)
  have l3 : 0 ≤ lastV w n g := Int.mul_nonneg (by omega) (by omega)
  have f := (rise_ok h0 h1 (n := n) hn).2
  exact ⟨l3, Nat.lt_of_le_of_lt (by omega) (Nat.lt_of_lt_of_le f (Nat.pow_le_pow_right (by decide) (by decide)))⟩
/-! ### the openers and guest 0 -/
def withZ (g : List Nat) : List Nat := if 0 ∈ g then g else 0 :: g
theorem withZ_mem (g : List Nat) (k : Nat) : k ∈ withZ g ↔ k ∈ 0 :: g := by
  unfold withZ
  split
  · rename_i h
    exact ⟨fun z => List.mem_cons_of_mem _ z, fun z => (List.mem_cons.mp z).elim (fun z => z ▸ h) id⟩
  · exact Iff.rfl
theorem withZ_up {g : List Nat} (h : g.Pairwise (· < ·)) : (withZ g).Pairwise (· < ·) := by
  unfold withZ
  split
  · exact h
  · rename_i n
    refine List.pairwise_cons.mpr ⟨fun k hk => ?_, h⟩
    rcases Nat.eq_zero_or_pos k with rfl | z
    · exact absurd hk n
    · exact z
theorem withZ_head {g : List Nat} (h : g.Pairwise (· < ·)) : (withZ g)[0]? = some 0 := by
  unfold withZ
  split
  · rename_i hm
    cases g with
    | nil => exact absurd hm (List.not_mem_nil)
    | cons a t =>
      rcases List.mem_cons.mp hm with e | e
      · rw [← e]
        rfl
      · have := (List.pairwise_cons.mp h).1 0 e
        omega
  · rfl

/-! ### the top of the share of openers, guest by guest -/
def topO (w : Int) (g : List Nat) : Nat → Int
  | 0 => 1
  | n + 1 => topO w g n * (if n ∈ g then w else (n : Int))
def cntO (g : List Nat) (n : Nat) : Nat := ((List.range n).filter fun x => decide (x ∈ g)).length
theorem cntO_next (g : List Nat) (n : Nat) : cntO g (n + 1) = if n ∈ g then cntO g n + 1 else cntO g n := by
  unfold cntO
  rw [List.range_succ, List.filter_append, List.length_append]
  by_cases h : n ∈ g
  · rw [if_pos h]
    simp [h]
  · rw [if_neg h]
    simp [h]
theorem topO_eq (w : Int) (g : List Nat) : ∀ n, topO w g n = wayO g n * pw w (cntO g n)
  | 0 => rfl
  | n + 1 => by
    show topO w g n * _ = _
    rw [topO_eq w g n, cntO_next, wayO_next]
    by_cases h : n ∈ g
    · rw [if_pos h, if_pos h, if_pos h]
      show _ = wayO g n * (pw w (cntO g n) * w)
      grind
    · rw [if_neg h, if_neg h, if_neg h]
      grind
theorem cntO_all {n : Nat} {g : List Nat} (h : Gang n g) : cntO g n = g.length := by
  unfold cntO
  refine List.Perm.length_eq ((List.perm_ext_iff_of_nodup (List.nodup_range.sublist (List.filter_sublist)) h.nd).mpr fun k => ?_)
  rw [List.mem_filter, List.mem_range]
  exact ⟨fun z => of_decide_eq_true z.2, fun z => ⟨h.lt k z, decide_eq_true z⟩⟩
theorem topO_bd {w : Int} (h0 : 1 ≤ w) (h1 : w ≤ 1000000000000) (g : List Nat) : ∀ n, n ≤ 20 → 0 ≤ topO w g n ∧ (topO w g n).natAbs < 2 ^ (41 * n + 1)
  | 0, _ => ⟨(by show (0 : Int) ≤ 1; decide), (by show (1 : Int).natAbs < 2 ^ 1; decide)⟩
  | n + 1, hn => by
    obtain ⟨a, b⟩ := topO_bd h0 h1 g n (by omega)
    have f : 0 ≤ (if n ∈ g then w else (n : Int)) ∧ (if n ∈ g then w else (n : Int)).natAbs ≤ 2 ^ 41 := by
      split
      · omega
      · omega
    show 0 ≤ topO w g n * _ ∧ (topO w g n * _).natAbs < _
    rw [Int.natAbs_mul, show 41 * (n + 1) + 1 = (41 * n + 1) + 41 by omega, Nat.pow_add]
    exact ⟨Int.mul_nonneg a f.1, Nat.mul_lt_mul_of_lt_of_le b f.2 (by decide)⟩
theorem withZ_gang {n : Nat} {g : List Nat} (h : Gang n g) (n1 : 1 ≤ n) : Gang n (withZ g) := ⟨by
    unfold withZ
    split
    · exact h.ne
    · exact List.cons_ne_nil _ _, withZ_up h.up, fun x hx => by
    rcases List.mem_cons.mp ((withZ_mem g x).mp hx) with rfl | z
    · omega
    · exact h.lt x z⟩
theorem iz_withZ (g : List Nat) (k : Int) : k ∈ iz (withZ g) ↔ k ∈ (0 : Int) :: iz g := by
  unfold iz
  constructor
  · intro z
    obtain ⟨x, hx, rfl⟩ := List.mem_map.mp z
    rcases List.mem_cons.mp ((withZ_mem g x).mp hx) with rfl | h
    · exact List.mem_cons_self ..
    · exact List.mem_cons_of_mem _ (List.mem_map_of_mem h)
  · intro z
    rcases List.mem_cons.mp z with rfl | h
    · exact List.mem_map.mpr ⟨0, (withZ_mem g 0).mpr (List.mem_cons_self ..), rfl⟩
    · obtain ⟨x, hx, rfl⟩ := List.mem_map.mp h
      exact List.mem_map_of_mem ((withZ_mem g x).mpr (List.mem_cons_of_mem _ hx))

/-! ### sorted(set([0] + a drawn gang)) -/
/-- te draws up to 30 and gives a row f g of a gang g of m -/
def EvG (p : Addr) (n m : Nat) (te : TE) (σ : L2.St) (H : Hp) (f : List Nat → List Nat) : Prop := ∀ Q : VK, (∀ l g H2, l ≠ p → H2 l = some (.lst (nv (f g))) → Gang m g → Po p (n + 30) H2 → Ex (Hm p H) H2 → Q (.ref l) H2) → te σ H Q
section
variable {K : PySem.W.Frag} {σ : L2.St} {H : Hp} {p : Addr} {D : Ends} {tz : TS} {te ta tb : TE} {t : TA}
theorem eg_cat {n m : Nat} {E : XK} (e0 : ∀ H1, Ev ta σ H1 (.ref p)) (e1 : ∀ H1, Ev tb σ H1 (.int (m : Int))) (hp : Po p n H) (hn : n + 100 < 1000000000) (m1 : 1 ≤ m) (m20 : m ≤ 20) :
    EvG p n m (tOp rCat (tLst (tCons (tC (.int 0)) tNil)) (tCall sp_law_gang [] E (tCons ta (tCons tb tNil)))) σ H (fun g => 0 :: g) := fun Q q => by
  show tLst (tCons (tC (.int 0)) tNil) σ H fun x H1 => tCall sp_law_gang [] E (tCons ta (tCons tb tNil)) σ H1 fun y H2 => rCat x y H2 Q
  have hl0 : EvL (tLst (tCons (tC (.int 0)) tNil)) σ H [.int 0] := el_lst (ea_cons ev_c ea_nil) (Nat.le_of_ble_eq_true rfl)
  refine hl0 H (Ex.refl H) _ fun a H1 ha x1 h1 => ?_
  show tCons ta (tCons tb tNil) σ H1 fun vs H2 => sp_law_gang (vs ++ []) H2 (fun y H2 => rCat (.ref a) y H2 Q) E
  refine (ea_cons (e0 H1) (ea_cons (e1 H1) ea_nil)) H1 (Ex.refl H1) _ fun H1' x1' => ?_
  refine ⟨p, n, m, rfl, (hp.ex x1).ex x1', hn, m1, m20, fun l g H2 lp hl hg p2 x2 => ?_⟩
  have ha2 := hm_at x2 (hp.ne ha) (x1' a _ h1)
  have hl2 := hg.len
  refine ⟨a, l, _, _, rfl, rfl, ha2, hl, sz_of (by simp [nv, iz]; omega), fun z hz => ?_⟩
  have x3 : Ex H2 (upd H2 z (.lst (V.int 0 :: nv g))) := Ex.new hz
  exact q z g _ (p2.ne hz) upd_same hg (p2.ex x3) (hm_trans (hm_of (x1.trans x1')) (hm_trans x2 (hm_of x3)))
theorem eg_sort {n m : Nat} {w : World} (m20 : m ≤ 20) (h : EvG p n m te σ H (fun g => 0 :: g)) : EvG p n m (tCB (rSortedSet w) (tCons (tCB (rSetI K w) (tCons te tNil)) tNil)) σ H withZ := fun Q q =>
  h _ fun z g H2 zp hz hg p2 x2 => by
    have hl2 := hg.len
    have hz3 : H2 z = some (.lst (((0 : Int) :: iz g).map V.int)) := hz
    exact el_sortSet (K := K) (w := w) (σ := σ) (ta := fun _ H' R => R (.ref z) H') (l := z) (ns := 0 :: iz g) (zs := iz (withZ g)) (fun H3 _ Q q => q H3 (Ex.refl _)) (sq_of hz3) (by simp [iz]; omega) (iz_up (withZ_up hg.up)) (iz_withZ g) H2 (Ex.refl _) Q fun l3 H3 hl3 x4 h4 =>
      q l3 g H3 (p2.ne hl3) h4 hg (p2.ex x4) (hm_trans x2 (hm_of x4))
theorem pq_asgG {n m i : Nat} {f : List Nat → List Nat} (h : EvG p n m te σ H f) (q : ∀ l g H2, l ≠ p → H2 l = some (.lst (nv (f g))) → Gang m g → Po p (n + 30) H2 → Ex (Hm p H) H2 → tz D (σ.set i (some (.ref l))) H2) : tSeq (tAsg te (gName i)) tz D σ H := h _ q
end

/-! ### rows of tuples: joined, repeated -/
theorem quot_le {a b B : Int} (ha : 0 ≤ a) (hb : 0 < b) (hB : a ≤ B) : 0 ≤ a / cd a b ∧ a / cd a b ≤ B := by
  have g := cd_pos (a := a) hb
  refine ⟨Int.ediv_nonneg ha (by omega), ?_⟩
  have := Int.ediv_le_self (cd a b) ha
  omega
theorem quot_le2 {a b B : Int} (hb : 0 < b) (hB : b ≤ B) : 0 ≤ b / cd a b ∧ b / cd a b ≤ B := by
  have g := cd_pos (a := a) hb
  refine ⟨Int.ediv_nonneg (by omega) (by omega), ?_⟩
  have := Int.ediv_le_self (cd a b) (show 0 ≤ b by omega)
  omega
theorem big_abs {z : Int} {k : Nat} (h0 : 0 ≤ z) (h : z ≤ 2 ^ k) (hk : k + 1 ≤ 1900) : z.natAbs < 2 ^ 1900 := by
  have e : (2 : Int) ^ k = ((2 ^ k : Nat) : Int) := by simp
  rw [e] at h
  exact lt2_mono (lt_of_le2 (k := k) (by omega)) hk
theorem shn_share {a b : Int} {k : Nat} (ha : 0 ≤ a) (hb : 0 < b) (h1 : a ≤ 2 ^ k) (h2 : b ≤ 2 ^ k) (hk : k + 1 ≤ 1900) : ShN (shareD a b) 3849 := by
  have q1 := quot_le ha hb h1
  have q2 := quot_le2 (a := a) hb h2
  exact shn_tup (n := 1921) (ds := [.int (a / cd a b), .int (b / cd a b)]) fun d hd => by
    rcases List.mem_cons.mp hd with e | hd
    · rw [e]
      exact ⟨shn_int2 (big_abs q1.1 q1.2 hk), Nat.zero_le _⟩
    · rw [List.mem_singleton.mp hd]
      exact ⟨shn_int2 (big_abs q2.1 q2.2 hk), Nat.zero_le _⟩
theorem two_mono {a b : Nat} (h : a ≤ b) : (2 : Int) ^ a ≤ 2 ^ b := by
  have e : ∀ k : Nat, (2 : Int) ^ k = ((2 ^ k : Nat) : Int) := fun k => by simp
  rw [e, e]
  exact Int.ofNat_le.mpr (Nat.pow_le_pow_right (by decide) h)
theorem rise_small {w : Int} (h0 : 1 ≤ w) (h1 : w ≤ 2 ^ 42) : ∀ n, n ≤ 20 → rise w n ≤ 2 ^ (43 * n)
  | 0, _ => by
    show (1 : Int) ≤ 2 ^ 0
    decide
  | n + 1, hn => by
    have ih := rise_small h0 h1 n (by omega)
    have r := rise_pos h0 n
    have e43 : (2 : Int) ^ (43 * (n + 1)) = 2 ^ (43 * n) * 2 ^ 43 := by rw [Nat.mul_succ, Int.pow_add]
    rw [e43]
    exact Int.mul_le_mul ih (by omega) (by omega) (Int.pow_nonneg (by decide))

theorem tl_cat {H : Hp} : ∀ {vs us : List V} {rs ss : List (List V)}, TL H vs rs → TL H us ss → TL H (vs ++ us) (rs ++ ss)
  | [], _, [], _, .nil, h => h
  | _ :: _, _, _ :: _, _, .cons a t, h => .cons a (tl_cat t h)
theorem tl_rep {H : Hp} {v : V} {r : List V} (h : TL H [v] [r]) : ∀ n : Nat, TL H (List.replicate n [v]).flatten (List.replicate n r)
  | 0 => .nil
  | n + 1 => by
    rw [List.replicate_succ, List.flatten_cons, List.replicate_succ]
    exact tl_cat h (tl_rep h n)
section
variable {σ : L2.St} {H : Hp} {ta tb te : TE}
theorem elt_cat {rs ss : List (List V)} (h : EvLT ta σ H rs) (h2 : EvLT tb σ H ss) (hz : rs.length + ss.length ≤ 100000) : EvLT (tOp rCat ta tb) σ H (rs ++ ss) := fun H1 e Q q =>
  h H1 e _ fun p vs H2 hp e2 v2 t2 => h2 H2 (e.trans e2) _ fun p' us H3 hp' e3 v3 t3 =>
    ⟨p, p', vs, us, rfl, rfl, e3 p _ v2, v3, sz_of (by rw [t2.len, t3.len]; exact hz), fun l hl => q l _ _ (fresh_back (e2.trans e3) hl) ((e2.trans e3).trans (Ex.new hl)) upd_same (tl_cat (t2.ex (e3.trans (Ex.new hl))) (t3.ex (Ex.new hl)))⟩
theorem elt_rep1 {r : List V} {k : Int} (h : EvLT ta σ H [r]) (hb : Ev tb σ H (.int k)) (h0 : 0 ≤ k) (h1 : k ≤ 1000) : EvLT (tOp rRep ta tb) σ H (List.replicate k.toNat r) := fun H1 e Q q =>
  h H1 e _ fun p vs H2 hp e2 v2 t2 => hb H2 (e.trans e2) _ fun H3 e3 => by
    obtain ⟨v, rfl⟩ : ∃ v, vs = [v] := by
      have := t2.len
      match vs, this with
      | [v], _ => exact ⟨v, rfl⟩
    exact ⟨p, k, [v], rfl, rfl, e3 p _ v2, by omega, by omega, sz_of (by
      show 1 * k.toNat ≤ 100000
      omega), fun l hl => q l _ _ (fresh_back (e2.trans e3) hl) ((e2.trans e3).trans (Ex.new hl)) upd_same (tl_rep (t2.ex (e3.trans (Ex.new hl))) _)⟩
theorem elt_lst1 {r : List V} (h : EvU te σ H r) : EvLT (tLst (tCons te tNil)) σ H [r] := fun H1 e Q q =>
  h H1 e _ fun u H2 nu e2 hu => ⟨sz_of (by show 1 ≤ 100000; decide), fun l hl => q l _ _ (fresh_back e2 hl) (e2.trans (Ex.new hl)) upd_same (.cons ⟨u, rfl, (Ex.new hl) u _ hu⟩ .nil)⟩
end
/-- the shares of one guest's ranks: those of the row, and nought -/
def rkF (w : Int) (g t : Nat) : Int × Int := ((sums w g).getD t 0 * w, rise w (g + 1))
theorem frac_nought {b : Int} (hb : 0 < b) : frac 0 b = [.int 0, .int 1] := (frac_eq (a := 0) (b := b) (c := 0) (d := 1) hb (by decide) (by omega)).trans rfl
theorem ranks_rows {w : Int} (h0 : 1 ≤ w) {g m : Nat} (hg : g < m) : (List.range m).map (fun t => frac (rkF w g t).1 (rkF w g t).2) = (List.range (sums w g).length).map (fun t => frac (rkF w g t).1 (rkF w g t).2) ++ List.replicate (m - (g + 1)) [.int 0, .int 1] := by
  have e : m = (g + 1) + (m - (g + 1)) := by omega
  rw [sums_len]
  conv => lhs; rw [e, List.range_add, List.map_append]
  congr 1
  rw [List.map_map]
  refine List.eq_replicate_iff.mpr ⟨by simp, fun b hb => ?_⟩
  obtain ⟨t, _, rfl⟩ := List.mem_map.mp hb
  show frac ((sums w g).getD (g + 1 + t) 0 * w) (rise w (g + 1)) = _
  rw [show (sums w g).getD (g + 1 + t) 0 = 0 from by
    rw [List.getD_eq_getElem?_getD, List.getElem?_eq_none (by rw [sums_len]; omega)]
    rfl, Int.zero_mul]
  exact frac_nought (rise_pos h0 _)
theorem rk_bd {w : Int} (h0 : 1 ≤ w) (h1 : w ≤ 1000000000000) {g : Nat} (hg : g < 20) (t : Nat) : 0 ≤ (rkF w g t).1 ∧ (rkF w g t).1 ≤ 2 ^ 900 ∧ 0 < (rkF w g t).2 ∧ (rkF w g t).2 ≤ 2 ^ 900 := by
  have p42 : (1000000000000 : Int) ≤ 2 ^ 42 := by decide
  have r := rise_small h0 (show w ≤ 2 ^ 42 by omega) (g + 1) (by omega)
  have s : 0 ≤ (sums w g).getD t 0 ∧ (sums w g).getD t 0 ≤ 2 ^ (43 * g) := by
    by_cases ht : t < (sums w g).length
    · rw [List.getD_eq_getElem?_getD, List.getElem?_eq_getElem ht]
      exact sums_small (by omega) (by omega) g (by omega) _ (List.getElem_mem ht)
    · rw [List.getD_eq_getElem?_getD, List.getElem?_eq_none (by omega)]
      exact ⟨Int.le_refl _, Int.le_of_lt (Int.pow_pos (by decide))⟩
  refine ⟨Int.mul_nonneg s.1 (by omega), ?_, rise_pos h0 _, Int.le_trans r (two_mono (by omega))⟩
  refine Int.le_trans (Int.mul_le_mul s.2 (show w ≤ 2 ^ 42 by omega) (by omega) (Int.le_of_lt (Int.pow_pos (by decide)))) ?_
  rw [← Int.pow_add]
  exact two_mono (by omega)
theorem shn_ranks {w : Int} (h0 : 1 ≤ w) (h1 : w ≤ 1000000000000) {g m : Nat} (hg : g < m) (hm : m ≤ 20) : ShN (.list ((List.range m).map fun t => shareD (rkF w g t).1 (rkF w g t).2)) 100000 := by
  have := shn_list (n := 3849) (ds := (List.range m).map fun t => shareD (rkF w g t).1 (rkF w g t).2) fun d hd => by
    obtain ⟨t, _, rfl⟩ := List.mem_map.mp hd
    have b := rk_bd h0 h1 (g := g) (by omega) t
    exact ⟨shn_share b.1 b.2.2.1 b.2.1 b.2.2.2 (by decide), by simp [shareD, PyData.depth, PyData.depthAll]⟩
  refine ⟨this.shw, this.nod, ?_, this.dep⟩
  have l := this.len
  rw [List.length_map, List.length_range] at l
  omega

/-! ### openers, the law: the contract -/
theorem su_opener {H : Hp} {n g : Nat} {w : Int} (hg : g < n) (hn : n ≤ 20) (h0 : 1 ≤ w) (h1 : w ≤ 1000000000000) : SpU sp_opener_share ([.int (n : Int), .int w, .int (g : Int)] ++ []) H (frac w (w + (g : Int))) := fun H1 _ Q q E => ⟨n, g, w, rfl, hg, hn, h0, h1, q⟩
theorem su_openers {H : Hp} {n : Nat} {w : Int} {a : Addr} {g : List Nat} (ha : H a = some (.lst (nv g))) (o : Gang n g) (z : g[0]? = some 0) (hn : n ≤ 20) (h0 : 1 ≤ w) (h1 : w ≤ 1000000000000) : SpU sp_openers_share ([.int (n : Int), .int w, .ref a] ++ []) H (frac (wayO g n * pw w g.length) (rise w n)) := fun H1 e Q q E => ⟨n, w, a, g, rfl, e a _ ha, o, z, hn, h0, h1, q⟩
theorem sv_openers {H : Hp} {n : Nat} {a : Addr} {g : List Nat} (ha : H a = some (.lst (nv g))) (o : Gang n g) (z : g[0]? = some 0) (hn : n ≤ 20) : SpV sp_count_openers ([.int (n : Int), .ref a] ++ []) H (.int (wayO g n)) := fun H1 e Q q E => ⟨n, a, g, rfl, e a _ ha, o, z, hn, q⟩
theorem su_last {H : Hp} {n g : Nat} {w : Int} (hg : g < n) (hn : n ≤ 20) (h0 : 1 ≤ w) (h1 : w ≤ 1000000000000) : SpU sp_last_opener ([.int (n : Int), .int w, .int (g : Int)] ++ []) H (frac (lastV w n g) (rise w n)) := fun H1 _ Q q E => ⟨n, g, w, rfl, hg, hn, h0, h1, by
  rw [lastV_frac h0 h1 hg hn]
  exact q⟩
theorem su_rank {H : Hp} {n r g : Nat} {w : Int} (hg : g < n) (hr : r < n) (hn : n ≤ 20) (h0 : 1 ≤ w) (h1 : w ≤ 1000000000000) : SpU sp_rank_share ([.int (n : Int), .int w, .int (r : Int), .int (g : Int)] ++ []) H (frac ((sums w g).getD r 0 * w) (rise w (g + 1))) := fun H1 _ Q q E => ⟨n, r, g, w, rfl, hg, hr, hn, h0, h1, q⟩
section
variable {K : PySem.W.Frag} {σ : L2.St} {H0 H : Hp} {p : Addr} {k : Nat} {ta tb : TE} {R : V → Hp → Prop} {D : Ends} {tz : TS}
theorem pq_tupV {n i j : Nat} {y : V} (h : EvP p k ta σ H0 R) (st : Stb p R) (e : Ex H0 H) (hp : Po p n H) (hn : n + k ≤ 1000000000) (hb : ∀ H1, Ex (Hm p H) H1 → Ev tb σ H1 y) (q : ∀ v H2, R v H2 → Po p (n + k) H2 → Ex (Hm p H) H2 → tz D ((σ.set i (some v)).set j (some y)) H2) :
    tSeq (tAsg (tTup (tCons ta (tCons tb tNil))) (gTup K 2 (gCons (gName i) (gCons (gName j) gNil)))) tz D σ H := h n H e hp hn _ fun v H2 hv p2 e2 => hb H2 e2 H2 (Ex.refl _) _ fun H3 e3 =>
  ⟨sz_of (by show 2 ≤ 100000; decide), fun t ht => ⟨t, [v, y], rfl, st_of upd_same, rfl, v, [y], rfl, y, [], rfl, rfl, q v _ (st v H2 _ hv (hm_of (e3.trans (Ex.new ht)))) (p2.ex (e3.trans (Ex.new ht))) (hm_trans e2 (hm_of (e3.trans (Ex.new ht))))⟩⟩
end
def sp_open_right : Sp := fun vs H Q _ => ∃ (p : Addr) (n m : Nat) (x : Int), vs = [.ref p, .int (m : Int), .int x] ∧ Po p n H ∧ n + 1000 < 1000000000 ∧ 1 ≤ m ∧ m ≤ 20 ∧ 1 ≤ x ∧ x ≤ 1000000000000 ∧ ∀ H', Po p (n + 500) H' → Ex (Hm p H) H' → Q (.bl true) H'
section
variable {P : Program} {w : World} {K : PySem.W.Frag} {mg : Str → Option Value} {base : Heap}
theorem ok_law_open_right (T : Tx K mg) : FnOkG P w K mg base 7 T.f_law_open_right T.d_law_open_right ["store", "many_here", "heavy"] sp_open_right := by
  refine funG T.F_law_open_right sc_law_open_right (fun vs H Q E h => ?_) (fun cdv A outer s H vs Q E hg hr h => ?_)
  · obtain ⟨p, n, m, x, rfl, _⟩ := h
    rfl
  · obtain ⟨p, n, m, x, rfl, hpo, hn, m1, m20, h0, h1, k⟩ := h
    refine ⟨_, (pss_cons (ps_asg (pe_tup (pa_cons (pe_call (ok_law_pick T) (hr.mono (by decide)) (by rfl) T.g_law_pick T.F_law_pick.kp T.b_law_pick .nil pass0 (pa_cons (pv 0) (pa_cons (pv 1) pa_nil))) (pa_cons (pe_call (ok_law_rising T) (hr.mono (by decide)) (by rfl) T.g_law_rising T.F_law_rising.kp T.b_law_rising .nil pass0 (pa_cons (pv 2) (pa_cons (pv 1) pa_nil))) pa_nil))) (pg_tup rfl (pgs_cons (pg_name (i := 3) sc_law_open_right.nd rfl (Or.inr rfl)) (pgs_cons (pg_name (i := 4) sc_law_open_right.nd rfl (Or.inl rfl)) pgs_nil))))
      (pss_cons (ps_if (pt_cmpR (op_neD hr.units) (pe_call (ok_opener_share T) (hr.mono (by decide)) (by rfl) T.g_opener_share T.F_opener_share.kp T.b_opener_share .nil pass0 (pa_cons (pv 1) (pa_cons (pv 2) (pa_cons (pv 3) pa_nil)))) (pe_call (ok_law_lowest T) (hr.mono (by decide)) (by rfl) T.g_law_lowest T.F_law_lowest.kp T.b_law_lowest .nil pass0 (pa_cons (pv 2) (pa_cons (pe_op op_add (pv 2) (pv 3)) pa_nil))) (nomark _)) (pss_one (ps_ret pe_bl)) pss_nil)
      (pss_cons (ps_set (i := 5) sc_law_open_right.nd rfl (Or.inl rfl) (pe_callB (id := "sorted") (r := rSortedSet _) (cr_sortedSet rfl) (by rfl) T.m_sorted (by decide +kernel) (pa_cons (pe_callTy (r := rSetI _ _) (cr_setI rfl) (by rfl) T.m_set (by decide +kernel) (pa_cons (pe_op op_cat (pe_lst (pa_cons pe_int pa_nil)) (pe_call (ok_law_gang T) (hr.mono (by decide)) (by rfl) T.g_law_gang T.F_law_gang.kp T.b_law_gang .nil pass0 (pa_cons (pv 0) (pa_cons (pv 1) pa_nil)))) pa_nil)) pa_nil)))
      (pss_cons (ps_asg (pe_tup (pa_cons pe_int (pa_cons pe_int pa_nil))) (pg_tup rfl (pgs_cons (pg_name (i := 6) sc_law_open_right.nd rfl (Or.inl rfl)) (pgs_cons (pg_name (i := 7) sc_law_open_right.nd rfl (Or.inl rfl)) pgs_nil))))
      (pss_cons (ps_for PassesOwn.never rfl (pi_range1 (by rfl) T.m_range (pa_cons (pv 1) pa_nil)) (pg_name (i := 8) sc_law_open_right.nd rfl (Or.inl rfl)) (pss_cons (ps_set (i := 6) sc_law_open_right.nd rfl (Or.inl rfl) (pe_op op_mulX (pv 6) (pe_ifExp (pt_cmpR op_in_seq (pv 8) (pv 5) (by rfl)) (pv 2) (pv 8))))
      (pss_one (ps_set (i := 7) sc_law_open_right.nd rfl (Or.inl rfl) (pe_op op_mulX (pv 7) (pe_ifExp (pt_cmpR op_in_seq (pv 8) (pv 5) (by rfl)) pe_int (pv 8)))))))
      (pss_cons (ps_set (i := 9) sc_law_open_right.nd rfl (Or.inl rfl) (pe_lst (pa_cons (pe_call (ok_openers_share T) (hr.mono (by decide)) (by rfl) T.g_openers_share T.F_openers_share.kp T.b_openers_share .nil pass0 (pa_cons (pv 1) (pa_cons (pv 2) (pa_cons (pv 5) pa_nil)))) (pa_cons (pe_call (ok_count_openers T) (hr.mono (by decide)) (by rfl) T.g_count_openers T.F_count_openers.kp T.b_count_openers .nil pass0 (pa_cons (pv 1) (pa_cons (pv 5) pa_nil))) pa_nil))))
      (pss_cons (ps_if (pt_cmpR (op_neD hr.units) (pv 9) (pe_lst (pa_cons (pe_call (ok_law_lowest T) (hr.mono (by decide)) (by rfl) T.g_law_lowest T.F_law_lowest.kp T.b_law_lowest .nil pass0 (pa_cons (pv 6) (pa_cons (pv 4) pa_nil))) (pa_cons (pv 7) pa_nil))) (nomark _)) (pss_one (ps_ret pe_bl)) pss_nil)
      (pss_cons (ps_setLc (i := 10) (own := [("near", 8)]) (g := (gName 8)) (tt := tYes) rfl sc_law_open_right.nd rfl rfl (sw_true rfl rfl rfl (by decide +kernel)) (pi_range1 (by rfl) T.m_range (pa_cons (pv 1) pa_nil)) (blkOk_by (own := [("near", 8)]) (N := n_law_open_right) (sc := defScope s_law_open_right) (by decide +kernel)) (fun _ _ _ _ _ => (pg_name (i := 8) sc_law_open_right.nd rfl (Or.inl rfl))) (fun _ _ _ _ _ => pts_nil) (fun _ _ _ _ _ => (pe_call (ok_last_opener_share T) (hr.mono (by decide)) (by rfl) T.g_last_opener_share T.F_last_opener_share.kp T.b_last_opener_share .nil pass0 (pa_cons (pv 1) (pa_cons (pv 2) (pa_cons (pv 8) pa_nil))))))
      (pss_cons (ps_setLc (i := 12) (own := [("place", 11)]) (g := (gName 11)) (tt := tYes) rfl sc_law_open_right.nd rfl rfl (sw_true rfl rfl rfl (by decide +kernel)) (pi_range1 (by rfl) T.m_range (pa_cons (pv 1) pa_nil)) (blkOk_by (own := [("place", 11)]) (N := n_law_open_right) (sc := defScope s_law_open_right) (by decide +kernel)) (fun _ _ _ _ _ => (pg_name (i := 11) sc_law_open_right.nd rfl (Or.inl rfl))) (fun _ _ _ _ _ => pts_nil) (fun _ _ _ _ _ => (pe_call (ok_rank_share T) (hr.mono (by decide)) (by rfl) T.g_rank_share T.F_rank_share.kp T.b_rank_share .nil pass0 (pa_cons (pv 1) (pa_cons (pv 2) (pa_cons (pv 11) (pa_cons (pv 3) pa_nil)))))))
      (pss_cons (ps_set (i := 13) sc_law_open_right.nd rfl (Or.inl rfl) (pe_call (ok_law_row T) (hr.mono (by decide)) (by rfl) T.g_law_row T.F_law_row.kp T.b_law_row .nil pass0 (pa_cons (pv 2) (pa_cons (pv 3) pa_nil))))
      (pss_cons (ps_set (i := 15) sc_law_open_right.nd rfl (Or.inl rfl) (pe_op op_cat (pe_lc (own := [("part", 14)]) (g := (gName 14)) (tt := tYes) rfl sc_law_open_right.nd (pi_list (pv 13)) (blkOk_by (own := [("part", 14)]) (N := n_law_open_right) (sc := defScope s_law_open_right) (by decide +kernel)) (fun _ _ _ _ _ => (pg_name (i := 14) sc_law_open_right.nd rfl (Or.inl rfl))) (fun _ _ _ _ _ => pts_nil) (fun _ _ _ _ _ => (pe_call (ok_law_lowest T) (hr.mono (by decide)) (by rfl) T.g_law_lowest T.F_law_lowest.kp T.b_law_lowest .nil pass0 (pa_cons (pe_op op_mulX (pv 14) (pv 2)) (pa_cons (pe_call (ok_law_rising T) (hr.mono (by decide)) (by rfl) T.g_law_rising T.F_law_rising.kp T.b_law_rising .nil pass0 (pa_cons (pv 2) (pa_cons (pe_op op_add (pv 3) pe_int) pa_nil))) pa_nil))))) (pe_op op_rep (pe_lst (pa_cons (pe_tup (pa_cons pe_int (pa_cons pe_int pa_nil))) pa_nil)) (pe_op op_sub (pv 1) (pe_callB call_lenR (by rfl) T.m_len (by decide +kernel) (pa_cons (pv 13) pa_nil))))))
      (pss_one (ps_ret (pe_and (pe_cmpR (op_eqD hr.units) (pe_call (ok_law_parts T) (hr.mono (by decide)) (by rfl) T.g_law_parts T.F_law_parts.kp T.b_law_parts .nil pass0 (pa_cons (pv 10) pa_nil)) (pe_tup (pa_cons pe_int (pa_cons pe_int pa_nil))) (nomark _)) (pe_one (pe_cmpR op_eq (pe_callB (id := "repr") (r := rRepr K) (call_reprD hg hr.units) (by rfl) T.m_repr (by decide +kernel) (pa_cons (pv 12) pa_nil)) (pe_callB (id := "repr") (r := rRepr K) (call_reprD hg hr.units) (by rfl) T.m_repr (by decide +kernel) (pa_cons (pv 15) pa_nil)) (nomark _))))))))))))))))), ?_⟩
    have rk := rise_ok h0 h1 (n := m) m20
    refine pq_tupV (K := K) (p := p) (k := 1) (H0 := Hm p H) (R := fun v _ => ∃ r, v = .int r ∧ 0 ≤ r ∧ r < (m : Int)) (y := .int (rise x m)) ?_ stb_c hm_sub hpo (by omega) ?_ ?_
    · exact ep_dipI (w := (m : Int)) hm_p (ev_var rfl) (ev_var rfl) (by omega) (by omega)
    · exact fun _ _ => ev_call (ea_cons (ev_var rfl) (ea_cons (ev_var rfl) ea_nil)) (sv_rise (by omega) (by omega))
    rintro _ H3 ⟨r0, rfl, r1, r2⟩ p3 e3
    obtain ⟨wh, rfl⟩ := Int.eq_ofNat_of_zero_le r1
    have sh := shaped_shD x (x + (wh : Int))
    refine q_when (b := false) (et_is (et_test (ev_neD (ed_frac (eu_call (ea_cons (ev_var rfl) (ea_cons (ev_var rfl) (ea_cons (ev_var rfl) ea_nil))) (su_opener (by omega) m20 h0 h1))) (ed_frac (eu_call (ea_cons (ev_var rfl) (ea_cons (ev_op (ev_var rfl) (ev_var rfl) rv_I0) ea_nil)) (su_lowest (by omega) (by omega) (lt2_mono (show (x + (wh : Int)).natAbs < 2 ^ 64 by omega) (by decide))))) sh sh)) (by rw [eqv_same sh]; rfl)) (fun hb => Bool.noConfusion hb) fun _ H4 e4 => ?_
    have p4 := p3.ex e4
    refine pq_asgG (p := p) (n := n + 1) (m := m) (f := withZ) ?_ fun l g0 H5 lp hl hg0 p5 e5 => ?_
    · refine eg_sort m20 ?_
      refine eg_cat (fun _ => ?_) (fun _ => ?_) p4 (by omega) m1 m20
      · exact ev_var rfl
      · exact ev_var rfl
    have hg := withZ_gang hg0 m1
    have hz := withZ_head hg0.up
    generalize withZ g0 = g at hl hg hz
    clear hg0
    refine q_tup2U (K := K) (x := .int 1) (y := .int 1) (eu_tup (ea_cons ev_c (ea_cons ev_c ea_nil)) (Nat.le_of_ble_eq_true rfl)) fun H6 e6 => ?_
    refine q_forR1 (n := (m : Int)) (ea_cons (ev_var rfl) ea_nil) ⟨by omega, by omega⟩ (fun i σ' H' => ∃ y : Option V, σ' = [some (.ref p), some (.int (m : Int)), some (.int x), some (.int (wh : Int)), some (.int (rise x m)), some (.ref l), some (.int (topO x g i)), some (.int (wayO g i)), y, none, none, none, none, none, none, none] ∧ Ex H5 H')
      (fun H7 e7 => ⟨none, rfl, e6.trans e7⟩) ?_ ?_
    · rintro i σ' H' hi ⟨y, rfl, e⟩
      have tb := (topO_bd h0 h1 g i (by omega)).2
      have wb := (wayO_bd g i (by omega)).2
      have inn : ∀ σ H'', Ex H5 H'' → σ[5]? = some (some (V.ref l)) → σ[8]? = some (some (.int (i : Int))) → EvT (tTest (tOp (rIn K false) (tVar 8) (tVar 5))) σ H'' (decide (i ∈ g)) := fun σ H'' ee a b => et_is (et_test (ev_op (ev_var b) (ev_var a) (rv_isL (sq_of (ee l _ hl)) rfl (nv_flat g)))) (by rw [nv_in])
      have m1' : CMulX (topO x g i) (if i ∈ g then x else (i : Int)) := mulx_ok (a := 900) (b := 64) (Nat.lt_of_lt_of_le tb (Nat.pow_le_pow_right (by decide) (by omega))) (by split <;> omega) (by decide)
      have m2' : CMulX (wayO g i) (if i ∈ g then 1 else (i : Int)) := mulx_ok (a := 200) (b := 64) (Nat.lt_of_lt_of_le wb (Nat.pow_le_pow_right (by decide) (by omega))) (by split <;> omega) (by decide)
      refine q_asg (v := .int (topO x g (i + 1))) (ev_op (ev_var rfl) (ev_if (b := decide (i ∈ g)) (v := .int (if i ∈ g then x else (i : Int))) (inn _ _ e rfl rfl) (fun hb => ?_) fun hb => ?_) (rv_I m1')) fun H7 e7 => ?_
      · rw [if_pos (of_decide_eq_true hb)]
        exact ev_var rfl
      · rw [if_neg (of_decide_eq_false hb)]
        exact ev_var rfl
      refine s_asg (v := .int (wayO g (i + 1))) (ev_is (ev_op (ev_var rfl) (ev_if (b := decide (i ∈ g)) (v := .int (if i ∈ g then 1 else (i : Int))) (inn _ _ (e.trans e7) rfl rfl) (fun hb => ?_) fun hb => ?_) (rv_I m2')) ?_) fun H8 e8 => ⟨some (.int (i : Int)), rfl, e.trans (e7.trans e8)⟩
      · rw [if_pos (of_decide_eq_true hb)]
        exact ev_c
      · rw [if_neg (of_decide_eq_false hb)]
        exact ev_var rfl
      · rw [wayO_next]
        split
        · rw [Int.mul_one]
        · rfl
    · rintro σ' H7 ⟨y, rfl, e7⟩
      rw [Int.toNat_natCast, topO_eq, cntO_all hg]
      have hl7 := e7 l _ hl
      have wb := wayO_bd g m m20
      have pb := pw_bd h0 h1 g.length (by have := hg.len; omega)
      have shT : SeqAt.shaped (.list [shareD (wayO g m * pw x g.length) (rise x m), .int (wayO g m)]) = true := by simp [SeqAt.shaped, PyData.canLay0, PyData.canLayAll0, PyData.depth, PyData.depthAll, shareD]
      refine q_asgD (K := K) (d := .list [shareD (wayO g m * pw x g.length) (rise x m), .int (wayO g m)]) (ed_lst (eda_cons (ed_frac (eu_call (ea_cons (ev_var rfl) (ea_cons (ev_var rfl) (ea_cons (ev_var rfl) ea_nil))) (su_openers hl7 hg hz m20 h0 h1))) (eda_cons (ed_int (ev_call (ea_cons (ev_var rfl) (ea_cons (ev_var rfl) ea_nil)) (sv_openers hl7 hg hz m20))) eda_nil)) (Nat.le_of_ble_eq_true rfl)) fun tv H8 e8 dtv => ?_
      refine q_when (b := false) (et_is (et_test (ev_neD (ed_of (ev_var rfl) dtv) (ed_lst (eda_cons (ed_frac (eu_call (ea_cons (ev_var rfl) (ea_cons (ev_var rfl) ea_nil)) (su_lowest (Int.mul_nonneg wb.1 (Int.le_of_lt pb.1)) rk.1 (two_ok rk.2 (by decide))))) (eda_cons (ed_int (ev_var rfl)) eda_nil)) (Nat.le_of_ble_eq_true rfl)) shT shT)) (by rw [eqv_same shT]; rfl)) (fun hb => Bool.noConfusion hb) fun _ H9 e9 => ?_
      refine q_asgLT (rs := (List.range m).map fun j => frac (lastV x m j) (rise x m)) ?_ fun la ws H10 nla e10 hla tla => ?_
      · have z := elt_R1 (te := tCall sp_last_opener [] E0 (tCons (tVar 1) (tCons (tVar 2) (tCons (tVar 8) tNil)))) (ta := tCons (tVar 1) tNil) (j := 8) (vs := [8]) (n := (m : Int)) (H := H9) (σ := [some (.ref p), some (.int (m : Int)), some (.int x), some (.int (wh : Int)), some (.int (rise x m)), some (.ref l), some (.int (wayO g m * pw x g.length)), some (.int (wayO g m)), y, some tv, none, none, none, none, none, none]) (fun j => frac (lastV x m j) (rise x m)) (ea_cons (ev_var rfl) ea_nil) ⟨by omega, by omega⟩ (fun _ => rfl) fun j H' e' hj => eu_call (ea_cons (ev_var rfl) (ea_cons (ev_var rfl) (ea_cons (ev_var rfl) ea_nil))) (su_last (by omega) m20 h0 h1)
        rw [Int.toNat_natCast] at z
        exact z
      refine q_asgLT (rs := (List.range m).map fun j => frac (rkF x wh j).1 (rkF x wh j).2) ?_ fun ra rws H11 nra e11 hra tra => ?_
      · have z := elt_R1 (te := tCall sp_rank_share [] E0 (tCons (tVar 1) (tCons (tVar 2) (tCons (tVar 11) (tCons (tVar 3) tNil))))) (ta := tCons (tVar 1) tNil) (j := 11) (vs := [11]) (n := (m : Int)) (H := H10) (σ := [some (.ref p), some (.int (m : Int)), some (.int x), some (.int (wh : Int)), some (.int (rise x m)), some (.ref l), some (.int (wayO g m * pw x g.length)), some (.int (wayO g m)), y, some tv, some (.ref la), none, none, none, none, none]) (fun j => frac (rkF x wh j).1 (rkF x wh j).2) (ea_cons (ev_var rfl) ea_nil) ⟨by omega, by omega⟩ (fun _ => rfl) fun j H' e' hj => eu_call (ea_cons (ev_var rfl) (ea_cons (ev_var rfl) (ea_cons (ev_var rfl) (ea_cons (ev_var rfl) ea_nil)))) (su_rank (by omega) (by omega) m20 h0 h1)
        rw [Int.toNat_natCast] at z
        exact z
      refine q_asgL (xs := (sums x wh).map V.int) (el_call (ea_cons (ev_var rfl) (ea_cons (ev_var rfl) ea_nil)) (sl_row (by omega) h0 h1)) fun ro H12 nro e12 hro => ?_
      refine q_asgLT (rs := (List.range m).map fun j => frac (rkF x wh j).1 (rkF x wh j).2) ?_ fun du dws H13 ndu e13 hdu tdu => ?_
      · rw [ranks_rows h0 (show wh < m by omega)]
        have ln : (((sums x wh).map V.int).length : Int) = (wh : Int) + 1 := by
          rw [List.length_map, sums_len]
          rfl
        refine elt_cat ?_ ?_ (by simp [sums_len]; omega)
        · have z := elt_map (K := K) (te := tCall sp_lowest [] E0 (tCons (tOp (rI CMulX fun i j => .int (i * j)) (tVar 14) (tVar 2)) (tCons (tCall sp_rise [] E0 (tCons (tVar 2) (tCons (tOp (rI0 fun i j => .int (i + j)) (tVar 3) (tC (.int 1))) tNil))) tNil))) (tl := tVar 13) (j := 14) (vs := [14]) (H := H12) (xs := (sums x wh).map V.int) (σ := [some (.ref p), some (.int (m : Int)), some (.int x), some (.int (wh : Int)), some (.int (rise x m)), some (.ref l), some (.int (wayO g m * pw x g.length)), some (.int (wayO g m)), y, some tv, some (.ref la), none, some (.ref ra), some (.ref ro), none, none]) (fun j => frac (rkF x wh j).1 (rkF x wh j).2) (ev_var rfl) (sq_of hro) (by rw [List.length_map, sums_len]; omega) (fun _ => rfl) fun j v H' e' hv => ?_
          · rw [List.length_map] at z
            exact z
          · rw [List.getElem?_map] at hv
            obtain ⟨u, hu, rfl⟩ := Option.map_eq_some_iff.mp hv
            have bd := rk_bd h0 h1 (g := wh) (by omega) j
            have gd : (sums x wh).getD j 0 = u := by
              rw [List.getD_eq_getElem?_getD, hu]
              rfl
            have sm := sums_small (w := x) (by omega) (show x ≤ 2 ^ 42 by have : (1000000000000 : Int) ≤ 2 ^ 42 := by decide
                                                                          omega) wh (by omega) u (List.mem_of_getElem? hu)
            have um : u.natAbs < 2 ^ 1900 := big_abs (k := 43 * wh) sm.1 sm.2 (by omega)
            have mm : CMulX u x := mulx_ok (a := 1900) (b := 64) um (by omega) (by decide)
            have rr := rise_ok h0 h1 (n := wh + 1) (by omega)
            show EvU _ _ _ (frac ((sums x wh).getD j 0 * x) (rise x (wh + 1)))
            rw [gd]
            refine eu_call (ea_cons (ev_op (ev_var rfl) (ev_var rfl) (rv_I mm)) (ea_cons (ev_call (vs := [.int x, .int ((wh + 1 : Nat) : Int)]) (ea_cons (ev_var rfl) (ea_cons (ev_is (ev_op (ev_var rfl) ev_c rv_I0) (by congr 1)) ea_nil)) (sv_rise (n := wh + 1) (by omega) (by omega))) ea_nil)) (su_lowest (Int.mul_nonneg sm.1 (by omega)) rr.1 (two_ok rr.2 (by decide)))
        · have z := elt_rep1 (tb := tOp (rI0 fun i j => .int (i - j)) (tVar 1) (tCB (rLenS K) (tCons (tVar 13) tNil))) (σ := [some (.ref p), some (.int (m : Int)), some (.int x), some (.int (wh : Int)), some (.int (rise x m)), some (.ref l), some (.int (wayO g m * pw x g.length)), some (.int (wayO g m)), y, some tv, some (.ref la), none, some (.ref ra), some (.ref ro), none, none]) (H := H12) (k := ((m - (wh + 1) : Nat) : Int)) (elt_lst1 (eu_tup (ea_cons (ev_c (v := .int 0)) (ea_cons (ev_c (v := .int 1)) ea_nil)) (Nat.le_of_ble_eq_true rfl))) (ev_is (ev_op (ev_var (i := 1) rfl) (ev_len (K := K) (ev_var (i := 13) rfl) (sq_of hro)) rv_I0) (by show V.int ((m : Int) - (((sums x wh).map V.int).length : Int)) = _; rw [ln]; exact congrArg V.int (by omega))) (by omega) (by omega)
          rw [Int.toNat_natCast] at z
          exact z
      have sd := shn_ranks h0 h1 (g := wh) (m := m) (by omega) m20
      have su1 : SpU sp_law_parts ([.ref la] ++ []) H13 [.int 1, .int 1] := fun Hx ex Q q E => by
        have ee : Ex H10 Hx := e11.trans (e12.trans (e13.trans ex))
        refine ⟨la, ws, lastS x m, rise x m, rfl, ee la _ hla, ?_, ?_, ?_, rk.1, rk.2, ?_⟩
        · unfold lastS
          rw [List.map_map]
          exact tla.ex ee
        · intro v hv
          obtain ⟨j, hj, rfl⟩ := List.mem_map.mp hv
          exact lastV_bd h0 h1 (List.mem_range.mp hj) m20
        · unfold lastS
          rw [List.length_map, List.length_range]
          omega
        · obtain ⟨m', rfl⟩ : ∃ m', m = m' + 1 := ⟨m - 1, by omega⟩
          rw [lastS_sum, frac_eq (c := 1) (d := 1) rk.1 (by decide) (by omega)]
          exact q
      have dra : Dp K H13 (.ref ra) (.list ((List.range m).map fun t => shareD (rkF x wh t).1 (rkF x wh t).2)) := .lst (sq_of ((e12.trans e13) ra _ hra)) (dpa_fracs (rkF x wh) _ (tra.ex (e12.trans e13)))
      have ddu : Dp K H13 (.ref du) (.list ((List.range m).map fun t => shareD (rkF x wh t).1 (rkF x wh t).2)) := .lst (sq_of hdu) (dpa_fracs (rkF x wh) _ tdu)
      refine s_ret (v := .bl true) (ev_is (ev_andV (ev_eqD (d := .tuple [.int 1, .int 1]) (e := .tuple [.int 1, .int 1]) (ed_ofU (eu_call (ea_cons (ev_var rfl) ea_nil) su1) (.cons (.int _) (.cons (.int _) .nil))) (ed_ofU (eu_tup (ea_cons ev_c (ea_cons ev_c ea_nil)) (Nat.le_of_ble_eq_true rfl)) (.cons (.int _) (.cons (.int _) .nil))) (shaped_sh 1 1) (shaped_sh 1 1)) fun _ => ev_op (ev_reprN (ed_of (ev_var rfl) dra) rfl sd (by decide)) (ev_reprN (ed_of (ev_var rfl) ddu) rfl sd (by decide)) (rv_eq rfl)) (by rw [eqv_same (shaped_sh 1 1)]; simp)) fun H14 e14 => ?_
      have eA : Ex H5 H14 := e7.trans (e8.trans (e9.trans (e10.trans (e11.trans (e12.trans (e13.trans e14))))))
      exact k H14 ((p5.ex eA).mono (by omega)) (hm_trans e3 (hm_trans (hm_of e4) (hm_trans e5 (hm_of eA))))
end

/-! ### the mathematics of groups and tables -/
theorem sum_zipAdd : ∀ xs ys : List Int, xs.length = ys.length → (List.zipWith (· + ·) xs ys).sum = xs.sum + ys.sum
  | [], [], _ => rfl
  | x :: xs, y :: ys, h => by
    have ih := sum_zipAdd xs ys (by simpa using h)
    simp only [List.zipWith_cons_cons, List.sum_cons]
    rw [ih]
    omega
theorem sums_sum (w : Int) : ∀ n, (sums w n).sum = rise w n
  | 0 => rfl
  | n + 1 => by
    have ih := sums_sum w n
    show (List.zipWith (· + ·) ((sums w n).map (· * (n : Int)) ++ [0]) (0 :: (sums w n).map (· * w))).sum = rise w n * (w + n)
    rw [sum_zipAdd _ _ (by simp), List.sum_append, List.sum_cons, List.sum_cons, sum_mulR, sum_mulR, ih]
    simp
    grind
theorem stir_zero : ∀ n : Nat, stir (n + 1) 0 = 0
  | 0 => rfl
  | n + 1 => by
    show (n + 1) * stir (n + 1) 0 = 0
    rw [stir_zero n, Nat.mul_zero]
theorem stir_one : ∀ n : Nat, ((stir (n + 1) 1 : Nat) : Int) = rise 1 n
  | 0 => rfl
  | n + 1 => by
    show (((n + 1) * stir (n + 1) 1 + stir (n + 1) 0 : Nat) : Int) = rise 1 n * (1 + (n : Int))
    rw [stir_zero, Nat.add_zero, Int.natCast_mul, stir_one n]
    rw [show ((n + 1 : Nat) : Int) = 1 + (n : Int) by omega]
    exact Int.mul_comm ..
theorem sums_one (w : Int) {n : Nat} (h : 1 ≤ n) : (sums w n)[1]? = some (rise 1 (n - 1) * w) := by
  obtain ⟨m, rfl⟩ : ∃ m, n = m + 1 := ⟨n - 1, by omega⟩
  rw [sums_get w (m + 1) 1 (by omega), stir_one, Int.pow_one]
  rfl
def wayK (c : Int) (k : Nat) : Nat → List Int
  | 0 => [0, c]
  | i + 1 => List.zipWith (fun one two => one + ((k + i : Nat) : Int) * two) (0 :: wayK c k i) (wayK c k i ++ [0])
theorem othF_next (k i : Nat) : othF k (k + (i + 1)) = othF k (k + i) ++ [(1, ((k + i : Nat) : Int))] := by
  unfold othF
  rw [show k + (i + 1) - k = i + 1 by omega, show k + i - k = i by omega, List.range_succ, List.map_append]
  rfl
theorem zip_step (c z : Int) : ∀ xs ys : List Int, List.zipWith (fun one two => one + z * two) (xs.map (c * ·)) (ys.map (c * ·)) = (List.zipWith (fun one two => one + z * two) xs ys).map (c * ·)
  | [], _ => by simp
  | _ :: _, [] => by simp
  | x :: xs, y :: ys => by
    simp only [List.map_cons, List.zipWith_cons_cons]
    rw [zip_step c z xs ys]
    congr 1
    grind
theorem zip_turn (z : Int) : ∀ xs ys : List Int, List.zipWith (· + ·) (xs.map (· * z)) ys = List.zipWith (fun one two => one + z * two) ys xs
  | [], _ => by simp
  | _ :: _, [] => by simp
  | x :: xs, y :: ys => by
    simp only [List.map_cons, List.zipWith_cons_cons]
    rw [zip_turn z xs ys]
    congr 1
    grind
theorem sstep_one (ns : List Int) (z : Int) : sstep ns (1, z) = List.zipWith (fun one two => one + z * two) (0 :: ns) (ns ++ [0]) := by
  unfold sstep
  rw [show ns.map (· * z) ++ [0] = (ns ++ [0]).map (· * z) by simp, zip_turn]
  congr 2
  simp
theorem wayK_eq (c : Int) (k : Nat) : ∀ i, wayK c k i = (sumsF ((1, 0) :: othF k (k + i))).map (c * ·)
  | 0 => by
    unfold othF
    rw [show k + 0 - k = 0 by omega]
    show [0, c] = (sumsF [(1, 0)]).map (c * ·)
    unfold sumsF sstep
    simp
  | i + 1 => by
    rw [othF_next]
    show List.zipWith _ (0 :: wayK c k i) (wayK c k i ++ [0]) = (((((1, 0) :: othF k (k + i)) ++ [(1, ((k + i : Nat) : Int))]).foldl sstep [1])).map (c * ·)
    rw [List.foldl_append]
    show _ = (sstep (sumsF ((1, 0) :: othF k (k + i))) (1, ((k + i : Nat) : Int))).map (c * ·)
    rw [sstep_one, ← zip_step, wayK_eq c k i]
    simp
theorem wayK_len (c : Int) (k : Nat) : ∀ i, (wayK c k i).length = i + 2
  | 0 => rfl
  | i + 1 => by
    show (List.zipWith _ (0 :: wayK c k i) (wayK c k i ++ [0])).length = _
    simp [wayK_len c k i]

/-! ### groups, the law -/
section
variable {σ : L2.St} {H : Hp} {ta tb : TE} {D : Ends} {tz : TS}
theorem q_tupVL {K : PySem.W.Frag} {i j : Nat} {x : V} {ys : List V} (h : Ev ta σ H x) (h2 : EvL tb σ H ys) (k : ∀ q H1, H q = none → Ex H H1 → H1 q = some (.lst ys) → tz D ((σ.set i (some x)).set j (some (.ref q))) H1) : tSeq (tAsg (tTup (tCons ta (tCons tb tNil))) (gTup K 2 (gCons (gName i) (gCons (gName j) gNil)))) tz D σ H :=
  h H (Ex.refl H) _ fun H1 e1 => h2 H1 e1 _ fun q H2 hq e2 h3 => ⟨sz_of (by show 2 ≤ 100000; decide), fun t ht => ⟨t, [x, .ref q], rfl, st_of upd_same, rfl, x, [.ref q], rfl, .ref q, [], rfl, rfl, k q _ (fresh_back e1 hq) (e1.trans (e2.trans (Ex.new ht))) ((Ex.new ht) q _ h3)⟩⟩
end
section
variable {K : PySem.W.Frag} {σ : L2.St} {H : Hp} {p : Addr} {D : Ends} {tz : TS} {te ta tb : TE} {t : TA}
theorem eg_gang {n m : Nat} {E : XK} (e0 : ∀ H1, Ev ta σ H1 (.ref p)) (e1 : ∀ H1, Ev tb σ H1 (.int (m : Int))) (hp : Po p n H) (hn : n + 100 < 1000000000) (m1 : 1 ≤ m) (m20 : m ≤ 20) :
    EvG p n m (tCall sp_law_gang [] E (tCons ta (tCons tb tNil))) σ H id := fun Q q => by
  show tCons ta (tCons tb tNil) σ H fun vs H2 => sp_law_gang (vs ++ []) H2 Q E
  refine (ea_cons (e0 H) (ea_cons (e1 H) ea_nil)) H (Ex.refl H) _ fun H1 x1 => ?_
  exact ⟨p, n, m, rfl, hp.ex x1, hn, m1, m20, fun l g H2 lp hl hg p2 x2 => q l g H2 lp hl hg p2 (hm_trans (hm_of x1) x2)⟩
theorem pq_parG {n m i j : Nat} {y : V} {f : List Nat → List Nat} (h : EvG p n m ta σ H f) (hb : ∀ H1, Ev tb σ H1 y) (q : ∀ l g H2, l ≠ p → H2 l = some (.lst (nv (f g))) → Gang m g → Po p (n + 30) H2 → Ex (Hm p H) H2 → tz D ((σ.set i (some (.ref l))).set j (some y)) H2) : tSeq (tPar i j (tCons ta (tCons tb tNil))) tz D σ H :=
  h _ fun l g H1 lp hl hg p1 x1 => hb H1 H1 (Ex.refl H1) _ fun H2 e2 => ⟨_, _, rfl, q l g H2 lp (e2 l _ hl) hg (p1.ex e2) (hm_trans x1 (hm_of e2))⟩
theorem elt_tables {n : Nat} {w : Int} {a : Addr} {g : List Nat} {E : XK} (h : EvA t σ H [.int (n : Int), .int w, .ref a]) (ha : H a = some (.lst (nv g))) (o : Gang n g) (hn : n ≤ 20) (h0 : 1 ≤ w) (h1 : w ≤ 1000000000000) : EvLT (tCall sp_tables_shares [] E t) σ H ((List.range (g.length + 1)).map fun t => frac ((sums w g.length).getD t 0) (rise w g.length)) := fun H1 e Q q =>
  h H1 e _ fun H2 e2 => ⟨n, w, a, g, rfl, (e.trans e2) a _ ha, o, hn, h0, h1, fun p ws H3 hp e3 h3 t3 => q p ws H3 (fresh_back e2 hp) (e2.trans e3) h3 t3⟩
end
theorem su_together {H : Hp} {n : Nat} {w : Int} {a : Addr} {g : List Nat} (ha : H a = some (.lst (nv g))) (o : Gang n g) (hn : n ≤ 20) (h0 : 1 ≤ w) (h1 : w ≤ 1000000000000) : SpU sp_together ([.int (n : Int), .int w, .ref a] ++ []) H (frac (tabW w g) (rise w g.length)) := fun H1 e Q q E => ⟨n, w, a, g, rfl, e a _ ha, o, hn, h0, h1, q⟩
theorem su_just {H : Hp} {n : Nat} {w : Int} {a : Addr} {g : List Nat} (ha : H a = some (.lst (nv g))) (o : Gang n g) (hn : n ≤ 20) (h0 : 1 ≤ w) (h1 : w ≤ 1000000000000) : SpU sp_just ([.int (n : Int), .int w, .ref a] ++ []) H (frac (tabW w g * rise w (n - g.length)) (rise w n)) := fun H1 e Q q E => ⟨n, w, a, g, rfl, e a _ ha, o, hn, h0, h1, q⟩
theorem su_given {H : Hp} {n m : Nat} {a : Addr} {g : List Nat} (ha : H a = some (.lst (nv g))) (o : Gang n g) (hn : n ≤ 20) (m1 : 1 ≤ m) (hm : m ≤ n) : SpU sp_given ([.int (n : Int), .int (m : Int), .ref a] ++ []) H (frac (((fac (g.length - 1) : Nat) : Int) * (sumsF ((1, 0) :: othF g.length n)).getD m 0) ((sums 1 n).getD m 0)) := fun H1 e Q q E => ⟨n, m, a, g, rfl, e a _ ha, o, hn, m1, hm, q⟩
/-- the shares of a group's numbers of tables -/
def tbF (w : Int) (k t : Nat) : Int × Int := ((sums w k).getD t 0, rise w k)
theorem tb_bd {w : Int} (h0 : 1 ≤ w) (h1 : w ≤ 1000000000000) {k : Nat} (hk : k ≤ 20) (t : Nat) : 0 ≤ (tbF w k t).1 ∧ (tbF w k t).1 ≤ 2 ^ 900 ∧ 0 < (tbF w k t).2 ∧ (tbF w k t).2 ≤ 2 ^ 900 := by
  have p42 : (1000000000000 : Int) ≤ 2 ^ 42 := by decide
  have r := rise_small h0 (show w ≤ 2 ^ 42 by omega) k hk
  have s : 0 ≤ (sums w k).getD t 0 ∧ (sums w k).getD t 0 ≤ 2 ^ (43 * k) := by
    by_cases ht : t < (sums w k).length
    · rw [List.getD_eq_getElem?_getD, List.getElem?_eq_getElem ht]
      exact sums_small (by omega) (by omega) k (by omega) _ (List.getElem_mem ht)
    · rw [List.getD_eq_getElem?_getD, List.getElem?_eq_none (by omega)]
      exact ⟨Int.le_refl _, Int.le_of_lt (Int.pow_pos (by decide))⟩
  exact ⟨s.1, Int.le_trans s.2 (two_mono (by omega)), rise_pos h0 _, Int.le_trans r (two_mono (by omega))⟩
theorem shn_tables {w : Int} (h0 : 1 ≤ w) (h1 : w ≤ 1000000000000) {k : Nat} (hk : k ≤ 20) : ShN (.list ((List.range (k + 1)).map fun t => shareD (tbF w k t).1 (tbF w k t).2)) 100000 := by
  have := shn_list (n := 3849) (ds := (List.range (k + 1)).map fun t => shareD (tbF w k t).1 (tbF w k t).2) fun d hd => by
    obtain ⟨t, _, rfl⟩ := List.mem_map.mp hd
    have b := tb_bd h0 h1 hk t
    exact ⟨shn_share b.1 b.2.2.1 b.2.1 b.2.2.2 (by decide), by simp [shareD, PyData.depth, PyData.depthAll]⟩
  refine ⟨this.shw, this.nod, ?_, this.dep⟩
  have l := this.len
  rw [List.length_map, List.length_range] at l
  omega
theorem sums_listR (w : Int) (k : Nat) : (List.range (k + 1)).map (fun t => (sums w k).getD t 0) = sums w k := by
  have := range_get (sums w k) (0 : Int)
  rw [sums_len] at this
  exact this.symm

section
variable {K : PySem.W.Frag} {σ : L2.St} {H : Hp} {D : Ends} {tz : TS} {ta tb : TE}
theorem q_parLL {i j : Nat} {xs ys : List V} (h : EvL ta σ H xs) (h2 : ∀ H1, EvL tb σ H1 ys) (q : ∀ a b H2, Ex H H2 → H2 a = some (.lst xs) → H2 b = some (.lst ys) → tz D ((σ.set i (some (.ref a))).set j (some (.ref b))) H2) : tSeq (tPar i j (tCons ta (tCons tb tNil))) tz D σ H :=
  h H (Ex.refl H) _ fun a H1 _ e1 h1 => h2 H1 H1 (Ex.refl H1) _ fun b H2 _ e2 h3 => ⟨_, _, rfl, q a b H2 (e1.trans e2) (e2 a _ h1) h3⟩
theorem el_catO2 {b : Addr} {xs ys : List V} (h : EvL ta σ H xs) (hb : Ev tb σ H (.ref b)) (hy : H b = some (.lst ys)) (hl : xs.length + ys.length ≤ 100000) : EvL (tOp rCat ta tb) σ H (xs ++ ys) := fun H1 e Q q =>
  h H1 e _ fun p H2 hp e2 h2 => hb H2 (e.trans e2) _ fun H3 e3 =>
    ⟨p, b, xs, ys, rfl, rfl, e3 p _ h2, (e.trans (e2.trans e3)) b _ hy, sz_of hl, fun l hl' => q l _ (fresh_back (e2.trans e3) hl') ((e2.trans e3).trans (Ex.new hl')) upd_same⟩
end
theorem wayK_next (c : Int) (k i : Nat) : wayK c k (i + 1) = List.zipWith (fun one two => one + ((k : Int) + (i : Int)) * two) (0 :: wayK c k i) (wayK c k i ++ [0]) := by
  show List.zipWith (fun one two => one + ((k + i : Nat) : Int) * two) (0 :: wayK c k i) (wayK c k i ++ [0]) = _
  rw [show ((k + i : Nat) : Int) = (k : Int) + (i : Int) by omega]
theorem wayK_bd {g : List Nat} {n i : Nat} (hg : g.length ≤ 20) (hn : g.length + i ≤ 20) : ∀ z ∈ wayK (tabW 1 g) g.length i, 0 ≤ z ∧ z.natAbs < 2 ^ 2400 := fun z hz => by
  rw [wayK_eq] at hz
  obtain ⟨s, hs, rfl⟩ := List.mem_map.mp hz
  have t := tabW_bd (w := 1) (by decide) (by decide) (g := g) hg
  have f := fok_oth (len := g.length) hn
  have sm := sumsF_small f s hs
  have l : ((1, 0) :: othF g.length (g.length + i)).length ≤ 22 := by
    unfold othF
    rw [List.length_cons, List.length_map, List.length_range]
    omega
  have b := big_abs (k := 43 * ((1, 0) :: othF g.length (g.length + i)).length) sm.1 sm.2 (by omega)
  refine ⟨Int.mul_nonneg (Int.le_of_lt t.1) sm.1, ?_⟩
  show (tabW 1 g * s).natAbs < _
  exact lt2_mono (natAbs_mul_lt t.2 b) (by decide)
theorem wayK_get {g : List Nat} {m : Nat} (h : g.length ≤ m) (j : Nat) : (wayK (tabW 1 g) g.length (m - g.length)).getD j 0 = ((fac (g.length - 1) : Nat) : Int) * (sumsF ((1, 0) :: othF g.length m)).getD j 0 := by
  rw [wayK_eq, show g.length + (m - g.length) = m by omega, List.getD_eq_getElem?_getD, List.getElem?_map, List.getD_eq_getElem?_getD]
  unfold tabW
  rw [Int.one_mul]
  cases (sumsF ((1, 0) :: othF g.length m))[j]? with
  | none => simp
  | some s => rfl
theorem fac_rise1 (m : Nat) : rise 1 m = ((fac m : Nat) : Int) := by
  have h := rise_fac 0 m
  have e : 0 + m = m := by omega
  rw [e] at h
  rw [← h]
  show rise 1 m = 1 * rise ((0 + 1 : Nat) : Int) m
  rw [Int.one_mul]
  rfl
theorem tabW_one {w : Int} {g : List Nat} (h : 1 ≤ g.length) : (sums w g.length)[1]? = some (tabW w g) := by
  rw [sums_one w h, fac_rise1]
  unfold tabW
  rw [Int.mul_comm]
section
variable {P : Program} {w : World} {K : PySem.W.Frag} {mg : Str → Option Value} {base : Heap}
theorem ok_law_group_right (T : Tx K mg) : FnOkG P w K mg base 7 T.f_law_group_right T.d_law_group_right ["store", "many_here", "heavy"] sp_open_right := by
  refine funG T.F_law_group_right sc_law_group_right (fun vs H Q E h => ?_) (fun cdv A outer s H vs Q E hg hr h => ?_)
  · obtain ⟨p, n, m, x, rfl, _⟩ := h
    rfl
  · obtain ⟨p, n, m, x, rfl, hpo, hn, m1, m20, h0, h1, k⟩ := h
    refine ⟨_, (pss_cons (ps_par (i := 3) (j := 4) (by rfl) sc_law_group_right.nd rfl rfl (by decide) rfl rfl (pa_cons (pe_call (ok_law_gang T) (hr.mono (by decide)) (by rfl) T.g_law_gang T.F_law_gang.kp T.b_law_gang .nil pass0 (pa_cons (pv 0) (pa_cons (pv 1) pa_nil))) (pa_cons (pe_call (ok_law_rising T) (hr.mono (by decide)) (by rfl) T.g_law_rising T.F_law_rising.kp T.b_law_rising .nil pass0 (pa_cons (pv 2) (pa_cons (pv 1) pa_nil))) pa_nil)) (by rfl))
      (pss_cons (ps_asg (pe_tup (pa_cons (pe_callB call_lenR (by rfl) T.m_len (by decide +kernel) (pa_cons (pv 3) pa_nil)) (pa_cons (pe_call (ok_law_row T) (hr.mono (by decide)) (by rfl) T.g_law_row T.F_law_row.kp T.b_law_row .nil pass0 (pa_cons (pv 2) (pa_cons (pe_callB call_lenR (by rfl) T.m_len (by decide +kernel) (pa_cons (pv 3) pa_nil)) pa_nil))) pa_nil))) (pg_tup rfl (pgs_cons (pg_name (i := 5) sc_law_group_right.nd rfl (Or.inr rfl)) (pgs_cons (pg_name (i := 6) sc_law_group_right.nd rfl (Or.inl rfl)) pgs_nil))))
      (pss_cons (ps_set (i := 7) sc_law_group_right.nd rfl (Or.inl rfl) (pe_call (ok_tables_shares T) (hr.mono (by decide)) (by rfl) T.g_tables_shares T.F_tables_shares.kp T.b_tables_shares .nil pass0 (pa_cons (pv 1) (pa_cons (pv 2) (pa_cons (pv 3) pa_nil)))))
      (pss_cons (ps_if (pt_cmpR op_ne (pe_callB (id := "repr") (r := rRepr K) (call_reprD hg hr.units) (by rfl) T.m_repr (by decide +kernel) (pa_cons (pv 7) pa_nil)) (pe_callB (id := "repr") (r := rRepr K) (call_reprD hg hr.units) (by rfl) T.m_repr (by decide +kernel) (pa_cons (pe_lc (own := [("part", 8)]) (g := (gName 8)) (tt := tYes) rfl sc_law_group_right.nd (pi_list (pv 6)) (blkOk_by (own := [("part", 8)]) (N := n_law_group_right) (sc := defScope s_law_group_right) (by decide +kernel)) (fun _ _ _ _ _ => (pg_name (i := 8) sc_law_group_right.nd rfl (Or.inl rfl))) (fun _ _ _ _ _ => pts_nil) (fun _ _ _ _ _ => (pe_call (ok_law_lowest T) (hr.mono (by decide)) (by rfl) T.g_law_lowest T.F_law_lowest.kp T.b_law_lowest .nil pass0 (pa_cons (pv 8) (pa_cons (pe_call (ok_law_rising T) (hr.mono (by decide)) (by rfl) T.g_law_rising T.F_law_rising.kp T.b_law_rising .nil pass0 (pa_cons (pv 2) (pa_cons (pv 5) pa_nil))) pa_nil))))) pa_nil)) (nomark _)) (pss_one (ps_ret pe_bl)) pss_nil)
      (pss_cons (ps_if (PW.pt (pw_or (pt_cmpR (op_neD hr.units) (pe_call (ok_law_parts T) (hr.mono (by decide)) (by rfl) T.g_law_parts T.F_law_parts.kp T.b_law_parts .nil pass0 (pa_cons (pv 7) pa_nil)) (pe_tup (pa_cons pe_int (pa_cons pe_int pa_nil))) (nomark _)) (pw_or1 (pt_cmpR (op_neD hr.units) (pe_call (ok_together_share T) (hr.mono (by decide)) (by rfl) T.g_together_share T.F_together_share.kp T.b_together_share .nil pass0 (pa_cons (pv 1) (pa_cons (pv 2) (pa_cons (pv 3) pa_nil)))) (pe_ix ix_list (pv 7) pe_int (fun _ _ => rfl)) (nomark _))))) (pss_one (ps_ret pe_bl)) pss_nil)
      (pss_cons (ps_set (i := 9) sc_law_group_right.nd rfl (Or.inl rfl) (pe_op op_mulX (pe_ix ix_list (pv 6) pe_int (fun _ _ => rfl)) (pe_call (ok_law_rising T) (hr.mono (by decide)) (by rfl) T.g_law_rising T.F_law_rising.kp T.b_law_rising .nil pass0 (pa_cons (pv 2) (pa_cons (pe_op op_sub (pv 1) (pv 5)) pa_nil)))))
      (pss_cons (ps_if (pt_cmpR (op_neD hr.units) (pe_call (ok_just_share T) (hr.mono (by decide)) (by rfl) T.g_just_share T.F_just_share.kp T.b_just_share .nil pass0 (pa_cons (pv 1) (pa_cons (pv 2) (pa_cons (pv 3) pa_nil)))) (pe_call (ok_law_lowest T) (hr.mono (by decide)) (by rfl) T.g_law_lowest T.F_law_lowest.kp T.b_law_lowest .nil pass0 (pa_cons (pv 9) (pa_cons (pv 4) pa_nil))) (nomark _)) (pss_one (ps_ret pe_bl)) pss_nil)
      (pss_cons (ps_par (i := 10) (j := 11) (by rfl) sc_law_group_right.nd rfl rfl (by decide) rfl rfl (pa_cons (pe_lst (pa_cons pe_int (pa_cons (pe_ix ix_list (pe_call (ok_law_row T) (hr.mono (by decide)) (by rfl) T.g_law_row T.F_law_row.kp T.b_law_row .nil pass0 (pa_cons pe_int (pa_cons (pv 5) pa_nil))) pe_int (fun _ _ => rfl)) pa_nil))) (pa_cons (pe_call (ok_law_row T) (hr.mono (by decide)) (by rfl) T.g_law_row T.F_law_row.kp T.b_law_row .nil pass0 (pa_cons pe_int (pa_cons (pv 1) pa_nil))) pa_nil)) (by rfl))
      (pss_cons (ps_for PassesOwn.never rfl (pi_range2 (by rfl) T.m_range (pa_cons (pv 5) (pa_cons (pv 1) pa_nil))) (pg_name (i := 12) sc_law_group_right.nd rfl (Or.inr rfl)) (pss_one (ps_setLc (i := 10) (own := [("one", 13), ("two", 14)]) (g := (gTup _ 2 (gCons (gName 13) (gCons (gName 14) gNil)))) (tt := tYes) rfl sc_law_group_right.nd rfl rfl (sw_true rfl rfl rfl (by decide +kernel)) (pi_zip (by rfl) T.m_zip (pa_cons (pe_op op_cat (pe_lst (pa_cons pe_int pa_nil)) (pv 10)) (pa_cons (pe_op op_cat (pv 10) (pe_lst (pa_cons pe_int pa_nil))) pa_nil))) (blkOk_by (own := [("one", 13), ("two", 14)]) (N := n_law_group_right) (sc := defScope s_law_group_right) (by decide +kernel)) (fun _ _ _ _ _ => (pg_tup rfl (pgs_cons (pg_name (i := 13) sc_law_group_right.nd rfl (Or.inl rfl)) (pgs_cons (pg_name (i := 14) sc_law_group_right.nd rfl (Or.inl rfl)) pgs_nil)))) (fun _ _ _ _ _ => pts_nil) (fun _ _ _ _ _ => (pe_op op_add (pv 13) (pe_op op_mulX (pv 12) (pv 14)))))))
      (pss_cons (ps_for PassesOwn.never rfl (pi_range2 (by rfl) T.m_range (pa_cons pe_int (pa_cons (pe_op op_add (pv 1) pe_int) pa_nil))) (pg_name (i := 15) sc_law_group_right.nd rfl (Or.inl rfl)) (pss_cons (ps_set (i := 9) sc_law_group_right.nd rfl (Or.inl rfl) (pe_ifExp (pt_cmpR op_lt (pv 15) (pe_callB call_lenR (by rfl) T.m_len (by decide +kernel) (pa_cons (pv 10) pa_nil)) (nomark _)) (pe_ix ix_list (pv 10) (pv 15) (fun _ _ => rfl)) pe_int))
      (pss_one (ps_if (pt_cmpR (op_neD hr.units) (pe_call (ok_given_tables T) (hr.mono (by decide)) (by rfl) T.g_given_tables T.F_given_tables.kp T.b_given_tables .nil pass0 (pa_cons (pv 1) (pa_cons (pv 15) (pa_cons (pv 3) pa_nil)))) (pe_call (ok_law_lowest T) (hr.mono (by decide)) (by rfl) T.g_law_lowest T.F_law_lowest.kp T.b_law_lowest .nil pass0 (pa_cons (pv 9) (pa_cons (pe_ix ix_list (pv 11) (pv 15) (fun _ _ => rfl)) pa_nil))) (nomark _)) (pss_one (ps_ret pe_bl)) pss_nil))))
      (pss_one (ps_ret pe_bl)))))))))))), ?_⟩
    have rk := rise_ok h0 h1 (n := m) m20
    refine pq_parG (p := p) (n := n) (m := m) (f := id) (y := .int (rise x m)) ?_ ?_ fun l g H2 lp hl hg p2 e2 => ?_
    · refine eg_gang (fun _ => ?_) (fun _ => ?_) hpo (by omega) m1 m20
      · exact ev_var rfl
      · exact ev_var rfl
    · exact fun _ => ev_call (ea_cons (ev_var rfl) (ea_cons (ev_var rfl) ea_nil)) (sv_rise (by omega) (by omega))
    have hl : H2 l = some (.lst (nv g)) := hl
    have k20 := hg.len
    have k1 := hg.pos
    have rg := rise_ok h0 h1 (n := g.length) (by omega)
    have tw := tabW_bd h0 h1 (g := g) (by omega)
    have lenE : ∀ σ H', Ex H2 H' → σ[3]? = some (some (V.ref l)) → Ev (tCB (rLenS K) (tCons (tVar 3) tNil)) σ H' (.int (g.length : Int)) := fun σ H' ee a => ev_is (ev_len (ev_var a) (sq_of (ee l _ hl))) (by simp [nv, iz])
    refine q_tupVL (K := K) (x := .int (g.length : Int)) (ys := (sums x g.length).map V.int) (lenE _ _ (Ex.refl _) rfl) (el_call (ea_cons (ev_var rfl) (ea_cons (lenE _ _ (Ex.refl _) rfl) ea_nil)) (sl_row (by omega) h0 h1)) fun ro H3 nro e3 hro => ?_
    refine q_asgLT (rs := (List.range (g.length + 1)).map fun t => frac (tbF x g.length t).1 (tbF x g.length t).2) (elt_tables (ea_cons (ev_var rfl) (ea_cons (ev_var rfl) (ea_cons (ev_var rfl) ea_nil))) (e3 l _ hl) hg m20 h0 h1) fun to tws H4 nto e4 hto tto => ?_
    have dto : Dp K H4 (.ref to) (.list ((List.range (g.length + 1)).map fun t => shareD (tbF x g.length t).1 (tbF x g.length t).2)) := .lst (sq_of hto) (dpa_fracs (tbF x g.length) _ tto)
    have sd := shn_tables h0 h1 (k := g.length) (by omega)
    refine q_when (b := false) (et_is (et_test (ev_op (ev_reprN (ed_of (ev_var rfl) dto) rfl sd (by decide)) (ev_reprN (ed_fracs (f := tbF x g.length) (l := List.range (g.length + 1)) ?_) rfl sd (by decide)) (rv_ne rfl))) (by simp)) (fun hb => Bool.noConfusion hb) fun _ H5 e5 => ?_
    · have z := elt_map (K := K) (te := tCall sp_lowest [] E0 (tCons (tVar 8) (tCons (tCall sp_rise [] E0 (tCons (tVar 2) (tCons (tVar 5) tNil))) tNil))) (tl := tVar 6) (j := 8) (vs := [8]) (H := H4) (xs := (sums x g.length).map V.int) (σ := [some (.ref p), some (.int (m : Int)), some (.int x), some (.ref l), some (.int (rise x m)), some (.int (g.length : Int)), some (.ref ro), some (.ref to), none, none, none, none, none, none, none, none]) (fun j => frac (tbF x g.length j).1 (tbF x g.length j).2) (ev_var rfl) (sq_of (e4 ro _ hro)) (by rw [List.length_map, sums_len]; omega) (fun _ => rfl) fun j v H' e' hv => ?_
      · rw [List.length_map, sums_len] at z
        exact z
      · rw [List.getElem?_map] at hv
        obtain ⟨u, hu, rfl⟩ := Option.map_eq_some_iff.mp hv
        have bd := tb_bd h0 h1 (k := g.length) (by omega) j
        have gd : (sums x g.length).getD j 0 = u := by
          rw [List.getD_eq_getElem?_getD, hu]
          rfl
        have u0 : 0 ≤ u := by
          rw [← gd]
          exact bd.1
        show EvU _ _ _ (frac ((sums x g.length).getD j 0) (rise x g.length))
        rw [gd]
        exact eu_call (ea_cons (ev_var rfl) (ea_cons (ev_call (ea_cons (ev_var rfl) (ea_cons (ev_var rfl) ea_nil)) (sv_rise (by omega) (by omega))) ea_nil)) (su_lowest u0 rg.1 (two_ok rg.2 (by decide)))
    have su1 : SpU sp_law_parts ([.ref to] ++ []) H5 [.int 1, .int 1] := fun Hx ex Q q E => by
      have ee : Ex H4 Hx := e5.trans ex
      refine ⟨to, tws, sums x g.length, rise x g.length, rfl, ee to _ hto, ?_, ?_, ?_, rg.1, rg.2, ?_⟩
      · have z := tto.ex ee
        rw [← sums_listR x g.length, List.map_map]
        exact z
      · intro v hv
        have p42 : (1000000000000 : Int) ≤ 2 ^ 42 := by decide
        have sm := sums_small (w := x) (by omega) (by omega) g.length (by omega) v hv
        exact ⟨sm.1, lt2_mono (big_abs (k := 43 * g.length) sm.1 sm.2 (by omega)) (by decide)⟩
      · rw [sums_len]
        omega
      · rw [sums_sum, frac_eq (c := 1) (d := 1) rg.1 (by decide) (by omega)]
        exact q
    obtain ⟨tq, htq, htqv⟩ : ∃ q, tws[1]? = some (.ref q) ∧ H4 q = some (.tup (frac (tabW x g) (rise x g.length))) := by
      have ln := tto.len
      rw [List.length_map, List.length_range] at ln
      obtain ⟨v, hv⟩ : ∃ v, tws[1]? = some v := ⟨_, List.getElem?_eq_getElem (show 1 < tws.length by omega)⟩
      obtain ⟨a, r, rfl, ha, hr2⟩ := tto.get hv
      rw [List.getElem?_map, List.getElem?_range (by omega)] at hr2
      have e : r = frac ((sums x g.length).getD 1 0) (rise x g.length) := (Option.some.inj hr2).symm
      rw [List.getD_eq_getElem?_getD, tabW_one k1] at e
      exact ⟨a, hv, by rw [ha, e]; rfl⟩
    have sh := shaped_shD (tabW x g) (rise x g.length)
    refine q_when (b := false) (et_is (et_or (et_test (ev_neD (d := .tuple [.int 1, .int 1]) (e := .tuple [.int 1, .int 1]) (ed_ofU (eu_call (ea_cons (ev_var rfl) ea_nil) su1) (.cons (.int _) (.cons (.int _) .nil))) (ed_ofU (eu_tup (ea_cons ev_c (ea_cons ev_c ea_nil)) (Nat.le_of_ble_eq_true rfl)) (.cons (.int _) (.cons (.int _) .nil))) (shaped_sh 1 1) (shaped_sh 1 1))) fun _ => et_test (ev_neD (d := shareD (tabW x g) (rise x g.length)) (e := shareD (tabW x g) (rise x g.length)) (ed_frac (eu_call (ea_cons (ev_var rfl) (ea_cons (ev_var rfl) (ea_cons (ev_var rfl) ea_nil))) (su_together ((e3.trans (e4.trans e5)) l _ hl) hg m20 h0 h1))) (ed_of (ev_op (ev_var rfl) ev_c (rv_ixL (K := K) (sq_of (e5 to _ hto)) (atI_nat (j := 1) htq))) (.tup (st_of (e5 tq _ htqv)) (dpa_frac _ _))) sh sh)) (by rw [eqv_same sh, eqv_same (shaped_sh 1 1)]; rfl)) (fun hb => Bool.noConfusion hb) fun _ H6 e6 => ?_
    have rl := rise_ok h0 h1 (n := m - g.length) (by omega)
    have mm : CMulX (tabW x g) (rise x (m - g.length)) := mulx_ok (a := 400) (b := 3000) tw.2 rl.2 (by decide)
    refine q_asg (v := .int (tabW x g * rise x (m - g.length))) (ev_op (ev_op (ev_var rfl) ev_c (rv_ixL (K := K) (v := .int (tabW x g)) (sq_of ((e4.trans (e5.trans e6)) ro _ hro)) (atI_nat (j := 1) (by rw [List.getElem?_map, tabW_one k1]; rfl)))) (ev_call (vs := [.int x, .int ((m - g.length : Nat) : Int)]) (ea_cons (ev_var rfl) (ea_cons (ev_is (ev_op (ev_var rfl) (ev_var rfl) rv_I0) (by congr 1; omega)) ea_nil)) (sv_rise (n := m - g.length) (by omega) (by omega))) (rv_I mm)) fun H7 e7 => ?_
    have shj := shaped_shD (tabW x g * rise x (m - g.length)) (rise x m)
    have e27 : Ex H2 H7 := e3.trans (e4.trans (e5.trans (e6.trans e7)))
    refine q_when (b := false) (et_is (et_test (ev_neD (ed_frac (eu_call (ea_cons (ev_var rfl) (ea_cons (ev_var rfl) (ea_cons (ev_var rfl) ea_nil))) (su_just (e27 l _ hl) hg m20 h0 h1))) (ed_frac (eu_call (ea_cons (ev_var rfl) (ea_cons (ev_var rfl) ea_nil)) (su_lowest (Int.mul_nonneg (Int.le_of_lt tw.1) (Int.le_of_lt rl.1)) rk.1 (two_ok rk.2 (by decide))))) shj shj)) (by rw [eqv_same shj]; rfl)) (fun hb => Bool.noConfusion hb) fun _ H8 e8 => ?_
    have c1 := tabW_one (w := 1) k1
    have cw : (wayK (tabW 1 g) g.length 0).map V.int = [V.int 0, V.int (tabW 1 g)] := rfl
    refine q_parLL (xs := (wayK (tabW 1 g) g.length 0).map V.int) (ys := (sums 1 m).map V.int) ?_ ?_ fun wa ev H9 e9 hwa hev => ?_
    · rw [cw]
      exact el_lst (ea_cons ev_c (ea_cons (ev_ixN (K := K) (el_call (ea_cons ev_c (ea_cons (ev_var rfl) ea_nil)) (sl_row (w := 1) (m := g.length) (by omega) (by decide) (by decide))) ev_c (atI_nat (j := 1) (by rw [List.getElem?_map, c1]; rfl))) ea_nil)) (Nat.le_of_ble_eq_true rfl)
    · exact fun _ => el_call (ea_cons ev_c (ea_cons (ev_var rfl) ea_nil)) (sl_row (w := 1) (m := m) m20 (by decide) (by decide))
    refine q_forR2 (lo := (g.length : Int)) (n := (m : Int)) (ea_cons (ev_var rfl) (ea_cons (ev_var rfl) ea_nil)) ⟨by omega, by omega, by omega, by omega⟩ (fun i σ' H' => ∃ (q : Addr) (y12 y13 y14 : Option V), σ' = [some (.ref p), some (.int (m : Int)), some (.int x), some (.ref l), some (.int (rise x m)), some (.int (g.length : Int)), some (.ref ro), some (.ref to), none, some (.int (tabW x g * rise x (m - g.length))), some (.ref q), some (.ref ev), y12, y13, y14, none] ∧ Ex H9 H' ∧ H' q = some (.lst ((wayK (tabW 1 g) g.length i).map V.int)))
      (fun H10 e10 => ⟨wa, none, none, none, rfl, e10, e10 wa _ hwa⟩) ?_ ?_
    · rintro i σ' H' hi ⟨q, y12, y13, y14, rfl, e, hq⟩
      have wl := wayK_len (tabW 1 g) g.length i
      have wb := wayK_bd (g := g) (n := m) (i := i) (by omega) (by omega)
      refine s_asgL (xs := (wayK (tabW 1 g) g.length (i + 1)).map V.int) ?_ fun q2 H10 hq2 e10 hl10 => ⟨q2, _, _, _, rfl, e.trans e10, hl10⟩
      rw [wayK_next, ← zipV]
      have e1' : ((wayK (tabW 1 g) g.length i ++ [0]).map V.int : List V) = (wayK (tabW 1 g) g.length i).map V.int ++ [V.int 0] := by rw [List.map_append]; rfl
      have e0' : ((0 :: wayK (tabW 1 g) g.length i).map V.int : List V) = [V.int 0] ++ (wayK (tabW 1 g) g.length i).map V.int := rfl
      rw [e1', e0']
      refine el_zipN (K := K) (zipI fun a b => a + ((g.length : Int) + (i : Int)) * b) (el_catO2 (el_lst (ea_cons ev_c ea_nil) (Nat.le_of_ble_eq_true rfl)) (ev_var rfl) hq (by simp [wl]; omega)) (el_catL (ev_var rfl) hq (el_lst (ea_cons ev_c ea_nil) (Nat.le_of_ble_eq_true rfl)) (by simp [wl]; omega)) (by simp) (by simp [wl]; omega) (fun _ _ => rfl) fun n y z H10 e10 hy hz => ?_
      rw [← e0', List.getElem?_map] at hy
      obtain ⟨a, ha, rfl⟩ := Option.map_eq_some_iff.mp hy
      rw [← e1', List.getElem?_map] at hz
      obtain ⟨b, hb, rfl⟩ := Option.map_eq_some_iff.mp hz
      have bb : b.natAbs < 2 ^ 2400 := by
        rcases List.mem_append.mp (List.mem_of_getElem? hb) with z | z
        · exact (wb b z).2
        · rw [List.mem_singleton.mp z]
          decide
      have m1' : CMulX ((g.length : Int) + (i : Int)) b := mulx_ok (a := 64) (b := 2400) (by omega) bb (by decide)
      exact ev_op (ev_var rfl) (ev_op (ev_var rfl) (ev_var rfl) (rv_I m1')) rv_I0
    · rintro σ' H10 ⟨q, y12, y13, y14, rfl, e10, hq⟩
      have em : ((m : Int) - (g.length : Int)).toNat = m - g.length := by omega
      rw [em] at hq
      have wl := wayK_len (tabW 1 g) g.length (m - g.length)
      refine q_forR2 (lo := 1) (n := (m : Int) + 1) (ea_cons ev_c (ea_cons (ev_op (ev_var rfl) ev_c rv_I0) ea_nil)) ⟨by omega, by omega, by omega, by omega⟩ (fun i σ' H' => ∃ (y9 y15 : Option V), σ' = [some (.ref p), some (.int (m : Int)), some (.int x), some (.ref l), some (.int (rise x m)), some (.int (g.length : Int)), some (.ref ro), some (.ref to), none, y9, some (.ref q), some (.ref ev), y12, y13, y14, y15] ∧ Ex H10 H')
        (fun H11 e11 => ⟨_, _, rfl, e11⟩) ?_ ?_
      · rintro i σ' H' hi ⟨y9, y15, rfl, e⟩
        have hq' := e q _ hq
        have hev' := (e10.trans e) ev _ hev
        have eL : Ex H2 H' := e27.trans (e8.trans (e9.trans (e10.trans e)))
        have sp := sums_pos1 (n := m) (m := i + 1) (by omega) (by omega)
        have sl := sums_len 1 m
        have sv : ((sums 1 m).map V.int)[i + 1]? = some (V.int ((sums 1 m).getD (i + 1) 0)) := by
          rw [List.getElem?_map, List.getD_eq_getElem?_getD, List.getElem?_eq_getElem (show i + 1 < (sums 1 m).length by omega)]
          rfl
        have sb : ((sums 1 m).getD (i + 1) 0).natAbs < 2 ^ 1900 := by
          rw [List.getD_eq_getElem?_getD, List.getElem?_eq_getElem (show i + 1 < (sums 1 m).length by omega)]
          have p42 : (1 : Int) ≤ 2 ^ 42 := by decide
          have sm := sums_small (w := 1) (by decide) p42 m m20 _ (List.getElem_mem (show i + 1 < (sums 1 m).length by omega))
          exact big_abs (k := 43 * m) sm.1 sm.2 (by omega)
        have wn : 0 ≤ (wayK (tabW 1 g) g.length (m - g.length)).getD (i + 1) 0 := by
          by_cases ht : i + 1 < (wayK (tabW 1 g) g.length (m - g.length)).length
          · rw [List.getD_eq_getElem?_getD, List.getElem?_eq_getElem ht]
            exact (wayK_bd (g := g) (n := m) (i := m - g.length) (by omega) (by omega) _ (List.getElem_mem ht)).1
          · rw [List.getD_eq_getElem?_getD, List.getElem?_eq_none (by omega)]
            exact Int.le_refl _
        refine q_asg (v := .int ((wayK (tabW 1 g) g.length (m - g.length)).getD (i + 1) 0)) (ev_if (b := decide ((1 : Int) + (i : Int) < (((wayK (tabW 1 g) g.length (m - g.length)).map V.int).length : Int))) (et_test (ev_op (ev_var rfl) (ev_len (K := K) (ev_var rfl) (sq_of hq')) rv_I0)) (fun hb => ?_) fun hb => ?_) fun H11 e11 => ?_
        · have hb := of_decide_eq_true hb
          rw [List.length_map] at hb
          have ht : i + 1 < (wayK (tabW 1 g) g.length (m - g.length)).length := by omega
          refine ev_op (ev_var rfl) (ev_is (ev_var rfl) (show V.int ((1 : Int) + (i : Int)) = V.int ((i + 1 : Nat) : Int) from congrArg V.int (by omega))) (rv_ixL (K := K) (sq_of hq') (atI_nat (j := i + 1) ?_))
          rw [List.getElem?_map, List.getD_eq_getElem?_getD, List.getElem?_eq_getElem ht]
          rfl
        · have hb := of_decide_eq_false hb
          rw [List.length_map] at hb
          have e0 : (wayK (tabW 1 g) g.length (m - g.length)).getD (i + 1) 0 = 0 := by
            rw [List.getD_eq_getElem?_getD, List.getElem?_eq_none (by omega)]
            rfl
          rw [e0]
          exact ev_c
        have ie : V.int ((1 : Int) + (i : Int)) = V.int ((i + 1 : Nat) : Int) := congrArg V.int (by omega)
        have shg := shaped_shD ((wayK (tabW 1 g) g.length (m - g.length)).getD (i + 1) 0) ((sums 1 m).getD (i + 1) 0)
        have sg := su_given (m := i + 1) ((eL.trans e11) l _ hl) hg m20 (by omega) (by omega)
        rw [← wayK_get (m := m) k20] at sg
        refine s_when (b := false) (et_is (et_test (ev_neD (ed_frac (eu_call (vs := [.int (m : Int), .int ((i + 1 : Nat) : Int), .ref l]) (ea_cons (ev_var rfl) (ea_cons (ev_is (ev_var rfl) ie) (ea_cons (ev_var rfl) ea_nil))) sg)) (ed_frac (eu_call (ea_cons (ev_var rfl) (ea_cons (ev_op (ev_var rfl) (ev_is (ev_var rfl) ie) (rv_ixL (K := K) (sq_of (e11 ev _ hev')) (atI_nat (j := i + 1) sv))) ea_nil)) (su_lowest wn sp (lt2_mono sb (by decide))))) shg shg)) (by rw [eqv_same shg]; rfl)) (fun hb => Bool.noConfusion hb) fun _ H12 e12 => ⟨_, _, rfl, e.trans (e11.trans e12)⟩
      · rintro σ' H11 ⟨y9, y15, rfl, e11⟩
        refine s_ret (v := .bl true) ev_c fun H12 e12 => ?_
        have eA : Ex H2 H12 := e27.trans (e8.trans (e9.trans (e10.trans (e11.trans e12))))
        exact k H12 ((p2.ex eA).mono (by omega)) (hm_trans e2 (hm_of eA))
end

/-! ### lots drawn from those who are left -/
/-- who is left, the lots that are made, the gang that is being drawn: together all of 0 .. m - 1 -/
def Split (m : Nat) (left : List Nat) (gs : List (List Nat)) (r : List Nat) : Prop := (left ++ (gs.flatten ++ r)).Perm (List.range m)
theorem split_start (m : Nat) : Split m (List.range m) [] [] := by
  unfold Split
  simp
theorem pop_perm : ∀ (l : List Nat) (k : Nat) (hk : k < l.length), (l.eraseIdx k ++ [l[k]]).Perm l
  | x :: l, 0, _ => by
    show (l ++ [x]).Perm (x :: l)
    exact List.perm_append_comm
  | x :: l, k + 1, hk => by
    show (x :: (l.eraseIdx k ++ [l[k]'(by simpa using hk)])).Perm (x :: l)
    exact (pop_perm l k (by simpa using hk)).cons x
theorem split_pop {m k : Nat} {left r : List Nat} {gs : List (List Nat)} (h : Split m left gs r) (hk : k < left.length) : Split m (left.eraseIdx k) gs (r ++ [left[k]]) := by
  unfold Split at *
  refine List.Perm.trans ?_ h
  refine List.Perm.trans ?_ ((pop_perm left k hk).append_right (gs.flatten ++ r))
  rw [List.append_assoc (left.eraseIdx k), ← List.append_assoc gs.flatten]
  exact List.Perm.append_left _ List.perm_append_comm
theorem split_lot {m : Nat} {left r s : List Nat} {gs : List (List Nat)} (h : Split m left gs r) (hs : s.Perm r) : Split m left (gs ++ [s]) [] := by
  unfold Split at *
  rw [List.flatten_append, List.append_nil]
  refine List.Perm.trans (List.Perm.append_left _ (List.Perm.append_left _ ?_)) h
  simpa using hs
theorem split_lt {m : Nat} {left r : List Nat} {gs : List (List Nat)} (h : Split m left gs r) : ∀ x ∈ gs.flatten ++ r, x < m := fun x hx => List.mem_range.mp (h.mem_iff.mp (List.mem_append_right _ hx))
theorem split_nd {m : Nat} {left r : List Nat} {gs : List (List Nat)} (h : Split m left gs r) : (gs.flatten ++ r).Nodup := ((h.nodup_iff.mpr List.nodup_range).sublist (List.sublist_append_right _ _))
theorem split_len {m : Nat} {left r : List Nat} {gs : List (List Nat)} (h : Split m left gs r) : left.length + (gs.flatten.length + r.length) = m := by
  have := h.length_eq
  simpa using this

local macro_rules | `(tactic| walk_at "call") => `(tactic| (with_reducible exact sv_whole))
local macro_rules | `(tactic| walk_at "call") => `(tactic| (with_reducible exact sv_between))
local macro_rules | `(tactic| walk_at "call") => `(tactic| ((with_reducible refine' sv_check1 ?c1 ?c2); (case c1 => walk_at "side"); (case c2 => walk_at "side")))
local macro_rules | `(tactic| walk_at "call") => `(tactic| ((with_reducible refine' sv_check_number ?c1 ?c2); (case c1 => walk_at "side"); (case c2 => walk_at "side")))
local macro_rules | `(tactic| walk_at "callU") => `(tactic| ((with_reducible refine' su_fraction ?c1 ?c2); (case c1 => walk_at "side"); (case c2 => walk_at "side")))
local macro_rules | `(tactic| walk_at "call") => `(tactic| ((with_reducible refine' sv_rise ?c1 ?c2); (case c1 => walk_at "side"); (case c2 => walk_at "side")))

/-! ### law_split_right -/
section
variable {K : PySem.W.Frag} {σ : L2.St} {H H0 : Hp} {ta te tb : TE} {t u : TT} {D : Ends} {tz : TS}
theorem q_parLF {i j : Nat} {xs ys : List V} (ha : EvL ta σ H xs) (hb : EvL tb σ H ys) (k : ∀ p q H1, H p = none → H q = none → p ≠ q → Ex H H1 → H1 p = some (.lst xs) → H1 q = some (.lst ys) → tz D ((σ.set i (some (.ref p))).set j (some (.ref q))) H1) :
    tSeq (tPar i j (tCons ta (tCons tb tNil))) tz D σ H := ha H (Ex.refl H) _ fun p H1 hp e1 h1 => hb H1 e1 _ fun q H2 hq e2 h2 => ⟨_, _, rfl, k p q H2 hp (fresh_back e1 hq) (ne_of_none h1 hq) (e1.trans e2) (e2 p _ h1) h2⟩
theorem s_appE {l : Addr} {xs : List V} (hl : H l = some (.lst xs)) (ha : Ev ta σ H (.ref l)) (k : ∀ H1, Ex H H1 → te σ H1 fun v H2 => rAppend (.ref l) [v] H2 fun _ H3 => D.nx σ H3) : tDrop (tBM K "list" rAppend ta (tCons te tNil)) D σ H :=
  ha H (Ex.refl H) _ fun H1 e1 => ⟨Or.inl ⟨rfl, xs, sq_of (e1 l _ hl)⟩, k H1 e1⟩
theorem q_appE {l : Addr} {xs : List V} (hl : H l = some (.lst xs)) (ha : Ev ta σ H (.ref l)) (k : ∀ H1, Ex H H1 → te σ H1 fun v H2 => rAppend (.ref l) [v] H2 fun _ H3 => tz D σ H3) : tSeq (tDrop (tBM K "list" rAppend ta (tCons te tNil))) tz D σ H :=
  s_appE (D := { D with nx := tz D }) hl ha k
theorem t_popAt {Q : VK} {l : Addr} {xs : List V} (hl : H l = some (.lst xs)) (ha : Ev ta σ H (.ref l)) (k : ∀ H1, Ex H H1 → te σ H1 fun v H2 => rPopAt (.ref l) [v] H2 Q) : tBM K "list" rPopAt ta (tCons te tNil) σ H Q :=
  ha H (Ex.refl H) _ fun H1 e1 => ⟨Or.inl ⟨rfl, xs, sq_of (e1 l _ hl)⟩, k H1 e1⟩
theorem seq_at {j n : Nat} (h : j < n) : seqIndex? (j : Int) n = some j := by
  unfold seqIndex?
  have h1 : ¬ ((j : Int) < 0) := by omega
  have h2 : (0 : Int) ≤ j := by omega
  have h3 : (j : Int) < n := by omega
  simp [h1, h2, h3]
theorem nv_erase (L : List Nat) (k : Nat) : (nv L).eraseIdx k = nv (L.eraseIdx k) := by
  rw [nv_eq, nv_eq, List.eraseIdx_eq_take_drop_succ, List.eraseIdx_eq_take_drop_succ, List.map_append, List.map_take, List.map_drop]
theorem w_and_f {Q : Bool → Hp → Prop} (h : EvT t σ H false) (k : ∀ H1, Ex H H1 → Q false H1) : tAnd t u σ H Q := h H (Ex.refl H) _ fun H1 e1 => iteF (k H1 e1)
theorem w_and_t {Q : Bool → Hp → Prop} (h : EvT t σ H true) (k : ∀ H1, Ex H H1 → u σ H1 Q) : tAnd t u σ H Q := h H (Ex.refl H) _ fun H1 e1 => iteT (k H1 e1)
/-- sorted of a list of numbers -/
theorem t_sortN {Q : VK} {a : Addr} {r : List Nat} (h : Ev ta σ H (.ref a)) (ha : H a = some (.lst (nv r))) (hl : r.length < 64)
    (k : ∀ s l H', s.Perm r → s.Pairwise (· ≤ ·) → H l = none → Ex H H' → H' l = some (.lst (nv s)) → Q (.ref l) H') : tCB (rSorted K) (tCons ta tNil) σ H Q := h H (Ex.refl H) _ fun H1 e1 =>
  ⟨a, iz r, rfl, sq_of (e1 a _ ha), by simpa [iz] using hl, fun ns l pm so new => by
    have pos : ∀ x ∈ ns, 0 ≤ x := fun x hx => by
      obtain ⟨y, _, rfl⟩ := List.mem_map.mp (show x ∈ r.map (fun y : Nat => (y : Int)) from pm.mem_iff.mp hx)
      omega
    have e : ns = iz (ns.map Int.toNat) := by
      unfold iz
      rw [List.map_map]
      conv => lhs; rw [← List.map_id ns]
      refine List.map_congr_left fun x hx => ?_
      have := pos x hx
      show x = ((x.toNat : Nat) : Int)
      omega
    have p2 : (ns.map Int.toNat).Perm r := by
      have := pm.map Int.toNat
      have e2 : (iz r).map Int.toNat = r := by
        unfold iz
        rw [List.map_map]
        conv => rhs; rw [← List.map_id r]
        exact List.map_congr_left fun x _ => rfl
      rwa [e2] at this
    refine k (ns.map Int.toNat) l _ p2 ?_ (fresh_back e1 new) (e1.trans (Ex.new new)) ?_
    · exact List.pairwise_map.mpr (so.imp fun z => Int.toNat_le_toNat z)
    · rw [upd_same]
      congr 2
      show ns.map V.int = (iz (ns.map Int.toNat)).map V.int
      rw [← e]⟩
theorem ep_min2 {p : Addr} {k : Nat} {a : Int} {C : Int → Prop} (ha : Ev ta σ H0 (.int a)) (hb : EvP p k tb σ H0 (fun v _ => ∃ r, v = .int r ∧ C r)) : EvP p k (tCB rMin2 (tCons ta (tCons tb tNil))) σ H0 (fun v _ => ∃ r, v = .int (if r < a then r else a) ∧ C r) := fun n H1 e hp hn Q q => ha H1 e _ fun H2 e2 => hb n H2 (e.trans e2) (hp.ex e2) hn _ fun v H3 ⟨r, ev, c⟩ p3 e3 => by
  subst ev
  exact ⟨a, r, rfl, q _ H3 ⟨r, rfl, c⟩ p3 (hm_trans (hm_of e2) e3)⟩
end
/-- the heap without some places -/
def Off (as : List Addr) (H : Hp) : Hp := fun x => if x ∈ as then none else H x
theorem off_some {as : List Addr} {H : Hp} {x : Addr} {o : HO} (h : Off as H x = some o) : x ∉ as ∧ H x = some o := by
  unfold Off at h
  split at h
  · exact absurd h (by simp)
  · exact ⟨by assumption, h⟩
theorem off_in {as : List Addr} {H : Hp} {x : Addr} (h : x ∉ as) : Off as H x = H x := by
  unfold Off
  rw [if_neg h]
theorem off_step {as bs : List Addr} {H H' : Hp} (h : ∀ x o, x ∉ as → H x = some o → x ∉ bs ∧ H' x = some o) : Ex (Off as H) (Off bs H') := fun x o hx => by
  obtain ⟨a, b⟩ := off_some hx
  obtain ⟨c, d⟩ := h x o a b
  rw [off_in c]
  exact d
theorem off_sub {as : List Addr} {H : Hp} : Ex (Off as H) H := fun _ _ h => (off_some h).2
theorem lotT_app (w : Int) (gs : List (List Nat)) (g : List Nat) : lotT w (gs ++ [g]) = lotT w gs * tabW w g := by
  unfold lotT
  rw [List.foldl_append]
  rfl
theorem lotF_bd {w : Int} (h0 : 1 ≤ w) (h1 : w ≤ 1000000000000) : ∀ (gs : List (List Nat)) (c : Int) (k : Nat), (∀ g ∈ gs, g.length ≤ 20) → 0 < c → c.natAbs < 2 ^ k → 0 < gs.foldl (fun t g => t * tabW w g) c ∧ (gs.foldl (fun t g => t * tabW w g) c).natAbs < 2 ^ (k + 400 * gs.length)
  | [], c, k, _, a, b => ⟨a, b⟩
  | g :: r, c, k, h, a, b => by
    have t := tabW_bd h0 h1 (g := g) (h g (by simp))
    have z := lotF_bd h0 h1 r (c * tabW w g) (k + 400) (fun x hx => h x (by simp [hx])) (Int.mul_pos a t.1) (by
      rw [Int.natAbs_mul, Nat.pow_add]
      exact Nat.mul_lt_mul_of_lt_of_le b (Nat.le_of_lt t.2) (Nat.pow_pos (by decide)))
    rw [List.foldl_cons, List.length_cons, show k + 400 * (r.length + 1) = k + 400 + 400 * r.length by omega]
    exact z
theorem lotT_bd {w : Int} (h0 : 1 ≤ w) (h1 : w ≤ 1000000000000) {gs : List (List Nat)} (h : ∀ g ∈ gs, g.length ≤ 20) : 0 < lotT w gs ∧ (lotT w gs).natAbs < 2 ^ (1 + 400 * gs.length) := lotF_bd h0 h1 gs 1 1 h (by decide) (by decide)
structure SpSt (p a b : Addr) (n m : Nat) (H H' : Hp) (left : List Nat) (gs : List (List Nat)) : Prop where
  ha : H' a = some (.lst (nv left))
  hb : ∃ ws, H' b = some (.lst ws) ∧ PL (Off [p, a, b] H') ws gs
  po : Po p (n + 3 * (m - left.length)) H'
  ex : Ex (Hm p H) H'
  sp : Split m left gs []
  ne : ∀ g ∈ gs, g ≠ [] ∧ g.Pairwise (· ≤ ·)
theorem SpSt.len {p a b : Addr} {n m : Nat} {H H' : Hp} {left : List Nat} {gs : List (List Nat)} (s : SpSt p a b n m H H' left gs) : left.length + gs.flatten.length = m := by
  have := split_len s.sp
  simpa using this
theorem SpSt.lots {p a b : Addr} {n m : Nat} {H H' : Hp} {left : List Nat} {gs : List (List Nat)} (s : SpSt p a b n m H H' left gs) (h : gs ≠ []) : Lots m gs := by
  have nd := split_nd s.sp
  rw [List.append_nil] at nd
  refine ⟨h, fun g hg => ⟨(s.ne g hg).1, ?_, fun x hx => split_lt s.sp x (by rw [List.append_nil]; exact List.mem_flatten.mpr ⟨g, hg, hx⟩)⟩, nd⟩
  have ng : g.Nodup := nd.sublist (List.sublist_flatten_of_mem hg)
  have := List.pairwise_and_iff.mpr ⟨(s.ne g hg).2, ng⟩
  exact this.imp fun ⟨a, b⟩ => by omega
theorem SpSt.lens {p a b : Addr} {n m : Nat} {H H' : Hp} {left : List Nat} {gs : List (List Nat)} (s : SpSt p a b n m H H' left gs) : gs.length + left.length ≤ m ∧ ∀ g ∈ gs, g.length ≤ m := by
  have l := s.len
  have f := flat_ge (gs := gs) fun g hg => by
    have := (s.ne g hg).1
    cases g with
    | nil => exact absurd rfl this
    | cons x r => simp
  refine ⟨by omega, fun g hg => ?_⟩
  have := (List.sublist_flatten_of_mem hg).length_le
  omega
theorem su_split {H : Hp} {n : Nat} {w : Int} {a : Addr} {ws : List V} {gs : List (List Nat)} (ha : H a = some (.lst ws)) (ht : PL H ws gs) (o : Lots n gs) (hn : n ≤ 20) (h0 : 1 ≤ w) (h1 : w ≤ 1000000000000) : SpU sp_split_share ([.int (n : Int), .int w, .ref a] ++ []) H (frac (lotT w gs) (rise w gs.flatten.length)) := fun H1 e Q q E => ⟨n, w, a, ws, gs, rfl, e a _ ha, PL.ex e ht, o, hn, h0, h1, q⟩

local macro_rules | `(tactic| walk_at "call") => `(tactic| (with_reducible exact sv_whole))
local macro_rules | `(tactic| walk_at "call") => `(tactic| (with_reducible exact sv_between))
local macro_rules | `(tactic| walk_at "call") => `(tactic| ((with_reducible refine' sv_check1 ?c1 ?c2); (case c1 => walk_at "side"); (case c2 => walk_at "side")))
local macro_rules | `(tactic| walk_at "call") => `(tactic| ((with_reducible refine' sv_check_number ?c1 ?c2); (case c1 => walk_at "side"); (case c2 => walk_at "side")))
local macro_rules | `(tactic| walk_at "callU") => `(tactic| ((with_reducible refine' su_fraction ?c1 ?c2); (case c1 => walk_at "side"); (case c2 => walk_at "side")))
local macro_rules | `(tactic| walk_at "call") => `(tactic| ((with_reducible refine' sv_rise ?c1 ?c2); (case c1 => walk_at "side"); (case c2 => walk_at "side")))

theorem range_iz (n : Nat) : rgV 0 (n : Int) = nv (List.range n) := by
  rw [nv_eq]
  unfold rgV
  simp
section
variable {P : Program} {w : World} {K : PySem.W.Frag} {mg : Str → Option Value} {base : Heap}
theorem ok_law_split_right (T : Tx K mg) : FnOk P w K mg base CX0 7 T.f_law_split_right T.d_law_split_right ["store", "many_here", "heavy"] sp_open_right := by
  refine T.F_law_split_right.ok sc_law_split_right (fun vs H Q E h => ?_) (fun cdv A outer s H vs Q E hr h => ?_)
  · obtain ⟨p, n, m, x, rfl, _⟩ := h
    rfl
  · obtain ⟨p, n, m, x, rfl, hpo, hn, m1, m20, h0, h1, k⟩ := h
    refine ⟨_, (pss_cons (ps_par (i := 3) (j := 4) (by rfl) sc_law_split_right.nd rfl rfl (by decide) rfl rfl (pa_cons (pe_listRg rfl (by rfl) T.m_list (prg_1 (by rfl) T.m_range (pv 1))) (pa_cons (pe_lst pa_nil) pa_nil)) (by rfl))
      (pss_cons (ps_asg (pe_tup (pa_cons pe_int (pa_cons pe_int pa_nil))) (pg_tup rfl (pgs_cons (pg_name (i := 5) sc_law_split_right.nd rfl (Or.inl rfl)) (pgs_cons (pg_name (i := 6) sc_law_split_right.nd rfl (Or.inl rfl)) pgs_nil))))
      (pss_cons (ps_while PassesOwn.never (PW.pt (pw_and (pt_cmpR (op_neD hr.units) (pv 3) (pe_lst pa_nil) (nomark _)) (pw_and1 (pt_cmpR op_lt (pe_callB call_lenR (by rfl) T.m_len (by decide +kernel) (pa_cons (pv 4) pa_nil)) (pe_op op_add pe_int (pe_call (ok_law_pick T) (hr.mono (by decide)) (by rfl) T.g_law_pick T.F_law_pick.kp T.b_law_pick .nil pass0 (pa_cons (pv 0) (pa_cons pe_int pa_nil)))) (nomark _))))) (pss_cons (ps_set (i := 7) sc_law_split_right.nd rfl (Or.inl rfl) (pe_lst pa_nil))
      (pss_cons (ps_for PassesOwn.never rfl (pi_range1 (by rfl) T.m_range (pa_cons (pe_callB (call_minR rfl) (by rfl) T.m_min (by decide +kernel) (pa_cons (pe_callB call_lenR (by rfl) T.m_len (by decide +kernel) (pa_cons (pv 3) pa_nil)) (pa_cons (pe_op op_add pe_int (pe_call (ok_law_pick T) (hr.mono (by decide)) (by rfl) T.g_law_pick T.F_law_pick.kp T.b_law_pick .nil pass0 (pa_cons (pv 0) (pa_cons pe_int pa_nil)))) pa_nil))) pa_nil)) (pg_name (i := 8) sc_law_split_right.nd rfl (Or.inl rfl)) (pss_one (ps_expr (pe_bm PySem.F.plainAttrs_list PySem.F.slot_list_append PySem.F.type_list_append mt_append (pv 7) (pa_cons (pe_bm PySem.F.plainAttrs_list PySem.F.slot_list_pop PySem.F.type_list_pop mt_popAt (pv 3) (pa_cons (pe_call (ok_law_pick T) (hr.mono (by decide)) (by rfl) T.g_law_pick T.F_law_pick.kp T.b_law_pick .nil pass0 (pa_cons (pv 0) (pa_cons (pe_callB call_lenR (by rfl) T.m_len (by decide +kernel) (pa_cons (pv 3) pa_nil)) pa_nil))) pa_nil)) pa_nil)))))
      (pss_cons (ps_expr (pe_bm PySem.F.plainAttrs_list PySem.F.slot_list_append PySem.F.type_list_append mt_append (pv 4) (pa_cons (pe_callB cr_sorted (by rfl) T.m_sorted (by decide +kernel) (pa_cons (pv 7) pa_nil)) pa_nil)))
      (pss_one (ps_par (i := 5) (j := 6) (by rfl) sc_law_split_right.nd rfl rfl (by decide) rfl rfl (pa_cons (pe_op op_mulX (pe_op op_mulX (pv 5) (pv 2)) (pe_call (ok_law_rising T) (hr.mono (by decide)) (by rfl) T.g_law_rising T.F_law_rising.kp T.b_law_rising .nil pass0 (pa_cons pe_int (pa_cons (pe_op op_sub (pe_callB call_lenR (by rfl) T.m_len (by decide +kernel) (pa_cons (pv 7) pa_nil)) pe_int) pa_nil)))) (pa_cons (pe_op op_add (pv 6) (pe_callB call_lenR (by rfl) T.m_len (by decide +kernel) (pa_cons (pv 7) pa_nil))) pa_nil)) (by rfl)))))))
      (pss_one (ps_ret (pe_cmpR (op_eqD hr.units) (pe_call (ok_split_share T) (hr.mono (by decide)) (by rfl) T.g_split_share T.F_split_share.kp T.b_split_share .nil pass0 (pa_cons (pv 1) (pa_cons (pv 2) (pa_cons (pv 4) pa_nil)))) (pe_call (ok_law_lowest T) (hr.mono (by decide)) (by rfl) T.g_law_lowest T.F_law_lowest.kp T.b_law_lowest .nil pass0 (pa_cons (pv 5) (pa_cons (pe_call (ok_law_rising T) (hr.mono (by decide)) (by rfl) T.g_law_rising T.F_law_rising.kp T.b_law_rising .nil pass0 (pa_cons (pv 2) (pa_cons (pv 6) pa_nil))) pa_nil))) (nomark _))))))), ?_⟩
    refine q_parLF (xs := nv (List.range m)) (ys := nv []) ?_ (el_lst ea_nil (Nat.le_of_ble_eq_true rfl)) fun a b H1 na nb ab e1 ha1 hb1 => ?_
    · have g := el_rg1 (σ := start n_law_split_right [.ref p, .int (m : Int), .int x]) (H := H) (tb := tVar 1) (b := (m : Int)) (ev_var rfl) (RgOk.of_le (by decide) (by omega) (by decide) (by omega))
      rw [range_iz] at g
      exact g
    have ap : a ≠ p := hpo.ne na
    have bp : b ≠ p := hpo.ne nb
    refine q_tup2U (K := K) (x := .int 1) (y := .int 0) (eu_tup (ea_cons ev_c (ea_cons ev_c ea_nil)) (Nat.le_of_ble_eq_true rfl)) fun H2 e2 => ?_
    refine ⟨fun mm σ' H' => ∃ (left : List Nat) (gs : List (List Nat)) (y7 y8 : Option V), σ' = [some (.ref p), some (.int (m : Int)), some (.int x), some (.ref a), some (.ref b), some (.int (lotT x gs)), some (.int (gs.flatten.length : Int)), y7, y8] ∧ SpSt p a b n m H H' left gs ∧ mm = left.length, ⟨m, List.range m, [], none, none, rfl, ?_, by simp⟩, ?_⟩
    · refine ⟨e2 a _ ha1, ⟨[], e2 b _ hb1, .nil⟩, (hpo.ex (e1.trans e2)).mono (by omega), hm_of (e1.trans e2), split_start m, fun g hg => by simp at hg⟩
    rintro mm σ' H' ⟨left, gs, y7, y8, rfl, st, rfl⟩
    have ll := st.len
    have ls := st.lens
    obtain ⟨ws, hb, pl⟩ := st.hb
    have wl : ws.length = gs.length := Paired.length pl
    have fin : ∀ H3, gs ≠ [] → Po p (n + 3 * (m - left.length) + 1) H3 → Ex (Hm p H') H3 → (tRet (tOp (rEqD K) (tCall sp_split_share [] E0 (tCons (tVar 1) (tCons (tVar 2) (tCons (tVar 4) tNil)))) (tCall sp_lowest [] E0 (tCons (tVar 5) (tCons (tCall sp_rise [] E0 (tCons (tVar 2) (tCons (tVar 6) tNil))) tNil))))) { nx := fun _ H' => Q .non H', rt := Q } [some (.ref p), some (.int (m : Int)), some (.int x), some (.ref a), some (.ref b), some (.int (lotT x gs)), some (.int (gs.flatten.length : Int)), y7, y8] H3 := fun H3 gne p3 e3 => by
      have sh := shaped_shD (lotT x gs) (rise x gs.flatten.length)
      have lb := lotT_bd h0 h1 (gs := gs) fun g hg => by have := ls.2 g hg; omega
      have rk := rise_ok h0 h1 (n := gs.flatten.length) (by omega)
      have pl3 : PL H3 ws gs := PL.ex (fun y o hy => by
        obtain ⟨hy1, hy2⟩ := off_some hy
        exact hm_at e3 (fun z => hy1 (by simp [z])) hy2) pl
      refine s_ret (v := .bl true) (ev_is (ev_eqD (ed_frac (eu_call (ea_cons (ev_var rfl) (ea_cons (ev_var rfl) (ea_cons (ev_var rfl) ea_nil))) (su_split (hm_at e3 bp hb) pl3 (st.lots gne) m20 h0 h1))) (ed_frac (eu_call (ea_cons (ev_var rfl) (ea_cons (ev_call (ea_cons (ev_var rfl) (ea_cons (ev_var rfl) ea_nil)) (sv_rise (by omega) (by omega))) ea_nil)) (su_lowest (Int.le_of_lt lb.1) rk.1 (two_ok rk.2 (by decide))))) sh sh) (by rw [eqv_same sh])) fun H4 e4 => ?_
      exact k H4 ((p3.ex e4).mono (by omega)) (hm_trans st.ex (hm_trans e3 (hm_of e4)))
    have tl := ev_neD (ed_of (K := K) (σ := [some (.ref p), some (.int (m : Int)), some (.int x), some (.ref a), some (.ref b), some (.int (lotT x gs)), some (.int (gs.flatten.length : Int)), y7, y8]) (te := tVar 3) (ev_var rfl) (dp_L st.ha)) (ed_lst eda_nil (Nat.le_of_ble_eq_true rfl)) (shaped_di left) (by decide +kernel)
    by_cases hl : left = []
    · have gne : gs ≠ [] := fun z => by
        subst z hl
        simp at ll
        omega
      have e0 : (!PyData.eqv (di left) (.list [])) = false := by
        subst hl
        decide +kernel
      rw [e0] at tl
      refine w_and_f (et_test tl) fun H3 e3 => iteF ?_
      exact fin H3 gne ((st.po.ex e3).mono (by omega)) (hm_of e3)
    · have e0 : (!PyData.eqv (di left) (.list [])) = true := by
        cases left with
        | nil => exact absurd rfl hl
        | cons y r => rfl
      rw [e0] at tl
      have l1 : 1 ≤ left.length := by
        cases left with
        | nil => exact absurd rfl hl
        | cons y r => simp
      refine w_and_t (et_test tl) fun H3 e3 => ?_
      have p3 := st.po.ex e3
      have hb3 := e3 b _ hb
      refine ev_len (K := K) (ev_var (i := 4) rfl) (sq_of hb3) H3 (Ex.refl H3) _ fun H4 e4 => ?_
      refine ⟨.ref p, rfl, p, _, 20, rfl, p3.ex e4, by omega, by decide, by decide, fun r H5 r0 r1 p5 e5 => ⟨1, r, rfl, rfl, _, _, rfl, rfl, _, rfl, ?_⟩⟩
      have e35 : Ex (Hm p H') H5 := hm_trans (hm_of (e3.trans e4)) e5
      by_cases hlt : (ws.length : Int) < 1 + r
      · rw [decide_eq_true hlt]
        refine iteT ?_
        refine ⟨fun σ2 H6 => ∃ (lf : List Nat) (gs2 : List (List Nat)) (y7 y8 : Option V), σ2 = [some (.ref p), some (.int (m : Int)), some (.int x), some (.ref a), some (.ref b), some (.int (lotT x gs2)), some (.int (gs2.flatten.length : Int)), y7, y8] ∧ SpSt p a b n m H H6 lf gs2 ∧ lf.length < left.length, fun σ2 H6 ⟨lf, gs2, z7, z8, q1, q2, q3⟩ => ⟨lf.length, q3, lf, gs2, z7, z8, q1, q2, rfl⟩, ?_⟩
        have hb5 := hm_at e35 bp hb
        have ha5 := hm_at e35 ap st.ha
        have pl5 : PL (Off [p, a, b] H5) ws gs := PL.ex (off_step fun y o hy ho => ⟨hy, hm_at e35 (fun z => hy (by simp [z])) ho⟩) pl
        refine q_asgL (xs := nv []) (el_lst ea_nil (Nat.le_of_ble_eq_true rfl)) fun c H6 nc e6 hc => ?_
        have cp : c ≠ p := p5.ne nc
        have ca : c ≠ a := fun z => by
          rw [z, ha5] at nc
          cases nc
        have cb : c ≠ b := fun z => by
          rw [z, hb5] at nc
          cases nc
        have p6 := p5.ex e6
        have ha6 := e6 a _ ha5
        have hb6 := e6 b _ hb5
        have la : Ev (tCB (rLenS K) (tCons (tVar 3) tNil)) [some (.ref p), some (.int (m : Int)), some (.int x), some (.ref a), some (.ref b), some (.int (lotT x gs)), some (.int (gs.flatten.length : Int)), some (.ref c), y8] (Hm p H6) (.int (left.length : Int)) := by
          have ham : Hm p H6 a = some (.lst (nv left)) := by
            unfold Hm
            rw [if_neg ap]
            exact ha6
          have := ev_len (K := K) (ta := tVar 3) (σ := [some (.ref p), some (.int (m : Int)), some (.int x), some (.ref a), some (.ref b), some (.int (lotT x gs)), some (.int (gs.flatten.length : Int)), some (.ref c), y8]) (ev_var (i := 3) rfl) (sq_of ham)
          rw [nv_len] at this
          exact this
        refine pq_forR1 (p := p) (H0 := Hm p H6) (C := fun t => 1 ≤ t ∧ t ≤ left.length ∧ t ≤ 5) (ep_is (ep_min2 (C := fun r => 1 ≤ r ∧ r ≤ 5) la (ep_is (ep_add (C := fun r => 0 ≤ r ∧ r < 5) hm_p ev_c (ep_dipI (w := 5) hm_p (ev_var rfl) ev_c (by decide) (by decide))) ?_)) ?_) hm_sub p6 (by omega) fun t H7 ⟨t1, t2, t3⟩ p7 e7 => ?_
        · rintro v _ ⟨r, rfl, r0, r1⟩
          exact ⟨1 + r, rfl, by omega, by omega⟩
        · rintro v _ ⟨r, rfl, r1, r5⟩
          exact ⟨(if r < (left.length : Int) then r else (left.length : Int)).toNat, congrArg V.int (by split <;> omega), by split <;> omega, by split <;> omega, by split <;> omega⟩
        refine q_forR1 (n := (t : Int)) (ea_cons ev_c ea_nil) ⟨by omega, by omega⟩ (fun i σ' H' => ∃ (lf r : List Nat) (z8 : Option V), σ' = [some (.ref p), some (.int (m : Int)), some (.int x), some (.ref a), some (.ref b), some (.int (lotT x gs)), some (.int (gs.flatten.length : Int)), some (.ref c), z8] ∧ H' a = some (.lst (nv lf)) ∧ H' c = some (.lst (nv r)) ∧ H' b = some (.lst ws) ∧ PL (Off [p, a, b, c] H') ws gs ∧ r.length = i ∧ lf.length + i = left.length ∧ Split m lf gs r ∧ Po p (n + 3 * (m - left.length) + 2 + i) H' ∧ Ex (Hm p H) H')
          (fun H8 e8 => ⟨left, [], y8, rfl, e8 a _ (hm_at e7 ap ha6), e8 c _ (hm_at e7 cp hc), e8 b _ (hm_at e7 bp hb6), ?_, rfl, rfl, st.sp, (p7.ex e8).mono (by omega), ?_⟩) ?_ ?_
        · refine PL.ex (off_step fun y o hy ho => ⟨fun z => ?_, e8 y _ (hm_at e7 (fun z => hy (by simp [z])) (e6 y _ ho))⟩) pl5
          rcases List.mem_cons.mp z with z | z
          · exact hy (by simp [z])
          · rcases List.mem_cons.mp z with z | z
            · exact hy (by simp [z])
            · rcases List.mem_cons.mp z with z | z
              · exact hy (by simp [z])
              · have zc := List.mem_singleton.mp z
                rw [zc, nc] at ho
                cases ho
        · exact hm_trans st.ex (hm_trans e35 (hm_trans (hm_of e6) (e7.trans e8)))
        · rintro i σ' H' hi ⟨lf, r, z8, rfl, ha', hc', hb', pl', rl, lfl, sp', p', e'⟩
          refine s_appE hc' (ev_var rfl) fun H8 e8 => ?_
          refine t_popAt (e8 a _ ha') (ev_var rfl) fun H9 e9 => ?_
          have ha9 := e9 a _ (e8 a _ ha')
          have ham : Hm p H9 a = some (.lst (nv lf)) := by
            unfold Hm
            rw [if_neg ap]
            exact ha9
          have wd : Ev (tCB (rLenS K) (tCons (tVar 3) tNil)) [some (.ref p), some (.int (m : Int)), some (.int x), some (.ref a), some (.ref b), some (.int (lotT x gs)), some (.int (gs.flatten.length : Int)), some (.ref c), some (.int (i : Int))] (Hm p H9) (.int (lf.length : Int)) := by
            have := ev_len (K := K) (ta := tVar 3) (σ := [some (.ref p), some (.int (m : Int)), some (.int x), some (.ref a), some (.ref b), some (.int (lotT x gs)), some (.int (gs.flatten.length : Int)), some (.ref c), some (.int (i : Int))]) (ev_var (i := 3) rfl) (sq_of ham)
            rw [nv_len] at this
            exact this
          refine ep_dipI (p := p) (H0 := Hm p H9) (w := (lf.length : Int)) hm_p (ev_var (i := 0) rfl) wd (by omega) (by omega) (n + 3 * (m - left.length) + 2 + i) H9 hm_sub (p'.ex (e8.trans e9)) (by omega) _ fun v H10 hv p10 e10 => ?_
          obtain ⟨u, rfl, u0, u1⟩ := hv
          obtain ⟨j, rfl⟩ : ∃ j : Nat, u = j := ⟨u.toNat, by omega⟩
          have hj : j < lf.length := by omega
          have e'10 : Ex (Hm p H') H10 := hm_trans (hm_of (e8.trans e9)) e10
          have ha10 := hm_at e'10 ap ha'
          have hc10 := hm_at e'10 cp hc'
          have hb10 := hm_at e'10 bp hb'
          refine ⟨a, nv lf, j, j, .int (lf[j] : Nat), rfl, rfl, ha10, by omega, by omega, seq_at (by rw [nv_len]; exact hj), nv_get (List.getElem?_eq_getElem hj), ?_⟩
          refine ⟨c, nv r, .int (lf[j] : Nat), rfl, rfl, by rw [upd_ne ca]; exact hc10, sz_lt (by rw [nv_len]; omega), ?_⟩
          refine ⟨lf.eraseIdx j, r ++ [lf[j]], _, rfl, ?_, ?_, ?_, ?_, ?_, ?_, split_pop sp' hj, ?_, ?_⟩
          · rw [upd_ne (Ne.symm ca), upd_same, nv_erase]
          · rw [upd_same, nv_app]
            rfl
          · rw [upd_ne (Ne.symm cb), upd_ne (Ne.symm ab)]
            exact hb10
          · refine PL.ex (off_step fun y o hy ho => ⟨hy, ?_⟩) pl'
            rw [upd_ne (fun z => hy (by simp [z])), upd_ne (fun z => hy (by simp [z]))]
            exact hm_at e'10 (fun z => hy (by simp [z])) ho
          · rw [List.length_append, List.length_singleton, rl]
          · rw [List.length_eraseIdx_of_lt hj]
            omega
          · exact (p10.upd ap).upd cp
          · exact Ex.mut (Ex.mut (hm_trans e' e'10) (by unfold Hm; rw [if_neg ap]; exact na)) (fresh_back (hm_trans st.ex e35) nc)
        · rintro σ' H8 ⟨lf, r, z8, rfl, ha8, hc8, hb8, pl8, rl, lfl, sp8, p8, e8⟩
          rw [Int.toNat_natCast] at rl lfl p8
          have rne : 1 ≤ r.length := by omega
          refine q_appE hb8 (ev_var rfl) fun H9 e9 => ?_
          refine t_sortN (ev_var rfl) (e9 c _ hc8) (by omega) fun s l H10 spm so nl e10 hl10 => ?_
          have sl : s.length = t := spm.length_eq.trans rl
          refine ⟨b, ws, .ref l, rfl, rfl, e10 b _ (e9 b _ hb8), sz_lt (by omega), ?_⟩
          have lp : l ≠ p := (p8.ex e9).ne nl
          have la' : l ≠ a := fun z => by
            rw [z, e9 a _ ha8] at nl
            cases nl
          have lb' : l ≠ b := fun z => by
            rw [z, e9 b _ hb8] at nl
            cases nl
          have hcU : (upd H10 b (.lst (ws ++ [.ref l]))) c = some (.lst (nv r)) := by
            rw [upd_ne cb]
            exact e10 c _ (e9 c _ hc8)
          have lc : Ev (tCB (rLenS K) (tCons (tVar 7) tNil)) [some (.ref p), some (.int (m : Int)), some (.int x), some (.ref a), some (.ref b), some (.int (lotT x gs)), some (.int (gs.flatten.length : Int)), some (.ref c), z8] (upd H10 b (.lst (ws ++ [.ref l]))) (.int (t : Int)) := by
            have := ev_len (K := K) (ta := tVar 7) (σ := [some (.ref p), some (.int (m : Int)), some (.int x), some (.ref a), some (.ref b), some (.int (lotT x gs)), some (.int (gs.flatten.length : Int)), some (.ref c), z8]) (ev_var (i := 7) rfl) (sq_of hcU)
            rw [nv_len, rl] at this
            exact this
          have lb := lotT_bd h0 h1 (gs := gs) fun g hg => by have := ls.2 g hg; omega
          have r1k := rise_ok (w := 1) (by decide) (by decide) (n := t - 1) (by omega)
          have q1 : CMulX (lotT x gs) x := mulx_ok (b := 64) lb.2 (by omega) (by omega)
          have q2b : (lotT x gs * x).natAbs < 2 ^ (1 + 400 * gs.length + 64) := by
            rw [Int.natAbs_mul, Nat.pow_add]
            exact Nat.mul_lt_mul_of_lt_of_le lb.2 (by omega) (Nat.pow_pos (by decide))
          have q2 : CMulX (lotT x gs * x) (rise 1 (t - 1)) := mulx_ok q2b r1k.2 (by omega)
          refine (ea_cons (x := .int (lotT x (gs ++ [s]))) (ev_is (ev_op (ev_op (ev_var rfl) (ev_var rfl) (rv_I q1)) (ev_call (vs := [.int 1, .int ((t - 1 : Nat) : Int)]) (ea_cons ev_c (ea_cons (ev_is (ev_op lc ev_c rv_I0) (by congr 1; omega)) ea_nil)) (sv_rise (n := t - 1) (by decide) (by omega))) (rv_I q2)) ?_) (ea_cons (x := .int ((gs ++ [s]).flatten.length : Int)) (ev_is (ev_op (ev_var rfl) lc rv_I0) ?_) ea_nil)) _ (Ex.refl _) _ fun H12 e12 => ⟨_, _, rfl, lf, gs ++ [s], _, _, rfl, ?_, by omega⟩
          · rw [lotT_app]
            unfold tabW
            rw [sl, fac_rise1, Int.mul_assoc]
          · rw [List.flatten_append, List.length_append]
            congr 1
            simp [sl]
          · have eo : ∀ y o, y ≠ b → H8 y = some o → H12 y = some o := fun y o hy ho => e12 y o (by
              rw [upd_ne hy]
              exact e10 y o (e9 y o ho))
            refine ⟨eo a _ ab ha8, ⟨ws ++ [.ref l], e12 b _ upd_same, Paired.snoc (PL.ex (off_step fun y o hy ho => ⟨fun z => hy (List.mem_append_left [c] z), eo y o (fun z => hy (by simp [z])) ho⟩) pl8) ⟨l, rfl, ?_⟩⟩, (((((p8.ex e9).ex e10).upd bp).ex e12).mono (by omega)), ?_, ?_, ?_⟩
            · rw [off_in (by simp [lp, la', lb'])]
              exact e12 l _ (by rw [upd_ne lb']; exact hl10)
            · exact (Ex.mut (hm_trans e8 (hm_of (e9.trans e10))) (by unfold Hm; rw [if_neg bp]; exact nb)).trans e12
            · exact split_lot sp8 spm
            · intro g hg
              rcases List.mem_append.mp hg with z | z
              · exact st.ne g z
              · rw [List.mem_singleton.mp z]
                refine ⟨fun z2 => ?_, so⟩
                rw [z2] at sl
                simp at sl
                omega
      · rw [decide_eq_false hlt]
        refine iteF ?_
        have gne : gs ≠ [] := fun z => by
          subst z
          rw [wl] at hlt
          simp at hlt
          omega
        exact fin H5 gne p5 e35
end

local macro_rules | `(tactic| walk_at "call") => `(tactic| (with_reducible exact sv_whole))
local macro_rules | `(tactic| walk_at "call") => `(tactic| (with_reducible exact sv_between))
local macro_rules | `(tactic| walk_at "call") => `(tactic| ((with_reducible refine' sv_check1 ?c1 ?c2); (case c1 => walk_at "side"); (case c2 => walk_at "side")))
local macro_rules | `(tactic| walk_at "call") => `(tactic| ((with_reducible refine' sv_check_number ?c1 ?c2); (case c1 => walk_at "side"); (case c2 => walk_at "side")))
local macro_rules | `(tactic| walk_at "callU") => `(tactic| ((with_reducible refine' su_fraction ?c1 ?c2); (case c1 => walk_at "side"); (case c2 => walk_at "side")))
local macro_rules | `(tactic| walk_at "call") => `(tactic| ((with_reducible refine' sv_rise ?c1 ?c2); (case c1 => walk_at "side"); (case c2 => walk_at "side")))

/-! ### law -/
section
variable {K : PySem.W.Frag} {σ : L2.St} {H H0 : Hp} {ta tb tc te : TE} {p : Addr} {k k1 k2 : Nat} {Ra Rb : V → Hp → Prop} {D : Ends} {tz : TS} {t : TA}
theorem ed_share {a b x y : Int} (h : EvU te σ H (frac a b)) (e1 : a / cd a b = x) (e2 : b / cd a b = y) : EvD K te σ H (.tuple [.int x, .int y]) := by
  subst e1
  subst e2
  exact ed_ofU h (dpa_frac a b)
theorem ed_pair {x y : Int} (h : Ev ta σ H (.int x)) (h2 : Ev tb σ H (.int y)) : EvD K (tTup (tCons ta (tCons tb tNil))) σ H (.tuple [.int x, .int y]) := ed_ofU (eu_tup (ea_cons h (ea_cons h2 ea_nil)) (Nat.le_of_ble_eq_true rfl)) (.cons (.int _) (.cons (.int _) .nil))
theorem dpa_pairs : ∀ {ws : List V} (ps : List (Int × Int)), TL H ws (ps.map fun p => [.int p.1, .int p.2]) → DpAll K H ws (ps.map fun p => .tuple [.int p.1, .int p.2])
  | [], [], _ => .nil
  | _ :: _, p :: l, .cons ⟨b, e, h⟩ q => by
    subst e
    exact .cons (.tup (st_of h) (.cons (.int _) (.cons (.int _) .nil))) (dpa_pairs l q)
theorem ed_pairs (ps : List (Int × Int)) (h : EvLT te σ H (ps.map fun p => [.int p.1, .int p.2])) : EvD K te σ H (.list (ps.map fun p => .tuple [.int p.1, .int p.2])) := fun H1 e Q q => h H1 e _ fun p ws H2 _ e2 h2 ht => q _ H2 e2 (.lst (sq_of h2) (dpa_pairs ps ht))
theorem ep_heavy {E : XK} (ha : Ev ta σ H (.ref p)) : EvP p 4 (tCall sp_law_heavy [] E (tCons ta tNil)) σ H (fun v _ => ∃ x : Int, v = .int x ∧ 1 ≤ x ∧ x ≤ 1000000000000) := fun n H1 e hp hn Q q =>
  ha H1 e _ fun H2 e2 => ⟨p, n, rfl, hp.ex e2, by omega, fun x H3 x1 x2 p3 e3 => q _ H3 ⟨x, rfl, x1, x2⟩ (p3.mono (by omega)) (hm_trans (hm_of e2) e3)⟩
theorem pq_par2 {n i j : Nat} (h0 : H0 p = none) (ha : EvP p k1 ta σ H0 Ra) (hb : EvP p k2 tb σ H0 Rb) (s1 : Stb p Ra) (e : Ex H0 H) (hp : Po p n H) (hn : n + (k1 + k2) ≤ 1000000000) (q : ∀ x y H2, Ra x H2 → Rb y H2 → Po p (n + (k1 + k2)) H2 → Ex (Hm p H) H2 → tz D ((σ.set i (some x)).set j (some y)) H2) :
    tSeq (tPar i j (tCons ta (tCons tb tNil))) tz D σ H := ha n H e hp (by omega) _ fun x H1 hx p1 e1 => hb (n + k1) H1 (hm_next h0 e e1) p1 (by omega) _ fun y H2 hy p2 e2 => ⟨_, _, rfl, q x y H2 (s1 x H1 H2 hx e2) hy (by rw [← Nat.add_assoc]; exact p2) (hm_trans e1 e2)⟩
theorem ep_callS {S : Addr → Prop} {i m : Nat} {f : Addr} {x : Int} (hs : σ[i]? = some (some (.ref f))) (hS : S f) (ha : EvA t σ H0 [.ref p, .int (m : Int), .int x]) (m1 : 1 ≤ m) (m20 : m ≤ 20) (h0 : 1 ≤ x) (h1 : x ≤ 1000000000000) :
    EvP p 1001 (tCallS i S sp_open_right t) σ H0 (fun v _ => v = .bl true) := fun n H1 e hp hn Q q => ⟨⟨f, hs, hS⟩, ha H1 e _ fun H2 e2 => ⟨p, n, m, x, rfl, hp.ex e2, by omega, m1, m20, h0, h1, fun H3 p3 e3 => q _ H3 rfl (p3.mono (by omega)) (hm_trans (hm_of e2) e3)⟩⟩
end
section
variable {σ : L2.St} {H : Hp} {ta tb tc : TE}
theorem eu_l3 {sp : Sp} {E : XK} {x y : V} {xs ys : List V} (ha : Ev ta σ H x) (hb : Ev tb σ H y) (hl : EvL tc σ H ys) (hs : ∀ l H1, Ex H H1 → H1 l = some (.lst ys) → SpU sp ([x, y, .ref l] ++ []) H1 xs) : EvU (tCall sp [] E (tCons ta (tCons tb (tCons tc tNil)))) σ H xs := fun H1 e Q q => ha H1 e _ fun H2 e2 => hb H2 (e.trans e2) _ fun H3 e3 => hl H3 (e.trans (e2.trans e3)) _ fun l H4 nl e4 h4 => hs l H4 (e.trans (e2.trans (e3.trans e4))) h4 H4 (Ex.refl _) Q (fun c H5 nc e5 h5 => q c H5 (fresh_back (e2.trans (e3.trans e4)) nc) (e2.trans (e3.trans (e4.trans e5))) h5) E
end
theorem max_min4 {m : Int} (h0 : 0 ≤ m) : 0 ≤ (if (if m < 4 then m else 4) > 1 then (if m < 4 then m else 4) else 1) ∧ (if (if m < 4 then m else 4) > 1 then (if m < 4 then m else 4) else 1) ≤ (4 : Int) := by
  split <;> split <;> omega
def sp_law (K : PySem.W.Frag) : Sp := fun vs H Q _ => ∃ (a : Addr) (ns : List Int), vs = [.ref a] ∧ SqL K H a (ns.map V.int) ∧ ns.length ≤ 63 ∧ ∀ H', Q (.bl true) H'
theorem gang_all : Gang 20 (List.range 20) := ⟨by decide, by decide, fun x hx => List.mem_range.mp hx⟩
section
variable {P : Program} {w : World} {K : PySem.W.Frag} {mg : Str → Option Value} {base : Heap}
theorem ok_law (T : Tx K mg) : FnOkG P w K mg base 8 T.f_law T.d_law ["script"] (sp_law K) := by
  refine funG T.F_law sc_law (fun vs H Q E h => ?_) (fun cdv A outer s0 H vs Q E hg hr h => ?_)
  · obtain ⟨a, ns, rfl, _⟩ := h
    rfl
  · obtain ⟨a, ns, rfl, hs, hl, k⟩ := h
    refine ⟨_, (pss_cons (ps_for PassesOwn.never rfl (pi_range1 (by rfl) T.m_range (pa_cons (pe_callB (call_maxR rfl) (by rfl) T.m_max (by decide +kernel) (pa_cons pe_int (pa_cons (pe_callB (call_minR rfl) (by rfl) T.m_min (by decide +kernel) (pa_cons pe_int (pa_cons (pe_callB call_lenR (by rfl) T.m_len (by decide +kernel) (pa_cons (pv 0) pa_nil)) pa_nil))) pa_nil))) pa_nil)) (pg_name (i := 1) sc_law.nd rfl (Or.inl rfl)) (pss_cons (ps_set (i := 2) sc_law.nd rfl (Or.inl rfl) (pe_call (ok_law_store T) (hr.mono (by decide)) (by rfl) T.g_law_store T.F_law_store.kp T.b_law_store .nil pass0 (pa_cons (pv 0) (pa_cons (pv 1) pa_nil))))
      (pss_one (ps_for PassesOwn.never rfl (pi_tup (pe_tup (pa_cons pe_int (pa_cons pe_int pa_nil)))) (pg_name (i := 3) sc_law.nd rfl (Or.inl rfl)) (pss_cons (ps_par (i := 4) (j := 5) (by rfl) sc_law.nd rfl rfl (by decide) rfl rfl (pa_cons (pe_op op_sub (pv 3) (pe_call (ok_law_pick T) (hr.mono (by decide)) (by rfl) T.g_law_pick T.F_law_pick.kp T.b_law_pick .nil pass0 (pa_cons (pv 2) (pa_cons (pe_ix ix_list (pe_lst (pa_cons pe_int (pa_cons (pv 3) pa_nil))) (pe_call (ok_law_pick T) (hr.mono (by decide)) (by rfl) T.g_law_pick T.F_law_pick.kp T.b_law_pick .nil pass0 (pa_cons (pv 2) (pa_cons pe_int pa_nil))) (fun _ _ => rfl)) pa_nil)))) (pa_cons (pe_call (ok_law_heavy T) (hr.mono (by decide)) (by rfl) T.g_law_heavy T.F_law_heavy.kp T.b_law_heavy .nil pass0 (pa_cons (pv 2) pa_nil)) pa_nil)) (by rfl))
      (pss_one (ps_for PassesOwn.never rfl (pi_tup (pe_tup (pa_cons (pe_gc (v := .ref T.f_law_open_right) (by rfl) ⟨_, T.g_law_open_right, rfl⟩) (pa_cons (pe_gc (v := .ref T.f_law_group_right) (by rfl) ⟨_, T.g_law_group_right, rfl⟩) (pa_cons (pe_gc (v := .ref T.f_law_split_right) (by rfl) ⟨_, T.g_law_split_right, rfl⟩) (pa_cons (pe_gc (v := .ref T.f_law_steps_right) (by rfl) ⟨_, T.g_law_steps_right, rfl⟩) pa_nil)))))) (pg_name (i := 6) sc_law.nd rfl (Or.inl rfl)) (pss_one (ps_if (pt_not (pt_val (Kit.pe_callVS (n := 7) (i := 6) (Kit.cal_or (Kit.cal_of (FnOkG.mono (ok_law_open_right T) (by decide)) T.F_law_open_right.kp T.b_law_open_right) (Kit.cal_or (Kit.cal_of (FnOkG.mono (ok_law_group_right T) (by decide)) T.F_law_group_right.kp T.b_law_group_right) (Kit.cal_or (Kit.cal_of (FnOkG.mono (Kit.gOf (ok_law_split_right T)) (by decide)) T.F_law_split_right.kp T.b_law_split_right) (Kit.cal_one (Kit.cal_of (FnOkG.mono (Kit.gOf (ok_law_steps_right T)) (by decide)) T.F_law_steps_right.kp T.b_law_steps_right))))) hg (hr.mono (by decide)) rfl (.inl rfl) (pa_cons (pv 2) (pa_cons (pv 4) (pa_cons (pv 5) pa_nil)))))) (pss_one (ps_ret pe_bl)) pss_nil)))))))))
      (pss_cons (ps_set (i := 7) sc_law.nd rfl (Or.inl rfl) (pe_listRg rfl (by rfl) T.m_list (prg_1 (by rfl) T.m_range pe_int)))
      (pss_cons (ps_set (i := 8) sc_law.nd rfl (Or.inl rfl) (pe_lst (pa_cons (pe_call (ok_together_share T) (hr.mono (by decide)) (by rfl) T.g_together_share T.F_together_share.kp T.b_together_share .nil pass0 (pa_cons pe_int (pa_cons pe_int (pa_cons (pv 7) pa_nil)))) (pa_cons (pe_call (ok_just_share T) (hr.mono (by decide)) (by rfl) T.g_just_share T.F_just_share.kp T.b_just_share .nil pass0 (pa_cons pe_int (pa_cons pe_int (pa_cons (pv 7) pa_nil)))) (pa_cons (pe_call (ok_last_opener_share T) (hr.mono (by decide)) (by rfl) T.g_last_opener_share T.F_last_opener_share.kp T.b_last_opener_share .nil pass0 (pa_cons pe_int (pa_cons pe_int (pa_cons pe_int pa_nil)))) pa_nil)))))
      (pss_cons (ps_if (PW.pt (pw_or (pt_cmpR (op_neD hr.units) (pv 8) (pe_op op_rep (pe_lst (pa_cons (pe_tup (pa_cons pe_int (pa_cons pe_int pa_nil))) pa_nil)) pe_int) (nomark _)) (pw_or (pt_cmpR op_ne (pe_call (ok_count_openers T) (hr.mono (by decide)) (by rfl) T.g_count_openers T.F_count_openers.kp T.b_count_openers .nil pass0 (pa_cons pe_int (pa_cons (pv 7) pa_nil))) pe_int (nomark _)) (pw_or1 (pt_cmpR (op_neD hr.units) (pe_call (ok_given_tables T) (hr.mono (by decide)) (by rfl) T.g_given_tables T.F_given_tables.kp T.b_given_tables .nil pass0 (pa_cons pe_int (pa_cons pe_int (pa_cons (pe_lst (pa_cons pe_int (pa_cons pe_int pa_nil))) pa_nil)))) (pe_tup (pa_cons pe_int (pa_cons pe_int pa_nil))) (nomark _)))))) (pss_one (ps_ret pe_bl)) pss_nil)
      (pss_cons (ps_set (i := 8) sc_law.nd rfl (Or.inl rfl) (pe_lst (pa_cons (pe_call (ok_given_tables T) (hr.mono (by decide)) (by rfl) T.g_given_tables T.F_given_tables.kp T.b_given_tables .nil pass0 (pa_cons pe_int (pa_cons pe_int (pa_cons (pv 7) pa_nil)))) (pa_cons (pe_call (ok_rank_share T) (hr.mono (by decide)) (by rfl) T.g_rank_share T.F_rank_share.kp T.b_rank_share .nil pass0 (pa_cons pe_int (pa_cons pe_int (pa_cons pe_int (pa_cons pe_int pa_nil))))) (pa_cons (pe_call (ok_rank_share T) (hr.mono (by decide)) (by rfl) T.g_rank_share T.F_rank_share.kp T.b_rank_share .nil pass0 (pa_cons pe_int (pa_cons (pe_op op_powX pe_int pe_int) (pa_cons pe_int (pa_cons pe_int pa_nil))))) pa_nil)))))
      (pss_one (ps_ret (pe_and (pe_cmpR (op_eqD hr.units) (pv 8) (pe_lst (pa_cons (pe_tup (pa_cons pe_int (pa_cons pe_int pa_nil))) (pa_cons (pe_tup (pa_cons pe_int (pa_cons pe_int pa_nil))) (pa_cons (pe_tup (pa_cons pe_int (pa_cons pe_int pa_nil))) pa_nil)))) (nomark _)) (pe_and (pe_cmpR (op_eqD hr.units) (pe_call (ok_just_share T) (hr.mono (by decide)) (by rfl) T.g_just_share T.F_just_share.kp T.b_just_share .nil pass0 (pa_cons pe_int (pa_cons pe_int (pa_cons (pe_lst (pa_cons pe_int pa_nil)) pa_nil)))) (pe_tup (pa_cons pe_int (pa_cons pe_int pa_nil))) (nomark _)) (pe_one (pe_cmpR (op_eqD hr.units) (pe_call (ok_opener_share T) (hr.mono (by decide)) (by rfl) T.g_opener_share T.F_opener_share.kp T.b_opener_share .nil pass0 (pa_cons pe_int (pa_cons pe_int (pa_cons pe_int pa_nil)))) (pe_tup (pa_cons pe_int (pa_cons pe_int pa_nil))) (nomark _)))))))))))), ?_⟩
    have mm := max_min4 (m := ((ns.map V.int).length : Int)) (by omega)
    refine q_forR1 (by walk_at "ea") ⟨mm.1, Int.le_trans mm.2 (by decide)⟩ (fun i σ' H' => ∃ y1 y2 y3 y4 y5 y6, σ' = [some (.ref a), y1, y2, y3, y4, y5, y6, none, none] ∧ Ex H H') (fun H1 e1 => ⟨none, none, none, none, none, none, rfl, e1⟩) ?_ ?_
    · rintro i σ' H' hi ⟨y1, y2, y3, y4, y5, y6, rfl, e⟩
      have hi4 : (i : Int) < 4 := Int.lt_of_lt_of_le hi mm.2
      refine pq_pouch (by walk_at "ea") (ex_l e hs) (by omega) fun p H1 hp e1 hpo => ?_
      refine s_forNU (K := K) (xs := [.int 20, .int 7]) (eu_tup (ea_cons ev_c (ea_cons ev_c ea_nil)) (Nat.le_of_ble_eq_true rfl)) (fun q j σ' H2 => ∃ z3 z4 z5 z6, σ' = [some (.ref a), some (.int (i : Int)), some (.ref p), z3, z4, z5, z6, none, none] ∧ Ex H' H2 ∧ Po p (10000 * j) H2 ∧ q ≠ p ∧ H2 q = some (.tup [.int 20, .int 7])) (fun q H2 nq e2 hq => ⟨y3, y4, y5, y6, rfl, e1.trans e2, hpo.ex e2, hpo.ne nq, hq⟩) (fun q j σ' H2 _ ⟨_, _, _, _, _, _, _, _, hq⟩ => st_of hq) ?_ ?_
      · rintro q j v σ' H2 hv ⟨z3, z4, z5, z6, rfl, e2, p2, qp, hq⟩
        obtain ⟨t, rfl, t7, t20, j2⟩ : ∃ t : Nat, v = .int (t : Int) ∧ 7 ≤ t ∧ t ≤ 20 ∧ j < 2 := by
          match j, hv with
          | 0, hv => exact ⟨20, (Option.some.inj hv).symm, by decide, by decide, by decide⟩
          | 1, hv => exact ⟨7, (Option.some.inj hv).symm, by decide, by decide, by decide⟩
        show tSeq _ _ _ [some (.ref a), some (.int (i : Int)), some (.ref p), some (.int (t : Int)), z4, z5, z6, none, none] H2
        refine pq_par2 (p := p) (H0 := Hm p H2) (k1 := 0 + (((0 + (0 + 0)) + 1) + 1)) (Ra := fun v _ => ∃ m : Nat, v = .int (m : Int) ∧ 1 ≤ m ∧ m ≤ 20) hm_p
          (ep_is (ep_sub (C := fun r => 0 ≤ r ∧ r < t) hm_p (ev_var rfl) (ep_is (ep_dip (C := fun w => w ≤ t) hm_p (ev_var rfl) (ep_is (ep_ix (A := fun v => ∃ w : Int, v = .int w ∧ 0 < w ∧ w ≤ t) (ix := fun v => ∃ r, v = .int r ∧ 0 ≤ r ∧ r < 2) (C := fun vs => vs = [.int 2, .int (t : Int)]) hm_p (ep_is (ep_lst (epa_pure (v := .int 2) hm_p ev_c (epa_pure (v := .int (t : Int)) hm_p (ev_var rfl) epa_nil)) ?_) ?_) (ep_dipI (w := 2) hm_p (ev_var rfl) ev_c (by decide) (by decide)) ?_) ?_)) ?_)) ?_) (ep_heavy (ev_var rfl)) stb_c hm_sub p2 (by omega) ?_
        · rintro vs ⟨_, _, rfl, _, _, _, rfl, _, rfl⟩
          exact Nat.le_of_ble_eq_true rfl
        · rintro v H4 ⟨l, vs, ne, rfl, hl, _, _, rfl, rfl, _, _, rfl, rfl, rfl⟩
          exact ⟨l, _, ne, rfl, hl, rfl⟩
        · rintro vs v rfl ⟨i, rfl, i0, i1⟩
          have : i = 0 ∨ i = 1 := by omega
          rcases this with rfl | rfl
          · exact ⟨0, .int 2, rfl, rfl, 2, rfl, by decide, by omega⟩
          · exact ⟨1, .int (t : Int), rfl, rfl, t, rfl, by omega, by omega⟩
        · rintro v _ ⟨w, rfl, w0, w1⟩
          exact ⟨w, rfl, w0, by omega, w1⟩
        · rintro v _ ⟨r, w, rfl, r0, r1, w1⟩
          exact ⟨r, rfl, r0, by omega⟩
        · rintro v _ ⟨r, rfl, r0, r1⟩
          exact ⟨((t : Int) - r).toNat, by congr 1; omega, by omega, by omega⟩
        rintro _ _ H3 ⟨m, rfl, m1, m20⟩ ⟨x, rfl, x1, x2⟩ p3 e3
        have hq3 := hm_at e3 qp hq
        refine s_forNU (K := K) (xs := [.ref T.f_law_open_right, .ref T.f_law_group_right, .ref T.f_law_split_right, .ref T.f_law_steps_right]) (eu_tup (ea_cons ev_c (ea_cons ev_c (ea_cons ev_c (ea_cons ev_c ea_nil)))) (Nat.le_of_ble_eq_true rfl))
          (fun u c σ' H4 => ∃ z6, σ' = [some (.ref a), some (.int (i : Int)), some (.ref p), some (.int (t : Int)), some (.int (m : Int)), some (.int x), z6, none, none] ∧ Ex H' H4 ∧ Po p (10000 * j + 100 + 1100 * c) H4 ∧ H4 q = some (.tup [.int 20, .int 7]) ∧ u ≠ p ∧ H4 u = some (.tup [.ref T.f_law_open_right, .ref T.f_law_group_right, .ref T.f_law_split_right, .ref T.f_law_steps_right])) (fun u H4 nu e4 hu => ⟨z6, rfl, (hm_next hp e2 e3).trans e4, (p3.ex e4).mono (by omega), e4 q _ hq3, p3.ne nu, hu⟩) (fun u c σ' H4 _ ⟨_, _, _, _, _, _, hu⟩ => st_of hu) ?_ ?_
        · rintro u c v σ' H4 hv ⟨z6, rfl, e4, p4, hq4, up, hu⟩
          obtain ⟨f, rfl, hf, c4⟩ : ∃ f, v = .ref f ∧ (f = T.f_law_open_right ∨ f = T.f_law_group_right ∨ f = T.f_law_split_right ∨ f = T.f_law_steps_right) ∧ c < 4 := by
            match c, hv with
            | 0, hv => exact ⟨_, (Option.some.inj hv).symm, .inl rfl, by decide⟩
            | 1, hv => exact ⟨_, (Option.some.inj hv).symm, .inr (.inl rfl), by decide⟩
            | 2, hv => exact ⟨_, (Option.some.inj hv).symm, .inr (.inr (.inl rfl)), by decide⟩
            | 3, hv => exact ⟨_, (Option.some.inj hv).symm, .inr (.inr (.inr rfl)), by decide⟩
          show tIfS _ _ _ _ [some (.ref a), some (.int (i : Int)), some (.ref p), some (.int (t : Int)), some (.int (m : Int)), some (.int x), some (.ref f), none, none] H4
          refine ps_no (p := p) (k := 1001) (H0 := Hm p H4) (tp_is (b := !true) (tp_not (tp_B (ep_callS (m := m) (x := x) (f := f) rfl hf (ea_cons (ev_var rfl) (ea_cons (ev_var rfl) (ea_cons (ev_var rfl) ea_nil))) m1 m20 x1 x2))) rfl) hm_sub p4 (by omega) fun H5 p5 e5 => ?_
          exact ⟨_, rfl, hm_next hp e4 e5, p5.mono (by omega), hm_at e5 qp hq4, up, hm_at e5 up hu⟩
        · rintro u σ' H4 ⟨z6, rfl, e4, p4, hq4, _, _⟩
          exact ⟨_, _, _, _, rfl, e4, p4.mono (by show 10000 * j + 100 + 1100 * 4 ≤ _; omega), qp, hq4⟩
      · rintro q σ' H2 ⟨z3, z4, z5, z6, rfl, e2, _⟩
        exact ⟨_, _, _, _, _, _, rfl, e.trans e2⟩
    · rintro σ' H' ⟨y1, y2, y3, y4, y5, y6, rfl, e⟩
      refine q_asgL (xs := nv (List.range 20)) ?_ fun v H1 nv1 e1 hv => ?_
      · have g := el_rg1 (σ := [some (.ref a), y1, y2, y3, y4, y5, y6, none, none]) (H := H') (tb := tC (.int 20)) (b := ((20 : Nat) : Int)) ev_c (RgOk.of_le (by decide) (by decide) (by decide) (by decide))
        rw [range_iz] at g
        exact g
      have t1 : tabW 1 (List.range 20) / cd (tabW 1 (List.range 20)) (rise 1 (List.range 20).length) = 1 := by decide +kernel
      have t2 : rise 1 (List.range 20).length / cd (tabW 1 (List.range 20)) (rise 1 (List.range 20).length) = 20 := by decide +kernel
      have j1 : tabW 1 (List.range 20) * rise 1 (20 - (List.range 20).length) / cd (tabW 1 (List.range 20) * rise 1 (20 - (List.range 20).length)) (rise 1 20) = 1 := by decide +kernel
      have j2 : rise 1 20 / cd (tabW 1 (List.range 20) * rise 1 (20 - (List.range 20).length)) (rise 1 20) = 20 := by decide +kernel
      have l1 : lastV 1 20 19 / cd (lastV 1 20 19) (rise 1 20) = 1 := by decide +kernel
      have l2 : rise 1 20 / cd (lastV 1 20 19) (rise 1 20) = 20 := by decide +kernel
      have sh3 : SeqAt.shaped (.list [.tuple [.int 1, .int 20], .tuple [.int 1, .int 20], .tuple [.int 1, .int 20]]) = true := by decide +kernel
      refine q_asgD (K := K) (d := .list [.tuple [.int 1, .int 20], .tuple [.int 1, .int 20], .tuple [.int 1, .int 20]]) (ed_lst (eda_cons (ed_share (eu_call (vs := [.int ((20 : Nat) : Int), .int 1, .ref v]) (ea_cons ev_c (ea_cons ev_c (ea_cons (ev_var rfl) ea_nil))) (su_together (n := 20) (w := 1) hv gang_all (by decide) (by decide) (by decide))) t1 t2)
        (eda_cons (ed_share (eu_call (vs := [.int ((20 : Nat) : Int), .int 1, .ref v]) (ea_cons ev_c (ea_cons ev_c (ea_cons (ev_var rfl) ea_nil))) (su_just (n := 20) (w := 1) hv gang_all (by decide) (by decide) (by decide))) j1 j2)
        (eda_cons (ed_share (eu_call (vs := [.int ((20 : Nat) : Int), .int 1, .int ((19 : Nat) : Int)]) (ea_cons ev_c (ea_cons ev_c (ea_cons ev_c ea_nil))) (su_last (n := 20) (g := 19) (w := 1) (by decide) (by decide) (by decide) (by decide))) l1 l2) eda_nil))) (Nat.le_of_ble_eq_true rfl)) fun td H2 e2 dp => ?_
      have hv2 := e2 v _ hv
      have g09 : Gang 20 [0, 19] := ⟨by decide, by decide, by decide⟩
      have c1 : wayO (List.range 20) 20 = 1 := by decide +kernel
      have g1 : (((fac ([0, 19].length - 1) : Nat) : Int) * (sumsF ((1, 0) :: othF [0, 19].length 20)).getD 20 0) / cd (((fac ([0, 19].length - 1) : Nat) : Int) * (sumsF ((1, 0) :: othF [0, 19].length 20)).getD 20 0) ((sums 1 20).getD 20 0) = 0 := by decide +kernel
      have g2 : ((sums 1 20).getD 20 0) / cd (((fac ([0, 19].length - 1) : Nat) : Int) * (sumsF ((1, 0) :: othF [0, 19].length 20)).getD 20 0) ((sums 1 20).getD 20 0) = 1 := by decide +kernel
      refine q_when (b := false) (et_is (et_or (et_test (ev_neD (ed_of (ev_var rfl) dp) (ed_pairs [(1, 20), (1, 20), (1, 20)] (elt_rep1 (k := 3) (elt_lst1 (eu_tup (ea_cons ev_c (ea_cons ev_c ea_nil)) (Nat.le_of_ble_eq_true rfl))) ev_c (by decide) (by decide))) sh3 sh3)) fun _ => et_or (et_test (ev_op (ev_call (vs := [.int ((20 : Nat) : Int), .ref v]) (ea_cons ev_c (ea_cons (ev_var rfl) ea_nil)) (sv_openers hv2 gang_all rfl (by decide))) ev_c (rv_ne rfl))) fun _ => et_test (ev_neD
        (ed_share (eu_l3 (x := .int ((20 : Nat) : Int)) (y := .int ((20 : Nat) : Int)) (ys := nv [0, 19]) ev_c ev_c (el_lst (ea_cons ev_c (ea_cons ev_c ea_nil)) (Nat.le_of_ble_eq_true rfl)) fun l H3 _ hl => su_given (n := 20) (m := 20) hl g09 (by decide) (by decide) (by decide)) g1 g2) (ed_pair ev_c ev_c) (shaped_sh _ _) (shaped_sh _ _))) (by simp only [List.map_cons, List.map_nil]; rw [eqv_same sh3, eqv_same (shaped_sh _ _), c1]; rfl)) (fun hb => Bool.noConfusion hb) fun _ H3 e3 => ?_
      have hv3 := e3 v _ hv2
      have a1 : (((fac ((List.range 20).length - 1) : Nat) : Int) * (sumsF ((1, 0) :: othF (List.range 20).length 20)).getD 1 0) / cd (((fac ((List.range 20).length - 1) : Nat) : Int) * (sumsF ((1, 0) :: othF (List.range 20).length 20)).getD 1 0) ((sums 1 20).getD 1 0) = 1 := by decide +kernel
      have a2 : ((sums 1 20).getD 1 0) / cd (((fac ((List.range 20).length - 1) : Nat) : Int) * (sumsF ((1, 0) :: othF (List.range 20).length 20)).getD 1 0) ((sums 1 20).getD 1 0) = 1 := by decide +kernel
      have b1 : (sums 1 18).getD 19 0 * 1 / cd ((sums 1 18).getD 19 0 * 1) (rise 1 (18 + 1)) = 0 := by decide +kernel
      have b2 : rise 1 (18 + 1) / cd ((sums 1 18).getD 19 0 * 1) (rise 1 (18 + 1)) = 1 := by decide +kernel
      have d1 : (sums 1000000000000 0).getD 0 0 * 1000000000000 / cd ((sums 1000000000000 0).getD 0 0 * 1000000000000) (rise 1000000000000 (0 + 1)) = 1 := by decide +kernel
      have d2 : rise 1000000000000 (0 + 1) / cd ((sums 1000000000000 0).getD 0 0 * 1000000000000) (rise 1000000000000 (0 + 1)) = 1 := by decide +kernel
      have sh3' : SeqAt.shaped (.list [.tuple [.int 1, .int 1], .tuple [.int 0, .int 1], .tuple [.int 1, .int 1]]) = true := by decide +kernel
      have big : Ev (tOp (rI CPowX fun i j => .int (i ^ j.toNat)) (tC (.int 10)) (tC (.int 12))) [some (.ref a), y1, y2, y3, y4, y5, y6, some (.ref v), some td] H3 (.int 1000000000000) := ev_op ev_c ev_c (rv_I (by constructor <;> decide +kernel))
      refine q_asgD (K := K) (d := .list [.tuple [.int 1, .int 1], .tuple [.int 0, .int 1], .tuple [.int 1, .int 1]]) (ed_lst (eda_cons (ed_share (eu_call (vs := [.int ((20 : Nat) : Int), .int ((1 : Nat) : Int), .ref v]) (ea_cons ev_c (ea_cons ev_c (ea_cons (ev_var rfl) ea_nil))) (su_given (n := 20) (m := 1) hv3 gang_all (by decide) (by decide) (by decide))) a1 a2)
        (eda_cons (ed_share (eu_call (vs := [.int ((20 : Nat) : Int), .int 1, .int ((19 : Nat) : Int), .int ((18 : Nat) : Int)]) (ea_cons ev_c (ea_cons ev_c (ea_cons ev_c (ea_cons ev_c ea_nil)))) (su_rank (n := 20) (r := 19) (g := 18) (w := 1) (by decide) (by decide) (by decide) (by decide) (by decide))) b1 b2)
        (eda_cons (ed_share (eu_call (vs := [.int ((20 : Nat) : Int), .int 1000000000000, .int ((0 : Nat) : Int), .int ((0 : Nat) : Int)]) (ea_cons ev_c (ea_cons big (ea_cons ev_c (ea_cons ev_c ea_nil)))) (su_rank (n := 20) (r := 0) (g := 0) (w := 1000000000000) (by decide) (by decide) (by decide) (by decide) (by decide))) d1 d2) eda_nil))) (Nat.le_of_ble_eq_true rfl)) fun te H4 e4 dp4 => ?_
      have f1 : tabW 1 [7] * rise 1 (20 - [7].length) / cd (tabW 1 [7] * rise 1 (20 - [7].length)) (rise 1 20) = 1 := by decide +kernel
      have f2 : rise 1 20 / cd (tabW 1 [7] * rise 1 (20 - [7].length)) (rise 1 20) = 20 := by decide +kernel
      have h1 : (1 : Int) / cd 1 (1 + ((19 : Nat) : Int)) = 1 := by decide +kernel
      have h2 : (1 + ((19 : Nat) : Int)) / cd 1 (1 + ((19 : Nat) : Int)) = 20 := by decide +kernel
      have g7 : Gang 20 [7] := ⟨by decide, by decide, by decide⟩
      exact s_ret (v := .bl true) (ev_is (ev_andV (ev_eqD (ed_of (ev_var rfl) dp4) (ed_lst (eda_cons (ed_pair ev_c ev_c) (eda_cons (ed_pair ev_c ev_c) (eda_cons (ed_pair ev_c ev_c) eda_nil))) (Nat.le_of_ble_eq_true rfl)) sh3' sh3') fun _ => ev_andV (ev_eqD (ed_share (eu_l3 (x := .int ((20 : Nat) : Int)) (y := .int 1) (ys := nv [7]) ev_c ev_c (el_lst (ea_cons ev_c ea_nil) (Nat.le_of_ble_eq_true rfl)) fun l H3 _ hl => su_just (n := 20) (w := 1) hl g7 (by decide) (by decide) (by decide)) f1 f2) (ed_pair ev_c ev_c) (shaped_sh _ _) (shaped_sh _ _)) fun _ => ev_eqD (ed_share (eu_call (vs := [.int ((20 : Nat) : Int), .int 1, .int ((19 : Nat) : Int)]) (ea_cons ev_c (ea_cons ev_c (ea_cons ev_c ea_nil))) (su_opener (n := 20) (g := 19) (w := 1) (by decide) (by decide) (by decide) (by decide))) h1 h2) (ed_pair ev_c ev_c) (shaped_sh _ _) (shaped_sh _ _)) (by rw [eqv_same sh3', eqv_same (shaped_sh _ _)]; rfl)) fun H5 e5 => k H5
end

theorem all_mk {l : PySem.W.OpenLaw} {w : World} {K : PySem.W.Frag} {h : Heap} {mg : Str → Option Value} {fa : Addr} (X : K.In h) (G : h.Ns mainGlobals mg) (hfa : mg "law" = some (.ref fa))
    {f1 : Addr} {od1 an1 : Option Addr} {sl1 : Array (Option Value)} {oc1 kV1 dc1 pm1 cd1 ct1 : Value}
    {f2 : Addr} {od2 an2 : Option Addr} {sl2 : Array (Option Value)} {oc2 kV2 dc2 pm2 cd2 ct2 : Value}
    {f3 : Addr} {od3 an3 : Option Addr} {sl3 : Array (Option Value)} {oc3 kV3 dc3 pm3 cd3 ct3 : Value}
    {f4 : Addr} {od4 an4 : Option Addr} {sl4 : Array (Option Value)} {oc4 kV4 dc4 pm4 cd4 ct4 : Value}
    {f5 : Addr} {od5 an5 : Option Addr} {sl5 : Array (Option Value)} {oc5 kV5 dc5 pm5 cd5 ct5 : Value}
    {f6 : Addr} {od6 an6 : Option Addr} {sl6 : Array (Option Value)} {oc6 kV6 dc6 pm6 cd6 ct6 : Value}
    {f7 : Addr} {od7 an7 : Option Addr} {sl7 : Array (Option Value)} {oc7 kV7 dc7 pm7 cd7 ct7 : Value}
    {f8 : Addr} {od8 an8 : Option Addr} {sl8 : Array (Option Value)} {oc8 kV8 dc8 pm8 cd8 ct8 : Value}
    {f9 : Addr} {od9 an9 : Option Addr} {sl9 : Array (Option Value)} {oc9 kV9 dc9 pm9 cd9 ct9 : Value}
    {f10 : Addr} {od10 an10 : Option Addr} {sl10 : Array (Option Value)} {oc10 kV10 dc10 pm10 cd10 ct10 : Value}
    {f11 : Addr} {od11 an11 : Option Addr} {sl11 : Array (Option Value)} {oc11 kV11 dc11 pm11 cd11 ct11 : Value}
    {f12 : Addr} {od12 an12 : Option Addr} {sl12 : Array (Option Value)} {oc12 kV12 dc12 pm12 cd12 ct12 : Value}
    {f13 : Addr} {od13 an13 : Option Addr} {sl13 : Array (Option Value)} {oc13 kV13 dc13 pm13 cd13 ct13 : Value}
    {f14 : Addr} {od14 an14 : Option Addr} {sl14 : Array (Option Value)} {oc14 kV14 dc14 pm14 cd14 ct14 : Value}
    {f15 : Addr} {od15 an15 : Option Addr} {sl15 : Array (Option Value)} {oc15 kV15 dc15 pm15 cd15 ct15 : Value}
    {f16 : Addr} {od16 an16 : Option Addr} {sl16 : Array (Option Value)} {oc16 kV16 dc16 pm16 cd16 ct16 : Value}
    {f17 : Addr} {od17 an17 : Option Addr} {sl17 : Array (Option Value)} {oc17 kV17 dc17 pm17 cd17 ct17 : Value}
    {f18 : Addr} {od18 an18 : Option Addr} {sl18 : Array (Option Value)} {oc18 kV18 dc18 pm18 cd18 ct18 : Value}
    {f19 : Addr} {od19 an19 : Option Addr} {sl19 : Array (Option Value)} {oc19 kV19 dc19 pm19 cd19 ct19 : Value}
    {f20 : Addr} {od20 an20 : Option Addr} {sl20 : Array (Option Value)} {oc20 kV20 dc20 pm20 cd20 ct20 : Value}
    {f21 : Addr} {od21 an21 : Option Addr} {sl21 : Array (Option Value)} {oc21 kV21 dc21 pm21 cd21 ct21 : Value}
    {f22 : Addr} {od22 an22 : Option Addr} {sl22 : Array (Option Value)} {oc22 kV22 dc22 pm22 cd22 ct22 : Value}
    {f23 : Addr} {od23 an23 : Option Addr} {sl23 : Array (Option Value)} {oc23 kV23 dc23 pm23 cd23 ct23 : Value}
    {f24 : Addr} {od24 an24 : Option Addr} {sl24 : Array (Option Value)} {oc24 kV24 dc24 pm24 cd24 ct24 : Value}
    {f25 : Addr} {od25 an25 : Option Addr} {sl25 : Array (Option Value)} {oc25 kV25 dc25 pm25 cd25 ct25 : Value}
    {f26 : Addr} {od26 an26 : Option Addr} {sl26 : Array (Option Value)} {oc26 kV26 dc26 pm26 cd26 ct26 : Value}
    {f27 : Addr} {od27 an27 : Option Addr} {sl27 : Array (Option Value)} {oc27 kV27 dc27 pm27 cd27 ct27 : Value}
    {f28 : Addr} {od28 an28 : Option Addr} {sl28 : Array (Option Value)} {oc28 kV28 dc28 pm28 cd28 ct28 : Value}
    {f29 : Addr} {od29 an29 : Option Addr} {sl29 : Array (Option Value)} {oc29 kV29 dc29 pm29 cd29 ct29 : Value}
    {f30 : Addr} {od30 an30 : Option Addr} {sl30 : Array (Option Value)} {oc30 kV30 dc30 pm30 cd30 ct30 : Value}
    {f31 : Addr} {od31 an31 : Option Addr} {sl31 : Array (Option Value)} {oc31 kV31 dc31 pm31 cd31 ct31 : Value}
    {f32 : Addr} {od32 an32 : Option Addr} {sl32 : Array (Option Value)} {oc32 kV32 dc32 pm32 cd32 ct32 : Value}
    {f33 : Addr} {od33 an33 : Option Addr} {sl33 : Array (Option Value)} {oc33 kV33 dc33 pm33 cd33 ct33 : Value}
    {f34 : Addr} {od34 an34 : Option Addr} {sl34 : Array (Option Value)} {oc34 kV34 dc34 pm34 cd34 ct34 : Value}
    {f35 : Addr} {od35 an35 : Option Addr} {sl35 : Array (Option Value)} {oc35 kV35 dc35 pm35 cd35 ct35 : Value}
    {f36 : Addr} {od36 an36 : Option Addr} {sl36 : Array (Option Value)} {oc36 kV36 dc36 pm36 cd36 ct36 : Value}
    {f37 : Addr} {od37 an37 : Option Addr} {sl37 : Array (Option Value)} {oc37 kV37 dc37 pm37 cd37 ct37 : Value}
    {f38 : Addr} {od38 an38 : Option Addr} {sl38 : Array (Option Value)} {oc38 kV38 dc38 pm38 cd38 ct38 : Value}
    {f39 : Addr} {od39 an39 : Option Addr} {sl39 : Array (Option Value)} {oc39 kV39 dc39 pm39 cd39 ct39 : Value}
    {f40 : Addr} {od40 an40 : Option Addr} {sl40 : Array (Option Value)} {oc40 kV40 dc40 pm40 cd40 ct40 : Value}
    {f41 : Addr} {od41 an41 : Option Addr} {sl41 : Array (Option Value)} {oc41 kV41 dc41 pm41 cd41 ct41 : Value}
    {f42 : Addr} {od42 an42 : Option Addr} {sl42 : Array (Option Value)} {oc42 kV42 dc42 pm42 cd42 ct42 : Value}
    {f43 : Addr} {od43 an43 : Option Addr} {sl43 : Array (Option Value)} {oc43 kV43 dc43 pm43 cd43 ct43 : Value}
    {f44 : Addr} {od44 an44 : Option Addr} {sl44 : Array (Option Value)} {oc44 kV44 dc44 pm44 cd44 ct44 : Value}
    {f45 : Addr} {od45 an45 : Option Addr} {sl45 : Array (Option Value)} {oc45 kV45 dc45 pm45 cd45 ct45 : Value}
    {f46 : Addr} {od46 an46 : Option Addr} {sl46 : Array (Option Value)} {oc46 kV46 dc46 pm46 cd46 ct46 : Value}
    {f47 : Addr} {od47 an47 : Option Addr} {sl47 : Array (Option Value)} {oc47 kV47 dc47 pm47 cd47 ct47 : Value}
    {f48 : Addr} {od48 an48 : Option Addr} {sl48 : Array (Option Value)} {oc48 kV48 dc48 pm48 cd48 ct48 : Value}
    {t_MOST_GUESTS : Tok}
    {t_MOST_WEIGHT : Tok}
    (a1 : PySem.W.nsIn K mainGlobals "is_whole" = some (some (.ref f1))) (l1 : K.lookup f1 = some ⟨oc1, od1, .func (PySem.W.fnOf "is_whole" "is_whole" (defArgs s_is_whole) (defBody s_is_whole) (defScope s_is_whole) .none kV1 dc1 pm1 an1 cd1 ct1), sl1⟩) (c1 : PySem.W.codeIn K cd1 "is_whole" = true) (k1 : PySem.W.keepIn K (.ref f1) = true)
    (a2 : PySem.W.nsIn K mainGlobals "is_within" = some (some (.ref f2))) (l2 : K.lookup f2 = some ⟨oc2, od2, .func (PySem.W.fnOf "is_within" "is_within" (defArgs s_is_within) (defBody s_is_within) (defScope s_is_within) .none kV2 dc2 pm2 an2 cd2 ct2), sl2⟩) (c2 : PySem.W.codeIn K cd2 "is_within" = true) (k2 : PySem.W.keepIn K (.ref f2) = true)
    (a3 : PySem.W.nsIn K mainGlobals "is_ascending" = some (some (.ref f3))) (l3 : K.lookup f3 = some ⟨oc3, od3, .func (PySem.W.fnOf "is_ascending" "is_ascending" (defArgs s_is_ascending) (defBody s_is_ascending) (defScope s_is_ascending) .none kV3 dc3 pm3 an3 cd3 ct3), sl3⟩) (c3 : PySem.W.codeIn K cd3 "is_ascending" = true) (k3 : PySem.W.keepIn K (.ref f3) = true)
    (a4 : PySem.W.nsIn K mainGlobals "check_guests" = some (some (.ref f4))) (l4 : K.lookup f4 = some ⟨oc4, od4, .func (PySem.W.fnOf "check_guests" "check_guests" (defArgs s_check_guests) (defBody s_check_guests) (defScope s_check_guests) .none kV4 dc4 pm4 an4 cd4 ct4), sl4⟩) (c4 : PySem.W.codeIn K cd4 "check_guests" = true) (k4 : PySem.W.keepIn K (.ref f4) = true)
    (a5 : PySem.W.nsIn K mainGlobals "check_weight" = some (some (.ref f5))) (l5 : K.lookup f5 = some ⟨oc5, od5, .func (PySem.W.fnOf "check_weight" "check_weight" (defArgs s_check_weight) (defBody s_check_weight) (defScope s_check_weight) .none kV5 dc5 pm5 an5 cd5 ct5), sl5⟩) (c5 : PySem.W.codeIn K cd5 "check_weight" = true) (k5 : PySem.W.keepIn K (.ref f5) = true)
    (a6 : PySem.W.nsIn K mainGlobals "check_guest" = some (some (.ref f6))) (l6 : K.lookup f6 = some ⟨oc6, od6, .func (PySem.W.fnOf "check_guest" "check_guest" (defArgs s_check_guest) (defBody s_check_guest) (defScope s_check_guest) .none kV6 dc6 pm6 an6 cd6 ct6), sl6⟩) (c6 : PySem.W.codeIn K cd6 "check_guest" = true) (k6 : PySem.W.keepIn K (.ref f6) = true)
    (a7 : PySem.W.nsIn K mainGlobals "check_number" = some (some (.ref f7))) (l7 : K.lookup f7 = some ⟨oc7, od7, .func (PySem.W.fnOf "check_number" "check_number" (defArgs s_check_number) (defBody s_check_number) (defScope s_check_number) .none kV7 dc7 pm7 an7 cd7 ct7), sl7⟩) (c7 : PySem.W.codeIn K cd7 "check_number" = true) (k7 : PySem.W.keepIn K (.ref f7) = true)
    (a8 : PySem.W.nsIn K mainGlobals "check_any_number" = some (some (.ref f8))) (l8 : K.lookup f8 = some ⟨oc8, od8, .func (PySem.W.fnOf "check_any_number" "check_any_number" (defArgs s_check_any_number) (defBody s_check_any_number) (defScope s_check_any_number) .none kV8 dc8 pm8 an8 cd8 ct8), sl8⟩) (c8 : PySem.W.codeIn K cd8 "check_any_number" = true) (k8 : PySem.W.keepIn K (.ref f8) = true)
    (a9 : PySem.W.nsIn K mainGlobals "raised" = some (some (.ref f9))) (l9 : K.lookup f9 = some ⟨oc9, od9, .func (PySem.W.fnOf "raised" "raised" (defArgs s_raised) (defBody s_raised) (defScope s_raised) .none kV9 dc9 pm9 an9 cd9 ct9), sl9⟩) (c9 : PySem.W.codeIn K cd9 "raised" = true) (k9 : PySem.W.keepIn K (.ref f9) = true)
    (a10 : PySem.W.nsIn K mainGlobals "rising" = some (some (.ref f10))) (l10 : K.lookup f10 = some ⟨oc10, od10, .func (PySem.W.fnOf "rising" "rising" (defArgs s_rising) (defBody s_rising) (defScope s_rising) .none kV10 dc10 pm10 an10 cd10 ct10), sl10⟩) (c10 : PySem.W.codeIn K cd10 "rising" = true) (k10 : PySem.W.keepIn K (.ref f10) = true)
    (a11 : PySem.W.nsIn K mainGlobals "sums_by_tables" = some (some (.ref f11))) (l11 : K.lookup f11 = some ⟨oc11, od11, .func (PySem.W.fnOf "sums_by_tables" "sums_by_tables" (defArgs s_sums_by_tables) (defBody s_sums_by_tables) (defScope s_sums_by_tables) .none kV11 dc11 pm11 an11 cd11 ct11), sl11⟩) (c11 : PySem.W.codeIn K cd11 "sums_by_tables" = true) (k11 : PySem.W.keepIn K (.ref f11) = true)
    (a12 : PySem.W.nsIn K mainGlobals "sum_at" = some (some (.ref f12))) (l12 : K.lookup f12 = some ⟨oc12, od12, .func (PySem.W.fnOf "sum_at" "sum_at" (defArgs s_sum_at) (defBody s_sum_at) (defScope s_sum_at) .none kV12 dc12 pm12 an12 cd12 ct12), sl12⟩) (c12 : PySem.W.codeIn K cd12 "sum_at" = true) (k12 : PySem.W.keepIn K (.ref f12) = true)
    (a13 : PySem.W.nsIn K mainGlobals "fraction" = some (some (.ref f13))) (l13 : K.lookup f13 = some ⟨oc13, od13, .func (PySem.W.fnOf "fraction" "fraction" (defArgs s_fraction) (defBody s_fraction) (defScope s_fraction) .none kV13 dc13 pm13 an13 cd13 ct13), sl13⟩) (c13 : PySem.W.codeIn K cd13 "fraction" = true) (k13 : PySem.W.keepIn K (.ref f13) = true)
    (a14 : PySem.W.nsIn K mainGlobals "tables_weight" = some (some (.ref f14))) (l14 : K.lookup f14 = some ⟨oc14, od14, .func (PySem.W.fnOf "tables_weight" "tables_weight" (defArgs s_tables_weight) (defBody s_tables_weight) (defScope s_tables_weight) .none kV14 dc14 pm14 an14 cd14 ct14), sl14⟩) (c14 : PySem.W.codeIn K cd14 "tables_weight" = true) (k14 : PySem.W.keepIn K (.ref f14) = true)
    (a15 : PySem.W.nsIn K mainGlobals "weight_with_size" = some (some (.ref f15))) (l15 : K.lookup f15 = some ⟨oc15, od15, .func (PySem.W.fnOf "weight_with_size" "weight_with_size" (defArgs s_weight_with_size) (defBody s_weight_with_size) (defScope s_weight_with_size) .none kV15 dc15 pm15 an15 cd15 ct15), sl15⟩) (c15 : PySem.W.codeIn K cd15 "weight_with_size" = true) (k15 : PySem.W.keepIn K (.ref f15) = true)
    (a16 : PySem.W.nsIn K mainGlobals "weights_by_tables" = some (some (.ref f16))) (l16 : K.lookup f16 = some ⟨oc16, od16, .func (PySem.W.fnOf "weights_by_tables" "weights_by_tables" (defArgs s_weights_by_tables) (defBody s_weights_by_tables) (defScope s_weights_by_tables) .none kV16 dc16 pm16 an16 cd16 ct16), sl16⟩) (c16 : PySem.W.codeIn K cd16 "weights_by_tables" = true) (k16 : PySem.W.keepIn K (.ref f16) = true)
    (a17 : PySem.W.nsIn K mainGlobals "opener_share" = some (some (.ref f17))) (l17 : K.lookup f17 = some ⟨oc17, od17, .func (PySem.W.fnOf "opener_share" "opener_share" (defArgs s_opener_share) (defBody s_opener_share) (defScope s_opener_share) .none kV17 dc17 pm17 an17 cd17 ct17), sl17⟩) (c17 : PySem.W.codeIn K cd17 "opener_share" = true) (k17 : PySem.W.keepIn K (.ref f17) = true)
    (a18 : PySem.W.nsIn K mainGlobals "count_openers" = some (some (.ref f18))) (l18 : K.lookup f18 = some ⟨oc18, od18, .func (PySem.W.fnOf "count_openers" "count_openers" (defArgs s_count_openers) (defBody s_count_openers) (defScope s_count_openers) .none kV18 dc18 pm18 an18 cd18 ct18), sl18⟩) (c18 : PySem.W.codeIn K cd18 "count_openers" = true) (k18 : PySem.W.keepIn K (.ref f18) = true)
    (a19 : PySem.W.nsIn K mainGlobals "openers_share" = some (some (.ref f19))) (l19 : K.lookup f19 = some ⟨oc19, od19, .func (PySem.W.fnOf "openers_share" "openers_share" (defArgs s_openers_share) (defBody s_openers_share) (defScope s_openers_share) .none kV19 dc19 pm19 an19 cd19 ct19), sl19⟩) (c19 : PySem.W.codeIn K cd19 "openers_share" = true) (k19 : PySem.W.keepIn K (.ref f19) = true)
    (a20 : PySem.W.nsIn K mainGlobals "last_opener_share" = some (some (.ref f20))) (l20 : K.lookup f20 = some ⟨oc20, od20, .func (PySem.W.fnOf "last_opener_share" "last_opener_share" (defArgs s_last_opener_share) (defBody s_last_opener_share) (defScope s_last_opener_share) .none kV20 dc20 pm20 an20 cd20 ct20), sl20⟩) (c20 : PySem.W.codeIn K cd20 "last_opener_share" = true) (k20 : PySem.W.keepIn K (.ref f20) = true)
    (a21 : PySem.W.nsIn K mainGlobals "rank_share" = some (some (.ref f21))) (l21 : K.lookup f21 = some ⟨oc21, od21, .func (PySem.W.fnOf "rank_share" "rank_share" (defArgs s_rank_share) (defBody s_rank_share) (defScope s_rank_share) .none kV21 dc21 pm21 an21 cd21 ct21), sl21⟩) (c21 : PySem.W.codeIn K cd21 "rank_share" = true) (k21 : PySem.W.keepIn K (.ref f21) = true)
    (a22 : PySem.W.nsIn K mainGlobals "together_share" = some (some (.ref f22))) (l22 : K.lookup f22 = some ⟨oc22, od22, .func (PySem.W.fnOf "together_share" "together_share" (defArgs s_together_share) (defBody s_together_share) (defScope s_together_share) .none kV22 dc22 pm22 an22 cd22 ct22), sl22⟩) (c22 : PySem.W.codeIn K cd22 "together_share" = true) (k22 : PySem.W.keepIn K (.ref f22) = true)
    (a23 : PySem.W.nsIn K mainGlobals "just_share" = some (some (.ref f23))) (l23 : K.lookup f23 = some ⟨oc23, od23, .func (PySem.W.fnOf "just_share" "just_share" (defArgs s_just_share) (defBody s_just_share) (defScope s_just_share) .none kV23 dc23 pm23 an23 cd23 ct23), sl23⟩) (c23 : PySem.W.codeIn K cd23 "just_share" = true) (k23 : PySem.W.keepIn K (.ref f23) = true)
    (a24 : PySem.W.nsIn K mainGlobals "tables_shares" = some (some (.ref f24))) (l24 : K.lookup f24 = some ⟨oc24, od24, .func (PySem.W.fnOf "tables_shares" "tables_shares" (defArgs s_tables_shares) (defBody s_tables_shares) (defScope s_tables_shares) .none kV24 dc24 pm24 an24 cd24 ct24), sl24⟩) (c24 : PySem.W.codeIn K cd24 "tables_shares" = true) (k24 : PySem.W.keepIn K (.ref f24) = true)
    (a25 : PySem.W.nsIn K mainGlobals "split_share" = some (some (.ref f25))) (l25 : K.lookup f25 = some ⟨oc25, od25, .func (PySem.W.fnOf "split_share" "split_share" (defArgs s_split_share) (defBody s_split_share) (defScope s_split_share) .none kV25 dc25 pm25 an25 cd25 ct25), sl25⟩) (c25 : PySem.W.codeIn K cd25 "split_share" = true) (k25 : PySem.W.keepIn K (.ref f25) = true)
    (a26 : PySem.W.nsIn K mainGlobals "given_tables" = some (some (.ref f26))) (l26 : K.lookup f26 = some ⟨oc26, od26, .func (PySem.W.fnOf "given_tables" "given_tables" (defArgs s_given_tables) (defBody s_given_tables) (defScope s_given_tables) .none kV26 dc26 pm26 an26 cd26 ct26), sl26⟩) (c26 : PySem.W.codeIn K cd26 "given_tables" = true) (k26 : PySem.W.keepIn K (.ref f26) = true)
    (a27 : PySem.W.nsIn K mainGlobals "home_share" = some (some (.ref f27))) (l27 : K.lookup f27 = some ⟨oc27, od27, .func (PySem.W.fnOf "home_share" "home_share" (defArgs s_home_share) (defBody s_home_share) (defScope s_home_share) .none kV27 dc27 pm27 an27 cd27 ct27), sl27⟩) (c27 : PySem.W.codeIn K cd27 "home_share" = true) (k27 : PySem.W.keepIn K (.ref f27) = true)
    (a28 : PySem.W.nsIn K mainGlobals "other_share" = some (some (.ref f28))) (l28 : K.lookup f28 = some ⟨oc28, od28, .func (PySem.W.fnOf "other_share" "other_share" (defArgs s_other_share) (defBody s_other_share) (defScope s_other_share) .none kV28 dc28 pm28 an28 cd28 ct28), sl28⟩) (c28 : PySem.W.codeIn K cd28 "other_share" = true) (k28 : PySem.W.keepIn K (.ref f28) = true)
    (a29 : PySem.W.nsIn K mainGlobals "check_group" = some (some (.ref f29))) (l29 : K.lookup f29 = some ⟨oc29, od29, .func (PySem.W.fnOf "check_group" "check_group" (defArgs s_check_group) (defBody s_check_group) (defScope s_check_group) .none kV29 dc29 pm29 an29 cd29 ct29), sl29⟩) (c29 : PySem.W.codeIn K cd29 "check_group" = true) (k29 : PySem.W.keepIn K (.ref f29) = true)
    (a30 : PySem.W.nsIn K mainGlobals "check_openers" = some (some (.ref f30))) (l30 : K.lookup f30 = some ⟨oc30, od30, .func (PySem.W.fnOf "check_openers" "check_openers" (defArgs s_check_openers) (defBody s_check_openers) (defScope s_check_openers) .none kV30 dc30 pm30 an30 cd30 ct30), sl30⟩) (c30 : PySem.W.codeIn K cd30 "check_openers" = true) (k30 : PySem.W.keepIn K (.ref f30) = true)
    (a31 : PySem.W.nsIn K mainGlobals "check_groups" = some (some (.ref f31))) (l31 : K.lookup f31 = some ⟨oc31, od31, .func (PySem.W.fnOf "check_groups" "check_groups" (defArgs s_check_groups) (defBody s_check_groups) (defScope s_check_groups) .none kV31 dc31 pm31 an31 cd31 ct31), sl31⟩) (c31 : PySem.W.codeIn K cd31 "check_groups" = true) (k31 : PySem.W.keepIn K (.ref f31) = true)
    (a32 : PySem.W.nsIn K mainGlobals "are_groups" = some (some (.ref f32))) (l32 : K.lookup f32 = some ⟨oc32, od32, .func (PySem.W.fnOf "are_groups" "are_groups" (defArgs s_are_groups) (defBody s_are_groups) (defScope s_are_groups) .none kV32 dc32 pm32 an32 cd32 ct32), sl32⟩) (c32 : PySem.W.codeIn K cd32 "are_groups" = true) (k32 : PySem.W.keepIn K (.ref f32) = true)
    (a33 : PySem.W.nsIn K mainGlobals "ways_of_openers" = some (some (.ref f33))) (l33 : K.lookup f33 = some ⟨oc33, od33, .func (PySem.W.fnOf "ways_of_openers" "ways_of_openers" (defArgs s_ways_of_openers) (defBody s_ways_of_openers) (defScope s_ways_of_openers) .none kV33 dc33 pm33 an33 cd33 ct33), sl33⟩) (c33 : PySem.W.codeIn K cd33 "ways_of_openers" = true) (k33 : PySem.W.keepIn K (.ref f33) = true)
    (a34 : PySem.W.nsIn K mainGlobals "table_weight" = some (some (.ref f34))) (l34 : K.lookup f34 = some ⟨oc34, od34, .func (PySem.W.fnOf "table_weight" "table_weight" (defArgs s_table_weight) (defBody s_table_weight) (defScope s_table_weight) .none kV34 dc34 pm34 an34 cd34 ct34), sl34⟩) (c34 : PySem.W.codeIn K cd34 "table_weight" = true) (k34 : PySem.W.keepIn K (.ref f34) = true)
    (a35 : PySem.W.nsIn K mainGlobals "home_weight" = some (some (.ref f35))) (l35 : K.lookup f35 = some ⟨oc35, od35, .func (PySem.W.fnOf "home_weight" "home_weight" (defArgs s_home_weight) (defBody s_home_weight) (defScope s_home_weight) .none kV35 dc35 pm35 an35 cd35 ct35), sl35⟩) (c35 : PySem.W.codeIn K cd35 "home_weight" = true) (k35 : PySem.W.keepIn K (.ref f35) = true)
    (a36 : PySem.W.nsIn K mainGlobals "_law_store" = some (some (.ref f36))) (l36 : K.lookup f36 = some ⟨oc36, od36, .func (PySem.W.fnOf "_law_store" "_law_store" (defArgs s_law_store) (defBody s_law_store) (defScope s_law_store) .none kV36 dc36 pm36 an36 cd36 ct36), sl36⟩) (c36 : PySem.W.codeIn K cd36 "_law_store" = true) (k36 : PySem.W.keepIn K (.ref f36) = true)
    (a37 : PySem.W.nsIn K mainGlobals "_law_pick" = some (some (.ref f37))) (l37 : K.lookup f37 = some ⟨oc37, od37, .func (PySem.W.fnOf "_law_pick" "_law_pick" (defArgs s_law_pick) (defBody s_law_pick) (defScope s_law_pick) .none kV37 dc37 pm37 an37 cd37 ct37), sl37⟩) (c37 : PySem.W.codeIn K cd37 "_law_pick" = true) (k37 : PySem.W.keepIn K (.ref f37) = true)
    (a38 : PySem.W.nsIn K mainGlobals "_law_lowest" = some (some (.ref f38))) (l38 : K.lookup f38 = some ⟨oc38, od38, .func (PySem.W.fnOf "_law_lowest" "_law_lowest" (defArgs s_law_lowest) (defBody s_law_lowest) (defScope s_law_lowest) .none kV38 dc38 pm38 an38 cd38 ct38), sl38⟩) (c38 : PySem.W.codeIn K cd38 "_law_lowest" = true) (k38 : PySem.W.keepIn K (.ref f38) = true)
    (a39 : PySem.W.nsIn K mainGlobals "_law_rising" = some (some (.ref f39))) (l39 : K.lookup f39 = some ⟨oc39, od39, .func (PySem.W.fnOf "_law_rising" "_law_rising" (defArgs s_law_rising) (defBody s_law_rising) (defScope s_law_rising) .none kV39 dc39 pm39 an39 cd39 ct39), sl39⟩) (c39 : PySem.W.codeIn K cd39 "_law_rising" = true) (k39 : PySem.W.keepIn K (.ref f39) = true)
    (a40 : PySem.W.nsIn K mainGlobals "_law_heavy" = some (some (.ref f40))) (l40 : K.lookup f40 = some ⟨oc40, od40, .func (PySem.W.fnOf "_law_heavy" "_law_heavy" (defArgs s_law_heavy) (defBody s_law_heavy) (defScope s_law_heavy) .none kV40 dc40 pm40 an40 cd40 ct40), sl40⟩) (c40 : PySem.W.codeIn K cd40 "_law_heavy" = true) (k40 : PySem.W.keepIn K (.ref f40) = true)
    (a41 : PySem.W.nsIn K mainGlobals "_law_gang" = some (some (.ref f41))) (l41 : K.lookup f41 = some ⟨oc41, od41, .func (PySem.W.fnOf "_law_gang" "_law_gang" (defArgs s_law_gang) (defBody s_law_gang) (defScope s_law_gang) .none kV41 dc41 pm41 an41 cd41 ct41), sl41⟩) (c41 : PySem.W.codeIn K cd41 "_law_gang" = true) (k41 : PySem.W.keepIn K (.ref f41) = true)
    (a42 : PySem.W.nsIn K mainGlobals "_law_parts" = some (some (.ref f42))) (l42 : K.lookup f42 = some ⟨oc42, od42, .func (PySem.W.fnOf "_law_parts" "_law_parts" (defArgs s_law_parts) (defBody s_law_parts) (defScope s_law_parts) .none kV42 dc42 pm42 an42 cd42 ct42), sl42⟩) (c42 : PySem.W.codeIn K cd42 "_law_parts" = true) (k42 : PySem.W.keepIn K (.ref f42) = true)
    (a43 : PySem.W.nsIn K mainGlobals "_law_row" = some (some (.ref f43))) (l43 : K.lookup f43 = some ⟨oc43, od43, .func (PySem.W.fnOf "_law_row" "_law_row" (defArgs s_law_row) (defBody s_law_row) (defScope s_law_row) .none kV43 dc43 pm43 an43 cd43 ct43), sl43⟩) (c43 : PySem.W.codeIn K cd43 "_law_row" = true) (k43 : PySem.W.keepIn K (.ref f43) = true)
    (a44 : PySem.W.nsIn K mainGlobals "_law_open_right" = some (some (.ref f44))) (l44 : K.lookup f44 = some ⟨oc44, od44, .func (PySem.W.fnOf "_law_open_right" "_law_open_right" (defArgs s_law_open_right) (defBody s_law_open_right) (defScope s_law_open_right) .none kV44 dc44 pm44 an44 cd44 ct44), sl44⟩) (c44 : PySem.W.codeIn K cd44 "_law_open_right" = true) (k44 : PySem.W.keepIn K (.ref f44) = true)
    (a45 : PySem.W.nsIn K mainGlobals "_law_group_right" = some (some (.ref f45))) (l45 : K.lookup f45 = some ⟨oc45, od45, .func (PySem.W.fnOf "_law_group_right" "_law_group_right" (defArgs s_law_group_right) (defBody s_law_group_right) (defScope s_law_group_right) .none kV45 dc45 pm45 an45 cd45 ct45), sl45⟩) (c45 : PySem.W.codeIn K cd45 "_law_group_right" = true) (k45 : PySem.W.keepIn K (.ref f45) = true)
    (a46 : PySem.W.nsIn K mainGlobals "_law_split_right" = some (some (.ref f46))) (l46 : K.lookup f46 = some ⟨oc46, od46, .func (PySem.W.fnOf "_law_split_right" "_law_split_right" (defArgs s_law_split_right) (defBody s_law_split_right) (defScope s_law_split_right) .none kV46 dc46 pm46 an46 cd46 ct46), sl46⟩) (c46 : PySem.W.codeIn K cd46 "_law_split_right" = true) (k46 : PySem.W.keepIn K (.ref f46) = true)
    (a47 : PySem.W.nsIn K mainGlobals "_law_steps_right" = some (some (.ref f47))) (l47 : K.lookup f47 = some ⟨oc47, od47, .func (PySem.W.fnOf "_law_steps_right" "_law_steps_right" (defArgs s_law_steps_right) (defBody s_law_steps_right) (defScope s_law_steps_right) .none kV47 dc47 pm47 an47 cd47 ct47), sl47⟩) (c47 : PySem.W.codeIn K cd47 "_law_steps_right" = true) (k47 : PySem.W.keepIn K (.ref f47) = true)
    (a48 : PySem.W.nsIn K mainGlobals "law" = some (some (.ref f48))) (l48 : K.lookup f48 = some ⟨oc48, od48, .func (PySem.W.fnOf "law" "law" (defArgs s_law) (defBody s_law) (defScope s_law) .none kV48 dc48 pm48 an48 cd48 ct48), sl48⟩) (c48 : PySem.W.codeIn K cd48 "law" = true) (k48 : PySem.W.keepIn K (.ref f48) = true)
    (z_abs : PySem.W.nsIn K mainGlobals "abs" = some none)
    (z_all : PySem.W.nsIn K mainGlobals "all" = some none)
    (z_int : PySem.W.nsIn K mainGlobals "int" = some none)
    (z_len : PySem.W.nsIn K mainGlobals "len" = some none)
    (z_list : PySem.W.nsIn K mainGlobals "list" = some none)
    (z_max : PySem.W.nsIn K mainGlobals "max" = some none)
    (z_min : PySem.W.nsIn K mainGlobals "min" = some none)
    (z_range : PySem.W.nsIn K mainGlobals "range" = some none)
    (z_repr : PySem.W.nsIn K mainGlobals "repr" = some none)
    (z_set : PySem.W.nsIn K mainGlobals "set" = some none)
    (z_sorted : PySem.W.nsIn K mainGlobals "sorted" = some none)
    (z_sum : PySem.W.nsIn K mainGlobals "sum" = some none)
    (z_type : PySem.W.nsIn K mainGlobals "type" = some none)
    (z_zip : PySem.W.nsIn K mainGlobals "zip" = some none)
    (y_MOST_GUESTS : PySem.W.nsIn K mainGlobals "MOST_GUESTS" = some (some (.int 20 t_MOST_GUESTS)))
    (y_MOST_WEIGHT : PySem.W.nsIn K mainGlobals "MOST_WEIGHT" = some (some (.int 1000000000000 t_MOST_WEIGHT)))
    (x_factorial : PySem.W.nsIn K mainGlobals "factorial" = some (some (.builtin "math.factorial")))
    (x_gcd : PySem.W.nsIn K mainGlobals "gcd" = some (some (.builtin "math.gcd")))
    (x_perm : PySem.W.nsIn K mainGlobals "perm" = some (some (.builtin "math.perm")))
    : ∃ fd : FuncData, (∀ (s : Shared) (v : Value), BindsTo s fd ⟨[v], []⟩ [("script", v)]) ∧ ∀ base : Heap, K.In base → base.Ns mainGlobals mg → FnOkG l.prog w K mg base 8 fa fd ["script"] (sp_law K) := by
  have e := hfa.symm.trans (PySem.W.mg_of X G a48)
  cases e
  have F1 := fun_mk (st := s_is_whole) l1 c1 k1
  have F2 := fun_mk (st := s_is_within) l2 c2 k2
  have F3 := fun_mk (st := s_is_ascending) l3 c3 k3
  have F4 := fun_mk (st := s_check_guests) l4 c4 k4
  have F5 := fun_mk (st := s_check_weight) l5 c5 k5
  have F6 := fun_mk (st := s_check_guest) l6 c6 k6
  have F7 := fun_mk (st := s_check_number) l7 c7 k7
  have F8 := fun_mk (st := s_check_any_number) l8 c8 k8
  have F9 := fun_mk (st := s_raised) l9 c9 k9
  have F10 := fun_mk (st := s_rising) l10 c10 k10
  have F11 := fun_mk (st := s_sums_by_tables) l11 c11 k11
  have F12 := fun_mk (st := s_sum_at) l12 c12 k12
  have F13 := fun_mk (st := s_fraction) l13 c13 k13
  have F14 := fun_mk (st := s_tables_weight) l14 c14 k14
  have F15 := fun_mk (st := s_weight_with_size) l15 c15 k15
  have F16 := fun_mk (st := s_weights_by_tables) l16 c16 k16
  have F17 := fun_mk (st := s_opener_share) l17 c17 k17
  have F18 := fun_mk (st := s_count_openers) l18 c18 k18
  have F19 := fun_mk (st := s_openers_share) l19 c19 k19
  have F20 := fun_mk (st := s_last_opener_share) l20 c20 k20
  have F21 := fun_mk (st := s_rank_share) l21 c21 k21
  have F22 := fun_mk (st := s_together_share) l22 c22 k22
  have F23 := fun_mk (st := s_just_share) l23 c23 k23
  have F24 := fun_mk (st := s_tables_shares) l24 c24 k24
  have F25 := fun_mk (st := s_split_share) l25 c25 k25
  have F26 := fun_mk (st := s_given_tables) l26 c26 k26
  have F27 := fun_mk (st := s_home_share) l27 c27 k27
  have F28 := fun_mk (st := s_other_share) l28 c28 k28
  have F29 := fun_mk (st := s_check_group) l29 c29 k29
  have F30 := fun_mk (st := s_check_openers) l30 c30 k30
  have F31 := fun_mk (st := s_check_groups) l31 c31 k31
  have F32 := fun_mk (st := s_are_groups) l32 c32 k32
  have F33 := fun_mk (st := s_ways_of_openers) l33 c33 k33
  have F34 := fun_mk (st := s_table_weight) l34 c34 k34
  have F35 := fun_mk (st := s_home_weight) l35 c35 k35
  have F36 := fun_mk (st := s_law_store) l36 c36 k36
  have F37 := fun_mk (st := s_law_pick) l37 c37 k37
  have F38 := fun_mk (st := s_law_lowest) l38 c38 k38
  have F39 := fun_mk (st := s_law_rising) l39 c39 k39
  have F40 := fun_mk (st := s_law_heavy) l40 c40 k40
  have F41 := fun_mk (st := s_law_gang) l41 c41 k41
  have F42 := fun_mk (st := s_law_parts) l42 c42 k42
  have F43 := fun_mk (st := s_law_row) l43 c43 k43
  have F44 := fun_mk (st := s_law_open_right) l44 c44 k44
  have F45 := fun_mk (st := s_law_group_right) l45 c45 k45
  have F46 := fun_mk (st := s_law_split_right) l46 c46 k46
  have F47 := fun_mk (st := s_law_steps_right) l47 c47 k47
  have F48 := fun_mk (st := s_law) l48 c48 k48
  let T : Tx K mg :=
    { f_is_whole := f1, d_is_whole := _, F_is_whole := F1, g_is_whole := PySem.W.mg_of X G a1, b_is_whole := F1.binds (ps := ["thing"]) fun _ _ _ _ _ _ us hl => match us, hl with | [_], _ => rfl,
      f_is_within := f2, d_is_within := _, F_is_within := F2, g_is_within := PySem.W.mg_of X G a2, b_is_within := F2.binds (ps := ["thing", "least", "most"]) fun _ _ _ _ _ _ us hl => match us, hl with | [_, _, _], _ => rfl,
      f_is_ascending := f3, d_is_ascending := _, F_is_ascending := F3, g_is_ascending := PySem.W.mg_of X G a3, b_is_ascending := F3.binds (ps := ["thing", "least", "most"]) fun _ _ _ _ _ _ us hl => match us, hl with | [_, _, _], _ => rfl,
      f_check_guests := f4, d_check_guests := _, F_check_guests := F4, g_check_guests := PySem.W.mg_of X G a4, b_check_guests := F4.binds (ps := ["guests"]) fun _ _ _ _ _ _ us hl => match us, hl with | [_], _ => rfl,
      f_check_weight := f5, d_check_weight := _, F_check_weight := F5, g_check_weight := PySem.W.mg_of X G a5, b_check_weight := F5.binds (ps := ["weight"]) fun _ _ _ _ _ _ us hl => match us, hl with | [_], _ => rfl,
      f_check_guest := f6, d_check_guest := _, F_check_guest := F6, g_check_guest := PySem.W.mg_of X G a6, b_check_guest := F6.binds (ps := ["guest", "guests"]) fun _ _ _ _ _ _ us hl => match us, hl with | [_, _], _ => rfl,
      f_check_number := f7, d_check_number := _, F_check_number := F7, g_check_number := PySem.W.mg_of X G a7, b_check_number := F7.binds (ps := ["number", "least", "most"]) fun _ _ _ _ _ _ us hl => match us, hl with | [_, _, _], _ => rfl,
      f_check_any_number := f8, d_check_any_number := _, F_check_any_number := F8, g_check_any_number := PySem.W.mg_of X G a8, b_check_any_number := F8.binds (ps := ["number"]) fun _ _ _ _ _ _ us hl => match us, hl with | [_], _ => rfl,
      f_raised := f9, d_raised := _, F_raised := F9, g_raised := PySem.W.mg_of X G a9, b_raised := F9.binds (ps := ["base", "times"]) fun _ _ _ _ _ _ us hl => match us, hl with | [_, _], _ => rfl,
      f_rising := f10, d_rising := _, F_rising := F10, g_rising := PySem.W.mg_of X G a10, b_rising := F10.binds (ps := ["weight", "guests"]) fun _ _ _ _ _ _ us hl => match us, hl with | [_, _], _ => rfl,
      f_sums_by_tables := f11, d_sums_by_tables := _, F_sums_by_tables := F11, g_sums_by_tables := PySem.W.mg_of X G a11, b_sums_by_tables := F11.binds (ps := ["factors"]) fun _ _ _ _ _ _ us hl => match us, hl with | [_], _ => rfl,
      f_sum_at := f12, d_sum_at := _, F_sum_at := F12, g_sum_at := PySem.W.mg_of X G a12, b_sum_at := F12.binds (ps := ["factors", "number"]) fun _ _ _ _ _ _ us hl => match us, hl with | [_, _], _ => rfl,
      f_fraction := f13, d_fraction := _, F_fraction := F13, g_fraction := PySem.W.mg_of X G a13, b_fraction := F13.binds (ps := ["top", "bottom"]) fun _ _ _ _ _ _ us hl => match us, hl with | [_, _], _ => rfl,
      f_tables_weight := f14, d_tables_weight := _, F_tables_weight := F14, g_tables_weight := PySem.W.mg_of X G a14, b_tables_weight := F14.binds (ps := ["guests", "weight", "size"]) fun _ _ _ _ _ _ us hl => match us, hl with | [_, _, _], _ => rfl,
      f_weight_with_size := f15, d_weight_with_size := _, F_weight_with_size := F15, g_weight_with_size := PySem.W.mg_of X G a15, b_weight_with_size := F15.binds (ps := ["guests", "weight", "size"]) fun _ _ _ _ _ _ us hl => match us, hl with | [_, _, _], _ => rfl,
      f_weights_by_tables := f16, d_weights_by_tables := _, F_weights_by_tables := F16, g_weights_by_tables := PySem.W.mg_of X G a16, b_weights_by_tables := F16.binds (ps := ["guests", "weight"]) fun _ _ _ _ _ _ us hl => match us, hl with | [_, _], _ => rfl,
      f_opener_share := f17, d_opener_share := _, F_opener_share := F17, g_opener_share := PySem.W.mg_of X G a17, b_opener_share := F17.binds (ps := ["guests", "weight", "guest"]) fun _ _ _ _ _ _ us hl => match us, hl with | [_, _, _], _ => rfl,
      f_count_openers := f18, d_count_openers := _, F_count_openers := F18, g_count_openers := PySem.W.mg_of X G a18, b_count_openers := F18.binds (ps := ["guests", "group"]) fun _ _ _ _ _ _ us hl => match us, hl with | [_, _], _ => rfl,
      f_openers_share := f19, d_openers_share := _, F_openers_share := F19, g_openers_share := PySem.W.mg_of X G a19, b_openers_share := F19.binds (ps := ["guests", "weight", "group"]) fun _ _ _ _ _ _ us hl => match us, hl with | [_, _, _], _ => rfl,
      f_last_opener_share := f20, d_last_opener_share := _, F_last_opener_share := F20, g_last_opener_share := PySem.W.mg_of X G a20, b_last_opener_share := F20.binds (ps := ["guests", "weight", "guest"]) fun _ _ _ _ _ _ us hl => match us, hl with | [_, _, _], _ => rfl,
      f_rank_share := f21, d_rank_share := _, F_rank_share := F21, g_rank_share := PySem.W.mg_of X G a21, b_rank_share := F21.binds (ps := ["guests", "weight", "rank", "guest"]) fun _ _ _ _ _ _ us hl => match us, hl with | [_, _, _, _], _ => rfl,
      f_together_share := f22, d_together_share := _, F_together_share := F22, g_together_share := PySem.W.mg_of X G a22, b_together_share := F22.binds (ps := ["guests", "weight", "group"]) fun _ _ _ _ _ _ us hl => match us, hl with | [_, _, _], _ => rfl,
      f_just_share := f23, d_just_share := _, F_just_share := F23, g_just_share := PySem.W.mg_of X G a23, b_just_share := F23.binds (ps := ["guests", "weight", "group"]) fun _ _ _ _ _ _ us hl => match us, hl with | [_, _, _], _ => rfl,
      f_tables_shares := f24, d_tables_shares := _, F_tables_shares := F24, g_tables_shares := PySem.W.mg_of X G a24, b_tables_shares := F24.binds (ps := ["guests", "weight", "group"]) fun _ _ _ _ _ _ us hl => match us, hl with | [_, _, _], _ => rfl,
      f_split_share := f25, d_split_share := _, F_split_share := F25, g_split_share := PySem.W.mg_of X G a25, b_split_share := F25.binds (ps := ["guests", "weight", "groups"]) fun _ _ _ _ _ _ us hl => match us, hl with | [_, _, _], _ => rfl,
      f_given_tables := f26, d_given_tables := _, F_given_tables := F26, g_given_tables := PySem.W.mg_of X G a26, b_given_tables := F26.binds (ps := ["guests", "number", "group"]) fun _ _ _ _ _ _ us hl => match us, hl with | [_, _, _], _ => rfl,
      f_home_share := f27, d_home_share := _, F_home_share := F27, g_home_share := PySem.W.mg_of X G a27, b_home_share := F27.binds (ps := ["guests", "weight", "steps"]) fun _ _ _ _ _ _ us hl => match us, hl with | [_, _, _], _ => rfl,
      f_other_share := f28, d_other_share := _, F_other_share := F28, g_other_share := PySem.W.mg_of X G a28, b_other_share := F28.binds (ps := ["guests", "weight", "steps"]) fun _ _ _ _ _ _ us hl => match us, hl with | [_, _, _], _ => rfl,
      f_check_group := f29, d_check_group := _, F_check_group := F29, g_check_group := PySem.W.mg_of X G a29, b_check_group := F29.binds (ps := ["group", "guests"]) fun _ _ _ _ _ _ us hl => match us, hl with | [_, _], _ => rfl,
      f_check_openers := f30, d_check_openers := _, F_check_openers := F30, g_check_openers := PySem.W.mg_of X G a30, b_check_openers := F30.binds (ps := ["group", "guests"]) fun _ _ _ _ _ _ us hl => match us, hl with | [_, _], _ => rfl,
      f_check_groups := f31, d_check_groups := _, F_check_groups := F31, g_check_groups := PySem.W.mg_of X G a31, b_check_groups := F31.binds (ps := ["groups", "guests"]) fun _ _ _ _ _ _ us hl => match us, hl with | [_, _], _ => rfl,
      f_are_groups := f32, d_are_groups := _, F_are_groups := F32, g_are_groups := PySem.W.mg_of X G a32, b_are_groups := F32.binds (ps := ["thing", "guests"]) fun _ _ _ _ _ _ us hl => match us, hl with | [_, _], _ => rfl,
      f_ways_of_openers := f33, d_ways_of_openers := _, F_ways_of_openers := F33, g_ways_of_openers := PySem.W.mg_of X G a33, b_ways_of_openers := F33.binds (ps := ["guests", "group"]) fun _ _ _ _ _ _ us hl => match us, hl with | [_, _], _ => rfl,
      f_table_weight := f34, d_table_weight := _, F_table_weight := F34, g_table_weight := PySem.W.mg_of X G a34, b_table_weight := F34.binds (ps := ["weight", "group"]) fun _ _ _ _ _ _ us hl => match us, hl with | [_, _], _ => rfl,
      f_home_weight := f35, d_home_weight := _, F_home_weight := F35, g_home_weight := PySem.W.mg_of X G a35, b_home_weight := F35.binds (ps := ["guests", "weight", "steps"]) fun _ _ _ _ _ _ us hl => match us, hl with | [_, _, _], _ => rfl,
      f_law_store := f36, d_law_store := _, F_law_store := F36, g_law_store := PySem.W.mg_of X G a36, b_law_store := F36.binds (ps := ["script", "k"]) fun _ _ _ _ _ _ us hl => match us, hl with | [_, _], _ => rfl,
      f_law_pick := f37, d_law_pick := _, F_law_pick := F37, g_law_pick := PySem.W.mg_of X G a37, b_law_pick := F37.binds (ps := ["store", "bound"]) fun _ _ _ _ _ _ us hl => match us, hl with | [_, _], _ => rfl,
      f_law_lowest := f38, d_law_lowest := _, F_law_lowest := F38, g_law_lowest := PySem.W.mg_of X G a38, b_law_lowest := F38.binds (ps := ["top", "bottom"]) fun _ _ _ _ _ _ us hl => match us, hl with | [_, _], _ => rfl,
      f_law_rising := f39, d_law_rising := _, F_law_rising := F39, g_law_rising := PySem.W.mg_of X G a39, b_law_rising := F39.binds (ps := ["base", "many_here"]) fun _ _ _ _ _ _ us hl => match us, hl with | [_, _], _ => rfl,
      f_law_heavy := f40, d_law_heavy := _, F_law_heavy := F40, g_law_heavy := PySem.W.mg_of X G a40, b_law_heavy := F40.binds (ps := ["store"]) fun _ _ _ _ _ _ us hl => match us, hl with | [_], _ => rfl,
      f_law_gang := f41, d_law_gang := _, F_law_gang := F41, g_law_gang := PySem.W.mg_of X G a41, b_law_gang := F41.binds (ps := ["store", "many_here"]) fun _ _ _ _ _ _ us hl => match us, hl with | [_, _], _ => rfl,
      f_law_parts := f42, d_law_parts := _, F_law_parts := F42, g_law_parts := PySem.W.mg_of X G a42, b_law_parts := F42.binds (ps := ["parts"]) fun _ _ _ _ _ _ us hl => match us, hl with | [_], _ => rfl,
      f_law_row := f43, d_law_row := _, F_law_row := F43, g_law_row := PySem.W.mg_of X G a43, b_law_row := F43.binds (ps := ["heavy", "many_here"]) fun _ _ _ _ _ _ us hl => match us, hl with | [_, _], _ => rfl,
      f_law_open_right := f44, d_law_open_right := _, F_law_open_right := F44, g_law_open_right := PySem.W.mg_of X G a44, b_law_open_right := F44.binds (ps := ["store", "many_here", "heavy"]) fun _ _ _ _ _ _ us hl => match us, hl with | [_, _, _], _ => rfl,
      f_law_group_right := f45, d_law_group_right := _, F_law_group_right := F45, g_law_group_right := PySem.W.mg_of X G a45, b_law_group_right := F45.binds (ps := ["store", "many_here", "heavy"]) fun _ _ _ _ _ _ us hl => match us, hl with | [_, _, _], _ => rfl,
      f_law_split_right := f46, d_law_split_right := _, F_law_split_right := F46, g_law_split_right := PySem.W.mg_of X G a46, b_law_split_right := F46.binds (ps := ["store", "many_here", "heavy"]) fun _ _ _ _ _ _ us hl => match us, hl with | [_, _, _], _ => rfl,
      f_law_steps_right := f47, d_law_steps_right := _, F_law_steps_right := F47, g_law_steps_right := PySem.W.mg_of X G a47, b_law_steps_right := F47.binds (ps := ["store", "many_here", "heavy"]) fun _ _ _ _ _ _ us hl => match us, hl with | [_, _, _], _ => rfl,
      f_law := fa, d_law := _, F_law := F48, g_law := PySem.W.mg_of X G a48, b_law := F48.binds (ps := ["script"]) fun _ _ _ _ _ _ us hl => match us, hl with | [_], _ => rfl,
      m_abs := PySem.W.mg_none_of X G z_abs,
      m_all := PySem.W.mg_none_of X G z_all,
      m_int := PySem.W.mg_none_of X G z_int,
      m_len := PySem.W.mg_none_of X G z_len,
      m_list := PySem.W.mg_none_of X G z_list,
      m_max := PySem.W.mg_none_of X G z_max,
      m_min := PySem.W.mg_none_of X G z_min,
      m_range := PySem.W.mg_none_of X G z_range,
      m_repr := PySem.W.mg_none_of X G z_repr,
      m_set := PySem.W.mg_none_of X G z_set,
      m_sorted := PySem.W.mg_none_of X G z_sorted,
      m_sum := PySem.W.mg_none_of X G z_sum,
      m_type := PySem.W.mg_none_of X G z_type,
      m_zip := PySem.W.mg_none_of X G z_zip,
      c_MOST_GUESTS := ⟨_, PySem.W.mg_of X G y_MOST_GUESTS, ⟨_, rfl⟩⟩,
      c_MOST_WEIGHT := ⟨_, PySem.W.mg_of X G y_MOST_WEIGHT, ⟨_, rfl⟩⟩,
      i_factorial := PySem.W.mg_of X G x_factorial,
      i_gcd := PySem.W.mg_of X G x_gcd,
      i_perm := PySem.W.mg_of X G x_perm }
  exact ⟨PySem.W.fnOf "law" "law" (defArgs s_law) (defBody s_law) (defScope s_law) .none kV48 dc48 pm48 an48 cd48 ct48, fun s v => .of_eq rfl, fun base _ _ => ok_law T⟩
end K22
open PySem PySem.W PyProof.Rows
set_option maxRecDepth 100000 in
set_option maxHeartbeats 0 in
theorem PySem.Challenge.cw_newtables_k22_events_of_great_halls_holds : PySem.Challenge.rw_newtables_k22_events_of_great_halls.Holds := by
  w_on; o_law; k_head; (case hw => w_witness2)
  k_fill
  refine Kit.walk_G (l := PySem.Challenge.rw_newtables_k22_events_of_great_halls) (m := 63) (n := 8) (x := "script") (want := fun w => K22.sp_law _) rfl (by decide) rfl ⟨rfl, by decide, by decide⟩ (fun w h Y => PySem.W.kIn_of Y) ?F (fun _ _ a ns hl _ hS => ⟨a, ns, rfl, hS, hl, fun _ => rfl⟩)
  case F =>
    intro w mg fa h KX G hmg
    refine' K22.all_mk KX G hmg ?a1 ?l1 ?c1 ?k1 ?a2 ?l2 ?c2 ?k2 ?a3 ?l3 ?c3 ?k3 ?a4 ?l4 ?c4 ?k4 ?a5 ?l5 ?c5 ?k5 ?a6 ?l6 ?c6 ?k6 ?a7 ?l7 ?c7 ?k7 ?a8 ?l8 ?c8 ?k8 ?a9 ?l9 ?c9 ?k9 ?a10 ?l10 ?c10 ?k10 ?a11 ?l11 ?c11 ?k11 ?a12 ?l12 ?c12 ?k12 ?a13 ?l13 ?c13 ?k13 ?a14 ?l14 ?c14 ?k14 ?a15 ?l15 ?c15 ?k15 ?a16 ?l16 ?c16 ?k16 ?a17 ?l17 ?c17 ?k17 ?a18 ?l18 ?c18 ?k18 ?a19 ?l19 ?c19 ?k19 ?a20 ?l20 ?c20 ?k20 ?a21 ?l21 ?c21 ?k21 ?a22 ?l22 ?c22 ?k22 ?a23 ?l23 ?c23 ?k23 ?a24 ?l24 ?c24 ?k24 ?a25 ?l25 ?c25 ?k25 ?a26 ?l26 ?c26 ?k26 ?a27 ?l27 ?c27 ?k27 ?a28 ?l28 ?c28 ?k28 ?a29 ?l29 ?c29 ?k29 ?a30 ?l30 ?c30 ?k30 ?a31 ?l31 ?c31 ?k31 ?a32 ?l32 ?c32 ?k32 ?a33 ?l33 ?c33 ?k33 ?a34 ?l34 ?c34 ?k34 ?a35 ?l35 ?c35 ?k35 ?a36 ?l36 ?c36 ?k36 ?a37 ?l37 ?c37 ?k37 ?a38 ?l38 ?c38 ?k38 ?a39 ?l39 ?c39 ?k39 ?a40 ?l40 ?c40 ?k40 ?a41 ?l41 ?c41 ?k41 ?a42 ?l42 ?c42 ?k42 ?a43 ?l43 ?c43 ?k43 ?a44 ?l44 ?c44 ?k44 ?a45 ?l45 ?c45 ?k45 ?a46 ?l46 ?c46 ?k46 ?a47 ?l47 ?c47 ?k47 ?a48 ?l48 ?c48 ?k48 ?z_abs ?z_all ?z_int ?z_len ?z_list ?z_max ?z_min ?z_range ?z_repr ?z_set ?z_sorted ?z_sum ?z_type ?z_zip ?y_MOST_GUESTS ?y_MOST_WEIGHT ?x_factorial ?x_gcd ?x_perm
    (case a1 => k_is); (case l1 => k_is); (case c1 => k_is); (case k1 => k_is); (case a2 => k_is); (case l2 => k_is)
    (case c2 => k_is); (case k2 => k_is); (case a3 => k_is); (case l3 => k_is); (case c3 => k_is); (case k3 => k_is)
    (case a4 => k_is); (case l4 => k_is); (case c4 => k_is); (case k4 => k_is); (case a5 => k_is); (case l5 => k_is)
    (case c5 => k_is); (case k5 => k_is); (case a6 => k_is); (case l6 => k_is); (case c6 => k_is); (case k6 => k_is)
    (case a7 => k_is); (case l7 => k_is); (case c7 => k_is); (case k7 => k_is); (case a8 => k_is); (case l8 => k_is)
    (case c8 => k_is); (case k8 => k_is); (case a9 => k_is); (case l9 => k_is); (case c9 => k_is); (case k9 => k_is)
    (case a10 => k_is); (case l10 => k_is); (case c10 => k_is); (case k10 => k_is); (case a11 => k_is); (case l11 => k_is)
    (case c11 => k_is); (case k11 => k_is); (case a12 => k_is); (case l12 => k_is); (case c12 => k_is); (case k12 => k_is)
    (case a13 => k_is); (case l13 => k_is); (case c13 => k_is); (case k13 => k_is); (case a14 => k_is); (case l14 => k_is)
    (case c14 => k_is); (case k14 => k_is); (case a15 => k_is); (case l15 => k_is); (case c15 => k_is); (case k15 => k_is)
    (case a16 => k_is); (case l16 => k_is); (case c16 => k_is); (case k16 => k_is); (case a17 => k_is); (case l17 => k_is)
    (case c17 => k_is); (case k17 => k_is); (case a18 => k_is); (case l18 => k_is); (case c18 => k_is); (case k18 => k_is)
    (case a19 => k_is); (case l19 => k_is); (case c19 => k_is); (case k19 => k_is); (case a20 => k_is); (case l20 => k_is)
    (case c20 => k_is); (case k20 => k_is); (case a21 => k_is); (case l21 => k_is); (case c21 => k_is); (case k21 => k_is)
    (case a22 => k_is); (case l22 => k_is); (case c22 => k_is); (case k22 => k_is); (case a23 => k_is); (case l23 => k_is)
    (case c23 => k_is); (case k23 => k_is); (case a24 => k_is); (case l24 => k_is); (case c24 => k_is); (case k24 => k_is)
    (case a25 => k_is); (case l25 => k_is); (case c25 => k_is); (case k25 => k_is); (case a26 => k_is); (case l26 => k_is)
    (case c26 => k_is); (case k26 => k_is); (case a27 => k_is); (case l27 => k_is); (case c27 => k_is); (case k27 => k_is)
    (case a28 => k_is); (case l28 => k_is); (case c28 => k_is); (case k28 => k_is); (case a29 => k_is); (case l29 => k_is)
    (case c29 => k_is); (case k29 => k_is); (case a30 => k_is); (case l30 => k_is); (case c30 => k_is); (case k30 => k_is)
    (case a31 => k_is); (case l31 => k_is); (case c31 => k_is); (case k31 => k_is); (case a32 => k_is); (case l32 => k_is)
    (case c32 => k_is); (case k32 => k_is); (case a33 => k_is); (case l33 => k_is); (case c33 => k_is); (case k33 => k_is)
    (case a34 => k_is); (case l34 => k_is); (case c34 => k_is); (case k34 => k_is); (case a35 => k_is); (case l35 => k_is)
    (case c35 => k_is); (case k35 => k_is); (case a36 => k_is); (case l36 => k_is); (case c36 => k_is); (case k36 => k_is)
    (case a37 => k_is); (case l37 => k_is); (case c37 => k_is); (case k37 => k_is); (case a38 => k_is); (case l38 => k_is)
    (case c38 => k_is); (case k38 => k_is); (case a39 => k_is); (case l39 => k_is); (case c39 => k_is); (case k39 => k_is)
    (case a40 => k_is); (case l40 => k_is); (case c40 => k_is); (case k40 => k_is); (case a41 => k_is); (case l41 => k_is)
    (case c41 => k_is); (case k41 => k_is); (case a42 => k_is); (case l42 => k_is); (case c42 => k_is); (case k42 => k_is)
    (case a43 => k_is); (case l43 => k_is); (case c43 => k_is); (case k43 => k_is); (case a44 => k_is); (case l44 => k_is)
    (case c44 => k_is); (case k44 => k_is); (case a45 => k_is); (case l45 => k_is); (case c45 => k_is); (case k45 => k_is)
    (case a46 => k_is); (case l46 => k_is); (case c46 => k_is); (case k46 => k_is); (case a47 => k_is); (case l47 => k_is)
    (case c47 => k_is); (case k47 => k_is); (case a48 => k_is); (case l48 => k_is); (case c48 => k_is); (case k48 => k_is)
    (case z_abs => k_is); (case z_all => k_is); (case z_int => k_is); (case z_len => k_is); (case z_list => k_is); (case z_max => k_is)
    (case z_min => k_is); (case z_range => k_is); (case z_repr => k_is); (case z_set => k_is); (case z_sorted => k_is); (case z_sum => k_is)
    (case z_type => k_is); (case z_zip => k_is); (case y_MOST_GUESTS => k_is); (case y_MOST_WEIGHT => k_is); (case x_factorial => k_is); (case x_gcd => k_is)
    (case x_perm => k_is)
