import PyProof.Rows.All
import Wide.All
import OpenK.AllK
import Wide.FinOn
import PyProof.TypeEq
import HandS.ForMost
import HandS.Evl
import HandS.Wide
import HandS.WideBits
import HandS.Gcd
import HandS.Codes
import HandS.Conv
import HandS.IsInst
import HandS.More
import HandS.Walk
import HandS.Style
import PyProof.InstEq
import HandS.Sort
import KE.DataMinMax
import PyProof.ReprLen
import PyProof.Rows.RegStrFacts
import KE.KMathGC
import HandS.RevRange
import HandS.Deep
import KE.GoesEnum
import KE.GoesMore
import HandS.Iter
import HandS.WordsDict
import HandS.Exc
import HandS.ExcOwn
import HandS.ExcCtx
import HandS.HotCalls
import HandS.ExcIs
import HandS.FStr
import HandS.RaiseMore
import HandS.Zip
import PyProof.Rows.TupIter
import HandS.Strs
import HandS.SetFor
import PySem.Challenge.RW_newtables_k23_errors_of_events
set_option Elab.async false
set_option linter.all false
set_option maxRecDepth 100000
set_option maxHeartbeats 4000000
namespace Kit
open PySem PySem.Spec PyProof.Rows L2 Evl
/-! rules that the layer lacks -/
section
variable {X : Cx} {a b c d : Expr} {ta tb tc td : TE} {pos : Pos}
def CPowX (i j : Int) : Prop := 0 ≤ j ∧ (Builtin.Int.intBits i : Int) * j ≤ 2 ^ 27
theorem op_powX : OpR X (binaryOp .Pow) (rI CPowX fun i j => .int (i ^ j.toNat)) := opI fun _ _ _ _ _ _ _ hc q => pow_int hc.1 hc.2 q
/-- the types that are compared by == -/
def Meta (n : String) : Prop := ∀ s : Shared, s.TypeIs (.type n) "type"
def rEqTy : R2 := fun x y H Q => ∃ m n, x = .ty m ∧ y = .ty n ∧ Meta m ∧ Meta n ∧ Q (.bl (decide (m = n))) H
theorem op_eqTy : OpR X (compareOp .Eq) rEqTy := by
  intro pins s σ H x y v u Q I rx ry h
  obtain ⟨m, n, rfl, rfl, hm, hn, q⟩ := h
  cases (show v = Value.type m from rx)
  cases (show u = Value.type n from ry)
  by_cases e : m = n
  · subst e
    exact PySem.TypeEq.eq_type_same hm ⟨.bl true, H, I, rfl, by simpa using q⟩
  · exact PySem.TypeEq.eq_type_other hm hn (by rw [beq_eq_false_iff_ne]; exact fun z => e (Value.type.inj z)) ⟨.bl false, H, I, rfl, by simpa [e] using q⟩
/-- a op b op c op d -/
def tChain3 (r r' r'' : R2) (ta tb tc td : TE) : TE := fun σ H Q => ta σ H fun x H1 => tb σ H1 fun y H2 => r x y H2 fun z H3 => ∃ k, z = .bl k ∧
  (if k = true then tc σ H3 fun w' H4 => r' y w' H4 fun z' H5 => ∃ k', z' = .bl k' ∧ (if k' = true then td σ H5 fun w'' H6 => r'' w' w'' H6 Q else Q (.bl false) H5) else Q (.bl false) H3)
theorem pe_chain3 {op op' op'' : CmpOp} {r r' r'' : R2} (ho : OpR X (compareOp op) r) (ho' : OpR X (compareOp op') r') (ho'' : OpR X (compareOp op'') r'') (ha : PE X a ta) (hb : PE X b tb) (hc : PE X c tc) (hd : PE X d td)
    (hm : lastMarks [op, op', op''] [b, c, d] = false := by with_unfolding_all rfl) : PE X (.Compare a [op, op', op''] [b, c, d] pos) (tChain3 r r' r'' ta tb tc td) := by
  refine ⟨fun pins s σ H Q I h => ?_⟩
  refine Compare_chain (thn (ha.run pins s σ H _ I h) fun v s1 ⟨x, H1, I1, r1, q1⟩ => chain_link (thn (hb.run pins s1 σ H1 _ I1 q1) fun u s2 ⟨y, H2, I2, r2, q2⟩ =>
    thn (ho pins s2 σ H2 x y v u _ I2 r1 r2 q2) fun d s3 ⟨z, H3, I3, r3, k, e, q3⟩ => ?_)) hm
  subst e
  cases r3
  refine wpAny_truthy_bool ?_
  cases k with
  | false => exact ite_ff ⟨.bl false, H3, I3, rfl, q3⟩
  | true =>
    refine ite_tt (chain_link (thn (hc.run pins s3 σ H3 _ I3 q3) fun w' s4 ⟨z', H4, I4, r4, q4⟩ => thn (ho' pins s4 σ H4 y z' u w' _ I4 r2 r4 q4) fun d' s5 ⟨z5, H5, I5, r5, k5, e5, q5⟩ => ?_))
    subst e5
    cases r5
    refine wpAny_truthy_bool ?_
    cases k5 with
    | false => exact ite_ff ⟨.bl false, H5, I5, rfl, q5⟩
    | true => exact ite_tt (chain_last (thn (hd.run pins s5 σ H5 _ I5 q5) fun w6 s6 ⟨z6, H6, I6, r6, q6⟩ => ho'' pins s6 σ H6 z' z6 w' w6 Q I6 r4 r6 q6))
theorem pt_chain3 {op op' op'' : CmpOp} {r r' r'' : R2} (ho : OpR X (compareOp op) r) (ho' : OpR X (compareOp op') r') (ho'' : OpR X (compareOp op'') r'') (ha : PE X a ta) (hb : PE X b tb) (hc : PE X c tc) (hd : PE X d td)
    (hm : lastMarks [op, op', op''] [b, c, d] = false := by with_unfolding_all rfl) : PT X (.Compare a [op, op', op''] [b, c, d] pos) (tTest (tChain3 r r' r'' ta tb tc td)) := by
  refine ⟨fun pins s σ H Q I h => ?_⟩
  refine isTrue_chain (thn (ha.run pins s σ H _ I h) fun v s1 ⟨x, H1, I1, r1, q1⟩ => test_link (thn (hb.run pins s1 σ H1 _ I1 q1) fun u s2 ⟨y, H2, I2, r2, q2⟩ =>
    thn (ho pins s2 σ H2 x y v u _ I2 r1 r2 q2) fun d s3 ⟨z, H3, I3, r3, k, e, q3⟩ => ?_)) hm
  subst e
  cases r3
  refine wpAny_truthy_bool ?_
  cases k with
  | false =>
    obtain ⟨k', e', q'⟩ := q3
    cases e'
    exact ite_ff ⟨H3, I3, q'⟩
  | true =>
    refine ite_tt (test_link (thn (hc.run pins s3 σ H3 _ I3 q3) fun w' s4 ⟨z', H4, I4, r4, q4⟩ => thn (ho' pins s4 σ H4 y z' u w' _ I4 r2 r4 q4) fun d' s5 ⟨z5, H5, I5, r5, k5, e5, q5⟩ => ?_))
    subst e5
    cases r5
    refine wpAny_truthy_bool ?_
    cases k5 with
    | false =>
      obtain ⟨k', e', q'⟩ := q5
      cases e'
      exact ite_ff ⟨H5, I5, q'⟩
    | true =>
      refine ite_tt (test_last (thn (hd.run pins s5 σ H5 _ I5 q5) fun w6 s6 ⟨z6, H6, I6, r6, q6⟩ => thn (ho'' pins s6 σ H6 z' z6 w' w6 _ I6 r4 r6 q6) fun d7 s7 ⟨z7, H7, I7, r7, k7, e7, q7⟩ => ?_))
      subst e7
      cases r7
      exact wpAny_truthy_bool ⟨H7, I7, q7⟩
end
/-! f(k = v, ..): keywords alone -/
section
variable {X : Cx} {CX : CXT} {k : Nat} {f C : Addr} {fd : FuncData} {ps ks : List Str} {sp : Sp} {E : XK} {x m : Str} {p pos apos kpos : Pos} {kws : List Keyword} {tk : TA}
variable {g : List Value → List Value → List Value} {gV : List V → List V → List V}
theorem pe_callK0 (F : FnOk X.prog X.w X.K X.mg X.base CX k f fd ps sp) (hr : Room k X.A) (hg : Gl X x) (hm : X.mg x = some (.ref f)) (hk : PySem.W.keepIn X.K (.ref f) = true) (hb : KBinds X.K fd ps ks g gV) (hx : Passes CX X E)
    (hkw : PK X kws tk) (hall : (backToKw pos (keywordEach kws X.env)).all (·.1.isSome) = true := by rfl) (hks : (backToKw pos (keywordEach kws X.env)).filterMap (·.1) = ks := by rfl)
    (hdb : (x == ("__debug__" : Str)) = false := by decide)
    (hpl : ((backTo pos (starEach [] X.env)).any (·.1) || (backToKw pos (keywordEach kws X.env)).any (·.1.isNone)) = false := by rfl) :
    PE X (.Call (.Name x p) [] kws pos) (tCallK sp gV E tNil tk) := by
  refine ⟨fun pins s σ H Q I h => ?_⟩
  refine wpAny_Call_Name_kw (ld_glob I hg hm ?_ hdb)
  refine PySem.W.callWith_KW0 (h₀ := X.base) I.ok.mod.kin hk hall ?_ hpl
  refine thn (hkw.run pos pins s σ H _ I h) fun ws s2 ⟨zs, H2, I2, rz, q2⟩ => ⟨I2.kIn, ?_⟩
  rw [hks]
  exact run_fnk F hr hb hx I2 (us := []) (vs := []) .nil rz q2
end
theorem pe_gc {X : Cx} {x : Str} {pos : Pos} {v : V} (hg : Gl X x) (h : ∃ u, X.mg x = some u ∧ RelV v u) (hd : (x == ("__debug__" : Str)) = false := by decide) : PE X (.Name x pos) (tC v) := by
  obtain ⟨u, hm, r⟩ := h
  exact pe_glob hg hm r hd
/-! built-ins by name, with readings that have names -/
section
variable {X : Cx}
def rAbs : List V → Hp → VK → Prop := fun xs H Q => ∃ i, xs = [.int i] ∧ Q (.int (if i < 0 then -i else i)) H
def rMin2 : List V → Hp → VK → Prop := fun xs H Q => ∃ i j, xs = [.int i, .int j] ∧ Q (.int (if j < i then j else i)) H
def rIntI : List V → Hp → VK → Prop := fun xs H Q => ∃ i, xs = [.int i] ∧ Q (.int i) H
def rIntB : List V → Hp → VK → Prop := fun xs H Q => ∃ b, xs = [.bl b] ∧ Q (.int (if b then 1 else 0)) H
theorem call_absR : CallR X (.builtin "abs") rAbs := call_abs
theorem call_maxR (hc : X.calm = true) : CallR X (.builtin "max") rMax2 := call_max2 hc
theorem call_minR (hc : X.calm = true) : CallR X (.builtin "min") rMin2 := call_min2 hc
theorem call_intI : CallR X (.type "int") rIntI := by
  intro pins s σ H xs us Q I r h
  obtain ⟨i, e, q⟩ := h
  exact call_int1 pins s σ H xs us Q I r (.inl ⟨i, e, q⟩)
theorem call_intB : CallR X (.type "int") rIntB := by
  intro pins s σ H xs us Q I r h
  obtain ⟨i, e, q⟩ := h
  exact call_int1 pins s σ H xs us Q I r (.inr ⟨i, e, q⟩)
theorem call_lenR : CallR X (.builtin "len") (rLenS X.K) := call_len_seq
theorem call_listR : CallR X (.type "list") (rListS X.K) := call_list_of
def rTupS (K : PySem.W.Frag) : List V → Hp → VK → Prop := fun xs H Q => ∃ p ys, xs = [.ref p] ∧ SqL K H p ys ∧ ∀ l, H l = none → Q (.ref l) (upd H l (.tup ys))
theorem call_tupR : CallR X (.type "tuple") (rTupS X.K) := by
  intro pins s σ H xs us Q I r h
  obtain ⟨p, ys, e, hs, q⟩ := h
  exact call_tuple_of pins s σ H xs us Q I r ⟨p, ys, e, .inl ⟨hs, q⟩⟩
def rIsN1 : R2 := fun x y H Q => y = .non ∧ Q (.bl (decide (x = .non))) H
def rNotN1 : R2 := fun x y H Q => y = .non ∧ Q (.bl (!decide (x = .non))) H
theorem op_isNR : OpR X (compareOp .Is) rIsN1 := op_isN
theorem op_notNR : OpR X (compareOp .IsNot) rNotN1 := op_notN
end
/-! evaluations of these -/
section
variable {K : PySem.W.Frag} {σ : L2.St} {H H' : Hp} {ta tb tc td te : TE} {x y z v : V} {r : R2} {i j : Int}
theorem ev_abs (h : Ev ta σ H (.int i)) : Ev (tCB rAbs (tCons ta tNil)) σ H (.int (if i < 0 then -i else i)) := fun H1 e Q q => h H1 e _ fun H2 e2 => ⟨i, rfl, q H2 e2⟩
theorem ev_min2 (ha : Ev ta σ H (.int i)) (hb : Ev tb σ H (.int j)) : Ev (tCB rMin2 (tCons ta (tCons tb tNil))) σ H (.int (if j < i then j else i)) := fun H1 e Q q =>
  ha H1 e _ fun H2 e2 => hb H2 (e.trans e2) _ fun H3 e3 => ⟨i, j, rfl, q H3 (e2.trans e3)⟩
theorem ev_intI (h : Ev ta σ H (.int i)) : Ev (tCB rIntI (tCons ta tNil)) σ H (.int i) := fun H1 e Q q => h H1 e _ fun H2 e2 => ⟨i, rfl, q H2 e2⟩
theorem ev_intB {b : Bool} (h : Ev ta σ H (.bl b)) : Ev (tCB rIntB (tCons ta tNil)) σ H (.int (if b then 1 else 0)) := fun H1 e Q q => h H1 e _ fun H2 e2 => ⟨b, rfl, q H2 e2⟩
theorem rv_isN : RV rIsN1 x .non H (.bl (decide (x = .non))) := fun H1 _ _ q => ⟨rfl, q H1 (Ex.refl H1)⟩
theorem rv_notN : RV rNotN1 x .non H (.bl (!decide (x = .non))) := fun H1 _ _ q => ⟨rfl, q H1 (Ex.refl H1)⟩
theorem ev_chain {r r' : R2} {k : Bool} {k' : Bool} (ha : Ev ta σ H x) (hb : Ev tb σ H y) (hr : RV r x y H (.bl k)) (hc : k = true → ∃ z, Ev tc σ H z ∧ RV r' y z H (.bl k')) : Ev (tChain r r' ta tb tc) σ H (.bl (k && k')) := fun H1 e Q q =>
  ha H1 e _ fun H2 e2 => hb H2 (e.trans e2) _ fun H3 e3 => hr H3 ((e.trans e2).trans e3) _ fun H4 e4 => ⟨k, rfl, by
    cases k with
    | true =>
      obtain ⟨z, h1, h2⟩ := hc rfl
      exact h1 H4 (((e.trans e2).trans e3).trans e4) _ fun H5 e5 => h2 H5 ((((e.trans e2).trans e3).trans e4).trans e5) _ fun H6 e6 => q H6 ((((e2.trans e3).trans e4).trans e5).trans e6)
    | false => exact q H4 ((e2.trans e3).trans e4)⟩
theorem ev_chainI {C C' : Int → Int → Bool} {i j l : Int} (ha : Ev ta σ H (.int i)) (hb : Ev tb σ H (.int j)) (hc : Ev tc σ H (.int l)) :
    Ev (tChain (rI0 fun i j => .bl (C i j)) (rI0 fun i j => .bl (C' i j)) ta tb tc) σ H (.bl (C i j && C' j l)) := ev_chain ha hb rv_I0 fun _ => ⟨_, hc, rv_I0⟩
theorem ev_chain3I {C C' C'' : Int → Int → Bool} {i j l m : Int} (ha : Ev ta σ H (.int i)) (hb : Ev tb σ H (.int j)) (hc : Ev tc σ H (.int l)) (hd : Ev td σ H (.int m)) :
    Ev (tChain3 (rI0 fun i j => .bl (C i j)) (rI0 fun i j => .bl (C' i j)) (rI0 fun i j => .bl (C'' i j)) ta tb tc td) σ H (.bl (C i j && (C' j l && C'' l m))) := fun H1 e Q q =>
  ha H1 e _ fun H2 e2 => hb H2 (e.trans e2) _ fun H3 e3 => ⟨i, j, rfl, rfl, C i j, rfl, by
    have e23 := e2.trans e3
    generalize C i j = k1 at q ⊢
    cases k1 with
    | false => exact q H3 e23
    | true =>
      refine hc H3 (e.trans e23) _ fun H4 e4 => ⟨j, l, rfl, rfl, C' j l, rfl, ?_⟩
      generalize C' j l = k2 at q ⊢
      cases k2 with
      | false => exact q H4 (e23.trans e4)
      | true => exact hd H4 ((e.trans e23).trans e4) _ fun H5 e5 => ⟨l, m, rfl, rfl, q H5 ((e23.trans e4).trans e5)⟩⟩
theorem rv_eqTy {m n : String} (hm : Meta m) (hn : Meta n) : RV rEqTy (.ty m) (.ty n) H (.bl (decide (m = n))) := fun H1 _ _ q => ⟨m, n, rfl, rfl, hm, hn, q H1 (Ex.refl H1)⟩
theorem ev_typeI (h : Ev ta σ H (.int i)) : Ev (tThenZ ta kTyp) σ H (.ty "int") := fun H1 e Q q => h H1 e _ fun H2 e2 => ⟨"int", rfl, q H2 e2⟩
/-- a tuple that was made is read as two names -/
theorem s_tup2 {D : Ends} {i j : Nat} {p : Addr} (ha : Ev ta σ H (.ref p)) (hp : SqT K H p [x, y]) (k : ∀ H1, Ex H H1 → D.nx ((σ.set i (some x)).set j (some y)) H1) : tAsg ta (gTup K 2 (gCons (gName i) (gCons (gName j) gNil))) D σ H :=
  ha H (Ex.refl H) _ fun H1 e => ⟨p, [x, y], rfl, ex_t e hp, rfl, x, [y], rfl, y, [], rfl, rfl, k H1 e⟩
end
/-- a new tuple that is handed back -/
def RetU (xs : List V) (H : Hp) (Q : VK) : Prop := ∀ p H2, H p = none → Ex H H2 → H2 p = some (.tup xs) → Q (.ref p) H2
def SpU (sp : Sp) (vs : List V) (H : Hp) (xs : List V) : Prop := ∀ H1, Ex H H1 → ∀ Q : VK, (∀ p H2, H1 p = none → Ex H1 H2 → H2 p = some (.tup xs) → Q (.ref p) H2) → ∀ E : XK, sp vs H1 Q E
section
variable {K : PySem.W.Frag} {σ : L2.St} {H : Hp}
theorem eu_call {sp : Sp} {dvs vs xs : List V} {E : XK} {ta : TA} (h : EvA ta σ H vs) (hs : SpU sp (vs ++ dvs) H xs) : EvU (tCall sp dvs E ta) σ H xs := fun H1 e Q q =>
  h H1 e _ fun H2 e2 => hs H2 (e.trans e2) Q (fun p H3 hp e3 h3 => q p H3 (fresh_back e2 hp) (e2.trans e3) h3) E
/-- a, b = f(..), f's answer a new tuple -/
theorem s_tup2U {te : TE} {D : Ends} {i j : Nat} {x y : V} (ha : EvU te σ H [x, y]) (k : ∀ H1, Ex H H1 → D.nx ((σ.set i (some x)).set j (some y)) H1) : tAsg te (gTup K 2 (gCons (gName i) (gCons (gName j) gNil))) D σ H :=
  ha H (Ex.refl H) _ fun p H1 _ e h1 => ⟨p, [x, y], rfl, st_of h1, rfl, x, [y], rfl, y, [], rfl, rfl, k H1 e⟩
theorem q_tup2U {te : TE} {tz : TS} {D : Ends} {i j : Nat} {x y : V} (ha : EvU te σ H [x, y]) (k : ∀ H1, Ex H H1 → tz D ((σ.set i (some x)).set j (some y)) H1) : tSeq (tAsg te (gTup K 2 (gCons (gName i) (gCons (gName j) gNil)))) tz D σ H := s_tup2U (D := { D with nx := tz D }) ha k
theorem q_tup2 {ta : TE} {tz : TS} {D : Ends} {i j : Nat} {p : Addr} {x y : V} (ha : Ev ta σ H (.ref p)) (hp : SqT K H p [x, y]) (k : ∀ H1, Ex H H1 → tz D ((σ.set i (some x)).set j (some y)) H1) : tSeq (tAsg ta (gTup K 2 (gCons (gName i) (gCons (gName j) gNil)))) tz D σ H := s_tup2 (D := { D with nx := tz D }) ha hp k
/-- a, b = x, y -/
theorem s_par {ta : TA} {D : Ends} {i j : Nat} {x y : V} (ha : EvA ta σ H [x, y]) (k : ∀ H1, Ex H H1 → D.nx ((σ.set i (some x)).set j (some y)) H1) : tPar i j ta D σ H := ha H (Ex.refl H) _ fun H1 e => ⟨x, y, rfl, k H1 e⟩
theorem q_par {ta : TA} {tz : TS} {D : Ends} {i j : Nat} {x y : V} (ha : EvA ta σ H [x, y]) (k : ∀ H1, Ex H H1 → tz D ((σ.set i (some x)).set j (some y)) H1) : tSeq (tPar i j ta) tz D σ H := s_par (D := { D with nx := tz D }) ha k
end
theorem natAbs_pow_le {b : Int} {k : Nat} (h : b.natAbs < 2 ^ k) (n : Nat) : (b ^ n).natAbs ≤ 2 ^ (k * n) := by
  rw [Int.natAbs_pow, Nat.pow_mul]
  exact Nat.pow_le_pow_left (Nat.le_of_lt h) n
theorem lt_of_le2 {x k : Nat} (h : x ≤ 2 ^ k) : x < 2 ^ (k + 1) := Nat.lt_of_le_of_lt h (Nat.pow_lt_pow_right (by decide) (Nat.lt_succ_self k))
theorem lt2_mono {x k m : Nat} (h : x < 2 ^ k) (e : k ≤ m) : x < 2 ^ m := Nat.lt_of_lt_of_le h (Nat.pow_le_pow_right (by decide) e)
theorem natAbs_mul_lt {a b : Int} {k m : Nat} (ha : a.natAbs < 2 ^ k) (hb : b.natAbs < 2 ^ m) : (a * b).natAbs < 2 ^ (k + m) := wide_lt ha hb
/-! comprehensions -/
section
variable {K : PySem.W.Frag} {σ : L2.St} {H : Hp} {te tl : TE} {t : TT}
theorem et_yes : EvT tYes σ H true := fun H1 _ _ q => q H1 (Ex.refl H1)
theorem given_map {xs : List V} {F : V → V} : given xs.length (fun _ => true) (fun i => F (xs.getD i .non)) = xs.map F := by
  unfold given
  rw [List.filter_eq_self.mpr (fun _ _ => rfl)]
  refine List.ext_getElem (by simp) fun i h1 h2 => ?_
  simp at h1
  simp [h1]
/-- [e for x in xs] -/
theorem el_map {a : Addr} {xs : List V} {j : Nat} {vs : List Nat} (F : V → V) (h : Ev tl σ H (.ref a)) (hx : SqL K H a xs) (hz : xs.length ≤ 40000) (hw : ∀ x, wipe ((wipe σ vs).set j (some x)) vs = wipe σ vs)
    (he : ∀ (i : Nat) (x : V) H1, Ex H H1 → xs[i]? = some x → Ev te ((wipe σ vs).set j (some x)) H1 (F x)) : EvL (tLc (iList K tl) (gName j) tYes te vs) σ H (xs.map F) := by
  rw [← given_map]
  refine el_lcL _ _ h hx hz hw (fun _ _ _ _ _ => et_yes) fun i x H1 e hi _ => ?_
  have q := he i x H1 e hi
  have g : xs.getD i .non = x := by rw [List.getD_eq_getElem?_getD, hi] <;> rfl
  show Ev _ _ _ (F (xs.getD i .non))
  rw [g]
  exact q
theorem el_mapN {xs : List V} {j : Nat} {vs : List Nat} (F : V → V) (h : EvL tl σ H xs) (hz : xs.length ≤ 40000) (hw : ∀ x, wipe ((wipe σ vs).set j (some x)) vs = wipe σ vs)
    (he : ∀ (i : Nat) (x : V) H1, Ex H H1 → xs[i]? = some x → Ev te ((wipe σ vs).set j (some x)) H1 (F x)) : EvL (tLc (iList K tl) (gName j) tYes te vs) σ H (xs.map F) := by
  rw [← given_map]
  refine el_lcNL _ _ h hz hw (fun _ _ _ _ _ => et_yes) fun i x H1 e hi _ => ?_
  have q := he i x H1 e hi
  have g : xs.getD i .non = x := by rw [List.getD_eq_getElem?_getD, hi] <;> rfl
  show Ev _ _ _ (F (xs.getD i .non))
  rw [g]
  exact q
/-- [e for x in range(lo, hi) if t] -/
theorem el_lcR2 {ta : TA} {j : Nat} {vs : List Nat} {lo n : Int} (f : Nat → Bool) (v : Nat → V) (h : EvA ta σ H [.int lo, .int n]) (hn : 0 ≤ lo ∧ lo ≤ 40000 ∧ -40000 ≤ n ∧ n ≤ 40000) (hw : ∀ x, wipe ((wipe σ vs).set j (some x)) vs = wipe σ vs)
    (ht : ∀ (i : Nat) H1, Ex H H1 → lo + (i : Int) < n → EvT t ((wipe σ vs).set j (some (.int (lo + (i : Int))))) H1 (f i)) (he : ∀ (i : Nat) H1, Ex H H1 → lo + (i : Int) < n → f i = true → Ev te ((wipe σ vs).set j (some (.int (lo + (i : Int))))) H1 (v i)) :
    EvL (tLc (iRng2 ta) (gName j) t te vs) σ H (given (n - lo).toNat f v) := fun H0 e Q q => h H0 e _ fun H1 e1 => ⟨lo, n, rfl, ⟨by omega, by omega, by omega, by omega⟩, fun Dl hD =>
  lc_range (lo := lo) (n := (n - lo).toNat) (Cw H1 f v Dl) ⟨hD, Ex.new hD, upd_same⟩ (fun i H' hi p =>
    ⟨hw _, cw_turn p (by omega) (ht i H1 (e.trans e1) (by omega)) (fun hf => he i H1 (e.trans e1) (by omega) hf)⟩) (fun H' p => q Dl H' (fresh_back e1 p.1) (e1.trans p.2.1) p.2.2)⟩
theorem given_none {n : Nat} {f : Nat → Bool} {v : Nat → V} (h : ∀ i, i < n → f i = false) : given n f v = [] := by
  unfold given
  rw [List.filter_eq_nil_iff.mpr (fun i hi => by simp [h i (List.mem_range.mp hi)])]
  rfl
/-- xs + ys, both new -/
theorem el_cat {ta tb : TE} {xs ys : List V} (ha : EvL ta σ H xs) (hb : EvL tb σ H ys) (hl : xs.length + ys.length ≤ 100000) : EvL (tOp rCat ta tb) σ H (xs ++ ys) := fun H1 e Q q =>
  ha H1 e _ fun p H2 hp e2 h2 => hb H2 (e.trans e2) _ fun p' H3 hp' e3 h3 =>
    ⟨p, p', xs, ys, rfl, rfl, e3 p _ h2, h3, sz_of hl, fun l hl' => q l _ (fresh_back (e2.trans e3) hl') ((e2.trans e3).trans (Ex.new hl')) upd_same⟩
/-- [e for x, y in zip(xs, ys)] -/
theorem el_zip {ta : TA} {i j : Nat} {vs : List Nat} {a b : Addr} {xs ys : List V} (F : V → V → V) (h : EvA ta σ H [.ref a, .ref b]) (hx : SqL K H a xs) (hy : SqL K H b ys) (hl : xs.length = ys.length) (hz : xs.length ≤ 40000)
    (hw : ∀ x y, wipe (((wipe σ vs).set i (some x)).set j (some y)) vs = wipe σ vs)
    (he : ∀ (n : Nat) x y H1, Ex H H1 → xs[n]? = some x → ys[n]? = some y → Ev te (((wipe σ vs).set i (some x)).set j (some y)) H1 (F x y)) :
    EvL (tLc (iZip K ta) (gTup K 2 (gCons (gName i) (gCons (gName j) gNil))) tYes te vs) σ H (List.zipWith F xs ys) := fun H0 e Q q => h H0 e _ fun H1 e1 => ⟨a, b, xs, ys, rfl, ex_l (e.trans e1) hx, ex_l (e.trans e1) hy, fun Dl hD => by
  refine lc_it (walk_zip (n := xs.length) (by omega)) (fun n H' => Ex H1 H' ∧ H' Dl = some (.lst ((List.zipWith F xs ys).take n))) ⟨Ex.new hD, upd_same⟩ (fun n H' _ p => ⟨ex_l ((e.trans e1).trans p.1) hx, ex_l ((e.trans e1).trans p.1) hy⟩) ?_ fun H' p => ?_
  · rintro n v Hh H' hn ⟨p1, p2⟩ ⟨T, x, y, rfl, nT, rfl, g1, g2⟩
    have eT : Ex Hh (upd Hh T (.tup [x, y])) := Ex.new nT
    refine ⟨T, [x, y], rfl, st_of upd_same, rfl, x, [y], rfl, y, [], rfl, rfl, hw x y, ?_⟩
    show te _ _ _
    refine he n x y H1 (e.trans e1) g1 g2 _ (p1.trans eT) _ fun H4 e4 => ?_
    have k2 := e4 Dl _ (eT Dl _ p2)
    refine ⟨_, k2, sz_lt (by rw [List.length_take]; omega), Ex.mut (p1.trans (eT.trans e4)) hD, ?_⟩
    rw [upd_same]
    have gz : (List.zipWith F xs ys)[n]? = some (F x y) := by
      rw [List.getElem?_zipWith, show xs[n]? = some x from g1, show ys[n]? = some y from g2]
    rw [List.take_add_one, gz]
    rfl
  · obtain ⟨p1, p2⟩ := p
    rw [List.take_of_length_le (by rw [List.length_zipWith]; omega)] at p2
    exact q Dl H' (fresh_back e1 hD) (e1.trans p1) p2⟩
theorem ev_gcd {ta tb : TE} {a b : Int} (ha : Ev ta σ H (.int a)) (hb : Ev tb σ H (.int b)) : Ev (tCB rGcd (tCons ta (tCons tb tNil))) σ H (.int ((Nat.gcd a.natAbs b.natAbs : Nat) : Int)) := fun H1 e Q q =>
  ha H1 e _ fun H2 e2 => hb H2 (e.trans e2) _ fun H3 e3 => ⟨a, b, rfl, q H3 (e2.trans e3)⟩
end
/-! data, compared by == -/
section
variable {K : PySem.W.Frag} {σ : L2.St} {H H' : Hp}
mutual
theorem Dp.ex (e : Ex H H') : ∀ (d : PyData) (v : V), Dp K H v d → Dp K H' v d
  | .none, _, h => by cases h; exact .non
  | .bool _, _, h => by cases h; exact .bl _
  | .int _, _, h => by cases h; exact .int _
  | .str _, _, h => by cases h; exact .str _
  | .list ds, _, h => by
    cases h with
    | lst hs ha => exact .lst (ex_l e hs) (DpAll.ex e ds _ ha)
  | .tuple ds, _, h => by
    cases h with
    | tup hs ha => exact .tup (ex_t e hs) (DpAll.ex e ds _ ha)
  | .dict _, _, h => by cases h
theorem DpAll.ex (e : Ex H H') : ∀ (ds : List PyData) (vs : List V), DpAll K H vs ds → DpAll K H' vs ds
  | [], _, h => by cases h; exact .nil
  | d :: ds, _, h => by
    cases h with
    | cons h1 h2 => exact .cons (Dp.ex e d _ h1) (DpAll.ex e ds _ h2)
end
theorem DpAll.len : ∀ {ds : List PyData} {vs : List V}, DpAll K H vs ds → vs.length = ds.length
  | [], _, h => by cases h; rfl
  | d :: ds, _, h => by
    cases h with
    | cons h1 h2 => simp [DpAll.len h2]
def EvD (K : PySem.W.Frag) (te : TE) (σ : L2.St) (H : Hp) (d : PyData) : Prop := ∀ H1, Ex H H1 → ∀ Q : VK, (∀ v H2, Ex H1 H2 → Dp K H2 v d → Q v H2) → te σ H1 Q
def EvDA (K : PySem.W.Frag) (ta : TA) (σ : L2.St) (H : Hp) (ds : List PyData) : Prop := ∀ H1, Ex H H1 → ∀ Q : List V → Hp → Prop, (∀ vs H2, Ex H1 H2 → DpAll K H2 vs ds → Q vs H2) → ta σ H1 Q
variable {te ta tb : TE} {d e : PyData} {ds : List PyData}
theorem ed_of {v : V} (h : Ev te σ H v) (k : Dp K H v d) : EvD K te σ H d := fun H1 e1 Q q => h H1 e1 Q fun H2 e2 => q v H2 e2 (Dp.ex (e1.trans e2) d v k)
theorem ed_int {i : Int} (h : Ev te σ H (.int i)) : EvD K te σ H (.int i) := ed_of h (.int i)
theorem ed_bl {i : Bool} (h : Ev te σ H (.bl i)) : EvD K te σ H (.bool i) := ed_of h (.bl i)
theorem ed_non (h : Ev te σ H .non) : EvD K te σ H .none := ed_of h .non
theorem ed_str {i : Str} (h : Ev te σ H (.str i)) : EvD K te σ H (.str i) := ed_of h (.str i)
theorem eda_nil : EvDA K tNil σ H [] := fun H1 _ _ q => q [] H1 (Ex.refl H1) .nil
theorem eda_cons {tr : TA} (h : EvD K te σ H d) (hr : EvDA K tr σ H ds) : EvDA K (tCons te tr) σ H (d :: ds) := fun H1 e _ q =>
  h H1 e _ fun v H2 e2 dv => hr H2 (e.trans e2) _ fun vs H3 e3 dvs => q (v :: vs) H3 (e2.trans e3) (.cons (Dp.ex e3 d v dv) dvs)
theorem ed_lst {t : TA} (h : EvDA K t σ H ds) (hl : ds.length ≤ 100000) : EvD K (tLst t) σ H (.list ds) := fun H1 e _ q =>
  h H1 e _ fun vs H2 e2 dv => ⟨sz_of (by rw [DpAll.len dv]; exact hl), fun p hp => q _ _ (e2.trans (Ex.new hp)) (.lst (sq_of upd_same) (DpAll.ex (Ex.new hp) ds vs dv))⟩
theorem ed_tup {t : TA} (h : EvDA K t σ H ds) (hl : ds.length ≤ 100000) : EvD K (tTup t) σ H (.tuple ds) := fun H1 e _ q =>
  h H1 e _ fun vs H2 e2 dv => ⟨sz_of (by rw [DpAll.len dv]; exact hl), fun p hp => q _ _ (e2.trans (Ex.new hp)) (.tup (st_of upd_same) (DpAll.ex (Ex.new hp) ds vs dv))⟩
theorem ed_ofL {xs : List V} (h : EvL te σ H xs) (k : DpAll K H xs ds) : EvD K te σ H (.list ds) := fun H1 e1 Q q => h H1 e1 Q fun p H2 _ e2 h2 => q _ H2 e2 (.lst (sq_of h2) (DpAll.ex (e1.trans e2) ds xs k))
theorem ed_ofU {xs : List V} (h : EvU te σ H xs) (k : DpAll K H xs ds) : EvD K te σ H (.tuple ds) := fun H1 e1 Q q => h H1 e1 Q fun p H2 _ e2 h2 => q _ H2 e2 (.tup (st_of h2) (DpAll.ex (e1.trans e2) ds xs k))
theorem dpa_ints : ∀ ns : List Int, DpAll K H (ns.map V.int) (ns.map PyData.int)
  | [] => .nil
  | n :: r => .cons (.int n) (dpa_ints r)
theorem ev_eqD (ha : EvD K ta σ H d) (hb : EvD K tb σ H e) (sd : SeqAt.shaped d = true) (se : SeqAt.shaped e = true) : Ev (tOp (rEqD K) ta tb) σ H (.bl (PyData.eqv d e)) := fun H1 e1 Q q =>
  ha H1 e1 _ fun v H2 e2 dv => hb H2 (e1.trans e2) _ fun u H3 e3 du => ⟨d, e, Dp.ex e3 d v dv, du, sd, se, q H3 (e2.trans e3)⟩
theorem ev_neD (ha : EvD K ta σ H d) (hb : EvD K tb σ H e) (sd : SeqAt.shaped d = true) (se : SeqAt.shaped e = true) : Ev (tOp (rNeD K) ta tb) σ H (.bl (!PyData.eqv d e)) := fun H1 e1 Q q =>
  ha H1 e1 _ fun v H2 e2 dv => hb H2 (e1.trans e2) _ fun u H3 e3 du => ⟨d, e, Dp.ex e3 d v dv, du, sd, se, q H3 (e2.trans e3)⟩
theorem shaped_ints : ∀ ns : List Int, SeqAt.shaped (.list (ns.map PyData.int)) = true := fun ns => by
  have h1 : ∀ ms : List Int, PyData.canLayAll0 (ms.map PyData.int) = true := fun ms => by
    induction ms with
    | nil => rfl
    | cons m r ih => simp [PyData.canLayAll0, PyData.canLay0, ih]
  have h2 : ∀ ms : List Int, PyData.depthAll (ms.map PyData.int) = 0 := fun ms => by
    induction ms with
    | nil => rfl
    | cons m r ih => simp [PyData.depthAll, PyData.depth, ih]
  simp [SeqAt.shaped, PyData.canLay0, h1, PyData.depth, h2]
theorem eqv_same {d : PyData} (h : SeqAt.shaped d = true) : PyData.eqv d d = true := by
  have h1 : PyData.canLay0 d = true := (Bool.and_eq_true_iff.mp h).1
  first
    | exact PySem.P3.eqv_refl d h1
    | exact PyData.eqv_refl d h1
    | exact PySem.SeqAt.eqv_refl d h1
/-- f(k = v): a new tuple back -/
theorem eu_callK {sp : Sp} {gV : List V → List V → List V} {E : XK} {t tk : TA} {vs zs xs : List V} (h : EvA t σ H vs) (hk : EvA tk σ H zs) (hs : SpU sp (gV vs zs) H xs) : EvU (tCallK sp gV E t tk) σ H xs := fun H1 e Q q =>
  h H1 e _ fun H2 e2 => hk H2 (e.trans e2) _ fun H3 e3 => hs H3 ((e.trans e2).trans e3) Q (fun p H4 hp e4 h4 => q p H4 (fresh_back (e2.trans e3) hp) ((e2.trans e3).trans e4) h4) E
theorem ev_callK {sp : Sp} {gV : List V → List V → List V} {E : XK} {t tk : TA} {vs zs : List V} {z : V} (h : EvA t σ H vs) (hk : EvA tk σ H zs) (hs : SpV sp (gV vs zs) H z) : Ev (tCallK sp gV E t tk) σ H z := fun H1 e Q q =>
  h H1 e _ fun H2 e2 => hk H2 (e.trans e2) _ fun H3 e3 => hs H3 ((e.trans e2).trans e3) Q (fun H4 e4 => q H4 ((e2.trans e3).trans e4)) E
/-- isinstance(x, tuple) of a tuple; len of a tuple -/
theorem ev_isT {p : Addr} {xs : List V} {n : String} {b : Bool} (h : Ev ta σ H (.ref p)) (hp : H p = some (.tup xs)) (hk : PySem.W.kitOne K (.type "tuple") (.type n) = some b) : Ev (tCB (rIsi K) (tCons ta (tCons (tC (.ty n)) tNil))) σ H (.bl b) := fun H1 e Q q =>
  h H1 e _ fun H2 e2 => ⟨.ref p, .ty n, .type "tuple", .type n, b, rfl, .ty n, .base (.tup (e2 p _ (e p _ hp))), hk, q H2 e2⟩
theorem ev_lenT {p : Addr} {xs : List V} (ha : Ev ta σ H (.ref p)) (h : SqT K H p xs) : Ev (tCB (rLenS K) (tCons ta tNil)) σ H (.int (xs.length : Int)) := fun H1 e Q q =>
  ha H1 e _ fun H2 e2 => ⟨p, xs, rfl, Or.inr (ex_t (e.trans e2) h), q H2 e2⟩
/-- list(range(a, b)) -/
theorem el_rg2 {a b : Int} (ha : Ev ta σ H (.int a)) (hb : Ev tb σ H (.int b)) (h : RgOk a b) : EvL (tLstRg (tRg2 ta tb)) σ H (rgV a b) := fun H1 e Q q =>
  ha H1 e _ fun H2 e2 => hb H2 (e.trans e2) _ fun H3 e3 => ⟨a, b, rfl, rfl, h, fun p hp => q p _ (fresh_back (e2.trans e3) hp) ((e2.trans e3).trans (Ex.new hp)) upd_same⟩
theorem el_rg1 {b : Int} (hb : Ev tb σ H (.int b)) (h : RgOk 0 b) : EvL (tLstRg (tRg1 tb)) σ H (rgV 0 b) := fun H1 e Q q =>
  hb H1 e _ fun H3 e3 => ⟨b, rfl, h, fun p hp => q p _ (fresh_back e3 hp) (e3.trans (Ex.new hp)) upd_same⟩
end
/-! more statements -/
section
variable {K : PySem.W.Frag} {σ : L2.St} {H H' : Hp} {te tl : TE} {t : TT} {D : Ends} {tu tz : TS} {g : TG}
/-- a comprehension over range(lo, n) that keeps nothing -/
theorem el_noneR2 {ta : TA} {j : Nat} {vs : List Nat} {lo n : Int} (h : EvA ta σ H [.int lo, .int n]) (hn : 0 ≤ lo ∧ lo ≤ 40000 ∧ -40000 ≤ n ∧ n ≤ 40000) (hw : ∀ x, wipe ((wipe σ vs).set j (some x)) vs = wipe σ vs)
    (ht : ∀ (i : Nat) H1, Ex H H1 → lo + (i : Int) < n → EvT t ((wipe σ vs).set j (some (.int (lo + (i : Int))))) H1 false) : EvL (tLc (iRng2 ta) (gName j) t te vs) σ H [] := by
  have q := el_lcR2 (te := te) (fun _ => false) (fun _ => .non) h hn hw ht (fun _ _ _ _ hf => Bool.noConfusion hf)
  rw [given_none (fun _ _ => rfl)] at q
  exact q
/-- a for over a new tuple -/
theorem s_forNU {xs : List V} (h : EvU tl σ H xs) (Pv : Addr → Nat → L2.St → Hp → Prop) (h0 : ∀ p H1, H p = none → Ex H H1 → H1 p = some (.tup xs) → Pv p 0 σ H1) (hl : ∀ p i σ' H', i ≤ xs.length → Pv p i σ' H' → SqT K H' p xs)
    (hs : ∀ p i x σ' H', xs[i]? = some x → Pv p i σ' H' → g x σ' H' fun σ2 H2 => tu { D with nx := Pv p (i + 1), ct := Pv p (i + 1), bk := D.nx } σ2 H2) (hd : ∀ p σ' H', Pv p xs.length σ' H' → D.nx σ' H') : tFor (iTup K tl) g tu D σ H :=
  h H (Ex.refl H) _ fun p H1 hp e h1 => ⟨p, rfl, ⟨xs, st_of h1⟩, for_tup (Pv p) (h0 p H1 hp e h1) (hl p) (hs p) (hd p)⟩
theorem q_forNU {xs : List V} (h : EvU tl σ H xs) (Pv : Addr → Nat → L2.St → Hp → Prop) (h0 : ∀ p H1, H p = none → Ex H H1 → H1 p = some (.tup xs) → Pv p 0 σ H1) (hl : ∀ p i σ' H', i ≤ xs.length → Pv p i σ' H' → SqT K H' p xs)
    (hs : ∀ p i x σ' H', xs[i]? = some x → Pv p i σ' H' → g x σ' H' fun σ2 H2 => tu { D with nx := Pv p (i + 1), ct := Pv p (i + 1), bk := tz D } σ2 H2) (hd : ∀ p σ' H', Pv p xs.length σ' H' → tz D σ' H') : tSeq (tFor (iTup K tl) g tu) tz D σ H :=
  s_forNU (D := { D with nx := tz D }) h Pv h0 hl hs hd
theorem s_asgD {i : Nat} {d : PyData} (h : EvD K te σ H d) (k : ∀ v H1, Ex H H1 → Dp K H1 v d → D.nx (σ.set i (some v)) H1) : tAsg te (gName i) D σ H := h H (Ex.refl H) _ fun v H1 e dv => k v H1 e dv
theorem q_asgD {i : Nat} {d : PyData} (h : EvD K te σ H d) (k : ∀ v H1, Ex H H1 → Dp K H1 v d → tz D (σ.set i (some v)) H1) : tSeq (tAsg te (gName i)) tz D σ H := s_asgD (D := { D with nx := tz D }) h k
end
end Kit

set_option Elab.async false
set_option linter.all false
set_option maxRecDepth 100000
set_option maxHeartbeats 4000000
namespace Kit
open PySem PySem.Spec PyProof.Rows L2 Evl
theorem slot_type_ne : Slot "type" (cmpInfo .NotEq).2.1 "object.__ne__" :=
  .of (owner := "object") (n := "__ne__") (by rw [typeLookup_type, builtinLookup_eq_fast]; kernel_rfl) (by decide +kernel) (by decide +kernel) (by decide +kernel)
    (by first | exact .inl (by decide +kernel) | exact .inr (by decide +kernel)) (by rw [isSubtype_type]; kernel_rfl)
theorem slot_type_eqN : Slot "type" "__eq__" "object.__eq__" :=
  .of (owner := "object") (n := "__eq__") (by rw [typeLookup_type, builtinLookup_eq_fast]; kernel_rfl) (by decide +kernel) (by decide +kernel) (by decide +kernel)
    (by first | exact .inl (by decide +kernel) | exact .inr (by decide +kernel)) (by rw [isSubtype_type]; kernel_rfl)
section
variable {prog : Program} {w : World} {A : Around} {E : Value → Shared → Prop} {s : Shared} {Q : Value → Shared → Prop}
theorem ne_type_same {X : String} (hX : ∀ s' : Shared, s'.TypeIs (.type X) "type") (hu : A.units + 1 < cLine) (h : Q (.bool false) s) : wpAny (model prog w) A (compareOp .NotEq (.type X) (.type X)) Q E s := by
  show wpAny _ A (richCompare .NotEq _ _) Q E s
  refine wpAny_richCompare_same (T := "type") (hX s) (hX s) slot_type_ne ?_
  refine wpAny_call_entry slot_type_ne (hX s) PySem.F.cmpEntry_ne ?_ (PySem.F.cmpArgs_ne _ _)
  unfold Builtin.«object.__ne__»
  have key : wpAny (model prog w) A.in1 (call (.builtin "object.__eq__") [.type X, .type X]) (fun v s' => v = .bool true ∧ s' = s) E s :=
    call_gives slot_type_eqN (hX s) F.entry_object_eq (F.args_object_eq_2 _ _) (PySem.TypeEq.object_eq_same rfl (by simp)) ⟨rfl, rfl⟩
  repeat (first
    | with_reducible refine wpAny_cRoomFor (by show A.units + 1 < cLine; exact hu) ?_
    | (refine wpAny_bind (m := callSpecialIfBound? (.type X) (Str.ofString "__eq__") [.type X])
        (wpAny_callSpecialIfBound?_slot (hX _) slot_type_eqN (wpAny_mono key (fun r s' hr => by
          obtain ⟨rfl, rfl⟩ := hr
          have hq : Q (.bool false) s' := h
          repeat (first | exact ⟨_, rfl, (by intro e; cases e), hq⟩ | exact wpAny_pure ⟨_, rfl, (by intro e; cases e), hq⟩ | (refine wpAny_bind (m := truthy (.bool _)) (wpAny_truthy_bool ?_)) | wp_step)) fun _ _ e => e)))
    | wp_step)
end
end Kit

set_option Elab.async false
set_option linter.all false
set_option maxRecDepth 100000
set_option maxHeartbeats 4000000
namespace Kit
open PySem PySem.Spec PyProof.Rows L2 Evl
section
variable {X : Cx}
def rNeTyS : R2 := fun x y H Q => ∃ m, x = .ty m ∧ y = .ty m ∧ Meta m ∧ Q (.bl false) H
theorem op_neTyS (hu : X.A.units + 1 < cLine) : OpR X (compareOp .NotEq) rNeTyS := by
  intro pins s σ H x y v u Q I rx ry h
  obtain ⟨m, rfl, rfl, hm, q⟩ := h
  cases (show v = Value.type m from rx)
  cases (show u = Value.type m from ry)
  exact ne_type_same hm hu ⟨.bl false, H, I, rfl, q⟩
/-- min of a tuple of ints -/
def rMinT (K : PySem.W.Frag) : List V → Hp → VK → Prop := fun vs H Q => ∃ (a : Addr) (n : Int) (ns : List Int), vs = [V.ref a] ∧ SqT K H a ((n :: ns).map V.int) ∧ Q (.int (ns.foldl min n)) H
theorem alike_ints (ns : List Int) : PySem.W.AlikeAll (ns.map PyData.int) := by
  refine ⟨fun x hx y hy => ?_, fun x hx => ?_⟩
  · obtain ⟨a, _, rfl⟩ := List.mem_map.mp hx
    obtain ⟨b, _, rfl⟩ := List.mem_map.mp hy
    rfl
  · obtain ⟨a, _, rfl⟩ := List.mem_map.mp hx
    exact fun z => by cases z
theorem depth_ints : ∀ ms : List Int, PyData.depthAll (ms.map PyData.int) = 0
  | [] => rfl
  | m :: r => by simp [PyData.depthAll, PyData.depth, depth_ints r]
theorem cr_minT (hc : X.calm = true) (hu : X.A.units + 1 < cLine) : CallR X (.builtin "min") (rMinT X.K) := by
  intro pins s σ H vs us Q I r h
  obtain ⟨a, n, ns, rfl, hs, q⟩ := h
  obtain ⟨its, rv, hl, _⟩ := I.tuple hs
  rw [Vals.ref1 r]
  obtain ⟨as, rd⟩ := Dp.readsAll I (PyData.int n :: ns.map PyData.int) _ its (dpa_ints (n :: ns)) rv
  refine PySem.W.min_tuple_data (I.ok.hd hc) (show s.heap.IsTuple a its.toArray from hl) (by simpa using rd) (alike_ints (n :: ns)) ?_ fun i v h' tk bs hv hr hk => ?_
  · have := depth_ints (n :: ns)
    rw [List.map_cons] at this
    rw [this]
    exact hu
  · rw [PySem.W.minD_ints] at hr
    cases hr with
    | int _ t => exact ⟨.int (ns.foldl min n), H, I.kept (t' := tk) hk, ⟨_, rfl⟩, q⟩
theorem foldl_min_spec : ∀ (ns : List Int) (n : Int), ns.foldl min n ∈ n :: ns ∧ ∀ y ∈ n :: ns, ns.foldl min n ≤ y
  | [], n => ⟨by simp, by simp⟩
  | k :: r, n => by
    obtain ⟨h1, h2⟩ := foldl_min_spec r (min n k)
    refine ⟨?_, fun y hy => ?_⟩
    · rcases List.mem_cons.mp h1 with e | e
      · rw [List.foldl_cons, e]
        rcases Int.le_total n k with h | h
        · rw [Int.min_eq_left h]; simp
        · rw [Int.min_eq_right h]; simp
      · simp [List.foldl_cons, e]
    · have h3 := h2 (min n k) (by simp)
      rw [List.foldl_cons]
      rcases List.mem_cons.mp hy with e | hy
      · omega
      · rcases List.mem_cons.mp hy with e | hy
        · omega
        · exact h2 y (by simp [hy])
end
/-! readings of these -/
section
variable {K : PySem.W.Frag} {σ : L2.St} {H H' : Hp} {ta tb te tl : TE} {D : Ends} {tu tz : TS} {t : TT}
theorem ev_typeL {p : Addr} {xs : List V} (h : Ev ta σ H (.ref p)) (hp : H p = some (.lst xs)) : Ev (tThenZ ta kTyp) σ H (.ty "list") := fun H1 e Q q => h H1 e _ fun H2 e2 => ⟨"list", by
  have := e2 p _ (e p _ hp)
  simp [zTyV, this], q H2 e2⟩
theorem ev_typeT {p : Addr} {xs : List V} (h : Ev ta σ H (.ref p)) (hp : H p = some (.tup xs)) : Ev (tThenZ ta kTyp) σ H (.ty "tuple") := fun H1 e Q q => h H1 e _ fun H2 e2 => ⟨"tuple", by
  have := e2 p _ (e p _ hp)
  simp [zTyV, this], q H2 e2⟩
theorem rv_neTyS {m : String} (hm : Meta m) : RV rNeTyS (.ty m) (.ty m) H (.bl false) := fun H1 _ _ q => ⟨m, rfl, rfl, hm, q H1 (Ex.refl H1)⟩
theorem ev_sumN {ns : List Int} (h : EvL ta σ H (ns.map V.int)) : Ev (tCB (rSum K) (tCons ta tNil)) σ H (.int ns.sum) := fun H1 e Q q => h H1 e _ fun p H2 _ e2 h2 => ⟨p, ns, rfl, sq_of h2, q H2 e2⟩
theorem ev_allN {bs : List Bool} (h : EvL ta σ H (bs.map V.bl)) : Ev (tCB (rAll K) (tCons ta tNil)) σ H (.bl (bs.all id)) := fun H1 e Q q => h H1 e _ fun p H2 _ e2 h2 => ⟨p, bs, rfl, sq_of h2, q H2 e2⟩
theorem ev_minT {p : Addr} {n : Int} {ns : List Int} (h : Ev ta σ H (.ref p)) (hp : SqT K H p ((n :: ns).map V.int)) : Ev (tCB (rMinT K) (tCons ta tNil)) σ H (.int (ns.foldl min n)) := fun H1 e Q q => h H1 e _ fun H2 e2 => ⟨p, n, ns, rfl, ex_t (e.trans e2) hp, q H2 e2⟩
/-- sorted(xs), told by what it is -/
theorem ed_sorted {p : Addr} {ns ms : List Int} (h : Ev ta σ H (.ref p)) (hp : SqL K H p (ns.map V.int)) (hl : ns.length < 64) (hm : ms.Perm ns) (hs : ms.Pairwise (· ≤ ·)) : EvD K (tCB (rSorted K) (tCons ta tNil)) σ H (.list (ms.map PyData.int)) := fun H1 e Q q => h H1 e _ fun H2 e2 =>
  ⟨p, ns, rfl, ex_l (e.trans e2) hp, hl, fun ns' l pm so new => by
    have eq : ns' = ms := by
      exact List.Perm.eq_of_pairwise (le := fun a b : Int => a ≤ b) (fun a b _ _ h1 h2 => Int.le_antisymm h1 h2) so hs (pm.trans hm.symm)
    subst eq
    exact q _ _ (e2.trans (Ex.new new)) (.lst (sq_of upd_same) (dpa_ints _))⟩
/-- a new tuple of a list's items -/
theorem eu_tupOf {p : Addr} {xs : List V} (h : Ev ta σ H (.ref p)) (hp : SqL K H p xs) : EvU (tCB (rTupS K) (tCons ta tNil)) σ H xs := fun H1 e Q q => h H1 e _ fun H2 e2 =>
  ⟨p, xs, rfl, ex_l (e.trans e2) hp, fun l hl => q l _ (fresh_back e2 hl) (e2.trans (Ex.new hl)) upd_same⟩
/-- [0] * n -/
theorem el_rep {xs : List V} {k : Int} (ha : EvL ta σ H xs) (hb : Ev tb σ H (.int k)) (h0 : 0 ≤ k) (h1 : k ≤ 1000) (hx : xs.length ≤ 50) : EvL (tOp rRep ta tb) σ H (List.replicate k.toNat xs).flatten := fun H1 e Q q =>
  ha H1 e _ fun p H2 hp e2 h2 => hb H2 (e.trans e2) _ fun H3 e3 => ⟨p, k, xs, rfl, rfl, e3 p _ h2, by omega, by omega, sz_of (by
    have : xs.length * k.toNat ≤ 50 * 1000 := Nat.mul_le_mul hx (by omega)
    omega), fun l hl => q l _ (fresh_back (e2.trans e3) hl) ((e2.trans e3).trans (Ex.new hl)) upd_same⟩
/-- xs[::-1] -/
theorem el_rev {p : Addr} {xs : List V} (h : Ev ta σ H (.ref p)) (hp : SqL K H p xs) : EvL (tRevL K ta) σ H xs.reverse := fun H1 e Q q => h H1 e _ fun H2 e2 =>
  ⟨p, xs, rfl, ex_l (e.trans e2) hp, fun l hl => q l _ (fresh_back e2 hl) (e2.trans (Ex.new hl)) upd_same⟩
theorem el_revN {xs : List V} (h : EvL ta σ H xs) : EvL (tRevL K ta) σ H xs.reverse := fun H1 e Q q => h H1 e _ fun p H2 _ e2 h2 =>
  ⟨p, xs, rfl, sq_of h2, fun l hl => q l _ (fresh_back e2 hl) (e2.trans (Ex.new hl)) upd_same⟩
/-- for i, x in enumerate(xs): the pair is a new tuple -/
theorem s_forEn {ta : TA} {i j : Nat} {a : Addr} {xs : List V} (h : EvA ta σ H [.ref a]) (hx : SqL K H a xs) (Pv : Nat → L2.St → Hp → Prop) (h0 : ∀ H1, Ex H H1 → Pv 0 σ H1) (hl : ∀ n σ' H', n ≤ xs.length → Pv n σ' H' → SqL K H' a xs)
    (hs : ∀ n x σ' H' H2, xs[n]? = some x → Pv n σ' H' → Ex H' H2 → tu { D with nx := Pv (n + 1), ct := Pv (n + 1), bk := D.nx } ((σ'.set i (some (.int (n : Int)))).set j (some x)) H2) (hd : ∀ σ' H', Pv xs.length σ' H' → D.nx σ' H') :
    tFor (iEnum K ta) (gTup K 2 (gCons (gName i) (gCons (gName j) gNil))) tu D σ H := h H (Ex.refl H) _ fun H1 e => ⟨a, xs, rfl, ex_l e hx, by
  refine for_it walk_enum Pv (h0 H1 e) (fun n σ' H' hn p => hl n σ' H' hn p) ?_ hd
  rintro n v σ' Hh H2 hn p ⟨T, x, y, rfl, nT, rfl, g1, g2⟩
  have ex : V.int (n : Nat) = x := Option.some.inj g1
  subst ex
  exact ⟨T, [.int (n : Nat), y], rfl, st_of upd_same, rfl, _, [y], rfl, y, [], rfl, rfl, hs n y σ' Hh _ g2 p (Ex.new nT)⟩⟩
theorem q_forEn {ta : TA} {i j : Nat} {a : Addr} {xs : List V} (h : EvA ta σ H [.ref a]) (hx : SqL K H a xs) (Pv : Nat → L2.St → Hp → Prop) (h0 : ∀ H1, Ex H H1 → Pv 0 σ H1) (hl : ∀ n σ' H', n ≤ xs.length → Pv n σ' H' → SqL K H' a xs)
    (hs : ∀ n x σ' H' H2, xs[n]? = some x → Pv n σ' H' → Ex H' H2 → tu { D with nx := Pv (n + 1), ct := Pv (n + 1), bk := tz D } ((σ'.set i (some (.int (n : Int)))).set j (some x)) H2) (hd : ∀ σ' H', Pv xs.length σ' H' → tz D σ' H') :
    tSeq (tFor (iEnum K ta) (gTup K 2 (gCons (gName i) (gCons (gName j) gNil))) tu) tz D σ H := s_forEn (D := { D with nx := tz D }) h hx Pv h0 hl hs hd
end
end Kit

set_option Elab.async false
set_option linter.all false
set_option maxRecDepth 100000
set_option maxHeartbeats 4000000
namespace Kit
open PySem PySem.Spec PyProof.Rows L2 Evl
/-! ### new lists of new tuples -/
def TL (H : Hp) (vs : List V) (rs : List (List V)) : Prop := Paired (fun v r => ∃ a, v = .ref a ∧ H a = some (.tup r)) vs rs
theorem TL.imp {H H' : Hp} (f : ∀ a r, H a = some (.tup r) → H' a = some (.tup r)) : ∀ {vs : List V} {rs : List (List V)}, TL H vs rs → TL H' vs rs
  | _, _, .nil => .nil
  | _, _, .cons ⟨a, e, h⟩ t => .cons ⟨a, e, f a _ h⟩ (TL.imp f t)
theorem TL.ex {H H' : Hp} {vs : List V} {rs : List (List V)} (e : Ex H H') (h : TL H vs rs) : TL H' vs rs := h.imp fun a r x => e a _ x
theorem TL.upd {H : Hp} {l : Addr} {xs : List V} {o : HO} {vs : List V} {rs : List (List V)} (hl : H l = some (.lst xs)) (h : TL H vs rs) : TL (upd H l o) vs rs := h.imp fun a r x => by
  rw [upd_ne (ne_of x hl (by intro z; cases z))]
  exact x
theorem TL.len {H : Hp} : ∀ {vs : List V} {rs : List (List V)}, TL H vs rs → vs.length = rs.length
  | _, _, .nil => rfl
  | _, _, .cons _ t => by rw [List.length_cons, List.length_cons, TL.len t]
theorem TL.app {H : Hp} {v : V} {r : List V} (hv : ∃ a, v = .ref a ∧ H a = some (.tup r)) : ∀ {vs : List V} {rs : List (List V)}, TL H vs rs → TL H (vs ++ [v]) (rs ++ [r])
  | _, _, .nil => .cons hv .nil
  | _, _, .cons q t => .cons q (TL.app hv t)
theorem TL.get {H : Hp} : ∀ {vs : List V} {rs : List (List V)} {i : Nat} {v : V}, TL H vs rs → vs[i]? = some v → ∃ a r, v = .ref a ∧ H a = some (.tup r) ∧ rs[i]? = some r
  | _, _, 0, v, .cons ⟨a, e, h⟩ t, hv => ⟨a, _, (Option.some.inj (by simpa using hv)).symm.trans e, h, rfl⟩
  | _, _, i + 1, v, .cons _ t, hv => by
    obtain ⟨a, r, h1, h2, h3⟩ := TL.get (i := i) t (by simpa using hv)
    exact ⟨a, r, h1, h2, by simpa using h3⟩
  | _, _, 0, v, .nil, hv => by simp at hv
  | _, _, i + 1, v, .nil, hv => by simp at hv
theorem TL.rev {H : Hp} : ∀ {vs : List V} {rs : List (List V)}, TL H vs rs → TL H vs.reverse rs.reverse
  | _, _, .nil => .nil
  | _, _, .cons q t => by
    rw [List.reverse_cons, List.reverse_cons]
    exact TL.app q (TL.rev t)
def EvLT (te : TE) (σ : L2.St) (H : Hp) (rs : List (List V)) : Prop := ∀ H1, Ex H H1 → ∀ Q : VK, (∀ p vs H2, H1 p = none → Ex H1 H2 → H2 p = some (.lst vs) → TL H2 vs rs → Q (.ref p) H2) → te σ H1 Q
section
variable {K : PySem.W.Frag} {σ : L2.St} {H H' : Hp} {te tl : TE} {D : Ends} {tz : TS} {t : TT}
/-- [a new tuple for i in range(n)] -/
theorem elt_R1 {ta : TA} {j : Nat} {vs : List Nat} {n : Int} (f : Nat → List V) (h : EvA ta σ H [.int n]) (hn : 0 ≤ n ∧ n ≤ 40000) (hw : ∀ x, wipe ((wipe σ vs).set j (some x)) vs = wipe σ vs)
    (he : ∀ (i : Nat) H1, Ex H H1 → (i : Int) < n → EvU te ((wipe σ vs).set j (some (.int (i : Int)))) H1 (f i)) : EvLT (tLc (iRng1 ta) (gName j) tYes te vs) σ H ((List.range n.toNat).map f) := fun H0 e Q q => h H0 e _ fun H1 e1 => ⟨n, rfl, by omega, by omega, fun Dl hD =>
  lc_range (lo := 0) (n := n.toNat) (fun i H' => Ex H1 H' ∧ ∃ ws, H' Dl = some (.lst ws) ∧ TL H' ws ((List.range i).map f)) ⟨Ex.new hD, [], upd_same, .nil⟩ (fun i H' hi p => by
    obtain ⟨p1, ws, p2, p3⟩ := p
    have e0 : (0 : Int) + (i : Int) = (i : Int) := Int.zero_add _
    show wipe ((wipe σ vs).set j (some (.int ((0 : Int) + (i : Int))))) vs = wipe σ vs ∧ te ((wipe σ vs).set j (some (.int ((0 : Int) + (i : Int))))) H' fun y H4 => ∃ acc, H4 Dl = some (.lst acc) ∧ acc.length < sizeLine ∧ _
    rw [e0]
    refine ⟨hw _, he i H1 (e.trans e1) (by omega) H' p1 _ fun p H4 hp e4 h4 => ⟨ws, e4 Dl _ p2, sz_lt (by
      have := p3.len
      simp at this
      omega), Ex.mut (p1.trans e4) hD, ws ++ [.ref p], upd_same, ?_⟩⟩
    rw [List.range_succ, List.map_append]
    exact ((p3.ex e4).app ⟨p, rfl, h4⟩).upd (e4 Dl _ p2)) (fun H' p => by
      obtain ⟨p1, ws, p2, p3⟩ := p
      exact q Dl ws H' (fresh_back e1 hD) (e1.trans p1) p2 p3)⟩
/-- [a new tuple for x in xs] -/
theorem elt_map {a : Addr} {xs : List V} {j : Nat} {vs : List Nat} (f : Nat → List V) (h : Ev tl σ H (.ref a)) (hx : SqL K H a xs) (hz : xs.length ≤ 40000) (hw : ∀ x, wipe ((wipe σ vs).set j (some x)) vs = wipe σ vs)
    (he : ∀ (i : Nat) (x : V) H1, Ex H H1 → xs[i]? = some x → EvU te ((wipe σ vs).set j (some x)) H1 (f i)) : EvLT (tLc (iList K tl) (gName j) tYes te vs) σ H ((List.range xs.length).map f) := fun H0 e Q q => h H0 e _ fun H1 e1 => ⟨a, rfl, ⟨xs, ex_l (e.trans e1) hx⟩, fun Dl hD =>
  lc_list (xs := xs) (fun i H' => Ex H1 H' ∧ ∃ ws, H' Dl = some (.lst ws) ∧ TL H' ws ((List.range i).map f)) ⟨Ex.new hD, [], upd_same, .nil⟩ (fun i H' _ p => ex_l ((e.trans e1).trans p.1) hx) (fun i x H' hi p => by
    obtain ⟨p1, ws, p2, p3⟩ := p
    show wipe ((wipe σ vs).set j (some x)) vs = wipe σ vs ∧ te ((wipe σ vs).set j (some x)) H' fun y H4 => ∃ acc, H4 Dl = some (.lst acc) ∧ acc.length < sizeLine ∧ _
    refine ⟨hw _, he i x H1 (e.trans e1) hi H' p1 _ fun p H4 hp e4 h4 => ⟨ws, e4 Dl _ p2, sz_lt (by
      have := p3.len
      have := (List.getElem?_eq_some_iff.mp hi).1
      simp at *
      omega), Ex.mut (p1.trans e4) hD, ws ++ [.ref p], upd_same, ?_⟩⟩
    rw [List.range_succ, List.map_append]
    exact ((p3.ex e4).app ⟨p, rfl, h4⟩).upd (e4 Dl _ p2)) (fun H' p => by
      obtain ⟨p1, ws, p2, p3⟩ := p
      exact q Dl ws H' (fresh_back e1 hD) (e1.trans p1) p2 p3)⟩
theorem range_get {α : Type} (rs : List α) (d : α) : rs = (List.range rs.length).map fun i => rs.getD i d := by
  refine List.ext_getElem (by simp) fun i h1 h2 => ?_
  simp [h1]
theorem paired_map {α β γ : Type} {F : β → γ → Prop} (f : α → β) (g : α → γ) : ∀ l : List α, (∀ x ∈ l, F (f x) (g x)) → Paired F (l.map f) (l.map g)
  | [], _ => .nil
  | x :: r, h => .cons (h x (by simp)) (paired_map f g r fun y hy => h y (by simp [hy]))
/-- [x for x in xs if test(x)], xs a list of tuples, the test P of the tuple's items -/
theorem elt_filter {a : Addr} {xs : List V} {rs : List (List V)} {j : Nat} {vs : List Nat} (P : List V → Bool) (h : Ev tl σ H (.ref a)) (hx : SqL K H a xs) (ht : TL H xs rs) (hz : xs.length ≤ 40000) (hw : ∀ x, wipe ((wipe σ vs).set j (some x)) vs = wipe σ vs) (hj : ∀ x, ((wipe σ vs).set j (some x))[j]? = some (some x))
    (he : ∀ (b : Addr) (r : List V) H1, Ex H H1 → r ∈ rs → H1 b = some (.tup r) → EvT t ((wipe σ vs).set j (some (.ref b))) H1 (P r)) : EvLT (tLc (iList K tl) (gName j) t (tVar j) vs) σ H (rs.filter P) := fun H0 e Q q => by
  refine el_lcL (K := K) (f := fun i => P (rs.getD i [])) (v := fun i => xs.getD i .non) h hx hz hw (fun i x H1 e1 hi => ?_) (fun i x H1 e1 hi hf => ?_) H0 e Q fun p H2 hp e2 h2 => ?_
  · obtain ⟨b, r, rfl, hb, hr⟩ := ht.get hi
    have g : rs.getD i [] = r := by rw [List.getD_eq_getElem?_getD, hr] <;> rfl
    show EvT _ _ _ (P (rs.getD i []))
    rw [g]
    exact he b r H1 e1 (List.mem_of_getElem? hr) (e1 b _ hb)
  · have g : xs.getD i .non = x := by rw [List.getD_eq_getElem?_getD, hi] <;> rfl
    show Ev _ _ _ (xs.getD i .non)
    rw [g]
    exact ev_var (hj x)
  · refine q p _ H2 hp e2 h2 ?_
    have e3 : rs.filter P = ((List.range rs.length).filter fun i => P (rs.getD i [])).map fun i => rs.getD i [] := by
      conv => lhs; rw [range_get rs [], List.filter_map]
      rfl
    unfold given
    rw [e3, ht.len]
    refine paired_map _ _ _ fun i hi => ?_
    have hi := List.mem_range.mp (List.mem_filter.mp hi).1
    have hlx : i < xs.length := by rw [ht.len]; exact hi
    obtain ⟨b, r, h1, h2', h3⟩ := ht.get (List.getElem?_eq_getElem hlx)
    refine ⟨b, ?_, ?_⟩
    · rw [List.getD_eq_getElem?_getD, List.getElem?_eq_getElem hlx, h1]
      rfl
    · rw [List.getD_eq_getElem?_getD, h3]
      exact (e.trans e2) b _ h2'
theorem q_asgLT {i : Nat} {rs : List (List V)} (h : EvLT te σ H rs) (k : ∀ p vs H1, H p = none → Ex H H1 → H1 p = some (.lst vs) → TL H1 vs rs → tz D (σ.set i (some (.ref p))) H1) : tSeq (tAsg te (gName i)) tz D σ H := h H (Ex.refl H) _ fun p vs H1 hp e h1 h2 => k p vs H1 hp e h1 h2
theorem s_retLT {rs : List (List V)} (h : EvLT te σ H rs) (k : ∀ p vs H1, H p = none → Ex H H1 → H1 p = some (.lst vs) → TL H1 vs rs → D.rt (.ref p) H1) : tRet te D σ H := h H (Ex.refl H) _ k
end
end Kit

set_option Elab.async false
set_option linter.all false
set_option maxRecDepth 100000
set_option maxHeartbeats 4000000
namespace Kit
open PySem PySem.Spec PyProof.Rows L2 Evl
/-! ### a promise of a def that shows data (repr): no repr may be under way around it -/
structure FnOkG (P : Program) (w : World) (K : PySem.W.Frag) (mg : Str → Option Value) (base : Heap) (n : Nat) (f : Addr) (fd : FuncData) (names : List Str) (want : Sp) : Prop where
  many : ∀ xs H Q E, want xs H Q E → xs.length = names.length
  go : ∀ (A : Around) (frames : List Env) (st : Shared) (H : Hp) (given : Args) (us : List Value) (xs : List V) (Q : VK) (E : XK), A.guards = some [] → Room n A → Env0 P w K mg base A frames st H →
    BindsTo st fd given (names.zip us) → Vals xs us → want xs H Q E → codeAny (model P w) A (.call (.ref f) given) (CR CX0 frames P w H st Q E) st
section
variable {P : Program} {w : World} {K : PySem.W.Frag} {mg : Str → Option Value} {base : Heap}
theorem FnOkG.mono {j n : Nat} {f : Addr} {fd : FuncData} {names : List Str} {want : Sp} (F : FnOkG P w K mg base j f fd names want) (h : j ≤ n) : FnOkG P w K mg base n f fd names want :=
  ⟨F.many, fun A fr st H g us xs Q E hg r => F.go A fr st H g us xs Q E hg (r.mono h)⟩
/-- the rule for such a def -/
theorem funG {x qual : Str} {d : Stmt} {f : Addr} {fd : FuncData} {N names : List Str} {n : Nat} {want : Sp} (F : Fun K x qual d f fd) (S : FnScope N names (defScope d)) (many : ∀ xs H Q E, want xs H Q E → xs.length = names.length)
    (body : ∀ (cv : Value) (A : Around) (frames : List Env) (st : Shared) (H : Hp) (xs : List V) (Q : VK) (E : XK), A.guards = some [] → Room n (A.deeper (envOfC qual (defScope d) st.heap.objs.size f cv)) → want xs H Q E →
      ∃ t, PSs (cxOf CX0 P w K mg base N qual (defScope d) f cv A frames st H E).nox (defBody d) t ∧ t { nx := fun _ H' => Q .non H', rt := Q } (start N xs) H) : FnOkG P w K mg base (n + 1) f fd names want := by
  obtain ⟨o1, o2, v1, v2, v3, an, cv, ct, sl, rfl, look, code⟩ := F.ex
  refine ⟨many, fun A frames st H given us xs Q E hg room en bind vals hw => ?_⟩
  have size := many _ _ _ _ hw
  have inK : K.In st.heap := en.mod.kin.keeps fun b o q => (en.bs b o q).1
  have noLim : st.heap.NoLimit := en.mod.nolimit.keeps fun b o q => (en.bs b o q).1
  have kinds : ∀ y ∈ names.zip us, (defScope d).names.lookup y.1 = some .local ∨ ((defScope d).names.lookup y.1 = some .cell ∧ ((cellsFrom (st.heap.objs.size + 1) (defScope d).names []).lookup y.1).isSome = true) := by
    rintro ⟨a, b⟩ hy
    exact (S.par a (List.of_mem_zip hy).1).elim .inl fun q => .inr ⟨q, PySem.W.cellsFrom_some _ _ _ (.inl q)⟩
  refine codeAny_call_function room.depth (inK _ _ look) rfl S.co S.gen rfl (PySem.W.codeRec_of inK code) (bind _ _ _ _ (wpAny_newFunctionEnv_cells S.kind kinds fun env eq st1 made => ?_))
  cases eq
  refine ⟨noLim.keeps made.toInCall.keep, codeAny_func ?_⟩
  obtain ⟨t, rule, done⟩ := body cv A frames st H xs Q E hg (room.deeper _) hw
  have J : Inv (cxOf CX0 P w K mg base N qual (defScope d) f cv A frames st H E) [] (start N xs) H st1 := inv_start S room.hd en size vals made
  have back : ∀ {σ' : L2.St} {H' : Hp} {v : V} {u : Value} {st2 : Shared}, Inv (cxOf CX0 P w K mg base N qual (defScope d) f cv A frames st H E) [] σ' H' st2 → RelV v u → Q v H' → CE frames P w H st Q u st2 := fun J2 rv q => ⟨_, _, J2.os, J2.bare, J2.base, J2.hok, rv, q⟩
  refine wpAny_mono (rule.nox.run [] st1 (start N xs) H _ J done) (fun r st2 hs => ?_) fun _ _ hs => hs
  match r, hs with
  | .ret u, ⟨v, σ2, H2, J2, rv, q⟩ => exact back J2 rv q
  | .next, ⟨σ2, H2, J2, q⟩ => exact back (v := V.non) (u := Value.none) J2 rfl q
  | .brk, ⟨_, _, _, q⟩ => exact False.elim q
  | .cont, ⟨_, _, _, q⟩ => exact False.elim q
end
/-- such a def is called -/
theorem pe_callG {X : Cx} {n : Nat} {f : Addr} {fd : FuncData} {names : List Str} {want : Sp} {x : Str} {p pos : Pos} {e : Expr} {es : List Expr} {t : TA} (F : FnOkG X.prog X.w X.K X.mg X.base n f fd names want) (hg : X.A.guards = some []) (room : Room n X.A) (gl : Gl X x)
    (at_ : X.mg x = some (.ref f)) (keep : PySem.W.keepIn X.K (.ref f) = true) (bind : Binds X.K fd names []) (ha : PA X (e :: es) t) (nd : (x == ("__debug__" : Str)) = false := by decide)
    (one : starEach (e :: es) X.env = (false, eval e X.env) :: starEach es X.env := by rfl) (plain : (backTo pos (starEach es X.env)).any (·.1) = false := by rfl) : PE X (.Call (.Name x p) (e :: es) [] pos) (tCall want [] E0 t) := by
  refine ⟨fun pins st σ H Q J h => wpAny_Call_Name_kw (ld_glob J gl at_ ?_ nd)⟩
  refine PySem.W.callWith_K (h₀ := X.base) J.ok.mod.kin keep (thn (ha.run pos pins st σ H _ J h) fun us st1 ⟨vs, H1, J1, r, q⟩ => ⟨J1.kIn, ?_⟩) one plain
  have q : want vs H1 Q E0 := by
    have q' : want (vs ++ []) H1 Q E0 := q
    rwa [List.append_nil] at q'
  have size : us.length = names.length := r.length.symm.trans (F.many _ _ _ _ q)
  have bd := bind st1 us J1.kIn (by rw [List.append_nil]; exact size)
  rw [List.append_nil] at bd
  refine wpAny_call (codeAny_mono (F.go X.A X.stack st1 H1 ⟨us, []⟩ us vs Q E0 hg room J1.env0 bd r q) fun res st2 hq => ?_)
  match res, hq with
  | .error _, hq => exact False.elim hq
  | .ok (.ret _), hq => exact J1.after hq
  | .ok .next, hq => exact False.elim hq
  | .ok .brk, hq => exact False.elim hq
  | .ok .cont, hq => exact False.elim hq
/-- the law's promise, at the heap behind the top -/
theorem headG {P : Program} {w : World} {K : PySem.W.Frag} {mg mb : Str → Option Value} {n : Nat} {fa a : Addr} {fd : FuncData} {x : Str} {want : Sp} {st : Shared} {us : List Value} {ns : List Int}
    (inK : K.In st.heap) (glob : st.heap.Ns mainGlobals mg) (blt : st.heap.Ns builtinsNs mb) (boot : ∀ x : Str, x ≠ "__name__" → mb x = bootBuiltins x) (noLim : st.heap.NoLimit) (gens : st.gens = #[])
    (obj : st.heap.get? a = some { cls := .type "list", data := .seq us.toArray }) (allInt : IntsAre us ns) (short : ns.length ≤ sizeLine) (room : Room n callerA)
    (F : ∀ base : Heap, K.In base → base.Ns mainGlobals mg → FnOkG P w K mg base n fa fd [x] want) (bind : ∀ (s : Shared) (u : Value), BindsTo s fd ⟨[u], []⟩ [(x, u)])
    (ask : ∀ H : Hp, Only H → SqL K H a (ns.map V.int) → want [.ref a] H (fun v _ => v = .bl true) fun _ _ _ => False) :
    codeAny (model P w) callerA (.call (.ref fa) ⟨[.ref a], []⟩) (fun r s' => r = .ok (.ret (.bool true)) ∧ OldK st.heap s'.heap ∧ s'.os = st.os ∧ AllBare s'.gens) st := by
  have vals := vals_ints allInt
  have size := allInt.length
  have main : ∀ H : Hp, Only H → SqL K H a (ns.map V.int) → HOk P w H st.heap → (∀ b, H b ≠ none → b = a) → (H a ≠ none → K.lookup a = none) →
      codeAny (model P w) callerA (.call (.ref fa) ⟨[.ref a], []⟩) (fun r s' => r = .ok (.ret (.bool true)) ∧ OldK st.heap s'.heap ∧ s'.os = st.os ∧ AllBare s'.gens) st := by
    intro H only sq ok one not
    have stay : ∀ {b : Addr} {o : Obj}, st.heap.get? b = some o → H b = none → (hidT st.heap H).get? b = some o := fun q z => hidT_get q z
    have free : ∀ {b : Addr}, (b = a → False) → H b = none := fun {b} ne => by
      cases q : H b with
      | none => rfl
      | some u => exact (ne (one b (by rw [q]; exact Option.some_ne_none u))).elim
    have space : ∀ {b : Addr} {m : Str → Option Value}, st.heap.Ns b m → (hidT st.heap H).Ns b m := fun {b m} ⟨o, es, ep, q, d, r⟩ => ⟨o, es, ep, stay q (free fun z => by
      subst z
      rw [obj] at q
      cases q
      exact Data.noConfusion (show Data.seq us.toArray _ = Data.dict es ep from d)), d, r⟩
    have kin : K.In (hidT st.heap H) := fun b o q => stay (inK b o q) (by
      cases z : H b with
      | none => rfl
      | some u =>
        have ne : H b ≠ none := by rw [z]; exact Option.some_ne_none u
        have ba := one b ne
        subst ba
        rw [not ne] at q
        cases q)
    obtain ⟨mc, l1, l2⟩ := noLim
    have md : Mod K mg (hidT st.heap H) := ⟨kin, space glob, ⟨mb, space blt, boot⟩, ⟨mc, space l1, l2⟩⟩
    have en : Env0 P w K mg (hidT st.heap H) callerA [] st H := ⟨rfl, md, fun b o q => of_hidT q, Nat.le_of_eq (hidT_size _ _), trivial, fun b hb => absurd (show b ∈ ([] : List Addr) from hb) (by simp), ok, .of_eq gens⟩
    refine codeAny_mono ((F _ kin (space glob)).go callerA [] st H ⟨[.ref a], []⟩ [.ref a] [.ref a] _ _ rfl room en (bind st (.ref a)) (.cons rfl .nil) (ask H only sq)) fun r s' h => ?_
    match r, h with
    | .error _, h => exact False.elim h
    | .ok .next, h => exact False.elim h
    | .ok .brk, h => exact False.elim h
    | .ok .cont, h => exact False.elim h
    | .ok (.ret u), ⟨v, H', os, bare, un, ok', rel, q⟩ =>
      have q2 : v = .bl true := q
      cases q2
      have r2 : u = Value.bool true := rel
      cases r2
      refine ⟨rfl, OldK.of_keep fun b o e => ?_, os, bare⟩
      rcases only b with z | ⟨ob, xs, z⟩
      · exact un.keep b o e z (fun t => absurd (show b ∈ ([] : List Addr) from t) (by simp)) (by simp)
      · have z2 := un.frzs b ob _ z
        obtain ⟨g1, _⟩ := ok b _ z
        obtain ⟨g2, _⟩ := ok' b _ z2
        rw [e] at g1
        cases g1
        exact g2
  cases own : K.lookup a with
  | some o =>
    have e := inK a o own
    rw [obj] at e
    cases e
    exact main (fun _ => none) (fun _ => .inl rfl) (.inr ⟨_, us.toArray, _, own, rfl, rfl, rfl, by rw [List.size_toArray, size]; exact short, by simpa using vals⟩) (fun b u z => by have y : (none : Option HO) = some u := z; cases y) (fun b z => absurd rfl z) fun z => absurd rfl z
  | none =>
    have yes : (fun b => if b = a then some (HO.frz { cls := .type "list", data := .seq us.toArray } (.lst (ns.map V.int))) else none) a = some (HO.frz { cls := .type "list", data := .seq us.toArray } (.lst (ns.map V.int))) := if_pos rfl
    have no : ∀ b, b ≠ a → (fun b => if b = a then some (HO.frz { cls := .type "list", data := .seq us.toArray } (.lst (ns.map V.int))) else none) b = none := fun b ne => if_neg ne
    generalize (fun b => if b = a then some (HO.frz { cls := .type "list", data := .seq us.toArray } (.lst (ns.map V.int))) else none) = G at yes no
    refine main G (fun b => ?_) (.inl (.inr ⟨_, yes⟩)) (fun b u z => ?_) (fun b z => ?_) fun _ => own
    · by_cases hb : b = a
      · subst hb
        exact .inr ⟨_, _, yes⟩
      · exact .inl (no b hb)
    · by_cases hb : b = a
      · subst hb
        rw [yes] at z
        cases z
        exact ⟨obj, by rw [List.length_map]; exact short, us, _, vals, obj⟩
      · rw [no b hb] at z
        cases z
    · by_cases hb : b = a
      · exact hb
      · exact absurd (no b hb) z
theorem walk_G {l : PySem.W.OpenLaw} {m n : Nat} {q : Program} {loose : List Str} {XP : (Str → Option Value) → Heap → Prop} {YP : World → Heap → Prop} {d : DefRec} {K : Params → PySem.W.Frag} {want : World → Sp} {x : Str}
    (most : l.most = some m) (most2 : m ≤ sizeLine) (noDef : d.params.defaults = []) (room : Room n callerA) (inK : ∀ (w : World) (h : Heap), YP w h → (K w.params).In h)
    (F : ∀ (w : World) (mg : Str → Option Value) (fa : Addr) (h : Heap), (K w.params).In h → h.Ns mainGlobals mg → mg d.name = some (.ref fa) →
      ∃ fd : FuncData, (∀ (s : Shared) (u : Value), BindsTo s fd ⟨[u], []⟩ [(x, u)]) ∧ ∀ base : Heap, (K w.params).In base → base.Ns mainGlobals mg → FnOkG l.prog w (K w.params) mg base n fa fd [x] (want w))
    (ask : ∀ (w : World) (H : Hp) (a : Addr) (ns : List Int), ns.length ≤ m → Only H → SqL (K w.params) H a (ns.map V.int) → want w [.ref a] H (fun v _ => v = .bl true) fun _ _ _ => False) :
    PySem.W.WalkO q loose XP YP l.row.toRowW d [] (fun f vs => PySem.call f vs) :=
  Att.attach_call most noDef fun w s₀ st mg mb fa o pm cd doc a us ns G Y ho hd hcd named obj allInt short gens => by
    have kin := inK w _ Y
    obtain ⟨fd, bind, FF⟩ := F w mg fa _ kin G.T.g named
    exact headG kin G.T.g G.T.b G.T.builtins G.T.nolimit gens obj allInt (Nat.le_trans short most2) room FF bind fun H only sq => ask w H a ns short only sq
/-! ### repr of data -/
def rRepr (K : PySem.W.Frag) : List V → Hp → VK → Prop := fun xs H Q => ∃ p d, xs = [.ref p] ∧ Dp K H (.ref p) d ∧ d.showable = true ∧ d.hasDict = false ∧ d.depth ≤ 50 ∧ d.shown.length ≤ sizeLine ∧ Q (.str d.shown) H
theorem call_reprD {X : Cx} (hg : X.A.guards = some []) (hu : X.A.units + 64 < cLine) : CallR X (.builtin "repr") (rRepr X.K) := by
  intro pins st σ H xs us Q J r h
  obtain ⟨p, d, rfl, dp, hs, hd, hdp, hz, q⟩ := h
  obtain ⟨u, rfl, hu2⟩ : ∃ u, us = [u] ∧ RelV (.ref p) u := by
    cases r with
    | cons a b =>
      cases b
      exact ⟨_, rfl, a⟩
  have e : u = Value.ref p := hu2
  subst e
  obtain ⟨as, rd⟩ := Dp.reads J d _ _ dp hu2
  refine repr_of_reads' rd hs (fun z => by rw [hd] at z; cases z) hg (by omega) (fun _ _ e => e) (fun h' u tk keep => ?_) hz
  exact ⟨.str d.shown, H, J.turnedL (ch := []) (fun b o _ e => keep b o e) (fun b hb => absurd hb (by simp)), ⟨_, rfl⟩, q⟩
section
variable {K : PySem.W.Frag} {σ : L2.St} {H : Hp} {te : TE}
theorem ev_repr {d : PyData} (h : EvD K te σ H d) (hl : isDisplay d = true) (hs : d.showable = true) (hd : d.hasDict = false) (hdp : d.depth ≤ 50) (hz : d.shown.length ≤ sizeLine) : Ev (tCB (rRepr K) (tCons te tNil)) σ H (.str d.shown) := fun H1 e Q q =>
  h H1 e _ fun v H2 e2 dv => by
    have hp : ∃ p, v = .ref p := by
      cases dv with
      | lst _ _ => exact ⟨_, rfl⟩
      | tup _ _ => exact ⟨_, rfl⟩
      | non => cases hl
      | bl _ => cases hl
      | int _ => cases hl
      | str _ => cases hl
    obtain ⟨p, rfl⟩ := hp
    exact ⟨p, d, rfl, dv, hs, hd, hdp, hz, q H2 e2⟩
end
end Kit

set_option Elab.async false
set_option linter.all false
set_option maxRecDepth 100000
set_option maxHeartbeats 4000000
namespace Kit
open PySem PySem.Spec PyProof.Rows L2 Evl
/-! ### data that repr shows, with long ints: at most n signs -/
structure ShN (d : PyData) (n : Nat) : Prop where
  shw : d.showable = true
  nod : d.hasDict = false
  len : d.shown.length ≤ n
  dep : d.depth ≤ 20
theorem shn_int {i : Int} (h : i.natAbs.log2 < 1920) : ShN (.int i) 1921 := ⟨decide_eq_true h, rfl, int_text_len_1921 h, Nat.zero_le _⟩
theorem shn_int2 {i : Int} (h : i.natAbs < 2 ^ 1900) : ShN (.int i) 1921 := shn_int (by
  by_cases z : i.natAbs = 0
  · rw [z]
    decide
  · exact Nat.lt_of_lt_of_le ((Nat.log2_lt z).mpr h) (by decide))
theorem shn_all {n : Nat} : ∀ {ds : List PyData}, (∀ d ∈ ds, ShN d n ∧ d.depth ≤ 19) → PyData.showableAll ds = true ∧ PyData.hasDictAll ds = false ∧ ((PyData.shownAll ds).map (·.length)).sum ≤ n * ds.length ∧ (PyData.shownAll ds).length = ds.length ∧ PyData.depthAll ds ≤ 19
  | [], _ => ⟨rfl, rfl, Nat.zero_le _, rfl, Nat.zero_le _⟩
  | d :: r, h => by
    obtain ⟨a, b, c, e, f⟩ := shn_all fun x hx => h x (List.mem_cons_of_mem _ hx)
    obtain ⟨⟨p, q, s, _⟩, t⟩ := h d List.mem_cons_self
    refine ⟨by simp [PyData.showableAll, a, p], by simp [PyData.hasDictAll, b, q], ?_, by simp [PyData.shownAll, e], by simp only [PyData.depthAll]; omega⟩
    simp only [PyData.shownAll, List.map_cons, List.sum_cons, List.length_cons, Nat.mul_succ]
    omega
theorem shn_list {ds : List PyData} {n : Nat} (h : ∀ d ∈ ds, ShN d n ∧ d.depth ≤ 19) : ShN (.list ds) ((n + 2) * ds.length + 3) := by
  obtain ⟨a, b, c, e, f⟩ := shn_all h
  refine ⟨by simpa [PyData.showable] using a, by simpa [PyData.hasDict] using b, ?_, by simp only [PyData.depth]; omega⟩
  have := listText_len_le (PyData.shownAll ds)
  show (listText (PyData.shownAll ds)).length ≤ _
  rw [e] at this
  rw [Nat.add_mul]
  omega
theorem shn_tup {ds : List PyData} {n : Nat} (h : ∀ d ∈ ds, ShN d n ∧ d.depth ≤ 19) : ShN (.tuple ds) ((n + 2) * ds.length + 3) := by
  obtain ⟨a, b, c, e, f⟩ := shn_all h
  refine ⟨by simpa [PyData.showable] using a, by simpa [PyData.hasDict] using b, ?_, by simp only [PyData.depth]; omega⟩
  have := tupleText_len_le (PyData.shownAll ds)
  show (tupleText (PyData.shownAll ds)).length ≤ _
  rw [e] at this
  rw [Nat.add_mul]
  omega
section
variable {K : PySem.W.Frag} {σ : L2.St} {H : Hp} {te : TE}
theorem ev_reprN {d : PyData} {n : Nat} (h : EvD K te σ H d) (hl : isDisplay d = true) (s : ShN d n) (hn : n ≤ 1000000) : Ev (tCB (rRepr K) (tCons te tNil)) σ H (.str d.shown) :=
  ev_repr h hl s.shw s.nod (by have := s.dep; omega) (Nat.le_trans s.len (Nat.le_trans hn (by rw [sizeLine_eq]; decide)))
end
end Kit

set_option Elab.async false
set_option linter.all false
set_option maxRecDepth 100000
set_option maxHeartbeats 4000000
namespace Kit
open PySem PySem.Spec PyProof.Rows L2 Evl
section
variable {K : PySem.W.Frag} {σ : L2.St} {H : Hp} {ta tb te : TE} {t : TT}
/-- max(xs), told by what it is -/
theorem ev_maxV {a : Addr} {ns : List Int} {m : Int} (h : Ev ta σ H (.ref a)) (ha : SqL K H a (ns.map V.int)) (hm : m ∈ ns) (hl : ∀ y ∈ ns, y ≤ m) : Ev (tCB (rMax K) (tCons ta tNil)) σ H (.int m) := fun H1 e Q q =>
  h H1 e _ fun H2 e2 => ⟨a, ns, rfl, ex_l (e.trans e2) ha, List.length_pos_of_mem hm, fun m' hm' hl' => by
    have h1 := hl m' hm'
    have h2 := hl' m hm
    have : m' = m := by omega
    rw [this]
    exact q H2 e2⟩
/-- [e for i, x in enumerate(xs) if t] -/
theorem el_en {ta : TA} {i j : Nat} {vs : List Nat} {a : Addr} {xs : List V} (f : Nat → Bool) (v : Nat → V) (h : EvA ta σ H [.ref a]) (hx : SqL K H a xs) (hz : xs.length ≤ 40000) (hw : ∀ x y, wipe (((wipe σ vs).set i (some x)).set j (some y)) vs = wipe σ vs)
    (ht : ∀ (n : Nat) x H1, Ex H H1 → xs[n]? = some x → EvT t (((wipe σ vs).set i (some (.int (n : Int)))).set j (some x)) H1 (f n))
    (he : ∀ (n : Nat) x H1, Ex H H1 → xs[n]? = some x → f n = true → Ev te (((wipe σ vs).set i (some (.int (n : Int)))).set j (some x)) H1 (v n)) :
    EvL (tLc (iEnum K ta) (gTup K 2 (gCons (gName i) (gCons (gName j) gNil))) t te vs) σ H (given xs.length f v) := fun H0 e Q q => h H0 e _ fun H1 e1 => ⟨a, xs, rfl, ex_l (e.trans e1) hx, fun Dl hD => by
  refine lc_it walk_enum (Cw H1 f v Dl) ⟨hD, Ex.new hD, upd_same⟩ (fun n H' _ p => ex_l ((e.trans e1).trans p.2.1) hx) ?_ fun H' p => q Dl H' (fresh_back e1 p.1) (e1.trans p.2.1) p.2.2
  rintro n w Hh H' hn p ⟨T, x, y, rfl, nT, rfl, g1, g2⟩
  have ex : V.int (n : Nat) = x := Option.some.inj g1
  subst ex
  have eT : Ex Hh (upd Hh T (.tup [.int (n : Nat), y])) := Ex.new nT
  refine ⟨T, [.int (n : Nat), y], rfl, st_of upd_same, rfl, _, [y], rfl, y, [], rfl, rfl, hw _ y, ?_⟩
  exact cw_turn (H := H1) ⟨p.1, p.2.1.trans eT, eT Dl _ p.2.2⟩ (by omega) (ht n y H1 (e.trans e1) g2) fun hf => he n y H1 (e.trans e1) g2 hf⟩
/-- [e for x, y in zip(xs, ys)], both new lists -/
theorem el_zipN {i j : Nat} {vs : List Nat} {xs ys : List V} (F : V → V → V) (h : EvL ta σ H xs) (h2 : EvL tb σ H ys) (hl : xs.length = ys.length) (hz : xs.length ≤ 40000) (hw : ∀ x y, wipe (((wipe σ vs).set i (some x)).set j (some y)) vs = wipe σ vs)
    (he : ∀ (n : Nat) x y H1, Ex H H1 → xs[n]? = some x → ys[n]? = some y → Ev te (((wipe σ vs).set i (some x)).set j (some y)) H1 (F x y)) :
    EvL (tLc (iZip K (tCons ta (tCons tb tNil))) (gTup K 2 (gCons (gName i) (gCons (gName j) gNil))) tYes te vs) σ H (List.zipWith F xs ys) := fun H0 e Q q =>
  h H0 e _ fun a H1 na e1 ha => h2 H1 (e.trans e1) _ fun b H2 nb e2 hb => by
    have := el_zip (K := K) (H := H2) (ta := fun _ H' R => R [.ref a, .ref b] H') (te := te) (vs := vs) F (fun H3 _ Q q => q H3 (Ex.refl _)) (sq_of (e2 a _ ha)) (sq_of hb) hl hz hw fun n x y H3 e3 g1 g2 => he n x y H3 (e.trans (e1.trans (e2.trans e3))) g1 g2
    exact this H2 (Ex.refl _) Q fun p H3 hp e3 h3 => q p H3 (fresh_back (e1.trans e2) hp) (e1.trans (e2.trans e3)) h3
/-- xs + y, y an old list; x + ys, x an old list -/
theorem el_catR {a : Addr} {xs ys : List V} (h : EvL ta σ H xs) (h2 : Ev tb σ H (.ref a)) (ha : H a = some (.lst ys)) (hz : xs.length + ys.length ≤ 1000) : EvL (tOp rCat ta tb) σ H (xs ++ ys) := fun H1 e Q q =>
  h H1 e _ fun p H2 _ e2 h3 => h2 H2 (e.trans e2) _ fun H3 e3 => ⟨p, a, xs, ys, rfl, rfl, e3 p _ h3, e3 a _ (e2 a _ (e a _ ha)), sz_of (by omega), fun l hl => q l _ (fresh_back (e2.trans e3) hl) ((e2.trans e3).trans (Ex.new hl)) upd_same⟩
theorem el_catL {a : Addr} {xs ys : List V} (h : Ev ta σ H (.ref a)) (ha : H a = some (.lst xs)) (h2 : EvL tb σ H ys) (hz : xs.length + ys.length ≤ 1000) : EvL (tOp rCat ta tb) σ H (xs ++ ys) := fun H1 e Q q =>
  h H1 e _ fun H2 e2 => h2 H2 (e.trans e2) _ fun p H3 _ e3 h3 => ⟨a, p, xs, ys, rfl, rfl, e3 a _ (e2 a _ (e a _ ha)), h3, sz_of (by omega), fun l hl => q l _ (fresh_back (e2.trans e3) hl) ((e2.trans e3).trans (Ex.new hl)) upd_same⟩
end
end Kit

set_option Elab.async false
set_option linter.all false
set_option maxRecDepth 100000
namespace Kit
open PySem PySem.Spec PyProof.Rows L2 Evl
def fac (n : Nat) : Nat := Builtin.Math.factorialNat n
theorem fac_succ (n : Nat) : fac (n + 1) = fac n * (n + 1) := PySem.W.mc_fac_succ n
theorem fac_pos (n : Nat) : 1 ≤ fac n := PySem.W.mc_fac_pos n
theorem fac_mono : ∀ {m n : Nat}, m ≤ n → fac m ≤ fac n := fun {m n} h => by
  induction h with
  | refl => exact Nat.le_refl _
  | step _ ih =>
    rw [Nat.succ_eq_add_one, fac_succ]
    exact Nat.le_trans ih (Nat.le_mul_of_pos_right _ (Nat.succ_pos _))
theorem fac20 : fac 20 < 2 ^ 64 := by decide +kernel
def rFac : List V → Hp → VK → Prop := fun vs H Q => ∃ n : Nat, vs = [.int (n : Int)] ∧ n ≤ 20000 ∧ Q (.int ((fac n : Nat) : Int)) H
section
variable {X : Cx}
theorem cr_factorial : CallR X (.builtin "math.factorial") rFac := by
  intro pins s σ H vs us Q I r h
  obtain ⟨n, rfl, hn, q⟩ := h
  cases r with
  | cons ru rt =>
    cases rt
    obtain ⟨t, rfl⟩ := ru
    refine PySem.W.mc_factorial (Int.natCast_nonneg n) (by omega) fun _ => ?_
    rw [Int.toNat_natCast]
    exact ⟨.int _, H, I.tok _, ⟨_, rfl⟩, q⟩
def rDivmod : List V → Hp → VK → Prop := fun xs H Q => ∃ i j, xs = [.int i, .int j] ∧ CDivP i j ∧ ∀ p, H p = none → Q (.ref p) (upd H p (.tup [.int (i / j), .int (i % j)]))
theorem call_divmodR : CallR X (.builtin "divmod") rDivmod := call_divmodW
end
section
variable {K : PySem.W.Frag} {σ : L2.St} {H : Hp} {ta tb te tl : TE} {D : Ends} {tu tz : TS}
theorem ev_fac {n : Nat} (h : Ev ta σ H (.int (n : Int))) (hn : n ≤ 20000) : Ev (tCB rFac (tCons ta tNil)) σ H (.int ((fac n : Nat) : Int)) := fun H1 e Q q => h H1 e _ fun H2 e2 => ⟨n, rfl, hn, q H2 e2⟩
theorem divp_small {i j : Int} (h : 0 < j) (hj : j.natAbs < 2 ^ 8000) : CDivP i j := ⟨h, PyProof.noPylong_of_log2 (by
  have h2 := (Nat.log2_lt (n := j.natAbs) (k := 8000) (by omega)).mpr hj
  omega)⟩
theorem eu_divmod {a b : Nat} (h : Ev ta σ H (.int (a : Int))) (h2 : Ev tb σ H (.int (b : Int))) (hb : 0 < b) (hb2 : b < 2 ^ 8000) : EvU (tCB rDivmod (tCons ta (tCons tb tNil))) σ H [.int ((a / b : Nat) : Int), .int ((a % b : Nat) : Int)] := fun H1 e Q q =>
  h H1 e _ fun H2 e2 => h2 H2 (e.trans e2) _ fun H3 e3 => ⟨a, b, rfl, divp_small (by omega) (by rw [Int.natAbs_natCast]; exact hb2), fun p hp => q p _ (fresh_back (e2.trans e3) hp) ((e2.trans e3).trans (Ex.new hp)) (by rw [upd_same, Int.natCast_ediv, Int.natCast_emod])⟩
end
end Kit

set_option Elab.async false
set_option linter.all false
set_option maxRecDepth 100000
set_option maxHeartbeats 4000000
namespace Kit
open PySem PySem.Spec PyProof.Rows L2 Evl
section
variable {K : PySem.W.Frag} {σ : L2.St} {H : Hp} {ta tb te tl : TE} {D : Ends} {tu tz : TS} {t : TT}
/-- for i in reversed(range(n)) -/
theorem s_forRev {j n : Nat} (h : Ev ta σ H (.int (n : Int))) (hn : n ≤ 40000) (Pv : Nat → L2.St → Hp → Prop) (h0 : ∀ H1, Ex H H1 → Pv 0 σ H1)
    (hs : ∀ (i : Nat) σ' H', i < n → Pv i σ' H' → tu { D with nx := Pv (i + 1), ct := Pv (i + 1), bk := D.nx } (σ'.set j (some (.int ((n - 1 - i : Nat) : Int)))) H') (hd : ∀ σ' H', Pv n σ' H' → D.nx σ' H') : tFor (iRevR (tRg1 ta)) (gName j) tu D σ H :=
  h H (Ex.refl H) _ fun H1 e => ⟨n, rfl, by
    have e0 : ((n : Int) - 0).toNat = n := by omega
    refine ⟨by omega, by omega, by omega, by omega, ?_⟩
    rw [e0]
    exact for_rangeC Pv (h0 H1 e) (fun i σ' H' hi p => by
      have e1 : (0 : Int) + (n : Int) - 1 + (i : Nat) * (-1) = ((n - 1 - i : Nat) : Int) := by omega
      rw [e1]
      exact hs i σ' H' hi p) hd⟩
theorem q_forRev {j n : Nat} (h : Ev ta σ H (.int (n : Int))) (hn : n ≤ 40000) (Pv : Nat → L2.St → Hp → Prop) (h0 : ∀ H1, Ex H H1 → Pv 0 σ H1)
    (hs : ∀ (i : Nat) σ' H', i < n → Pv i σ' H' → tu { D with nx := Pv (i + 1), ct := Pv (i + 1), bk := tz D } (σ'.set j (some (.int ((n - 1 - i : Nat) : Int)))) H') (hd : ∀ σ' H', Pv n σ' H' → tz D σ' H') : tSeq (tFor (iRevR (tRg1 ta)) (gName j) tu) tz D σ H := s_forRev (D := { D with nx := tz D }) h hn Pv h0 hs hd
/-- [a new tuple for i in range(lo, n)] -/
theorem elt_R2 {ta : TA} {j : Nat} {vs : List Nat} {lo n : Int} (f : Nat → List V) (h : EvA ta σ H [.int lo, .int n]) (hn : 0 ≤ lo ∧ lo ≤ 40000 ∧ -40000 ≤ n ∧ n ≤ 40000) (hw : ∀ x, wipe ((wipe σ vs).set j (some x)) vs = wipe σ vs)
    (he : ∀ (i : Nat) H1, Ex H H1 → lo + (i : Int) < n → EvU te ((wipe σ vs).set j (some (.int (lo + (i : Int))))) H1 (f i)) : EvLT (tLc (iRng2 ta) (gName j) tYes te vs) σ H ((List.range (n - lo).toNat).map f) := fun H0 e Q q => h H0 e _ fun H1 e1 => ⟨lo, n, rfl, ⟨by omega, by omega, by omega, by omega⟩, fun Dl hD =>
  lc_range (lo := lo) (n := (n - lo).toNat) (fun i H' => Ex H1 H' ∧ ∃ ws, H' Dl = some (.lst ws) ∧ TL H' ws ((List.range i).map f)) ⟨Ex.new hD, [], upd_same, .nil⟩ (fun i H' hi p => by
    obtain ⟨p1, ws, p2, p3⟩ := p
    show wipe ((wipe σ vs).set j (some (.int (lo + (i : Int))))) vs = wipe σ vs ∧ te ((wipe σ vs).set j (some (.int (lo + (i : Int))))) H' fun y H4 => ∃ acc, H4 Dl = some (.lst acc) ∧ acc.length < sizeLine ∧ _
    refine ⟨hw _, he i H1 (e.trans e1) (by omega) H' p1 _ fun p H4 hp e4 h4 => ⟨ws, e4 Dl _ p2, sz_lt (by
      have := p3.len
      simp at this
      omega), Ex.mut (p1.trans e4) hD, ws ++ [.ref p], upd_same, ?_⟩⟩
    rw [List.range_succ, List.map_append]
    exact ((p3.ex e4).app ⟨p, rfl, h4⟩).upd (e4 Dl _ p2)) (fun H' p => by
      obtain ⟨p1, ws, p2, p3⟩ := p
      exact q Dl ws H' (fresh_back e1 hD) (e1.trans p1) p2 p3)⟩
end
end Kit

set_option Elab.async false
set_option linter.all false
set_option maxRecDepth 100000
set_option maxHeartbeats 4000000
namespace Kit
open PySem PySem.Spec PyProof.Rows L2 Evl
/-! ### choosing -/
def cho : Nat → Nat → Nat
  | _, 0 => 1
  | 0, _ + 1 => 0
  | n + 1, k + 1 => cho n k + cho n (k + 1)
theorem fac_zero : fac 0 = 1 := rfl
theorem cho_zero (n : Nat) : cho n 0 = 1 := by cases n <;> rfl
theorem cho_gt : ∀ {n k : Nat}, n < k → cho n k = 0
  | 0, _ + 1, _ => rfl
  | n + 1, k + 1, h => by
    show cho n k + cho n (k + 1) = 0
    rw [cho_gt (by omega : n < k), cho_gt (by omega : n < k + 1)]
theorem cho_self : ∀ n : Nat, cho n n = 1
  | 0 => rfl
  | n + 1 => by
    show cho n n + cho n (n + 1) = 1
    rw [cho_self n, cho_gt (Nat.lt_succ_self n)]
theorem cho_next : ∀ n k : Nat, cho n (k + 1) * (k + 1) = cho n k * (n - k)
  | 0, k => by
    rw [Nat.zero_sub, Nat.mul_zero]
    show 0 * (k + 1) = 0
    rw [Nat.zero_mul]
  | n + 1, 0 => by
    have a := cho_next n 0
    show (cho n 0 + cho n 1) * (0 + 1) = cho (n + 1) 0 * (n + 1 - 0)
    rw [cho_zero, cho_zero] at *
    simp only [Nat.zero_add, Nat.mul_one, Nat.sub_zero, Nat.one_mul] at *
    omega
  | n + 1, k + 1 => by
    have a := cho_next n (k + 1)
    have b := cho_next n k
    show (cho n (k + 1) + cho n (k + 2)) * (k + 1 + 1) = (cho n k + cho n (k + 1)) * (n + 1 - (k + 1))
    rcases Nat.lt_or_ge k n with h | h
    · obtain ⟨d, rfl⟩ : ∃ d, n = k + 1 + d := ⟨n - (k + 1), by omega⟩
      rw [show k + 1 + d - (k + 1) = d by omega] at a
      rw [show k + 1 + d - k = d + 1 by omega] at b
      rw [show k + 1 + d + 1 - (k + 1) = d + 1 by omega]
      generalize cho (k + 1 + d) (k + 1) = x at *
      generalize cho (k + 1 + d) k = y at *
      generalize cho (k + 1 + d) (k + 1 + 1) = z at *
      grind
    · rw [show n + 1 - (k + 1) = 0 by omega, cho_gt (by omega : n < k + 1), cho_gt (by omega : n < k + 2)]
      simp
/-- k of n: n! = C(n, k) k! (n - k)! -/
theorem cho_fac : ∀ {n k : Nat}, k ≤ n → cho n k * (fac k * fac (n - k)) = fac n
  | n, 0, _ => by
    rw [cho_zero, Nat.sub_zero]
    rw [fac_zero]
    omega
  | n, k + 1, h => by
    have ih := cho_fac (n := n) (k := k) (by omega)
    have a := cho_next n k
    rw [show n - k = (n - (k + 1)) + 1 by omega, fac_succ] at ih
    rw [show n - k = n - (k + 1) + 1 by omega] at a
    rw [fac_succ]
    generalize fac (n - (k + 1)) = y at *
    generalize fac n = v at *
    generalize cho n (k + 1) = z at *
    generalize cho n k = x at *
    generalize fac k = u at *
    generalize n - (k + 1) = d at *
    have e : z * (u * (k + 1) * y) = z * (k + 1) * (u * y) := by grind
    rw [e, a, ← ih]
    grind
theorem cho_pos {n k : Nat} (h : k ≤ n) : 1 ≤ cho n k := by
  have a := cho_fac h
  have b := fac_pos n
  rcases Nat.eq_zero_or_pos (cho n k) with z | z
  · rw [z, Nat.zero_mul] at a
    omega
  · exact z
theorem cho_le : ∀ n k : Nat, cho n k ≤ 2 ^ n
  | n, 0 => by rw [cho_zero]; exact Nat.one_le_two_pow
  | 0, _ + 1 => Nat.zero_le _
  | n + 1, k + 1 => by
    have a := cho_le n k
    have b := cho_le n (k + 1)
    rw [Nat.pow_succ]
    show cho n k + cho n (k + 1) ≤ _
    omega
theorem fp_fac (n : Nat) : ∀ k : Nat, k ≤ n → Builtin.Math.fallingProduct (n : Int) k * (fac (n - k) : Int) = (fac n : Int)
  | 0, _ => by
    rw [PySem.W.mc_fp_zero, Nat.sub_zero, Int.one_mul]
  | k + 1, h => by
    have ih := fp_fac n k (by omega)
    rw [show n - k = n - (k + 1) + 1 by omega, fac_succ] at ih
    rw [PySem.W.mc_fp_succ, ← ih, show (n : Int) - (k : Int) = ((n - (k + 1) + 1 : Nat) : Int) by omega]
    push_cast
    generalize (fac (n - (k + 1)) : Int) = x
    generalize Builtin.Math.fallingProduct (n : Int) k = y
    grind
theorem fp_self (n : Nat) : Builtin.Math.fallingProduct (n : Int) n = (fac n : Int) := by
  have := fp_fac n n (Nat.le_refl _)
  rw [Nat.sub_self, fac_zero] at this
  simpa using this
theorem cho_sym {n k : Nat} (h : k ≤ n) : cho n k = cho n (n - k) := by
  have a := cho_fac h
  have b := cho_fac (n := n) (k := n - k) (by omega)
  rw [show n - (n - k) = k by omega, Nat.mul_comm (fac (n - k))] at b
  have p : 0 < fac k * fac (n - k) := Nat.mul_pos (fac_pos _) (fac_pos _)
  exact Nat.eq_of_mul_eq_mul_right p (a.trans b.symm)
theorem comb_cho (n k : Nat) : PySem.W.mcComb (n : Int) (k : Int) = (cho n k : Int) := by
  by_cases h : k ≤ n
  · have key : ∀ m : Nat, m ≤ n → Builtin.Math.fallingProduct (n : Int) m / Builtin.Math.fallingProduct (m : Int) m = (cho n m : Int) := fun m hm => by
      have a := fp_fac n m hm
      have b := cho_fac hm
      have f := fac_pos m
      have g := fac_pos (n - m)
      rw [fp_self]
      have e : Builtin.Math.fallingProduct (n : Int) m = (cho n m : Int) * (fac m : Int) := by
        refine Int.eq_of_mul_eq_mul_right (a := (fac (n - m) : Int)) (by omega) ?_
        rw [a, ← b]
        push_cast
        grind
      rw [e]
      exact Int.mul_ediv_cancel _ (by omega)
    rw [PySem.W.mcComb_at (m := ((min k (n - k) : Nat) : Int)) (by omega) (by omega) (by omega), Int.toNat_natCast, key _ (by omega)]
    rcases Nat.le_total k (n - k) with q | q
    · rw [Nat.min_eq_left q]
    · rw [Nat.min_eq_right q, ← cho_sym h]
  · rw [PySem.W.mcComb_above (by omega), cho_gt (by omega)]
    rfl
def prm (n k : Nat) : Int := PySem.W.mcPerm (n : Int) (k : Int)
theorem prm_fac {n k : Nat} (h : k ≤ n) : prm n k * (fac (n - k) : Int) = (fac n : Int) := by
  unfold prm
  rw [PySem.W.mcPerm_at (by omega), Int.toNat_natCast]
  exact fp_fac n k h
theorem prm_pos {n k : Nat} (h : k ≤ n) : 1 ≤ prm n k := PySem.W.mcPerm_pos (by omega) (by omega)
def rComb : List V → Hp → VK → Prop := fun vs H Q => ∃ n k : Nat, vs = [.int (n : Int), .int (k : Int)] ∧ n ≤ 10000 ∧ Q (.int (cho n k : Int)) H
def rPerm : List V → Hp → VK → Prop := fun vs H Q => ∃ n k : Nat, vs = [.int (n : Int), .int (k : Int)] ∧ n ≤ 10000 ∧ k ≤ 10000 ∧ Q (.int (prm n k)) H
section
variable {X : Cx}
theorem cr_comb : CallR X (.builtin "math.comb") rComb := by
  intro pins s σ H vs us Q I r h
  obtain ⟨n, k, rfl, hn, q⟩ := h
  cases r with
  | cons ru r2 =>
    cases r2 with
    | cons rv rt =>
      cases rt
      obtain ⟨t, rfl⟩ := ru
      obtain ⟨u, rfl⟩ := rv
      refine PySem.W.mc_comb_v (Int.natCast_nonneg n) (Int.natCast_nonneg k) (by omega) (by omega) (comb_cho n k) ?_
      exact ⟨.int _, H, I.tok _, ⟨_, rfl⟩, q⟩
theorem cr_perm : CallR X (.builtin "math.perm") rPerm := by
  intro pins s σ H vs us Q I r h
  obtain ⟨n, k, rfl, hn, hk, q⟩ := h
  cases r with
  | cons ru r2 =>
    cases r2 with
    | cons rv rt =>
      cases rt
      obtain ⟨t, rfl⟩ := ru
      obtain ⟨u, rfl⟩ := rv
      refine PySem.W.mc_perm_v (Int.natCast_nonneg n) (Int.natCast_nonneg k) (by omega) (by omega) rfl ?_
      exact ⟨.int _, H, I.tok _, ⟨_, rfl⟩, q⟩
end
section
variable {K : PySem.W.Frag} {σ : L2.St} {H : Hp} {ta tb te tl : TE} {D : Ends} {tu tz : TS}
theorem ev_comb {n k : Nat} (h : Ev ta σ H (.int (n : Int))) (h2 : Ev tb σ H (.int (k : Int))) (hn : n ≤ 10000) : Ev (tCB rComb (tCons ta (tCons tb tNil))) σ H (.int (cho n k : Int)) := fun H1 e Q q => h H1 e _ fun H2 e2 => h2 H2 (e.trans e2) _ fun H3 e3 => ⟨n, k, rfl, hn, q H3 (e2.trans e3)⟩
theorem ev_perm {n k : Nat} (h : Ev ta σ H (.int (n : Int))) (h2 : Ev tb σ H (.int (k : Int))) (hn : n ≤ 10000) (hk : k ≤ 10000) : Ev (tCB rPerm (tCons ta (tCons tb tNil))) σ H (.int (prm n k)) := fun H1 e Q q => h H1 e _ fun H2 e2 => h2 H2 (e.trans e2) _ fun H3 e3 => ⟨n, k, rfl, hn, hk, q H3 (e2.trans e3)⟩
/-- for x, y in zip(xs, ys): the pair is a new tuple -/
theorem s_forZip {ta : TA} {i j n : Nat} {a b : Addr} {xs ys : List V} (h : EvA ta σ H [.ref a, .ref b]) (hx : SqL K H a xs) (hy : SqL K H b ys) (hn : n = min xs.length ys.length) (Pv : Nat → L2.St → Hp → Prop) (h0 : ∀ H1, Ex H H1 → Pv 0 σ H1) (hl : ∀ k σ' H', k ≤ n → Pv k σ' H' → SqL K H' a xs ∧ SqL K H' b ys)
    (hs : ∀ k x y σ' H' H2, xs[k]? = some x → ys[k]? = some y → Pv k σ' H' → Ex H' H2 → tu { D with nx := Pv (k + 1), ct := Pv (k + 1), bk := D.nx } ((σ'.set i (some x)).set j (some y)) H2) (hd : ∀ σ' H', Pv n σ' H' → D.nx σ' H') :
    tFor (iZip K ta) (gTup K 2 (gCons (gName i) (gCons (gName j) gNil))) tu D σ H := h H (Ex.refl H) _ fun H1 e => ⟨a, b, xs, ys, rfl, ex_l e hx, ex_l e hy, by
  refine for_it (walk_zip (n := n) hn) Pv (h0 H1 e) (fun k σ' H' hk p => hl k σ' H' hk p) ?_ hd
  rintro k v σ' Hh H2 hk p ⟨T, x, y, rfl, nT, rfl, g1, g2⟩
  exact ⟨T, [x, y], rfl, st_of upd_same, rfl, x, [y], rfl, y, [], rfl, rfl, hs k x y σ' Hh _ g1 g2 p (Ex.new nT)⟩⟩
theorem q_forZip {ta : TA} {i j n : Nat} {a b : Addr} {xs ys : List V} (h : EvA ta σ H [.ref a, .ref b]) (hx : SqL K H a xs) (hy : SqL K H b ys) (hn : n = min xs.length ys.length) (Pv : Nat → L2.St → Hp → Prop) (h0 : ∀ H1, Ex H H1 → Pv 0 σ H1) (hl : ∀ k σ' H', k ≤ n → Pv k σ' H' → SqL K H' a xs ∧ SqL K H' b ys)
    (hs : ∀ k x y σ' H' H2, xs[k]? = some x → ys[k]? = some y → Pv k σ' H' → Ex H' H2 → tu { D with nx := Pv (k + 1), ct := Pv (k + 1), bk := tz D } ((σ'.set i (some x)).set j (some y)) H2) (hd : ∀ σ' H', Pv n σ' H' → tz D σ' H') :
    tSeq (tFor (iZip K ta) (gTup K 2 (gCons (gName i) (gCons (gName j) gNil))) tu) tz D σ H := s_forZip (D := { D with nx := tz D }) h hx hy hn Pv h0 hl hs hd
/-- [e for x, y in zip(xs, ys)], xs an old list, ys a new one -/
theorem el_zipO {i j : Nat} {vs : List Nat} {a : Addr} {xs ys : List V} (F : V → V → V) (h : Ev ta σ H (.ref a)) (hx : SqL K H a xs) (h2 : EvL tb σ H ys) (hl : xs.length = ys.length) (hz : xs.length ≤ 40000) (hw : ∀ x y, wipe (((wipe σ vs).set i (some x)).set j (some y)) vs = wipe σ vs)
    (he : ∀ (n : Nat) x y H1, Ex H H1 → xs[n]? = some x → ys[n]? = some y → Ev te (((wipe σ vs).set i (some x)).set j (some y)) H1 (F x y)) :
    EvL (tLc (iZip K (tCons ta (tCons tb tNil))) (gTup K 2 (gCons (gName i) (gCons (gName j) gNil))) tYes te vs) σ H (List.zipWith F xs ys) := fun H0 e Q q =>
  h H0 e _ fun H1 e1 => h2 H1 (e.trans e1) _ fun b H2 nb e2 hb => by
    have := el_zip (K := K) (H := H2) (ta := fun _ H' R => R [.ref a, .ref b] H') (te := te) (vs := vs) F (fun H3 _ Q q => q H3 (Ex.refl _)) (ex_l (e.trans (e1.trans e2)) hx) (sq_of hb) hl hz hw fun n x y H3 e3 g1 g2 => he n x y H3 (e.trans (e1.trans (e2.trans e3))) g1 g2
    exact this H2 (Ex.refl _) Q fun p H3 hp e3 h3 => q p H3 (fresh_back (e1.trans e2) hp) (e1.trans (e2.trans e3)) h3
end
end Kit

set_option Elab.async false
set_option linter.all false
set_option maxRecDepth 100000
set_option maxHeartbeats 4000000
namespace Kit
open PySem PySem.Spec PyProof.Rows L2 Evl
theorem slot_type_neR : Slot "type" (cmpInfo .NotEq).2.2 "object.__ne__" :=
  .of (owner := "object") (n := "__ne__") (by rw [typeLookup_type, builtinLookup_eq_fast]; kernel_rfl) (by decide +kernel) (by decide +kernel) (by decide +kernel)
    (by first | exact .inl (by decide +kernel) | exact .inr (by decide +kernel)) (by rw [isSubtype_type]; kernel_rfl)
section
variable {M : Model} {A : Around} {E : Value → Shared → Prop} {s : Shared}
theorem ne_decline {a b : Value} {T id : String} {k : Bool} {Q : Value → Shared → Prop} (ta : ∀ s' : Shared, s'.TypeIs a T) (tb : ∀ s' : Shared, s'.TypeIs b T) (l1 : Slot T (cmpInfo .NotEq).2.1 id) (l2 : Slot T (cmpInfo .NotEq).2.2 id)
    (nh : [a, b].any Value.onHeap = false) (same : isSame a b = pure k) (go : wpAny M A (call (.builtin id) [a, b]) (fun v t => v = .notImplemented ∧ wpAny M A (call (.builtin id) [b, a]) (fun v t2 => v = .notImplemented ∧ Q (.bool (!k)) t2) E t) E s) :
    wpAny M A (richCompare .NotEq a b) Q E s := by
  rcases eq : cmpInfo CmpOp.NotEq with ⟨n1, n2, n3⟩
  rw [eq] at l1 l2
  simp only [richCompare, eq, (ta s).oneThing_none]
  try with_reducible refine wpAny_holding ?_
  refine wpAny_bind (wpAny_cRoomFor_or (.inl nh) (wpAny_bind (wpAny_typeOf (ta s) (wpAny_bind (wpAny_typeOf (tb s) ?_)))))
  simp only [bne_self_eq_false, Bool.false_eq_true, if_false, pure_bind, Bool.not_false, if_true]
  refine wpAny_bind (m := tryCompare a _ b) (wpAny_tryCompare_declines (ta s) l1 (wpAny_mono go (fun v t z => ⟨z.1, ?_⟩) fun _ _ x => x))
  refine wpAny_bind (m := tryCompare b _ a) (wpAny_tryCompare_declines (tb t) l2 (wpAny_mono z.2 (fun v t2 z2 => ⟨z2.1, ?_⟩) fun _ _ x => x))
  refine wpAny_bind (wpAny_rule (wpAny_bind (wpAny_of_eq same (wpAny_pure z2.2))))
end
section
variable {prog : Program} {w : World} {A : Around} {E : Value → Shared → Prop} {s : Shared} {Q : Value → Shared → Prop}
theorem obj_ne_other {X Y : String} (hX : ∀ s' : Shared, s'.TypeIs (.type X) "type") (ne : (Value.type X == Value.type Y) = false) (hu : A.units + 1 < cLine) (h : Q .notImplemented s) : wpAny (model prog w) A (call (.builtin "object.__ne__") [.type X, .type Y]) Q E s := by
  refine wpAny_call_entry slot_type_ne (hX s) PySem.F.cmpEntry_ne ?_ (PySem.F.cmpArgs_ne _ _)
  unfold Builtin.«object.__ne__»
  have key : wpAny (model prog w) A.in1 (call (.builtin "object.__eq__") [.type X, .type Y]) (fun v s' => v = .notImplemented ∧ s' = s) E s :=
    call_gives slot_type_eqN (hX s) F.entry_object_eq (F.args_object_eq_2 _ _) (PySem.TypeEq.object_eq_other rfl ne) ⟨rfl, rfl⟩
  repeat (first
    | with_reducible refine wpAny_cRoomFor (by show A.units + 1 < cLine; exact hu) ?_
    | (refine wpAny_bind (m := callSpecialIfBound? (.type X) (Str.ofString "__eq__") [.type Y])
        (wpAny_callSpecialIfBound?_slot (hX _) slot_type_eqN (wpAny_mono key (fun r s' hr => by
          obtain ⟨rfl, rfl⟩ := hr
          have hq : Q .notImplemented s' := h
          repeat (first | exact hq | exact ⟨_, rfl, hq⟩ | exact wpAny_pure hq | wp_step)) fun _ _ e => e)))
    | wp_step)
theorem ne_type_other {X Y : String} (hX : ∀ s' : Shared, s'.TypeIs (.type X) "type") (hY : ∀ s' : Shared, s'.TypeIs (.type Y) "type") (ne : (Value.type X == Value.type Y) = false) (hu : A.units + 1 < cLine) (h : Q (.bool true) s) : wpAny (model prog w) A (compareOp .NotEq (.type X) (.type Y)) Q E s := by
  have ne' : (Value.type Y == Value.type X) = false := by
    rw [beq_eq_false_iff_ne] at ne ⊢
    exact fun z => ne z.symm
  show wpAny _ A (richCompare .NotEq _ _) Q E s
  exact ne_decline (T := "type") (k := false) hX hY slot_type_ne slot_type_neR rfl (by rw [isSame_plain rfl, ne]) (obj_ne_other hX ne hu ⟨rfl, obj_ne_other hY ne' hu ⟨rfl, h⟩⟩)
end
end Kit

set_option Elab.async false
set_option linter.all false
set_option maxRecDepth 100000
set_option maxHeartbeats 4000000
namespace Kit
open PySem PySem.Spec PyProof.Rows L2 Evl
theorem meets_enum_new1 {v : Value} {o : Obj} {H : Heap → Prop} (B : Begins v o H) :
    Meets (Builtin.«enumerate.__new__» ⟨[.type "enumerate", v], []⟩) (fun _ R s => H s.heap ∧
      R (.ok (.ret (.ref (s.heap.push o).objs.size))) { s with heap := (s.heap.push o).push { cls := .type "enumerate", data := .fields #[.none, .bool false, .ref s.heap.objs.size, rawInt 0, .none, .none] } }) :=
  .of_wp fun prog w A R s h => by
    obtain ⟨hp, g, d, tk, os⟩ := s; obtain ⟨h1, h⟩ := h
    have hsub := sub_enumerate
    have q1 : ∀ {A' : Around} {E : Value → Shared → Prop} {Q : Value → Shared → Prop}, Q (.ref hp.objs.size) ⟨hp.push o, g, d, tk, os⟩ → wpAny (model prog w) A' (pyIter v) Q E ⟨hp, g, d, tk, os⟩ :=
      fun q => B.iter prog w _ _ ⟨hp, g, d, tk, os⟩ _ h1 q
    wp_walk using q1
    refine wpAny_stack_any fun st => wpAny_pure ?_
    split
    · rename_i c _ _ _ _ _
      cases (c == Value.type "enumerate")
      · wp_walk using q1
        exact ⟨_, rfl, h⟩
      · wp_walk using q1
        exact ⟨_, rfl, h⟩
    · wp_walk using q1
      exact ⟨_, rfl, h⟩
section
variable {prog : Program} {w : World} {A : Around} {E : Value → Shared → Prop} {s : Shared}
theorem enum_begins1 {v : Value} {o : Obj} {H : Heap → Prop} {Q : Value → Shared → Prop} (B : Begins v o H) (h1 : H s.heap)
    (h : ∀ h', IsEnum h' (s.heap.objs.size + 1) s.heap.objs.size 0 .none → h'.get? s.heap.objs.size = some o → h'.objs.size = s.heap.objs.size + 2 →
      (∀ b o, s.heap.get? b = some o → h'.get? b = some o) → Q (.ref (s.heap.objs.size + 1)) { s with heap := h' }) :
    wpAny (model prog w) A (call (.type "enumerate") [v]) Q E s := by
  refine callType_new F.called_enumerate (by decide) (F.typeCall_enumerate_1 _) (F.newCall_enumerate_1 _) (fun obj => F.args_object_init_2 obj _) F.entry_enumerate_new
    (meets_enum_new1 B) ⟨h1, ?_⟩
  have hz : (s.heap.push o).objs.size = s.heap.objs.size + 1 := Heap.size_push ..
  show _ ∧ _
  rw [hz]
  have he : IsEnum ((s.heap.push o).push { cls := .type "enumerate", data := .fields #[.none, .bool false, .ref s.heap.objs.size, rawInt 0, .none, .none] }) (s.heap.objs.size + 1) s.heap.objs.size 0 .none := by
    have := Heap.get?_push_size (s.heap.push o) (o := { cls := .type "enumerate", data := .fields #[.none, .bool false, .ref s.heap.objs.size, rawInt 0, .none, .none] }) rfl
    rw [hz] at this; exact this
  refine ⟨⟨_, he, rfl⟩, h _ he (Heap.get?_push_of_some _ (Heap.get?_push_size _ B.free)) (by rw [Heap.size_push, hz]) fun b o x => Heap.get?_push_of_some _ (Heap.get?_push_of_some _ x)⟩
end
end Kit

set_option Elab.async false
set_option linter.all false
set_option maxRecDepth 100000
set_option maxHeartbeats 4000000
namespace Kit
open PySem PySem.Spec PyProof.Rows L2 Evl
/-- the tuple at a, each item in a new pair -/
def IteT (K : PySem.W.Frag) (a : Addr) : It :=
  ⟨fun i H => ∃ (xs : List V) (x : V), SqT K H a xs ∧ xs[i]? = some x, fun i H v H' => ∃ T x, v = .ref T ∧ H T = none ∧ H' = upd H T (.tup [.int (i : Nat), x]) ∧ ∀ xs, SqT K H a xs → xs[i]? = some x, fun i H => ∃ xs : List V, SqT K H a xs ∧ xs.length = i⟩
theorem enum_ne {h : Heap} {e it t : Addr} {i : Int} {old : Value} {vs : Array Value} (he : IsEnum h e it i old) (ht : h.IsTuple t vs) : e ≠ t := fun z => by
  subst z
  obtain ⟨o, ho, hc, _⟩ := ht
  have he' : h.get? e = _ := he
  rw [he'] at ho
  cases ho
  exact absurd hc (by show ¬ (Value.type "enumerate" = Value.type "tuple"); decide +kernel)
theorem turn_enumT {P : Program} {w : World} {K : PySem.W.Frag} {elts : List Expr} {kk : Nat} {tpos : Pos} (a e it : Addr) :
    Turn P w K (.Tuple elts kk tpos) (IteT K a) [e, it] e (fun i h => (∃ old, IsEnum h e it ((i : Nat) : Int) old) ∧ h.IsTupleIter it a i ∧ e ≠ it) where
  mem := by simp
  obj := fun i h st b hb => by
    obtain ⟨⟨old, he⟩, ⟨o, ho, hc, hd⟩, _⟩ := st
    have e' : b = e ∨ b = it := by simpa using hb
    rcases e' with z | z
    · rw [z]; exact ⟨_, he, fun v q => nomatch q⟩
    · rw [z]; exact ⟨o, ho, fun v q => by rw [hd] at q; cases q⟩
  keep := fun i h h' st k => by
    obtain ⟨⟨old, he⟩, ⟨o, ho, hr⟩, hne⟩ := st
    exact ⟨⟨old, k e (by simp) _ he⟩, ⟨o, k it (by simp) o ho, hr⟩, hne⟩
  item := by
    intro X hP hw hK hc i pins s σ H E I hf st hg
    subst hP hw hK
    obtain ⟨⟨old, he⟩, hit, hne⟩ := st
    obtain ⟨xs, x, hq, hx⟩ := hg
    obtain ⟨its, rv, p, hz⟩ := I.tuple hq
    obtain ⟨u, hu, ru⟩ := rv.get hx
    have hel : e < s.heap.objs.size := Heap.lt_size he
    have hil : it < s.heap.objs.size := by obtain ⟨_, q, _⟩ := hit; exact Heap.lt_size q
    have pT : s.heap.IsTuple a its.toArray := p
    have nea : e ≠ a := enum_ne he pT
    have nit : a ≠ it := fun z => by
      subst z
      obtain ⟨o, ho, hc', _⟩ := pT
      obtain ⟨o', ho', hc'', _⟩ := hit
      rw [ho] at ho'
      cases ho'
      rw [hc'] at hc''
      exact absurd hc'' (by decide +kernel)
    have hlt : i < its.toArray.size := by
      have := (List.getElem?_eq_some_iff.mp hu).1
      simpa using this
    refine wpAny_pyNext_enum_itemD (Draws.tuple (by exact I.ok.hd hc) it a nit its.toArray) he ⟨hit, pT⟩ hlt hne (by simp [hne, nea]) fun x' h' tk hx' ho hst' hT hsz hk => ?_
    have eu : u = x' := by
      have : its[i]? = some x' := by simpa using hx'
      rw [hu] at this
      exact Option.some.inj this
    subst eu
    refine ⟨_, rfl, wpAny_letOwnedTupleGo_enum (s := { s with heap := h', toks := tk + 1 }) ho fun h'' he' sb => ?_⟩
    have hT2 : h''.get? s.heap.objs.size = some { cls := .type "tuple", data := .seq #[.int i tk, u] } := (sb.2 _ (Nat.ne_of_gt hel)).trans hT
    have new : ObjOk X.prog X.w (upd H s.heap.objs.size (.tup [.int (i : Nat), x])) h'' s.heap.objs.size (.tup [.int (i : Nat), x]) :=
      ⟨by show 2 ≤ sizeLine; decide, [.int i tk, u], .cons ⟨_, rfl⟩ (.cons ru .nil), ⟨_, hT2, rfl, _, rfl⟩⟩
    have I1 : Inv X pins σ (upd H s.heap.objs.size (.tup [.int (i : Nat), x])) { s with heap := h'', toks := tk + 1 } :=
      I.turnedNew (ch := [e, it]) (fun b ob hb q => (sb.2 b (fun z => hb (by simp [z]))).trans (hk b ob (fun z => hb (by simp [z])) (fun z => hb (by simp [z])) q)) hf (Nat.le_refl _) new
    refine ⟨.ref s.heap.objs.size, _, I1, rfl, ⟨_, x, rfl, I.hok.fresh (Nat.le_refl _), rfl, fun ys hy => by rw [I.tuple_inj hy hq]; exact hx⟩, ⟨⟨u, ?_⟩, ?_, hne⟩, fun b hb => ?_⟩
    · have e1 : ((i + 1 : Nat) : Int) = (i : Int) + 1 := by omega
      rw [e1]; exact he'
    · obtain ⟨o, q, r⟩ := hst'.1
      exact ⟨o, (sb.2 it (Ne.symm hne)).trans q, r⟩
    · have hb' : b < s.heap.objs.size := by
        have e' : b = e ∨ b = it := by simpa using hb
        rcases e' with z | z
        · rw [z]; exact hel
        · rw [z]; exact hil
      rw [upd_ne (Nat.ne_of_lt hb')]
      exact (hf b hb).1
  done := by
    intro X hP hw hK hc i pins s σ H E I hf st hg
    subst hP hw hK
    obtain ⟨⟨old, he⟩, hit, hne⟩ := st
    obtain ⟨xs, hq, hx⟩ := hg
    obtain ⟨its, rv, p, hz⟩ := I.tuple hq
    obtain ⟨f0, f1, f2, f3, f4, f5⟩ := hf it (by simp)
    have hl := rv.length
    have pT : s.heap.IsTuple a its.toArray := p
    have nit : a ≠ it := fun z => by
      subst z
      obtain ⟨o, ho, hc', _⟩ := pT
      obtain ⟨o', ho', hc'', _⟩ := hit
      rw [ho] at ho'
      cases ho'
      rw [hc'] at hc''
      exact absurd hc'' (by decide +kernel)
    have hn : its.toArray.size = i := by
      rw [← hx, hl]
      simp
    subst hn
    exact wpAny_pyNext_enum_endD (Draws.tuple (by exact I.ok.hd hc) it a nit its.toArray) he ⟨hit, pT⟩ fun h' eb => ⟨rfl, I.turned (t' := s.toks) (fun b o hb q => eb b o hb q) f0 f1 f3 f4 f5⟩
  self := fun A i s Q E st h => let ⟨⟨_, he⟩, _⟩ := st; wpAny_pyIter_enum he h
def iEnumS (K : PySem.W.Frag) (ta : TA) : TI := fun σ H R => ta σ H fun vs H1 => ∃ a xs, vs = [.ref a] ∧ ((SqL K H1 a xs ∧ R (Ite K a) H1) ∨ (SqT K H1 a xs ∧ R (IteT K a) H1))
theorem pi_enumS {X : Cx} {e : Expr} {ta : TA} {p pos tpos : Pos} {elts : List Expr} {kk : Nat} (hg : Gl X "enumerate") (hm : X.mg "enumerate" = none) (ha : PA X [e] ta) (hs : starEach [e] X.env = [(false, eval e X.env)] := by rfl) :
    PI X (.Tuple elts kk tpos) (.Call (.Name "enumerate" p) [e] [] pos) (iEnumS X.K ta) := by
  refine ⟨fun pins s σ H R I h => ?_⟩
  refine Call_ (ld_blt I hg hm boot_enumerate (PyProof.Rows.callWith_type1 (thn (ha.run pos pins s σ H _ I h) fun us s1 ⟨vs, H1, I1, r1, q1⟩ => ?_) hs rfl))
  obtain ⟨a, xs, ex, q1⟩ := q1
  subst ex
  cases r1 with
  | cons r rr =>
    cases rr
    cases r
    have fin : ∀ (h' : Heap) (itx : Addr), itx = s1.heap.objs.size → (∀ b o, s1.heap.get? b = some o → h'.get? b = some o) → ∀ b ∈ [s1.heap.objs.size + 1, itx], FpOk X pins H1 b := fun h' itx ei hk b hb => by
      have hle : s1.heap.objs.size ≤ b := by
        have e' : b = s1.heap.objs.size + 1 ∨ b = itx := by simpa using hb
        rcases e' with z | z
        · rw [z]; exact Nat.le_add_right _ _
        · rw [z, ei]; exact Nat.le_refl _
      exact I1.fpOk hle (I1.hok.fresh hle)
    rcases q1 with ⟨hq, q⟩ | ⟨hq, q⟩
    · obtain ⟨its, rv, p', hz⟩ := I1.list hq
      refine call_enumerate_list p'.isList fun h' he hit hsz hk => wpAny_pyIter_enum he ?_
      have I2 : Inv X pins σ H1 { s1 with heap := h' } := I1.kept (t' := s1.toks) hk
      exact ⟨s1.heap.objs.size + 1, [s1.heap.objs.size + 1, s1.heap.objs.size], _, _, H1, rfl, I2, turn_enum a (s1.heap.objs.size + 1) s1.heap.objs.size, ⟨⟨.none, he⟩, hit, Nat.succ_ne_self _⟩, fin h' _ rfl hk, q⟩
    · obtain ⟨its, rv, p', hz⟩ := I1.tuple hq
      refine enum_begins1 (begins_tuple a its.toArray) (show s1.heap.IsTuple a its.toArray from p') fun h' he hit hsz hk => wpAny_pyIter_enum he ?_
      have I2 : Inv X pins σ H1 { s1 with heap := h' } := I1.kept (t' := s1.toks) hk
      exact ⟨s1.heap.objs.size + 1, [s1.heap.objs.size + 1, s1.heap.objs.size], _, _, H1, rfl, I2, turn_enumT a (s1.heap.objs.size + 1) s1.heap.objs.size, ⟨⟨.none, he⟩, ⟨_, hit, rfl, rfl⟩, Nat.succ_ne_self _⟩, fin h' _ rfl hk, q⟩
theorem walk_enumT {K : PySem.W.Frag} {a : Addr} {xs : List V} : Walk (IteT K a) xs.length (fun H => SqT K H a xs) (YPair (fun i => some (.int (i : Nat))) (fun i => xs[i]?)) := by
  refine ⟨fun i _ hi q => ⟨xs, xs[i], q, by simp [hi]⟩, fun _ q => ⟨xs, q, rfl⟩, fun i H v H' _ q y => ?_⟩
  obtain ⟨T, x, h1, h2, h3, h4⟩ := y
  exact ⟨T, .int (i : Nat), x, h1, h2, h3, rfl, h4 xs q⟩
section
variable {K : PySem.W.Frag} {σ : L2.St} {H H' : Hp} {D : Ends} {tu tz : TS}
/-- for i, x in enumerate(xs), xs a list or a tuple -/
theorem s_forEnS {ta : TA} {i j : Nat} {a : Addr} {xs : List V} (h : EvA ta σ H [.ref a]) (G : Hp → Prop) (hG : (∀ H, G H → SqL K H a xs) ∨ (∀ H, G H → SqT K H a xs)) (hx : ∀ H1, Ex H H1 → G H1) (Pv : Nat → L2.St → Hp → Prop) (h0 : ∀ H1, Ex H H1 → Pv 0 σ H1) (hl : ∀ n σ' H', n ≤ xs.length → Pv n σ' H' → G H')
    (hs : ∀ n x σ' H' H2, xs[n]? = some x → Pv n σ' H' → Ex H' H2 → tu { D with nx := Pv (n + 1), ct := Pv (n + 1), bk := D.nx } ((σ'.set i (some (.int (n : Int)))).set j (some x)) H2) (hd : ∀ σ' H', Pv xs.length σ' H' → D.nx σ' H') :
    tFor (iEnumS K ta) (gTup K 2 (gCons (gName i) (gCons (gName j) gNil))) tu D σ H := h H (Ex.refl H) _ fun H1 e => by
  have turn : ∀ n v σ' Hh H2, n < xs.length → Pv n σ' Hh → YPair (fun i => some (.int (i : Nat))) (fun i => xs[i]?) n Hh v H2 → gTup K 2 (gCons (gName i) (gCons (gName j) gNil)) v σ' H2 fun σ2 H3 => tu { D with nx := Pv (n + 1), ct := Pv (n + 1), bk := D.nx } σ2 H3 := by
    rintro n v σ' Hh H2 hn p ⟨T, x, y, rfl, nT, rfl, g1, g2⟩
    have ex : V.int (n : Nat) = x := Option.some.inj g1
    subst ex
    exact ⟨T, [.int (n : Nat), y], rfl, st_of upd_same, rfl, _, [y], rfl, y, [], rfl, rfl, hs n y σ' Hh _ g2 p (Ex.new nT)⟩
  rcases hG with hG | hG
  · exact ⟨a, xs, rfl, .inl ⟨hG _ (hx H1 e), for_it walk_enum Pv (h0 H1 e) (fun n σ' H' hn p => hG _ (hl n σ' H' hn p)) (fun n v σ' Hh H2 => turn n v σ' Hh H2) hd⟩⟩
  · exact ⟨a, xs, rfl, .inr ⟨hG _ (hx H1 e), for_it walk_enumT Pv (h0 H1 e) (fun n σ' H' hn p => hG _ (hl n σ' H' hn p)) (fun n v σ' Hh H2 => turn n v σ' Hh H2) hd⟩⟩
end
end Kit

set_option Elab.async false
set_option linter.all false
set_option maxRecDepth 100000
set_option maxHeartbeats 4000000
namespace Kit
open PySem PySem.Spec PyProof.Rows L2 Evl
/-! list(range(a, b, c)) -/
def rgC (i c : Int) (n : Nat) : List V := (List.range n).map fun k => V.int (i + (k : Nat) * c)
def PRgC (X : Cx) (e : Expr) (t : L2.St → Hp → (Int → Int → Int → Hp → Prop) → Prop) : Prop :=
  ∀ (pins : List (Addr × Obj)) (s : Shared) (σ : L2.St) (H : Hp) (Q : Int → Int → Int → Hp → Prop), Inv X pins σ H s → t σ H Q →
    wpAny (model X.prog X.w) X.A (eval e X.env) (fun x s' => ∃ r a b c t u v H', x = .ref r ∧ IsRange s'.heap r a b c t u v ∧ Inv X pins σ H' s' ∧ Q a b c H') X.xe s
def tRg3 (ta : TA) : L2.St → Hp → (Int → Int → Int → Hp → Prop) → Prop := fun σ H Q => ta σ H fun vs H1 => ∃ i j c, vs = [.int i, .int j, .int c] ∧ (c ≠ 0 ∧ c.natAbs < 1073741824) ∧ Q i j c H1
section
variable {X : Cx}
theorem prg_3 {a b c : Expr} {ta : TA} {p pos : Pos} (hg : Gl X "range") (hm : X.mg "range" = none) (ha : PA X [a, b, c] ta)
    (hs : starEach [a, b, c] X.env = (false, eval a X.env) :: starEach [b, c] X.env := by rfl) (hpl : (backTo pos (starEach [b, c] X.env)).any (·.1) = false := by rfl) : PRgC X (.Call (.Name "range" p) [a, b, c] [] pos) (tRg3 ta) := by
  intro pins s σ H Q I h
  refine Call_ (ld_blt I hg hm boot_range (PyProof.Rows.callWith_type1 (thn (ha.run pos pins s σ H _ I h) fun us s1 ⟨vs, H1, I1, r1, q1⟩ => ?_) hs hpl))
  obtain ⟨i, j, k, e, ⟨c0, c1⟩, q⟩ := q1
  subst e
  cases r1 with
  | cons r rr =>
    cases rr with
    | cons r' rr =>
      cases rr with
      | cons r'' rr =>
        cases rr
        obtain ⟨t, rfl⟩ := r
        obtain ⟨t', rfl⟩ := r'
        obtain ⟨t'', rfl⟩ := r''
        exact call_range_3 c0 ⟨_, i, j, k, _, _, _, H1, rfl, IsRange.new _ _ _ _ _ _ _, I1.kept fun b u e => Heap.get?_push_of_some _ e, q⟩ (.inl (PyProof.noPylong_small c1))
theorem vals_rgC {a c : Int} {n : Nat} {acc : Array Value} (h : ItemsOf (fun i v => ∃ t, v = .int (a + i * c) t) acc n) : Vals (rgC a c n) acc.toList := by
  have e : acc.toList.length = n := by rw [Array.length_toList]; exact h.1
  unfold rgC
  rw [← e]
  refine vals_of_get acc.toList _ fun j u hj => ?_
  obtain ⟨t, rfl⟩ := h.2 j u (by rw [← hj, Array.getElem?_toList])
  exact ⟨t, rfl⟩
def tLstRgC (te : L2.St → Hp → (Int → Int → Int → Hp → Prop) → Prop) : TE := fun σ H Q => te σ H fun a b c H1 => ∃ n : Nat, (Builtin.Range.small a b c = true ∧ Builtin.Range.rangeSize a b c = n ∧ n ≤ 2 ^ 24) ∧ ∀ q, H1 q = none → Q (.ref q) (upd H1 q (.lst (rgC a c n)))
theorem pe_listRgC {e : Expr} {te : L2.St → Hp → (Int → Int → Int → Hp → Prop) → Prop} {p pos : Pos} (hc : X.calm = true) (hg : Gl X "list") (hm : X.mg "list" = none) (he : PRgC X e te) (na : starEach [e] X.env = (false, eval e X.env) :: starEach [] X.env := by rfl) : PE X (.Call (.Name "list" p) [e] [] pos) (tLstRgC te) := by
  refine ⟨fun pins s σ H Q I h => ?_⟩
  refine Call_ (ld_blt I hg hm boot_list (PyProof.Rows.callWith_type1 (args_cons (thn (he pins s σ H _ I h) fun x s1 ⟨r, a, b, c, t, u, v, H1, ex, hr, I1, n, ⟨ok1, ok2, ok3⟩, q⟩ => args_nil ?_) na) na))
  subst ex
  refine call_list_range (n := n) (I1.ok.hd hc) hr ok1 ok2 ok3 fun h' tk acc c' hk e' hi => ?_
  refine ⟨.ref s1.heap.objs.size, upd H1 s1.heap.objs.size (.lst (rgC a c n)), I1.laid hk (Nat.le_refl _) (show ObjOk X.prog X.w _ _ _ (.lst (rgC a c n)) from ⟨?_, acc.toList, c', vals_rgC hi, ?_⟩), rfl, q _ (I1.hok.fresh (Nat.le_refl _))⟩
  · unfold rgC
    rw [List.length_map, List.length_range, sizeLine_eq]
    omega
  · rw [Array.toArray_toList]; exact e'
end
theorem el_down {σ : L2.St} {H : Hp} {ta : TA} {i j : Int} (h : EvA ta σ H [.int i, .int j, .int (-1)]) (hi : 0 ≤ i ∧ i ≤ 1000) (hj : -1 ≤ j ∧ j ≤ 1000) : EvL (tLstRgC (tRg3 ta)) σ H (rgC i (-1) (i - j).toNat) := fun H1 e Q q =>
  h H1 e _ fun H2 e2 => ⟨i, j, -1, rfl, ⟨by decide, by decide⟩, (i - j).toNat, ⟨(RgC.neg (by omega) (by omega) (by omega) (by omega)).2.2.1, (RgC.neg (by omega) (by omega) (by omega) (by omega)).2.2.2, by omega⟩, fun l hl => q l _ (fresh_back e2 hl) (e2.trans (Ex.new hl)) upd_same⟩
end Kit

set_option Elab.async false
set_option linter.all false
set_option maxRecDepth 100000
set_option maxHeartbeats 4000000
namespace Kit
open PySem PySem.Spec PyProof.Rows L2 Evl
/-! ### any thing: none, bools, ints, texts, tuples, dicts, lists of data -/
inductive It (K : PySem.W.Frag) (H : Hp) : V → PyData → Prop
  | non : It K H .non .none
  | bl (b : Bool) : It K H (.bl b) (.bool b)
  | int (i : Int) : It K H (.int i) (.int i)
  | str (x : Str) : It K H (.str x) (.str x)
  | lst {a : Addr} {xs : List V} {ds : List PyData} (h : H a = some (.lst xs)) (hd : DpAll K H xs ds) : It K H (.ref a) (.list ds)
theorem It.ex {K : PySem.W.Frag} {H H' : Hp} {v : V} {d : PyData} (e : Ex H H') (h : It K H v d) : It K H' v d := by
  cases h with
  | non => exact .non
  | bl b => exact .bl b
  | int i => exact .int i
  | str x => exact .str x
  | lst h hd => exact .lst (e _ _ h) (DpAll.ex e _ _ hd)
theorem It.dp {K : PySem.W.Frag} {H : Hp} {v : V} {d : PyData} (h : It K H v d) : Dp K H v d := by
  cases h with
  | non => exact .non
  | bl b => exact .bl b
  | int i => exact .int i
  | str x => exact .str x
  | lst h hd => exact .lst (sq_of h) hd
def ItAll (K : PySem.W.Frag) (H : Hp) (vs : List V) (ds : List PyData) : Prop := Paired (It K H) vs ds
theorem ItAll.ex {K : PySem.W.Frag} {H H' : Hp} (e : Ex H H') : ∀ {vs : List V} {ds : List PyData}, ItAll K H vs ds → ItAll K H' vs ds
  | _, _, .nil => .nil
  | _, _, .cons h t => .cons (h.ex e) (ItAll.ex e t)
theorem ItAll.dp {K : PySem.W.Frag} {H : Hp} : ∀ {vs : List V} {ds : List PyData}, ItAll K H vs ds → DpAll K H vs ds
  | _, _, .nil => .nil
  | _, _, .cons h t => .cons h.dp (ItAll.dp t)
theorem ItAll.app {K : PySem.W.Frag} {H : Hp} : ∀ {vs ws : List V} {ds es : List PyData}, ItAll K H vs ds → ItAll K H ws es → ItAll K H (vs ++ ws) (ds ++ es)
  | _, _, _, _, .nil, q => q
  | _, _, _, _, .cons h t, q => .cons h (ItAll.app t q)
theorem ItAll.len {K : PySem.W.Frag} {H : Hp} {vs : List V} {ds : List PyData} (h : ItAll K H vs ds) : vs.length = ds.length := Paired.length h
theorem ita_ints {K : PySem.W.Frag} {H : Hp} : ∀ ns : List Int, ItAll K H (ns.map V.int) (ns.map PyData.int)
  | [] => .nil
  | n :: r => .cons (.int n) (ita_ints r)
def Fine (ds : List PyData) : Prop := ∀ d ∈ ds, d.canLay0 = true ∧ d.depth ≤ 5
theorem fine_nil : Fine [] := fun d h => by cases h
theorem fine_cons {d : PyData} {ds : List PyData} (h : d.canLay0 = true) (h2 : d.depth ≤ 5) (t : Fine ds) : Fine (d :: ds) := fun x hx => by
  rcases List.mem_cons.mp hx with e | e
  · rw [e]
    exact ⟨h, h2⟩
  · exact t x e
theorem fine_app {ds es : List PyData} (h : Fine ds) (h2 : Fine es) : Fine (ds ++ es) := fun x hx => (List.mem_append.mp hx).elim (h x) (h2 x)
theorem fine_ints : ∀ ns : List Int, Fine (ns.map PyData.int)
  | [] => fine_nil
  | n :: r => fine_cons rfl (Nat.zero_le _) (fine_ints r)
theorem Fine.sub {ds es : List PyData} (h : Fine ds) (s : ∀ x ∈ es, x ∈ ds) : Fine es := fun x hx => h x (s x hx)
theorem Fine.shaped {ds : List PyData} (h : Fine ds) : SeqAt.shaped (.list ds) = true := by
  have : PyData.canLayAll0 ds = true ∧ PyData.depthAll ds ≤ 5 := by
    induction ds with
    | nil => exact ⟨rfl, Nat.zero_le _⟩
    | cons d r ih =>
      obtain ⟨a, b⟩ := ih fun x hx => h x (List.mem_cons_of_mem _ hx)
      obtain ⟨c, e⟩ := h d List.mem_cons_self
      refine ⟨by simp [PyData.canLayAll0, a, c], ?_⟩
      simp [PyData.depthAll]
      omega
  simp [SeqAt.shaped, PyData.canLay0, this.1, PyData.depth]
  omega
inductive Th (K : PySem.W.Frag) (H : Hp) : V → Option (List PyData) → Prop
  | non : Th K H .non none
  | bl (b : Bool) : Th K H (.bl b) none
  | int (i : Int) : Th K H (.int i) none
  | str (x : Str) : Th K H (.str x) none
  | tup {a : Addr} {xs : List V} (h : H a = some (.tup xs)) : Th K H (.ref a) none
  | dct {a : Addr} {kvs : List (Key × V)} (h : H a = some (.dK kvs)) : Th K H (.ref a) none
  | lst {a : Addr} {xs : List V} {ds : List PyData} (h : H a = some (.lst xs)) (hd : ItAll K H xs ds) (hf : Fine ds) : Th K H (.ref a) (some ds)
def AT (K : PySem.W.Frag) (H : Hp) (v : V) : Prop := ∃ o, Th K H v o
section
variable {K : PySem.W.Frag} {σ : L2.St} {H H' : Hp} {te ta tb : TE} {t tr : TA}
theorem Th.ex {v : V} {o : Option (List PyData)} (e : Ex H H') (h : Th K H v o) : Th K H' v o := by
  cases h with
  | non => exact .non
  | bl b => exact .bl b
  | int i => exact .int i
  | str x => exact .str x
  | tup h => exact .tup (e _ _ h)
  | dct h => exact .dct (e _ _ h)
  | lst h hd hf => exact .lst (e _ _ h) (hd.ex e) hf
theorem AT.ex {v : V} (e : Ex H H') (h : AT K H v) : AT K H' v := h.imp fun _ x => x.ex e
def EvTh (K : PySem.W.Frag) (te : TE) (σ : L2.St) (H : Hp) : Prop := ∀ H1, Ex H H1 → ∀ Q : VK, (∀ v H2, Ex H1 H2 → AT K H2 v → Q v H2) → te σ H1 Q
def EvThA (K : PySem.W.Frag) (ta : TA) (σ : L2.St) (H : Hp) (n : Nat) : Prop := ∀ H1, Ex H H1 → ∀ Q : List V → Hp → Prop, (∀ vs H2, Ex H1 H2 → vs.length = n → (∀ v ∈ vs, AT K H2 v) → Q vs H2) → ta σ H1 Q
theorem tha_nil : EvThA K tNil σ H 0 := fun H1 _ _ q => q [] H1 (Ex.refl H1) rfl (by simp)
theorem tha_cons {n : Nat} (h : EvTh K te σ H) (hr : EvThA K tr σ H n) : EvThA K (tCons te tr) σ H (n + 1) := fun H1 e _ q =>
  h H1 e _ fun v H2 e2 hv => hr H2 (e.trans e2) _ fun vs H3 e3 hl hvs => q (v :: vs) H3 (e2.trans e3) (by simp [hl]) fun x hx => by
    rcases List.mem_cons.mp hx with z | z
    · rw [z]
      exact hv.ex e3
    · exact hvs x z
theorem th_non (h : Ev te σ H .non) : EvTh K te σ H := fun H1 e Q q => h H1 e Q fun H2 e2 => q _ H2 e2 ⟨_, .non⟩
theorem th_bl {b : Bool} (h : Ev te σ H (.bl b)) : EvTh K te σ H := fun H1 e Q q => h H1 e Q fun H2 e2 => q _ H2 e2 ⟨_, .bl b⟩
theorem th_int {i : Int} (h : Ev te σ H (.int i)) : EvTh K te σ H := fun H1 e Q q => h H1 e Q fun H2 e2 => q _ H2 e2 ⟨_, .int i⟩
theorem th_str {x : Str} (h : Ev te σ H (.str x)) : EvTh K te σ H := fun H1 e Q q => h H1 e Q fun H2 e2 => q _ H2 e2 ⟨_, .str x⟩
theorem th_U {xs : List V} (h : EvU te σ H xs) : EvTh K te σ H := fun H1 e Q q => h H1 e Q fun p H2 _ e2 h2 => q _ H2 e2 ⟨_, .tup h2⟩
theorem th_L {xs : List V} (h : EvL te σ H xs) (hd : ∃ ds, ItAll K H xs ds ∧ Fine ds) : EvTh K te σ H := fun H1 e Q q => h H1 e Q fun p H2 _ e2 h2 => q _ H2 e2 (by
  obtain ⟨ds, d, f⟩ := hd
  exact ⟨_, .lst h2 (d.ex (e.trans e2)) f⟩)
def EvIA (K : PySem.W.Frag) (ta : TA) (σ : L2.St) (H : Hp) (ds : List PyData) : Prop := ∀ H1, Ex H H1 → ∀ Q : List V → Hp → Prop, (∀ vs H2, Ex H1 H2 → ItAll K H2 vs ds → Q vs H2) → ta σ H1 Q
def EvI (K : PySem.W.Frag) (te : TE) (σ : L2.St) (H : Hp) (d : PyData) : Prop := ∀ H1, Ex H H1 → ∀ Q : VK, (∀ v H2, Ex H1 H2 → It K H2 v d → Q v H2) → te σ H1 Q
theorem ia_nil : EvIA K tNil σ H [] := fun H1 _ _ q => q [] H1 (Ex.refl H1) .nil
theorem ia_cons {d : PyData} {ds : List PyData} (h : EvI K te σ H d) (hr : EvIA K tr σ H ds) : EvIA K (tCons te tr) σ H (d :: ds) := fun H1 e _ q =>
  h H1 e _ fun v H2 e2 dv => hr H2 (e.trans e2) _ fun vs H3 e3 dvs => q (v :: vs) H3 (e2.trans e3) (.cons (dv.ex e3) dvs)
theorem it_of {v : V} {d : PyData} (h : Ev te σ H v) (k : It K H v d) : EvI K te σ H d := fun H1 e Q q => h H1 e Q fun H2 e2 => q v H2 e2 (k.ex (e.trans e2))
theorem it_D {ds : List PyData} (h : EvDA K t σ H ds) (hl : ds.length ≤ 100000) : EvI K (tLst t) σ H (.list ds) := fun H1 e Q q =>
  h H1 e _ fun vs H2 e2 dv => ⟨sz_of (by rw [DpAll.len dv]; exact hl), fun p hp => q _ _ (e2.trans (Ex.new hp)) (.lst upd_same (DpAll.ex (Ex.new hp) ds vs dv))⟩
theorem th_D {ds : List PyData} (h : EvIA K t σ H ds) (hf : Fine ds) (hl : ds.length ≤ 100000) : EvTh K (tLst t) σ H := fun H1 e Q q =>
  h H1 e _ fun vs H2 e2 dv => ⟨sz_of (by rw [dv.len]; exact hl), fun p hp => q _ _ (e2.trans (Ex.new hp)) ⟨_, .lst upd_same (dv.ex (Ex.new hp)) hf⟩⟩
theorem th_var {i : Nat} {v : V} (h : σ[i]? = some (some v)) (hv : AT K H v) : EvTh K (tVar i) σ H := fun H1 e Q q => ⟨v, h, q v H1 (Ex.refl _) (hv.ex e)⟩
theorem th_dnew : EvTh K tDNewK σ H := fun H1 e Q q p hp => q _ _ (Ex.new hp) ⟨_, .dct upd_same⟩
theorem th_disp {x : Str} {i : Int} : EvTh K (tDisp [(tC (.str x), tC (.int i))]) σ H := fun H1 e Q q p hp =>
  ⟨upd_same, [(.inr x, .int i)], rfl, Nat.le_of_ble_eq_true rfl, q _ _ (Ex.mut (Ex.new hp) hp) ⟨_, .dct upd_same⟩⟩
/-- [.., ..] of things: a new list -/
def EvTL (K : PySem.W.Frag) (te : TE) (σ : L2.St) (H : Hp) (n : Nat) : Prop := ∀ H1, Ex H H1 → ∀ Q : VK, (∀ p vs H2, H1 p = none → Ex H1 H2 → H2 p = some (.lst vs) → vs.length = n → (∀ v ∈ vs, AT K H2 v) → Q (.ref p) H2) → te σ H1 Q
theorem tl_lst {n : Nat} (h : EvThA K t σ H n) (hn : n ≤ 100000) : EvTL K (tLst t) σ H n := fun H1 e Q q =>
  h H1 e _ fun vs H2 e2 hl hv => ⟨sz_of (by omega), fun p hp => q p vs _ (fresh_back e2 hp) (e2.trans (Ex.new hp)) upd_same hl fun v z => (hv v z).ex (Ex.new hp)⟩
theorem tl_cat {a : Addr} {xs : List V} {n : Nat} (h : Ev ta σ H (.ref a)) (ha : H a = some (.lst xs)) (hx : ∀ v ∈ xs, AT K H v) (h2 : EvTL K tb σ H n) (hz : xs.length + n ≤ 1000) : EvTL K (tOp rCat ta tb) σ H (xs.length + n) := fun H1 e Q q =>
  h H1 e _ fun H2 e2 => h2 H2 (e.trans e2) _ fun p vs H3 _ e3 h3 hl hv =>
    ⟨a, p, xs, vs, rfl, rfl, e3 a _ (e2 a _ (e a _ ha)), h3, sz_of (by omega), fun l hl' => q l _ _ (fresh_back (e2.trans e3) hl') ((e2.trans e3).trans (Ex.new hl')) upd_same (by rw [List.length_append, hl]) fun v z => by
      rcases List.mem_append.mp z with z | z
      · exact (hx v z).ex (e.trans (e2.trans (e3.trans (Ex.new hl'))))
      · exact (hv v z).ex (Ex.new hl')⟩
/-- x + ys, x an old list -/
theorem el_catO {a : Addr} {xs ys : List V} (h : Ev ta σ H (.ref a)) (ha : H a = some (.lst xs)) (h2 : EvL tb σ H ys) (hz : xs.length + ys.length ≤ 1000) : EvL (tOp rCat ta tb) σ H (xs ++ ys) := fun H1 e Q q =>
  h H1 e _ fun H2 e2 => h2 H2 (e.trans e2) _ fun p H3 _ e3 h3 =>
    ⟨a, p, xs, ys, rfl, rfl, e3 a _ (e2 a _ (e a _ ha)), h3, sz_of (by omega), fun l hl' => q l _ (fresh_back (e2.trans e3) hl') ((e2.trans e3).trans (Ex.new hl')) upd_same⟩
end
/-! ### the type of any thing -/
def kTyp2 (x : V) (H : Hp) (Q : VK) : Prop := ∃ n, (zTyV x H = some n ∨ (n = "dict" ∧ ∃ a kvs, x = .ref a ∧ H a = some (.dK kvs))) ∧ Q (.ty n) H
def rNeTyG : R2 := fun x y H Q => ∃ m n, x = .ty m ∧ y = .ty n ∧ Meta m ∧ Meta n ∧ Q (.bl (!decide (m = n))) H
section
variable {X : Cx} {ta : TE} {a : Expr}
theorem rl_type2 (pins : List (Addr × Obj)) (st : Shared) (σ : L2.St) (H : Hp) (x : V) (u : Value) (Q : VK) (J : Inv X pins σ H st) (r : RelV x u) (h : kTyp2 x H Q) :
    wpAny (model X.prog X.w) X.A (call (.type "type") [u]) (EP X pins σ Q) X.xe st := by
  obtain ⟨n, e | ⟨rfl, a, kvs, rfl, ha⟩, q⟩ := h
  · exact rl_type pins st σ H x u Q J r ⟨n, e, q⟩
  · cases (show u = Value.ref a from r)
    obtain ⟨_, _, vs, _, o, es, ep, h1, h2, _⟩ := (show ObjOk X.prog X.w H st.heap a (.dK kvs) from J.hok a _ ha)
    exact call_type_of (Tx := "dict") ⟨o, h1, h2.1⟩ (by decide +kernel) ⟨.ty "dict", H, J, rfl, q⟩
theorem pe_typeOf2 {p pos : Pos} (hg : Gl X "type") (hm : X.mg "type" = none) (ha : PE X a ta) (na : starEach [a] X.env = (false, eval a X.env) :: starEach [] X.env := by rfl) :
    PE X (.Call (.Name "type" p) [a] [] pos) (tThenZ ta kTyp2) := pe_callTy (call_r1 rl_type2) hg hm (by decide +kernel) (pa_cons ha pa_nil na) (he := na)
theorem op_neTyG (hu : X.A.units + 1 < cLine) : OpR X (compareOp .NotEq) rNeTyG := by
  intro pins st σ H x y v u Q J rx ry h
  obtain ⟨m, n, rfl, rfl, hm, hn, q⟩ := h
  cases (show v = Value.type m from rx)
  cases (show u = Value.type n from ry)
  by_cases e : m = n
  · subst e
    exact ne_type_same hm hu ⟨.bl false, H, J, rfl, by simpa using q⟩
  · exact ne_type_other hm hn (by rw [beq_eq_false_iff_ne]; exact fun z => e (Value.type.inj z)) hu ⟨.bl true, H, J, rfl, by simpa [e] using q⟩
end
section
variable {K : PySem.W.Frag} {σ : L2.St} {H : Hp} {ta tb : TE}
/-- the name of a thing's type -/
theorem th_type {v : V} {o : Option (List PyData)} (h : Th K H v o) : ∃ n, (zTyV v H = some n ∨ (n = "dict" ∧ ∃ a kvs, v = .ref a ∧ H a = some (.dK kvs))) ∧ Meta n ∧ (n = "list" ↔ o.isSome = true) := by
  cases h with
  | non => exact ⟨"NoneType", .inl rfl, PySem.TypeEq.meta_NoneType, by simp⟩
  | bl b => exact ⟨"bool", .inl rfl, PySem.TypeEq.meta_bool, by simp⟩
  | int i => exact ⟨"int", .inl rfl, PySem.TypeEq.meta_int, by simp⟩
  | str x => exact ⟨"str", .inl rfl, PySem.TypeEq.meta_str, by simp⟩
  | tup h => exact ⟨"tuple", .inl (by simp [zTyV, h]), PySem.TypeEq.meta_tuple, by simp⟩
  | dct h => exact ⟨"dict", .inr ⟨rfl, _, _, rfl, h⟩, PySem.TypeEq.meta_dict, by simp⟩
  | lst h _ _ => exact ⟨"list", .inl (by simp [zTyV, h]), PySem.TypeEq.meta_list, by simp⟩
/-- type(v) != list -/
theorem ev_noList {v : V} {o : Option (List PyData)} (h : Ev ta σ H v) (hv : Th K H v o) : Ev (tOp rNeTyG (tThenZ ta kTyp2) (tC (.ty "list"))) σ H (.bl (!o.isSome)) := fun H1 e Q q => h H1 e _ fun H2 e2 => by
  obtain ⟨n, hn, mt, iff⟩ := th_type (hv.ex (e.trans e2))
  refine ⟨n, hn, n, "list", rfl, rfl, mt, PySem.TypeEq.meta_list, ?_⟩
  have : decide (n = "list") = o.isSome := by
    rw [Bool.eq_iff_iff, decide_eq_true_iff]
    exact iff
  rw [this]
  exact q H2 e2
theorem th_is {v : V} {o : Option (List PyData)} (h : Th K H v o) : ∃ n, TyX K H v (.type n) ∧ PySem.W.kitOne K (.type n) (.type "list") = some o.isSome := by
  cases h with
  | non => exact ⟨_, .base .non, rfl⟩
  | bl b => exact ⟨_, .base (.bl b), rfl⟩
  | int i => exact ⟨_, .base (.int i), rfl⟩
  | str x => exact ⟨_, .base (.str x), rfl⟩
  | tup h => exact ⟨_, .base (.tup h), rfl⟩
  | dct h => exact ⟨_, .base (.dK h), rfl⟩
  | lst h _ _ => exact ⟨_, .base (.lst h), rfl⟩
/-- isinstance(v, list) -/
theorem ev_isList {v : V} {o : Option (List PyData)} (h : Ev ta σ H v) (hv : Th K H v o) : Ev (tCB (rIsi K) (tCons ta (tCons (tC (.ty "list")) tNil))) σ H (.bl o.isSome) := fun H1 e Q q => h H1 e _ fun H2 e2 => by
  obtain ⟨n, ht, hk⟩ := th_is (hv.ex (e.trans e2))
  exact ⟨v, .ty "list", .type n, .type "list", o.isSome, rfl, .ty "list", ht, hk, q H2 e2⟩
def isI : PyData → Bool
  | .int _ => true
  | _ => false
theorem it_type {v : V} {d : PyData} (h : It K H v d) : ∃ n, zTyV v H = some n ∧ Meta n ∧ decide (n = "int") = isI d := by
  cases h with
  | non => exact ⟨"NoneType", rfl, PySem.TypeEq.meta_NoneType, by simp [isI]⟩
  | bl b => exact ⟨"bool", rfl, PySem.TypeEq.meta_bool, by simp [isI]⟩
  | int i => exact ⟨"int", rfl, PySem.TypeEq.meta_int, by simp [isI]⟩
  | str x => exact ⟨"str", rfl, PySem.TypeEq.meta_str, by simp [isI]⟩
  | lst h _ => exact ⟨"list", by simp [zTyV, h], PySem.TypeEq.meta_list, by simp [isI]⟩
/-- type(v) == int -/
theorem ev_isWhole {v : V} {d : PyData} (h : Ev ta σ H v) (hv : It K H v d) : Ev (tOp rEqTy (tThenZ ta kTyp) (tC (.ty "int"))) σ H (.bl (isI d)) := fun H1 e Q q => h H1 e _ fun H2 e2 => by
  obtain ⟨n, hn, mt, iff⟩ := it_type (hv.ex (e.trans e2))
  refine ⟨n, hn, n, "int", rfl, rfl, mt, PySem.TypeEq.meta_int, ?_⟩
  rw [iff]
  exact q H2 e2
def isB : PyData → Bool
  | .bool _ => true
  | _ => false
theorem it_isB {v : V} {d : PyData} (h : It K H v d) : ∃ n, TyX K H v (.type n) ∧ PySem.W.kitOne K (.type n) (.type "bool") = some (isB d) := by
  cases h with
  | non => exact ⟨_, .base .non, rfl⟩
  | bl b => exact ⟨_, .base (.bl b), rfl⟩
  | int i => exact ⟨_, .base (.int i), rfl⟩
  | str x => exact ⟨_, .base (.str x), rfl⟩
  | lst h _ => exact ⟨_, .base (.lst h), rfl⟩
theorem it_isI {v : V} {d : PyData} (h : It K H v d) : ∃ n, TyX K H v (.type n) ∧ PySem.W.kitOne K (.type n) (.type "int") = some (isI d || isB d) := by
  cases h with
  | non => exact ⟨_, .base .non, rfl⟩
  | bl b => exact ⟨_, .base (.bl b), rfl⟩
  | int i => exact ⟨_, .base (.int i), rfl⟩
  | str x => exact ⟨_, .base (.str x), rfl⟩
  | lst h _ => exact ⟨_, .base (.lst h), rfl⟩
/-- isinstance(v, bool) or not isinstance(v, int) -/
theorem et_noInt {v : V} {d : PyData} (h : Ev ta σ H v) (hv : It K H v d) : EvT (tOr (tB (tCB (rIsi K) (tCons ta (tCons (tC (.ty "bool")) tNil)))) (tNot (tB (tCB (rIsi K) (tCons ta (tCons (tC (.ty "int")) tNil)))))) σ H (!isI d) := by
  have one : Ev (tCB (rIsi K) (tCons ta (tCons (tC (.ty "bool")) tNil))) σ H (.bl (isB d)) := fun H1 e Q q => h H1 e _ fun H2 e2 => by
    obtain ⟨n, ht, hb⟩ := it_isB (hv.ex (e.trans e2))
    exact ⟨v, .ty "bool", _, .type "bool", _, rfl, .ty "bool", ht, hb, q H2 e2⟩
  have two : Ev (tCB (rIsi K) (tCons ta (tCons (tC (.ty "int")) tNil))) σ H (.bl (isI d || isB d)) := fun H1 e Q q => h H1 e _ fun H2 e2 => by
    obtain ⟨n, ht, hb⟩ := it_isI (hv.ex (e.trans e2))
    exact ⟨v, .ty "int", _, .type "int", _, rfl, .ty "int", ht, hb, q H2 e2⟩
  refine et_is (et_or (et_B one) fun _ => et_not (et_B two)) ?_
  cases d <;> rfl
end
/-! tuple(range(a, b, c)) -/
def tTupRgC (te : L2.St → Hp → (Int → Int → Int → Hp → Prop) → Prop) : TE := fun σ H Q => te σ H fun a b c H1 => ∃ n : Nat, (Builtin.Range.small a b c = true ∧ Builtin.Range.rangeSize a b c = n ∧ n ≤ 2 ^ 24) ∧ ∀ q, H1 q = none → Q (.ref q) (upd H1 q (.tup (rgC a c n)))
theorem pe_tupRgC {X : Cx} {e : Expr} {te : L2.St → Hp → (Int → Int → Int → Hp → Prop) → Prop} {p pos : Pos} (calm : X.calm = true) (hg : Gl X "tuple") (hm : X.mg "tuple" = none) (he : PRgC X e te) (na : starEach [e] X.env = (false, eval e X.env) :: starEach [] X.env := by rfl) : PE X (.Call (.Name "tuple" p) [e] [] pos) (tTupRgC te) := by
  refine ⟨fun pins st σ H Q J h => ?_⟩
  refine Call_ (ld_blt J hg hm boot_tuple (PyProof.Rows.callWith_type1 (args_cons (thn (he pins st σ H _ J h) fun x s1 ⟨r, a, b, c, t, u, v, H1, ex, hr, J1, n, ⟨o1, o2, o3⟩, q⟩ => args_nil ?_) na) na))
  subst ex
  refine call_tuple_range (n := n) (J1.ok.hd calm) hr o1 o2 o3 fun h' tk acc keep its => ?_
  have J2 : Inv X pins σ H1 { s1 with heap := h', toks := tk } := J1.kept keep
  refine ⟨.ref h'.objs.size, upd H1 h'.objs.size (.tup (rgC a c n)), J2.laid (t' := tk) (fun z o e => Heap.get?_push_of_some _ e) (Nat.le_refl _) (show ObjOk X.prog X.w _ _ _ (.tup (rgC a c n)) from ⟨?_, acc.toList, vals_rgC its, ?_⟩), rfl, q _ (J2.hok.fresh (Nat.le_refl _))⟩
  · unfold rgC
    rw [List.length_map, List.length_range, sizeLine_eq]
    omega
  · rw [Array.toArray_toList]
    exact IsTup.new _ _
theorem eu_down {σ : L2.St} {H : Hp} {ta : TA} {i j : Int} (h : EvA ta σ H [.int i, .int j, .int (-1)]) (hi : 0 ≤ i ∧ i ≤ 1000) (hj : -1 ≤ j ∧ j ≤ 1000) : EvU (tTupRgC (tRg3 ta)) σ H (rgC i (-1) (i - j).toNat) := fun H1 e Q q =>
  h H1 e _ fun H2 e2 => ⟨i, j, -1, rfl, ⟨by decide, by decide⟩, (i - j).toNat, ⟨(RgC.neg (by omega) (by omega) (by omega) (by omega)).2.2.1, (RgC.neg (by omega) (by omega) (by omega) (by omega)).2.2.2, by omega⟩, fun l hl => q l _ (fresh_back e2 hl) (e2.trans (Ex.new hl)) upd_same⟩
/-! xs.index(x) where the written part must be said -/
theorem pe_indexK {X : Cx} {K : PySem.W.Frag} {o e : Expr} {to te : TE} {apos cpos : Pos} (hK : X.K = K) (ho : PE X o to) (he : PE X e te) (b : attributeBase o "index" X.env (eval o X.env) = eval o X.env := by rfl)
    (few : ((backTo cpos (starEach [e] X.env)).all (fun x => !x.1) && (backToKw cpos (keywordEach [] X.env)).all (fun x => x.1.isSome) && decide ([e].length + ([] : List Keyword).length + (if ([] : List Keyword).isEmpty then 0 else 1) < 30)) = true := by rfl)
    (line : (apos.endLine == cpos.line) = true := by rfl) (st : starEach [e] X.env = (false, eval e X.env) :: starEach [] X.env := by rfl) (pl : (backTo cpos (starEach [] X.env)).any (·.1) = false := by rfl) :
    PE X (.Call (.Attribute o "index" apos) [e] [] cpos) (tBM K "list" (rIndex K) to (tCons te tNil)) := by
  subst hK
  exact pe_bm PySem.F.plainAttrs_list PySem.F.slot_list_index PySem.F.type_list_index mt_index ho (pa_cons he pa_nil st) b few line st pl
theorem pe_revLK {X : Cx} {K : PySem.W.Frag} {e : Expr} {te : TE} {k : Nat} {p1 p2 p3 pos : Pos} (hK : X.K = K) (he : PE X e te) : PE X (.Subscript e (.Slice none none (some (.UnaryOp .USub (.Constant (.int 1) k p1) p2)) p3) pos) (tRevL K te) := by
  subst hK
  exact pe_revL he
end Kit

set_option Elab.async false
set_option linter.all false
set_option maxRecDepth 100000
set_option maxHeartbeats 4000000
namespace Kit
open PySem PySem.Spec PyProof.Rows L2 Evl
/-! ### repr of a list with dicts of texts and ints among its items -/
def pairsS (kvs : List (Str × Int)) : List (PyData × PyData) := kvs.map fun p => (PyData.str p.1, PyData.int p.2)
def encS (kvs : List (Str × Int)) : List (L2.Key × V) := kvs.map fun p => (.inr p.1, .int p.2)
inductive It1 (h : Heap) : Value → PyData → Prop
  | old {v : Value} {d : PyData} {as : List Addr} : Reads h v d as → d.hasDict = false → It1 h v d
  | dct {a : Addr} {o : Obj} {es : Array DictEntry} {n : Nat} {kvs : List (Str × Int)} {as bs : List Addr} : h.get? a = some o → o.cls = .type "dict" → o.data = .dict es n → (a == sysModules) = false →
      ReadsAll h (es.toList.map (·.key)) ((pairsS kvs).map (·.1)) as → ReadsAll h (es.toList.map (·.val)) ((pairsS kvs).map (·.2)) bs → It1 h (.ref a) (.dict (pairsS kvs))
theorem noD_keys : ∀ kvs : List (Str × Int), PyData.hasDictAll ((pairsS kvs).map (·.1)) = false
  | [] => rfl
  | p :: r => by
    show (PyData.hasDict (.str p.1) || PyData.hasDictAll ((pairsS r).map (·.1))) = false
    rw [noD_keys r]
    rfl
theorem noD_vals : ∀ kvs : List (Str × Int), PyData.hasDictAll ((pairsS kvs).map (·.2)) = false
  | [] => rfl
  | p :: r => by
    show (PyData.hasDict (.int p.2) || PyData.hasDictAll ((pairsS r).map (·.2))) = false
    rw [noD_vals r]
    rfl
theorem It1.reads {h : Heap} {v : Value} {d : PyData} : It1 h v d → ∃ as, Reads h v d as
  | .old r _ => ⟨_, r⟩
  | .dct h1 h2 h3 _ h5 h6 => ⟨_, .dict h1 h2 h3 h5 h6⟩
section
variable {prog : Program} {w : World} {h : Heap}
theorem It1.k {v : Value} {d : PyData} (x : It1 h v d) (hs : d.showable = true) (hz : d.shown.length ≤ sizeLine) : ∃ bs, ReadAtMost h d.depth bs ∧ ReprK prog w bs h d.depth v d.shown := by
  cases x with
  | old r nd => exact ReprK.of_reads r hs (PyData.noDict_hsm nd) hz
  | @dct a o es n kvs as bs h1 h2 h3 h4 h5 h6 =>
    have zz : (dictText (PyData.shownKv (pairsS kvs))).length ≤ sizeLine := by simpa only [PyData.shown] using hz
    obtain ⟨s1, s2⟩ := PyData.showableKv_split (pairsS kvs) (by simpa [PyData.showable] using hs)
    have z1 : ∀ t ∈ PyData.shownAll ((pairsS kvs).map (·.1)), t.length ≤ sizeLine := fun t ht => by
      obtain ⟨p, hp, hl⟩ := PyData.shownKv_key_le (pairsS kvs) t ht
      exact Nat.le_trans hl (Nat.le_trans (dictText_mem_le hp) zz)
    have z2 : ∀ t ∈ PyData.shownAll ((pairsS kvs).map (·.2)), t.length ≤ sizeLine := fun t ht => by
      obtain ⟨p, hp, hl⟩ := PyData.shownKv_val_le (pairsS kvs) t ht
      exact Nat.le_trans hl (Nat.le_trans (dictText_mem_le hp) zz)
    obtain ⟨c1, m1, k1⟩ := ReprAllK.of_readsAll (prog := prog) (w := w) h5 s1 (fun y => by rw [noD_keys] at y; cases y) z1
    obtain ⟨c2, m2, k2⟩ := ReprAllK.of_readsAll (prog := prog) (w := w) h6 s2 (fun y => by rw [noD_vals] at y; cases y) z2
    have rr : Reads h (.ref a) (.dict (pairsS kvs)) _ := .dict h1 h2 h3 h5 h6
    have mm := (m1.mono (PyData.depthAll_keys_le (pairsS kvs))).append (m2.mono (PyData.depthAll_vals_le (pairsS kvs)))
    have off : a ∉ c1 ++ c2 := not_mem_of_deeper rr (by simp only [PyData.depth]; omega) mm
    refine ⟨a :: (c1 ++ c2), ReadAtMost.cons rr (by simp only [PyData.depth]; omega) mm, ?_⟩
    simp only [PyData.depth, PyData.shown, PyData.shownKv_eq]
    refine ReprK.dict h1 h2 h3 h4 off (ReprEntriesK.of_two es.toList _ _ ?_ ?_)
    · exact k1.more_le (fun b q => List.mem_append_left c2 q) (PyData.depthAll_keys_le (pairsS kvs))
    · exact k2.more_le (fun b q => List.mem_append_right c1 q) (PyData.depthAll_vals_le (pairsS kvs))
theorem its_k : ∀ {vs : List Value} {ds : List PyData}, Paired (It1 h) vs ds → PyData.showableAll ds = true → (∀ t ∈ PyData.shownAll ds, t.length ≤ sizeLine) → ∃ bs, ReadAtMost h (PyData.depthAll ds) bs ∧ ReprAllK prog w bs h (PyData.depthAll ds) vs (PyData.shownAll ds)
  | _, _, .nil, _, _ => ⟨[], (fun _ q => nomatch q), by simp only [PyData.shownAll]; exact .nil⟩
  | _, _, .cons (b := d) (l₂ := ds) x r, hs, hz => by
    have ss : d.showable = true ∧ PyData.showableAll ds = true := by simpa [PyData.showableAll] using hs
    simp only [PyData.shownAll, List.mem_cons] at hz
    obtain ⟨c1, m1, k1⟩ := x.k ss.1 (hz _ (.inl rfl))
    obtain ⟨c2, m2, k2⟩ := its_k r ss.2 fun t ht => hz t (.inr ht)
    have lm : PyData.depthAll (d :: ds) = max d.depth (PyData.depthAll ds) := by simp only [PyData.depthAll]
    rw [lm]
    refine ⟨c1 ++ c2, (m1.mono (Nat.le_max_left _ _)).append (m2.mono (Nat.le_max_right _ _)), ?_⟩
    simp only [PyData.shownAll]
    exact .cons ((k1.more fun b q => List.mem_append_left c2 q).level_le (Nat.le_max_left _ _)) (k2.more_le (fun b q => List.mem_append_right c1 q) (Nat.le_max_right _ _))
theorem its_reads : ∀ {vs : List Value} {ds : List PyData}, Paired (It1 h) vs ds → ∃ as, ReadsAll h vs ds as
  | _, _, .nil => ⟨_, .nil⟩
  | _, _, .cons x r => by
    obtain ⟨a1, r1⟩ := x.reads
    obtain ⟨a2, r2⟩ := its_reads r
    exact ⟨_, .cons r1 r2⟩
end
/-- what an item is, as repr shows it -/
inductive Dq (K : PySem.W.Frag) (H : Hp) : V → PyData → Prop
  | old {v : V} {d : PyData} : Dp K H v d → d.hasDict = false → Dq K H v d
  | dct {a : Addr} {kvs : List (Str × Int)} : H a = some (.dK (encS kvs)) → Dq K H (.ref a) (.dict (pairsS kvs))
theorem Dq.ex {K : PySem.W.Frag} {H H' : Hp} {v : V} {d : PyData} (e : Ex H H') : Dq K H v d → Dq K H' v d
  | .old h n => .old (Dp.ex e d v h) n
  | .dct h => .dct (e _ _ h)
theorem pairs_reads {P : Program} {w : World} {h : Heap} : ∀ {es : List DictEntry} {vs : List (L2.Key × Value)} {kvs : List (Str × Int)}, Pairs (mixKind P w) es vs → KV (encS kvs) vs → ReadsAll h (es.map (·.key)) ((pairsS kvs).map (·.1)) [] ∧ ReadsAll h (es.map (·.val)) ((pairsS kvs).map (·.2)) []
  | _, _, [], .nil, .nil => ⟨.nil, .nil⟩
  | _, _, p :: r, .cons (e := en) h1 h2 t, .cons k kt => by
    obtain ⟨i1, i2⟩ := pairs_reads (h := h) t kt
    obtain ⟨k1, k2⟩ := k
    rw [← k1] at h1
    have h1 : keyIs (.inr p.1) en.key = true := h1
    rcases keyIs_shape h1 with ⟨i, u, e1, e2⟩ | ⟨x, u, e1, e2⟩
    · cases e1
    · cases e1
      obtain ⟨u2, k2⟩ := k2
      rw [k2] at h2
      refine ⟨?_, ?_⟩
      · show ReadsAll h (en.key :: _) (PyData.str p.1 :: _) ([] ++ [])
        rw [e2]
        exact .cons (.str _ _) i1
      · show ReadsAll h (en.val :: _) (PyData.int p.2 :: _) ([] ++ [])
        rw [h2]
        exact .cons (.int _ _) i2
section
variable {X : Cx} {pins : List (Addr × Obj)} {σ : L2.St} {H : Hp} {s : Shared}
theorem Dq.it (I : Inv X pins σ H s) {v : V} {u : Value} {d : PyData} (x : Dq X.K H v d) (r : RelV v u) : It1 s.heap u d := by
  cases x with
  | old h n =>
    obtain ⟨as, rd⟩ := Dp.reads I d _ _ h r
    exact .old rd n
  | @dct a kvs h =>
    have e : u = Value.ref a := r
    subst e
    obtain ⟨_, hd, vs, kv, o, es, ep, ho, hx, hdat, _, pr, _⟩ := dk_of I.hok h
    obtain ⟨q1, q2⟩ := pairs_reads (h := s.heap) pr kv
    exact .dct ho hx.1 hdat hd q1 q2
end
def rRepr2 (K : PySem.W.Frag) : List V → Hp → VK → Prop := fun xs H Q => ∃ p vs ds, xs = [.ref p] ∧ H p = some (.lst vs) ∧ Paired (Dq K H) vs ds ∧ vs ≠ [] ∧ PyData.showableAll ds = true ∧ PyData.depthAll ds ≤ 50 ∧ (PyData.list ds).shown.length ≤ sizeLine ∧ Q (.str (PyData.list ds).shown) H
theorem its_of {X : Cx} {pins : List (Addr × Obj)} {σ : L2.St} {H : Hp} {s : Shared} (I : Inv X pins σ H s) : ∀ {vs : List V} {us : List Value} {ds : List PyData}, Paired (Dq X.K H) vs ds → Vals vs us → Paired (It1 s.heap) us ds
  | _, _, _, .nil, .nil => .nil
  | _, _, _, .cons x r, .cons y t => .cons (x.it I y) (its_of I r t)
theorem call_repr2 {X : Cx} (hg : X.A.guards = some []) (hu : X.A.units + 64 < cLine) : CallR X (.builtin "repr") (rRepr2 X.K) := by
  intro pins st σ H xs us Q J r h
  obtain ⟨p, vs, ds, rfl, hp, dp, ne, hs, hdp, hz, q⟩ := h
  obtain ⟨u, rfl, hu2⟩ : ∃ u, us = [u] ∧ RelV (.ref p) u := by
    cases r with
    | cons a b =>
      cases b
      exact ⟨_, rfl, a⟩
  have e : u = Value.ref p := hu2
  subst e
  obtain ⟨_, its, n, rel, hget⟩ := (show ObjOk X.prog X.w H st.heap p (.lst vs) from J.hok p _ hp)
  have items := its_of J dp rel
  have zz : (listText (PyData.shownAll ds)).length ≤ sizeLine := by simpa only [PyData.shown] using hz
  obtain ⟨bs, mm, kk⟩ := its_k (prog := X.prog) (w := X.w) items hs fun t ht => Nat.le_trans (listText_mem_le ht) zz
  obtain ⟨as, ra⟩ := its_reads items
  have rr : Reads st.heap (.ref p) (.list ds) _ := .list hget rfl rfl (by simpa using ra)
  have off : p ∉ bs := not_mem_of_deeper rr (by simp only [PyData.depth]; omega) mm
  refine call_repr_slot (T := "list") (idr := "list.__repr__") (by omega) ⟨_, hget, rfl⟩ F.slot_list_repr.toG ?_
  cases rel with
  | nil => exact absurd rfl ne
  | @cons v0 u0 vs us r0 rt =>
    refine call_list_reprK (A := X.A.in1) hget rfl rfl off (by simpa using kk.length_eq) (fun i y e => kk.item i y (by simpa using e)) hg (fun b _ => Clear.nil b) (by show X.A.units + 1 + (PyData.depthAll ds + 1) < cLine; omega) (fun _ _ e => e) (fun h' u tk keep => ?_) zz
    refine ⟨_, _, rfl, ?_⟩
    have q2 : Q (.str (listText (PyData.shownAll ds))) H := by simpa only [PyData.shown] using q
    exact ⟨.str (listText (PyData.shownAll ds)), H, J.turnedL (ch := []) (fun b o _ e => keep b o e) (fun b hb => absurd hb (by simp)), ⟨_, rfl⟩, q2⟩
section
variable {K : PySem.W.Frag} {σ : L2.St} {H : Hp} {te ta tb : TE}
theorem ev_repr2L {x y : V} {d e : PyData} (hl : EvL te σ H [x, y]) (q1 : Dq K H x d) (q2 : Dq K H y e) (s1 : d.showable = true) (s2 : e.showable = true) (d1 : d.depth ≤ 50) (d2 : e.depth ≤ 50) (hz : (PyData.list [d, e]).shown.length ≤ sizeLine) : Ev (tCB (rRepr2 K) (tCons te tNil)) σ H (.str (PyData.list [d, e]).shown) := fun H1 g Q q =>
  hl H1 g _ fun p H2 _ g2 hp => ⟨p, [x, y], [d, e], rfl, hp, .cons (q1.ex (g.trans g2)) (.cons (q2.ex (g.trans g2)) .nil), by simp, by simp [PyData.showableAll, s1, s2], by simp only [PyData.depthAll]; omega, hz, q H2 g2⟩
/-- repr([x, y]) -/
theorem ev_repr2 {x y : V} {d e : PyData} (h1 : Ev ta σ H x) (h2 : Ev tb σ H y) (q1 : Dq K H x d) (q2 : Dq K H y e) (s1 : d.showable = true) (s2 : e.showable = true) (d1 : d.depth ≤ 50) (d2 : e.depth ≤ 50) (hz : (PyData.list [d, e]).shown.length ≤ sizeLine) : Ev (tCB (rRepr2 K) (tCons (tLst (tCons ta (tCons tb tNil))) tNil)) σ H (.str (PyData.list [d, e]).shown) :=
  ev_repr2L (el_lst (ea_cons h1 (ea_cons h2 ea_nil)) (Nat.le_of_ble_eq_true rfl)) q1 q2 s1 s2 d1 d2 hz
end
end Kit

set_option Elab.async false
set_option linter.all false
set_option maxRecDepth 100000
set_option maxHeartbeats 4000000
namespace Kit
open PySem PySem.Spec PyProof.Rows L2 Evl
/-! ### any thing, told whole: tuples, dicts, lists with tuples among the items -/
mutual
theorem dp_noD {K : PySem.W.Frag} {H : Hp} : ∀ {v : V} {d : PyData}, Dp K H v d → d.hasDict = false
  | _, _, .non => rfl
  | _, _, .bl _ => rfl
  | _, _, .int _ => rfl
  | _, _, .str _ => rfl
  | _, _, .lst _ h => by
    simp only [PyData.hasDict]
    exact dps_noD h
  | _, _, .tup _ h => by
    simp only [PyData.hasDict]
    exact dps_noD h
theorem dps_noD {K : PySem.W.Frag} {H : Hp} : ∀ {vs : List V} {ds : List PyData}, DpAll K H vs ds → PyData.hasDictAll ds = false
  | _, _, .nil => rfl
  | _, _, .cons h t => by simp only [PyData.hasDictAll, dp_noD h, dps_noD t, Bool.or_self]
end
inductive It2 (K : PySem.W.Frag) (H : Hp) : V → PyData → Prop
  | it {v : V} {d : PyData} (h : It K H v d) : It2 K H v d
  | tup {a : Addr} {xs : List V} {ds : List PyData} (h : H a = some (.tup xs)) (hd : DpAll K H xs ds) : It2 K H (.ref a) (.tuple ds)
theorem It2.ex {K : PySem.W.Frag} {H H' : Hp} {v : V} {d : PyData} (e : Ex H H') : It2 K H v d → It2 K H' v d
  | .it h => .it (h.ex e)
  | .tup h hd => .tup (e _ _ h) (DpAll.ex e _ _ hd)
theorem It2.dp {K : PySem.W.Frag} {H : Hp} {v : V} {d : PyData} : It2 K H v d → Dp K H v d
  | .it h => h.dp
  | .tup h hd => .tup (st_of h) hd
def It2s (K : PySem.W.Frag) (H : Hp) (vs : List V) (ds : List PyData) : Prop := Paired (It2 K H) vs ds
theorem It2s.ex {K : PySem.W.Frag} {H H' : Hp} (e : Ex H H') : ∀ {vs : List V} {ds : List PyData}, It2s K H vs ds → It2s K H' vs ds
  | _, _, .nil => .nil
  | _, _, .cons h t => .cons (h.ex e) (It2s.ex e t)
theorem It2s.dp {K : PySem.W.Frag} {H : Hp} : ∀ {vs : List V} {ds : List PyData}, It2s K H vs ds → DpAll K H vs ds
  | _, _, .nil => .nil
  | _, _, .cons h t => .cons h.dp (It2s.dp t)
theorem It2s.len {K : PySem.W.Frag} {H : Hp} {vs : List V} {ds : List PyData} (h : It2s K H vs ds) : vs.length = ds.length := Paired.length h
theorem It2s.app {K : PySem.W.Frag} {H : Hp} : ∀ {vs ws : List V} {ds es : List PyData}, It2s K H vs ds → It2s K H ws es → It2s K H (vs ++ ws) (ds ++ es)
  | _, _, _, _, .nil, q => q
  | _, _, _, _, .cons h t, q => .cons h (It2s.app t q)
theorem it2_ints {K : PySem.W.Frag} {H : Hp} : ∀ ns : List Int, It2s K H (ns.map V.int) (ns.map PyData.int)
  | [] => .nil
  | n :: r => .cons (.it (.int n)) (it2_ints r)
theorem it2_get {K : PySem.W.Frag} {H : Hp} : ∀ {xs : List V} {ds : List PyData} {i : Nat} {x : V}, It2s K H xs ds → xs[i]? = some x → ∃ d, ds[i]? = some d ∧ It2 K H x d
  | _, _, 0, x, .cons h t, e => ⟨_, rfl, (Option.some.inj (show some _ = some x from e)) ▸ h⟩
  | _, _, i + 1, x, .cons h t, e => it2_get (i := i) t e
  | _, _, 0, x, .nil, e => by simp at e
  | _, _, i + 1, x, .nil, e => by simp at e
inductive Tg (K : PySem.W.Frag) (H : Hp) : V → PyData → Prop
  | non : Tg K H .non .none
  | bl (b : Bool) : Tg K H (.bl b) (.bool b)
  | int (i : Int) : Tg K H (.int i) (.int i)
  | str (x : Str) : Tg K H (.str x) (.str x)
  | tup {a : Addr} {xs : List V} {ds : List PyData} (h : H a = some (.tup xs)) (hd : DpAll K H xs ds) : Tg K H (.ref a) (.tuple ds)
  | dct {a : Addr} {kvs : List (Str × Int)} (h : H a = some (.dK (encS kvs))) : Tg K H (.ref a) (.dict (pairsS kvs))
  | lst {a : Addr} {xs : List V} {ds : List PyData} (h : H a = some (.lst xs)) (hd : It2s K H xs ds) : Tg K H (.ref a) (.list ds)
theorem Tg.ex {K : PySem.W.Frag} {H H' : Hp} {v : V} {d : PyData} (e : Ex H H') (h : Tg K H v d) : Tg K H' v d := by
  cases h with
  | non => exact .non
  | bl b => exact .bl b
  | int i => exact .int i
  | str x => exact .str x
  | tup h hd => exact .tup (e _ _ h) (DpAll.ex e _ _ hd)
  | dct h => exact .dct (e _ _ h)
  | lst h hd => exact .lst (e _ _ h) (hd.ex e)
theorem Tg.dq {K : PySem.W.Frag} {H : Hp} {v : V} {d : PyData} (h : Tg K H v d) : Dq K H v d := by
  cases h with
  | non => exact .old .non rfl
  | bl b => exact .old (.bl b) rfl
  | int i => exact .old (.int i) rfl
  | str x => exact .old (.str x) rfl
  | tup h hd => exact .old (.tup (st_of h) hd) (dp_noD (.tup (st_of h) hd))
  | dct h => exact .dct h
  | lst h hd => exact .old (.lst (sq_of h) hd.dp) (dp_noD (.lst (sq_of h) hd.dp))
def lsO : PyData → Option (List PyData)
  | .list ds => some ds
  | _ => none
section
variable {K : PySem.W.Frag} {σ : L2.St} {H : Hp} {ta tb : TE}
theorem tg_type {v : V} {d : PyData} (h : Tg K H v d) : ∃ n, (zTyV v H = some n ∨ (n = "dict" ∧ ∃ a kvs, v = .ref a ∧ H a = some (.dK kvs))) ∧ Meta n ∧ (n = "list" ↔ (lsO d).isSome = true) := by
  cases h with
  | non => exact ⟨"NoneType", .inl rfl, PySem.TypeEq.meta_NoneType, by simp [lsO]⟩
  | bl b => exact ⟨"bool", .inl rfl, PySem.TypeEq.meta_bool, by simp [lsO]⟩
  | int i => exact ⟨"int", .inl rfl, PySem.TypeEq.meta_int, by simp [lsO]⟩
  | str x => exact ⟨"str", .inl rfl, PySem.TypeEq.meta_str, by simp [lsO]⟩
  | tup h hd => exact ⟨"tuple", .inl (by simp [zTyV, h]), PySem.TypeEq.meta_tuple, by simp [lsO]⟩
  | dct h => exact ⟨"dict", .inr ⟨rfl, _, _, rfl, h⟩, PySem.TypeEq.meta_dict, by simp [lsO]⟩
  | lst h hd => exact ⟨"list", .inl (by simp [zTyV, h]), PySem.TypeEq.meta_list, by simp [lsO]⟩
/-- type(v) != list -/
theorem ev_noList2 {v : V} {d : PyData} (h : Ev ta σ H v) (hv : Tg K H v d) : Ev (tOp rNeTyG (tThenZ ta kTyp2) (tC (.ty "list"))) σ H (.bl (!(lsO d).isSome)) := fun H1 e Q q => h H1 e _ fun H2 e2 => by
  obtain ⟨n, hn, mt, iff⟩ := tg_type (hv.ex (e.trans e2))
  refine ⟨n, hn, n, "list", rfl, rfl, mt, PySem.TypeEq.meta_list, ?_⟩
  have : decide (n = "list") = (lsO d).isSome := by
    rw [Bool.eq_iff_iff, decide_eq_true_iff]
    exact iff
  rw [this]
  exact q H2 e2
theorem it2_type {v : V} {d : PyData} (h : It2 K H v d) : ∃ n, zTyV v H = some n ∧ Meta n ∧ decide (n = "int") = isI d := by
  cases h with
  | it h => exact it_type h
  | tup h _ => exact ⟨"tuple", by simp [zTyV, h], PySem.TypeEq.meta_tuple, by simp [isI]⟩
/-- type(v) == int -/
theorem ev_isWhole2 {v : V} {d : PyData} (h : Ev ta σ H v) (hv : It2 K H v d) : Ev (tOp rEqTy (tThenZ ta kTyp) (tC (.ty "int"))) σ H (.bl (isI d)) := fun H1 e Q q => h H1 e _ fun H2 e2 => by
  obtain ⟨n, hn, mt, iff⟩ := it2_type (hv.ex (e.trans e2))
  refine ⟨n, hn, n, "int", rfl, rfl, mt, PySem.TypeEq.meta_int, ?_⟩
  rw [iff]
  exact q H2 e2
end
end Kit

set_option Elab.async false
set_option linter.all false
set_option maxRecDepth 100000
set_option maxHeartbeats 4000000
namespace Kit
open PySem PySem.Spec PyProof.Rows L2 Evl
/-! ### defs that may raise -/
section
variable {P : Program} {w : World} {K : PySem.W.Frag} {mg : Str → Option Value} {base : Heap}
theorem okN {x qual : Str} {d : Stmt} {f : Addr} {fd : FuncData} {N names : List Str} {n : Nat} {want : Sp} (F : Fun K x qual d f fd) (S : FnScope N names (defScope d)) (many : ∀ xs H Q E, want xs H Q E → xs.length = names.length)
    (body : ∀ (cv : Value) (A : Around) (frames : List Env) (st : Shared) (H : Hp) (xs : List V) (Q : VK) (E : XK), Room n (A.deeper (envOfC qual (defScope d) st.heap.objs.size f cv)) → want xs H Q E →
      ∃ t, PSs (cxOf (L2N.CX P w) P w K mg base N qual (defScope d) f cv A frames st H E) (defBody d) t ∧ t { nx := fun _ H' => Q .non H', rt := Q } (start N xs) H) : FnOk P w K mg base (L2N.CX P w) (n + 1) f fd names want := by
  obtain ⟨oc, od, kV, doc, pm, an, cdv, ct, osl, rfl, lk, hcd⟩ := F.ex
  exact fn_of lk hcd S many fun A outer s H vs Q E hr hsp => body cdv A outer s H vs Q E hr hsp
theorem passN {N : List Str} {qual : Str} {sc : Scope} {f : Addr} {cv : Value} {A : Around} {frames : List Env} {st : Shared} {H : Hp} {E : XK} :
    Passes (L2N.CX P w) (cxOf (L2N.CX P w) P w K mg base N qual sc f cv A frames st H E) E := L2N.passes_call (W := fun cls d _ H => E cls d H) (L2N.takes_of rfl rfl rfl rfl) fun _ _ _ _ h => h
theorem passE0 {X : Cx} : Passes (L2N.CX X.prog X.w) X E0 := fun _ _ _ _ _ _ _ h => by
  obtain ⟨_, _, _, _, _, _, _, _, _, _, _, _, z⟩ := h
  exact z.elim
theorem takesN {N : List Str} {qual : Str} {sc : Scope} {f : Addr} {cv : Value} {A : Around} {frames : List Env} {st : Shared} {H : Hp} {E : XK} :
    L2N.Takes (cxOf (L2N.CX P w) P w K mg base N qual sc f cv A frames st H E) (fun cls d _ H => E cls d H) := L2N.takes_of rfl rfl rfl rfl
end
theorem takes0N {X : Cx} : L2N.Takes X.nox (fun _ _ _ _ => False) := fun _ _ x => by
  obtain ⟨_, _, _, _, _, _, _, _, _, _, _, _, _, _, _, _, z⟩ := x
  exact z.elim
/-! ### exceptions made: X(e) -/
theorem pmk1N {X : Cx} {C : Addr} {bmB : List Value} {B newId initId : String} {x : Str} {e : Expr} {ta : TE} {p pos : Pos} (F : ExcBaseFacts B newId initId bmB) (q : PySem.W.excIn X.K C bmB newId = true) (gC : X.mg x = some (.ref C)) (kC : PySem.W.keepIn X.K (.ref C) = true) (r : Raises X (.ref C)) (hg : Gl X x)
    (he : PE X e ta) (hs : starEach [e] X.env = (false, eval e X.env) :: starEach [] X.env := by rfl) (hdb : (x == ("__debug__" : Str)) = false := by decide) :
    L2N.PMk X (.Call (.Name x p) [e] [] pos) (fun σ H Q => ta σ H fun _ H1 => Q (.ref C) none H1) := by
  intro pins st σ H Q J h
  refine wpAny_Call_Name_kw (ld_glob J hg gC (PySem.W.callWith_K (h₀ := X.base) J.ok.mod.kin kC ?_ hs (by rfl)) hdb)
  rw [hs]
  show wpAny _ _ (spliced ((false, eval e X.env) :: backTo pos (starEach [] X.env))) _ _ st
  refine Calls.spliced_cons (thn (he.run pins st σ H _ J h) fun u st1 ⟨v, H1, J1, rv, want⟩ => Calls.spliced_nil ⟨J1.kIn, ?_⟩)
  show wpAny _ _ (call (.ref C) [u]) _ _ _
  obtain ⟨_, _, _, _, _, _, _, _, _, _, _, _, _, _, _, _, _, cls, ns, no, tail⟩ := exc_obj J1.kIn q
  exact wpAny_call_exc_subT F tail cls ns no (fun h2 a made => L2N.mk_of J1 made r want (J1.hok.gone made.new)) (by show 1 ≤ sizeLine; rw [sizeLine_eq]; omega)
/-- what an own class of errors must be -/
def excB (K : PySem.W.Frag) (C : Addr) : Bool := PySem.W.excIn K C [.type "ValueError", .type "Exception", .type "BaseException", .type "object"] "ValueError.__new__" && (PySem.W.keepIn K (.ref C) &&
  (decide (PySem.W.subIn K (.ref C) (.type "BaseException") = some true) && (decide (PySem.W.typeIn K (.ref C) = some (.type "type")) &&
  (decide (PySem.W.findIn K (.ref C) "__getattribute__" = some (some (.builtin "BaseException.__getattribute__"))) && (decide (PySem.W.findIn K (.ref C) "__getattr__" = some none) &&
  (PySem.W.hasDictIn K C && (decide (PySem.W.findIn K (.ref C) "__class__" = some (some (.builtin "object.__class__"))) && (decide (PySem.W.specialIn K (.builtin "object.__class__") "__get__" = some (some (.builtin "getset_descriptor.__get__"))) &&
  (decide (PySem.W.takesIn K (.builtin "object.__class__") = some true) && decide (PySem.W.mroIn K C (.type "object") = some true))))))))))
structure ExcD (K : PySem.W.Frag) (C : Addr) : Prop where
  ein : PySem.W.excIn K C [.type "ValueError", .type "Exception", .type "BaseException", .type "object"] "ValueError.__new__" = true
  kp : PySem.W.keepIn K (.ref C) = true
  sb : PySem.W.subIn K (.ref C) (.type "BaseException") = some true
  ty : PySem.W.typeIn K (.ref C) = some (.type "type")
  is : ExcC K C
theorem excD_of {K : PySem.W.Frag} {C : Addr} (h : excB K C = true) : ExcD K C := by
  obtain ⟨h1, h⟩ := Bool.and_eq_true_iff.mp h
  obtain ⟨h2, h⟩ := Bool.and_eq_true_iff.mp h
  obtain ⟨h3, h⟩ := Bool.and_eq_true_iff.mp h
  obtain ⟨h4, h⟩ := Bool.and_eq_true_iff.mp h
  obtain ⟨h5, h⟩ := Bool.and_eq_true_iff.mp h
  obtain ⟨h6, h⟩ := Bool.and_eq_true_iff.mp h
  obtain ⟨h7, h⟩ := Bool.and_eq_true_iff.mp h
  obtain ⟨h8, h⟩ := Bool.and_eq_true_iff.mp h
  obtain ⟨h9, h⟩ := Bool.and_eq_true_iff.mp h
  obtain ⟨h10, h11⟩ := Bool.and_eq_true_iff.mp h
  exact ⟨h1, h2, of_decide_eq_true h3, of_decide_eq_true h4, ⟨of_decide_eq_true h5, of_decide_eq_true h6, of_decide_eq_true h3, h7, of_decide_eq_true h8, of_decide_eq_true h9, of_decide_eq_true h10, of_decide_eq_true h11⟩⟩
/-- what isinstance says of an error of the class C, class by class -/
def isRow (K : PySem.W.Frag) (C : Addr) (l : List (Value × Bool)) : Bool := l.all fun x => decide (PySem.W.kitOne K (.ref C) x.1 = some x.2)
theorem isRow_at {K : PySem.W.Frag} {C : Addr} {l : List (Value × Bool)} (h : isRow K C l = true) {v : Value} {b : Bool} (m : (v, b) ∈ l) : PySem.W.kitOne K (.ref C) v = some b := of_decide_eq_true (List.all_eq_true.mp h _ m)
/-- raise X(e) -/
theorem ps_raiseN {X : Cx} {C : Addr} {W : WX} {x : Str} {e : Expr} {ta : TE} {p pos pos2 : Pos} (hc : X.calm = true) (tk : L2N.Takes X W) (D : ExcD X.K C) (gC : X.mg x = some (.ref C)) (hg : Gl X x)
    (he : PE X e ta) (hs : starEach [e] X.env = (false, eval e X.env) :: starEach [] X.env := by rfl) (hdb : (x == ("__debug__" : Str)) = false := by decide) :
    PS X (.Raise (some (.Call (.Name x p) [e] [] pos)) none pos2) (fun _ σ H => ta σ H fun _ H1 => W (.ref C) none σ H1) :=
  L2N.ps_raise hc tk (pmk1N PySem.F.excBase_ValueError D.ein gC D.kp (raises_own D.sb D.ty) hg he hs hdb)
/-! ### calls within the suite, the exception handed on -/
structure FnP (P : Program) (w : World) (K : PySem.W.Frag) (mg : Str → Option Value) (base : Heap) (CX : CXT) (k : Nat) (f : Addr) (fd : FuncData) (ps : List Str) (sp : Addr → Value → Option Addr → Sp) : Prop where
  len : ∀ a cls d vs H Q E, sp a cls d vs H Q E → vs.length = ps.length
  run : ∀ (A : Around) (outer : List Env) (s : Shared) (H : Hp) (args : Args) (us : List Value) (vs : List V) (Q : VK) (E : XK) (p : Addr × Obj) (cls : Value) (d : Option Addr), L2H.RoomH k A → L2H.Hot1 A p → Zc cls d p.2 → L2H.PinOk outer H s p → Env0 P w K mg base A outer s H → BindsTo s fd args (ps.zip us) → Vals vs us → sp p.1 cls d vs H Q E →
    codeAny (model P w) A (.call (.ref f) args) (CR CX outer P w H s Q E) s
theorem okP {CX : CXT} {P : Program} {w : World} {K : PySem.W.Frag} {mg : Str → Option Value} {base : Heap} {k : Nat} {f : Addr} {x qual : Str} {d : Stmt} {fd : FuncData} {N ps : List Str} {sp : Addr → Value → Option Addr → Sp} (F : Fun K x qual d f fd) (S : FnScope N ps (defScope d))
    (len : ∀ a cls d vs H Q E, sp a cls d vs H Q E → vs.length = ps.length)
    (hbody : ∀ (cdv : Value) (A : Around) (outer : List Env) (s : Shared) (H : Hp) (vs : List V) (Q : VK) (E : XK) (p : Addr × Obj) (cls : Value) (dd : Option Addr), L2H.Hot1 A p → Zc cls dd p.2 → L2H.RoomH k (A.deeper (envOfC qual (defScope d) s.heap.objs.size f cdv)) → sp p.1 cls dd vs H Q E →
      ∃ t, PSs (L2H.cxH CX P w K mg base N qual (defScope d) f cdv A outer s H E p) (defBody d) t ∧ t { nx := fun _ H' => Q .non H', rt := Q } (L2.start N vs) H) :
    FnP P w K mg base CX (k + 1) f fd ps sp := by
  obtain ⟨oc, od, kV, doc, pm, an, cdv, ct, osl, rfl, lk, hcd⟩ := F.ex
  refine ⟨len, fun A outer s H args us vs Q E p cls dd hr hot hz hpin e0 hb r hsp => ?_⟩
  have size := len _ _ _ _ _ _ _ hsp
  have inK : K.In s.heap := e0.mod.kin.keeps fun b o q => (e0.bs b o q).1
  have noLim : s.heap.NoLimit := e0.mod.nolimit.keeps fun b o q => (e0.bs b o q).1
  have kinds : ∀ y ∈ ps.zip us, (defScope d).names.lookup y.1 = some .local ∨ ((defScope d).names.lookup y.1 = some .cell ∧ ((cellsFrom (s.heap.objs.size + 1) (defScope d).names []).lookup y.1).isSome = true) := by
    rintro ⟨a, b⟩ hy
    exact (S.par a (List.of_mem_zip hy).1).elim .inl fun q => .inr ⟨q, PySem.W.cellsFrom_some _ _ _ (.inl q)⟩
  refine codeAny_call_function hr.depth (inK _ _ lk) rfl S.co S.gen rfl (PySem.W.codeRec_of inK hcd) (hb _ _ _ _ (wpAny_newFunctionEnv_cells S.kind kinds fun env eq st1 made => ?_))
  cases eq
  refine ⟨noLim.keeps made.toInCall.keep, codeAny_func ?_⟩
  obtain ⟨t, rule, done⟩ := hbody cdv A outer s H vs Q E p cls dd hot hz (hr.deeper _) hsp
  have J : Inv (L2H.cxH CX P w K mg base N qual (defScope d) f cdv A outer s H E p) [] (L2.start N vs) H st1 := L2H.inv_startH S hpin e0 size r made
  have back : ∀ {σ' : L2.St} {H' : Hp} {v : V} {u : Value} {st2 : Shared}, Inv (L2H.cxH CX P w K mg base N qual (defScope d) f cdv A outer s H E p) [] σ' H' st2 → RelV v u → Q v H' → CE outer P w H s Q u st2 := fun J2 rv q => ⟨_, _, J2.os, J2.bare, J2.base, J2.hok, rv, q⟩
  refine wpAny_mono (rule.run [] st1 (L2.start N vs) H _ J done) (fun z st2 hs => ?_) fun _ _ hs => hs
  match z, hs with
  | .ret u, ⟨v, σ2, H2, J2, rv, q⟩ => exact back J2 rv q
  | .next, ⟨σ2, H2, J2, q⟩ => exact back (v := V.non) (u := Value.none) J2 rfl q
  | .brk, ⟨_, _, _, q⟩ => exact False.elim q
  | .cont, ⟨_, _, _, q⟩ => exact False.elim q
def tCallP (sp : Addr → Value → Option Addr → Sp) (a : Addr) (cls : Value) (d : Option Addr) (t : TA) : TE := fun σ H Q => t σ H fun vs H1 => sp a cls d vs H1 Q E0
/-- f(e, ..) in the suite of the exception p -/
theorem pe_callP {X : Cx} {k : Nat} {f : Addr} {fd : FuncData} {ps : List Str} {sp : Addr → Value → Option Addr → Sp} {x : Str} {q pos : Pos} {e : Expr} {es : List Expr} {t : TA} {p : Addr × Obj} {cls : Value} {d : Option Addr} (F : FnP X.prog X.w X.K X.mg X.base CX0 k f fd ps sp) (room : L2H.RoomH k X.A) (hot : L2H.Hot1 X.A p) (hz : Zc cls d p.2) (hp : p ∈ X.pn)
    (gl : Gl X x) (at_ : X.mg x = some (.ref f)) (keep : PySem.W.keepIn X.K (.ref f) = true) (bind : Binds X.K fd ps []) (ha : PA X (e :: es) t) (nd : (x == ("__debug__" : Str)) = false := by decide)
    (one : starEach (e :: es) X.env = (false, eval e X.env) :: starEach es X.env := by rfl) (plain : (backTo pos (starEach es X.env)).any (·.1) = false := by rfl) : PE X (.Call (.Name x q) (e :: es) [] pos) (tCallP sp p.1 cls d t) := by
  refine ⟨fun pins st σ H Q J h => wpAny_Call_Name_kw (ld_glob J gl at_ ?_ nd)⟩
  refine PySem.W.callWith_K (h₀ := X.base) J.ok.mod.kin keep (thn (ha.run pos pins st σ H _ J h) fun us st1 ⟨vs, H1, J1, r, want⟩ => ⟨J1.kIn, ?_⟩) one plain
  have size : us.length = ps.length := r.length.symm.trans (F.len _ _ _ _ _ _ _ want)
  have bd := bind st1 us J1.kIn (by rw [List.append_nil]; exact size)
  rw [List.append_nil] at bd
  have P1 := J1.pin p (List.mem_append_left _ hp)
  have pin : L2H.PinOk X.stack H1 st1 p := ⟨P1.1, P1.2.1, fun hm => (List.mem_cons.mp (J1.stkSub p.1 hm)).elim P1.2.2.1 P1.2.2.2.1, P1.2.2.2.2⟩
  refine wpAny_call (codeAny_mono (F.run X.A X.stack st1 H1 ⟨us, []⟩ us vs Q E0 p cls d room hot hz pin J1.env0 bd r want) fun res st2 hq => ?_)
  match res, hq with
  | .error _, hq => exact False.elim hq
  | .ok (.ret _), hq => exact J1.after hq
  | .ok .next, hq => exact False.elim hq
  | .ok .brk, hq => exact False.elim hq
  | .ok .cont, hq => exact False.elim hq
theorem hot_suite {A : Around} {a : Addr} {oe : Obj} {cls : Value} {d : Option Addr} (hz : L2N.Zn cls d oe) (hf : ∃ vs, oe.data = .fields vs) : L2H.Hot1 (A.mark (some (.ref a))) (a, oe) :=
  ⟨rfl, hf.imp fun vs e => ⟨e, hz.2.2 vs e⟩⟩
theorem roomS {A : Around} {x : Option Value} {k : Nat} (r : Room k A) : L2H.RoomH k (A.mark x) := ⟨r.dp, r.un⟩
/-- isinstance(e, c), e the exception p -/
theorem call_isP {X : Cx} {p : Addr × Obj} {D : Addr} (C : ExcD X.K D) (hp : p ∈ X.pn) (hz : Zc (.ref D) none p.2) (hf : ∃ vs, p.2.data = .fields vs) : CallR X (.builtin "isinstance") (rIsE X.K D p.1) := by
  intro pins st σ H xs us Q J r h
  obtain ⟨c, cv, b, rfl, same, e, q⟩ := h
  cases r with
  | cons ra rest =>
    cases rest with
    | cons rc rest =>
      cases rest
      cases ra
      have ec := same _ rc
      subst ec
      obtain ⟨there, _⟩ := J.pin p (List.mem_append_left _ hp)
      obtain ⟨vs, hv⟩ := hf
      have inst : PySem.W.InstAt st.heap p.1 p.2 D none := ⟨there, hz.1, by unfold PySem.W.notCls; rw [hv] <;> rfl, by rw [hz.2]; trivial⟩
      have Z := PySem.W.handS_kitx_exc (x := p.1) (ox := p.2) C.is.hg C.is.hk C.is.hs C.is.hd C.is.ha C.is.hn C.is.ht C.is.hm
      exact PySem.W.kia_one Z J.kIn inst e (fun z => nomatch z) fun tk => ⟨.bl b, H, J.kept (t' := tk) fun _ _ z => z, rfl, q⟩
/-! ### readings -/
/-- what is due: nothing, or an error -/
structure Out (due : Option Addr) (H : Hp) (Q : VK) (E : XK) : Prop where
  no : due = none → ∀ v H1, Ex H H1 → Q v H1
  yes : ∀ C, due = some C → ∀ H1, Ex H H1 → E (.ref C) none H1
section
variable {K : PySem.W.Frag} {σ : L2.St} {H H' : Hp} {ta : TA} {tz : TS} {D : Ends} {E : XK} {sp : Sp} {vs dvs : List V} {te tf : TE}
theorem ev_isP {a C : Addr} {c : V} {cv : Value} {b : Bool} (h0 : Ev te σ H (.ref a)) (h1 : Ev tf σ H c) (hc : ∀ u, RelV c u → u = cv) (hk : PySem.W.kitOne K (.ref C) cv = some b) : Ev (tCB (rIsE K C a) (tCons te (tCons tf tNil))) σ H (.bl b) := fun H1 e Q q =>
  h0 H1 e _ fun H2 e2 => h1 H2 (e.trans e2) _ fun H3 e3 => ⟨c, cv, b, rfl, hc, hk, q H3 (e2.trans e3)⟩
def SpO (sp : Sp) (vs : List V) (H : Hp) (due : Option Addr) : Prop := ∀ H1, Ex H H1 → ∀ (Q : VK) (E : XK), Out due H1 Q E → sp vs H1 Q E
theorem Out.mono {due : Option Addr} {Q : VK} {E : XK} (e : Ex H H') (h : Out due H Q E) : Out due H' Q E := ⟨fun z v H1 e1 => h.no z v H1 (e.trans e1), fun C z H1 e1 => h.yes C z H1 (e.trans e1)⟩
/-- f(..) that raises what is due, and the rest -/
theorem q_chk {due : Option Addr} (ha : EvA ta σ H vs) (hs : SpO sp (vs ++ dvs) H due) (k : due = none → ∀ H1, Ex H H1 → tz D σ H1) (ke : ∀ C, due = some C → ∀ H1, Ex H H1 → E (.ref C) none H1) : tSeq (tDrop (tCall sp dvs E ta)) tz D σ H :=
  ha H (Ex.refl H) _ fun H1 e1 => hs H1 e1 _ _ ⟨fun z v H2 e2 => k z H2 (e1.trans e2), fun C z H2 e2 => ke C z H2 (e1.trans e2)⟩
theorem unseq {t : TS} (h : t { D with nx := tz D } σ H) : tSeq t tz D σ H := h
/-- x = f(..), whatever f promises -/
theorem q_asgCall {i : Nat} (ha : EvA ta σ H vs) (k : ∀ H1, Ex H H1 → sp (vs ++ dvs) H1 (fun v H2 => tz D (σ.set i (some v)) H2) E) : tSeq (tAsg (tCall sp dvs E ta) (gName i)) tz D σ H := ha H (Ex.refl H) _ fun H1 e1 => k H1 e1
theorem s_retCall (ha : EvA ta σ H vs) (k : ∀ H1, Ex H H1 → sp (vs ++ dvs) H1 D.rt E) : tRet (tCall sp dvs E ta) D σ H := ha H (Ex.refl H) _ fun H1 e1 => k H1 e1
/-- the same as one of the ways of a try -/
theorem s_chkS {due : Option Addr} {W : WX} (ha : EvA ta σ H vs) (hs : SpO sp vs H due) (k : due = none → ∀ H1, Ex H H1 → D.nx σ H1) (ke : ∀ C, due = some C → ∀ H1, Ex H H1 → W (.ref C) none σ H1) : tDrop (tCallS sp (WE W) ta) D σ H :=
  ha H (Ex.refl H) _ fun H1 e1 => hs H1 e1 _ _ ⟨fun z v H2 e2 => k z H2 (e1.trans e2), fun C z H2 e2 => ke C z H2 (e1.trans e2)⟩
/-- [e for x in f(..)] -/
theorem lc_call {K : PySem.W.Frag} {g : TG} {t : TT} {te : TE} {ns : List Nat} {Q : VK} (ha : EvA ta σ H vs) (k : ∀ H1, Ex H H1 → sp (vs ++ dvs) H1 (fun x H2 => tLc (iList K fun _ H' Q' => Q' x H') g t te ns σ H2 Q) E) : tLc (iList K (tCall sp dvs E ta)) g t te ns σ H Q := ha H (Ex.refl H) _ fun H1 e1 => k H1 e1
/-- what a walk over a list wants of it -/
def ForQ (K : PySem.W.Frag) (g : TG) (tu : TS) (D : Ends) (σ : L2.St) : VK := fun x H1 => ∃ a, x = .ref a ∧ (∃ xs, SqL K H1 a xs) ∧ ∃ W : Nat → Nat → L2.St → Hp → Prop, (∃ m, W 0 m σ H1) ∧ ∀ i m σ H, W i m σ H →
  ((Itl K a).stop i H ∧ D.nx σ H) ∨ ((Itl K a).go i H ∧ ∃ N : L2.St → Hp → Prop, (∀ σ' H', N σ' H' → ∃ m', m' < m ∧ W (i + 1) m' σ' H') ∧ ∀ x H', (Itl K a).yld i H x H' → g x σ H' fun σ2 H2 => tu { D with nx := N, ct := N, bk := D.nx } σ2 H2)
theorem forQ_of {K : PySem.W.Frag} {g : TG} {tu : TS} {a : Addr} {xs : List V} (Pv : Nat → L2.St → Hp → Prop) (h0 : Pv 0 σ H) (hl : ∀ i σ' H', i ≤ xs.length → Pv i σ' H' → SqL K H' a xs)
    (hs : ∀ i x σ' H', xs[i]? = some x → Pv i σ' H' → g x σ' H' fun σ2 H2 => tu { D with nx := Pv (i + 1), ct := Pv (i + 1), bk := D.nx } σ2 H2) (hd : ∀ σ' H', Pv xs.length σ' H' → D.nx σ' H') : ForQ K g tu D σ (.ref a) H :=
  ⟨a, rfl, ⟨xs, hl 0 σ H (Nat.zero_le _) h0⟩, for_list Pv h0 hl hs hd⟩
/-- for x in f(..) -/
theorem q_forCall {K : PySem.W.Frag} {g : TG} {tu : TS} (ha : EvA ta σ H vs) (k : ∀ H1, Ex H H1 → sp (vs ++ dvs) H1 (ForQ K g tu { D with nx := tz D } σ) E) : tSeq (tFor (iList K (tCall sp dvs E ta)) g tu) tz D σ H := ha H (Ex.refl H) _ fun H1 e1 => k H1 e1
theorem s_forCall {K : PySem.W.Frag} {g : TG} {tu : TS} (ha : EvA ta σ H vs) (k : ∀ H1, Ex H H1 → sp (vs ++ dvs) H1 (ForQ K g tu D σ) E) : tFor (iList K (tCall sp dvs E ta)) g tu D σ H := ha H (Ex.refl H) _ fun H1 e1 => k H1 e1
end
/-! ### xs.count(x) of flat values -/
def rCntF (K : PySem.W.Frag) : V → List V → Hp → VK → Prop := fun x xs H Q => ∃ (p : Addr) (ys : List V) (y : V), x = .ref p ∧ xs = [y] ∧ SqL K H p ys ∧ flatV y = true ∧ ys.all flatV = true ∧ Q (.int ((ys.countP fun z => eqV z y : Nat) : Int)) H
theorem countP_eqU {y : V} : ∀ {ys : List V} {us : List Value}, Vals ys us → ys.all flatV = true → us.countP (eqU y) = ys.countP fun z => eqV z y
  | _, _, .nil, _ => rfl
  | _, _, .cons r t, f => by
    rw [List.all_cons, Bool.and_eq_true] at f
    have ih := countP_eqU (y := y) t f.2
    rw [List.countP_cons, List.countP_cons, ih, eqU_of r f.1]
theorem mt_countF {X : Cx} : MtR X "list.count" (rCntF X.K) := by
  intro pins st σ H x xs v us Q J rx rxs h
  obtain ⟨p, ys, y, rfl, rfl, sq, fy, fys, q⟩ := h
  cases rx
  cases rxs with
  | cons ry rest =>
    rename_i uy ut
    cases rest
    obtain ⟨its, rv, ⟨⟨c, dd, dat, sl⟩, n, there, isL, _, isS⟩, _⟩ := J.list sq
    simp only at isL isS
    subst isL isS
    have ec : its.toArray.toList.countP (eqU y) = ys.countP fun z => eqV z y := countP_eqU rv fys
    exact call_meets PySem.F.slot_list_count ⟨_, there, rfl⟩ PySem.F.entry_list_count (PySem.F.args_list_count_2 _ _) (SeqAt.list_countAt p its.toArray n dd sl uy (eqU y))
      ⟨there, fun z hz => mem_eqAt ry fy rv fys z (by simpa using hz), .int ((ys.countP fun z => eqV z y : Nat) : Int), H, J.tok _, ⟨st.toks, by rw [ec]⟩, q⟩
theorem ev_countF {K : PySem.W.Frag} {σ : L2.St} {H : Hp} {ta te : TE} {p : Addr} {ys : List V} {y : V} (ha : Ev ta σ H (.ref p)) (sq : H p = some (.lst ys)) (he : Ev te σ H y) (fy : flatV y = true) (fys : ys.all flatV = true) : Ev (tBM K "list" (rCntF K) ta (tCons te tNil)) σ H (.int ((ys.countP fun z => eqV z y : Nat) : Int)) := fun H1 e Q q =>
  ha H1 e _ fun H2 e2 => ⟨.inl ⟨rfl, _, sq_of (e2 p _ (e p _ sq))⟩, he H2 (e.trans e2) _ fun H3 e3 => ⟨p, ys, y, rfl, rfl, sq_of (e3 p _ (e2 p _ (e p _ sq))), fy, fys, q H3 (e2.trans e3)⟩⟩
/-- xs.index(x), by its number -/
theorem ev_indexF {K : PySem.W.Frag} {σ : L2.St} {H : Hp} {ta te : TE} {p : Addr} {ys : List V} {y : V} (j : Nat) (ha : Ev ta σ H (.ref p)) (sq : H p = some (.lst ys)) (he : Ev te σ H y) (fy : flatV y = true) (fys : ys.all flatV = true) (hj : ∃ z, ys[j]? = some z ∧ eqV z y = true) (hno : ∀ (m : Nat) (z : V), m < j → ys[m]? = some z → eqV z y = false) :
    Ev (tBM K "list" (rIndex K) ta (tCons te tNil)) σ H (.int (j : Int)) := fun H1 e Q q =>
  ha H1 e _ fun H2 e2 => ⟨.inl ⟨rfl, _, sq_of (e2 p _ (e p _ sq))⟩, he H2 (e.trans e2) _ fun H3 e3 => by
    obtain ⟨z, hz, ez⟩ := hj
    exact ⟨p, ys, y, j, z, rfl, rfl, sq_of (e3 p _ (e2 p _ (e p _ sq))), fy, fys, hz, ez, hno, q H3 (e2.trans e3)⟩⟩
end Kit

set_option Elab.async false
set_option linter.all false
set_option maxRecDepth 100000
set_option maxHeartbeats 4000000
namespace Kit
open PySem PySem.Spec PyProof.Rows L2 Evl
/-! ### isinstance(e, (A, B, ..)), e the caught exception; lists of new tuples -/
def rIsET (K : PySem.W.Frag) (D a : Addr) : List V → Hp → VK → Prop := fun xs H Q => ∃ (q : Addr) (cs : List Addr) (b : Bool), xs = [.ref a, .ref q] ∧ H q = some (.tup (cs.map V.ref)) ∧ PySem.W.kitAny K (.ref D) (cs.map Value.ref) = some b ∧ Q (.bl b) H
theorem vals_refs : ∀ {cs : List Addr} {its : List Value}, Vals (cs.map V.ref) its → its = cs.map Value.ref
  | [], _, .nil => rfl
  | c :: r, _, .cons h t => by
    have e : _ = Value.ref c := h
    rw [e, vals_refs t]
    rfl
theorem call_isPT {X : Cx} {p : Addr × Obj} {D : Addr} (C : ExcD X.K D) (hp : p ∈ X.pn) (hz : Zc (.ref D) none p.2) (hf : ∃ vs, p.2.data = .fields vs) : CallR X (.builtin "isinstance") (rIsET X.K D p.1) := by
  intro pins st σ H xs us Q J r h
  obtain ⟨q0, cs, b, rfl, hq, e, q⟩ := h
  cases r with
  | cons ra rest =>
    cases rest with
    | cons rc rest =>
      cases rest
      cases ra
      have ec : _ = Value.ref q0 := rc
      subst ec
      obtain ⟨_, its, rel, tup⟩ := (show ObjOk X.prog X.w H st.heap q0 (.tup (cs.map V.ref)) from J.hok q0 _ hq)
      obtain ⟨o, ho, hc, n, hd⟩ := tup
      obtain ⟨cl, dd, dat, sl⟩ := o
      have hc : cl = .type "tuple" := hc
      have hd : dat = .seq its.toArray n := hd
      subst hc hd
      rw [vals_refs rel] at ho
      obtain ⟨there, _⟩ := J.pin p (List.mem_append_left _ hp)
      obtain ⟨vs, hv⟩ := hf
      have inst : PySem.W.InstAt st.heap p.1 p.2 D none := ⟨there, hz.1, by unfold PySem.W.notCls; rw [hv] <;> rfl, by rw [hz.2]; trivial⟩
      have Z := PySem.W.handS_kitx_exc (x := p.1) (ox := p.2) C.is.hg C.is.hk C.is.hs C.is.hd C.is.ha C.is.hn C.is.ht C.is.hm
      exact PySem.W.kia_tup Z J.kIn inst ho e (fun z => nomatch z) fun tk => ⟨.bl b, H, J.kept (t' := tk) fun _ _ z => z, rfl, q⟩
section
variable {K : PySem.W.Frag} {σ : L2.St} {H : Hp} {ta tb te tf tl : TE} {tr t : TA} {D : Ends} {tz : TS} {tt : TT}
theorem ev_isPT {a C : Addr} {cs : List Addr} {b : Bool} (h0 : Ev te σ H (.ref a)) (h1 : EvU tf σ H (cs.map V.ref)) (hk : PySem.W.kitAny K (.ref C) (cs.map Value.ref) = some b) : Ev (tCB (rIsET K C a) (tCons te (tCons tf tNil))) σ H (.bl b) := fun H1 e Q q =>
  h0 H1 e _ fun H2 e2 => h1 H2 (e.trans e2) _ fun p H3 _ e3 hp => ⟨p, cs, b, rfl, hp, hk, q H3 (e2.trans e3)⟩
def EaT (ta : TA) (σ : L2.St) (H : Hp) (rs : List (List V)) : Prop := ∀ H1, Ex H H1 → ∀ Q : List V → Hp → Prop, (∀ vs H2, Ex H1 H2 → TL H2 vs rs → Q vs H2) → ta σ H1 Q
theorem eat_nil : EaT tNil σ H [] := fun H1 _ Q q => q [] H1 (Ex.refl _) .nil
theorem eat_cons {xs : List V} {rs : List (List V)} (h : EvU te σ H xs) (hr : EaT tr σ H rs) : EaT (tCons te tr) σ H (xs :: rs) := fun H1 e Q q =>
  h H1 e _ fun p H2 _ e2 hp => hr H2 (e.trans e2) _ fun vs H3 e3 tl => q (.ref p :: vs) H3 (e2.trans e3) (.cons ⟨p, rfl, e3 p _ hp⟩ tl)
theorem elt_lst {rs : List (List V)} (h : EaT t σ H rs) (hl : rs.length ≤ 100000) : EvLT (tLst t) σ H rs := fun H1 e Q q =>
  h H1 e _ fun vs H2 e2 tl => ⟨sz_of (by rw [tl.len]; exact hl), fun p hp => q p vs _ (fresh_back e2 hp) (e2.trans (Ex.new hp)) upd_same (tl.ex (Ex.new hp))⟩
theorem tl_app {H : Hp} : ∀ {vs ws : List V} {rs ss : List (List V)}, TL H vs rs → TL H ws ss → TL H (vs ++ ws) (rs ++ ss)
  | [], _, [], _, .nil, h => h
  | _, _, _, _, .cons x t, h => .cons x (tl_app t h)
/-- found + [..] -/
theorem elt_catL {a : Addr} {vs : List V} {rs ss : List (List V)} (h : Ev ta σ H (.ref a)) (ha : H a = some (.lst vs)) (tl : TL H vs rs) (h2 : EvLT tb σ H ss) (hz : rs.length + ss.length ≤ 1000) : EvLT (tOp rCat ta tb) σ H (rs ++ ss) := fun H1 e Q q =>
  h H1 e _ fun H2 e2 => h2 H2 (e.trans e2) _ fun p ws H3 _ e3 hp tw => ⟨a, p, vs, ws, rfl, rfl, e3 a _ (e2 a _ (e a _ ha)), hp, sz_of (by rw [tl.len, tw.len]; omega), fun l hl =>
    q l _ _ (fresh_back (e2.trans e3) hl) ((e2.trans e3).trans (Ex.new hl)) upd_same (tl_app (tl.ex (e.trans (e2.trans (e3.trans (Ex.new hl))))) (tw.ex (Ex.new hl)))⟩
/-- [e for x, y in a list of pairs if t] -/
theorem el_lcTL {a : Addr} {ws : List V} {rs : List (List V)} {i j : Nat} {vs : List Nat} (x y : Nat → V) (f : Nat → Bool) (v : Nat → V) (h : Ev tl σ H (.ref a)) (ha : H a = some (.lst ws)) (hl : TL H ws rs) (hz : rs.length ≤ 1000) (hr : ∀ (n : Nat) r, rs[n]? = some r → r = [x n, y n])
    (hw : ∀ x y, wipe (((wipe σ vs).set i (some x)).set j (some y)) vs = wipe σ vs)
    (ht : ∀ (n : Nat) H1, n < rs.length → EvT tt (((wipe σ vs).set i (some (x n))).set j (some (y n))) H1 (f n))
    (he : ∀ (n : Nat) H1, n < rs.length → f n = true → Ev te (((wipe σ vs).set i (some (x n))).set j (some (y n))) H1 (v n)) :
    EvL (tLc (iList K tl) (gTup K 2 (gCons (gName i) (gCons (gName j) gNil))) tt te vs) σ H (given rs.length f v) := fun H0 e Q q => h H0 e _ fun H1 e1 => ⟨a, rfl, ⟨ws, sq_of (e1 a _ (e a _ ha))⟩, fun Dl hD => by
  have le := hl.len
  refine lc_list (xs := ws) (Cw H1 f v Dl) ⟨hD, Ex.new hD, upd_same⟩ (fun n G _ p => sq_of (p.2.1 a _ (e1 a _ (e a _ ha)))) (fun n w G hn p => ?_) fun G p => q Dl G (fresh_back e1 p.1) (e1.trans p.2.1) (by have := p.2.2; rw [le] at this; exact this)
  have nl := (List.getElem?_eq_some_iff.mp hn).1
  obtain ⟨b, r, rfl, hb, hr0⟩ := hl.get hn
  have er := hr n r hr0
  subst er
  refine ⟨b, [x n, y n], rfl, st_of (p.2.1 b _ (e1 b _ (e b _ hb))), rfl, x n, [y n], rfl, y n, [], rfl, rfl, hw _ _, ?_⟩
  exact cw_turn (H := H1) p (by omega) (ht n H1 (by omega)) fun hf => he n H1 (by omega) hf⟩
end
end Kit

set_option Elab.async false
set_option linter.all false
set_option maxRecDepth 100000
set_option maxHeartbeats 4000000
namespace Kit
open PySem PySem.Spec PyProof.Rows L2 Evl
/-! ### len(set(ints)), with any of them more than once -/
def dedI (ns : List Int) : List Int := PyProof.Rows.firstMet (fun i => ns.getD i 0) ns.length
def tLenSetG (K : PySem.W.Frag) (ta : TE) : TE := fun σ H Q => ta σ H fun x H1 => ∃ (l : Addr) (ns : List Int), x = .ref l ∧ SqL K H1 l (ns.map V.int) ∧ ns.length ≤ 4000 ∧ Q (.int ((dedI ns).length : Nat)) H1
theorem pe_lenSetG {X : Cx} {a : Expr} {ta : TE} {p p2 q pos : Pos} (hg : Gl X "len") (hm : X.mg "len" = none) (hg2 : Gl X "set") (hm2 : X.mg "set" = none) (ha : PE X a ta) (hc : X.calm = true := by rfl)
    (na : starEach [a] X.env = (false, eval a X.env) :: starEach [] X.env := by rfl) : PE X (.Call (.Name "len" p) [.Call (.Name "set" p2) [a] [] q] [] pos) (tLenSetG X.K ta) := by
  refine ⟨fun pins s σ H Q I h => ?_⟩
  refine Call_ (ld_blt I hg hm boot_len ?_)
  refine PyProof.Rows.callWith_builtin1 (PyProof.Rows.args_cons ?_ rfl) rfl rfl
  refine Call_ (ld_blt I hg2 hm2 boot_set ?_)
  refine PyProof.Rows.callWith_type1 (PyProof.Rows.args_cons (thn (ha.run pins s σ H _ I h) fun v s1 ⟨x, H1, I1, r1, q1⟩ => PyProof.Rows.args_nil ?_) na) na rfl
  obtain ⟨l, ns, rfl, hq, hl, q1⟩ := q1
  cases r1
  obtain ⟨its, r, pl, hz⟩ := I1.list hq
  have hlen : its.toArray.size = ns.length := by rw [List.size_toArray, ← r.length, List.length_map]
  refine call_set_list (I1.ok.hd hc) pl.isList (by simpa using RZ.intsAre_vals r) (by rw [hlen]; unfold scanBound; omega) fun h' tk hS hk => ?_
  refine PyProof.Rows.args_nil ?_
  rw [hlen] at hS
  have le := PyProof.Rows.firstMet_length_le (fun i => ns.getD i 0) ns.length
  obtain ⟨o, es, ep, t, ho, hex, hd, _, _, _, hf, hn⟩ := hS
  have I2 : Inv X pins σ H1 { s1 with heap := h', toks := tk } := I1.kept fun b o e => hk b o (Heap.lt_size e) e
  exact call_len_set ho hex hd hf (by rw [hn] <;> omega) ⟨.int ((dedI ns).length : Nat), H1, I2.tok _, ⟨_, by rw [hn]; rfl⟩, q1⟩
theorem dedI_nd {ns : List Int} (h : ns.Nodup) : (dedI ns).length = ns.length := by
  unfold dedI
  rw [RZ.firstMet_nodup h ns.length (Nat.le_refl _), List.take_length]
theorem dedI_full {ns : List Int} : ∀ i, i ≤ ns.length → (PyProof.Rows.firstMet (fun i => ns.getD i 0) i).length = i → PyProof.Rows.firstMet (fun i => ns.getD i 0) i = ns.take i ∧ (ns.take i).Nodup
  | 0, _, _ => ⟨by simp [PyProof.Rows.firstMet_zero], by simp⟩
  | i + 1, hi, h => by
    have le := PyProof.Rows.firstMet_length_le (fun i => ns.getD i 0) i
    rw [PyProof.Rows.firstMet_succ] at h ⊢
    by_cases hb : ((PyProof.Rows.firstMet (fun i => ns.getD i 0) i).any (· == ns.getD i 0)) = true
    · have e : PyProof.Rows.step_dedup (PyProof.Rows.firstMet (fun i => ns.getD i 0) i) (ns.getD i 0) = PyProof.Rows.firstMet (fun i => ns.getD i 0) i := by
        show (if ((PyProof.Rows.firstMet (fun i => ns.getD i 0) i).any (· == ns.getD i 0)) = true then _ else _) = _
        rw [if_pos hb]
      rw [e] at h
      omega
    · have e : PyProof.Rows.step_dedup (PyProof.Rows.firstMet (fun i => ns.getD i 0) i) (ns.getD i 0) = PyProof.Rows.firstMet (fun i => ns.getD i 0) i ++ [ns.getD i 0] := by
        show (if ((PyProof.Rows.firstMet (fun i => ns.getD i 0) i).any (· == ns.getD i 0)) = true then _ else _) = _
        rw [if_neg hb]
      rw [e] at h ⊢
      rw [List.length_append, List.length_singleton] at h
      obtain ⟨a, b⟩ := dedI_full (ns := ns) i (by omega) (by omega)
      have t : ns.take (i + 1) = ns.take i ++ [ns.getD i 0] := by
        rw [List.take_add_one, List.getElem?_eq_getElem (by omega), List.getD_eq_getElem?_getD, List.getElem?_eq_getElem (by omega)]
        rfl
      rw [a] at hb ⊢
      refine ⟨t.symm, ?_⟩
      rw [t]
      refine List.nodup_append.mpr ⟨b, by simp, fun x hx y hy e => hb (List.any_eq_true.mpr ⟨x, hx, ?_⟩)⟩
      rw [List.mem_singleton.mp hy] at e
      rw [e]
      exact beq_self_eq_true _
theorem dedI_iff {ns : List Int} : (dedI ns).length = ns.length ↔ ns.Nodup := by
  refine ⟨fun h => ?_, dedI_nd⟩
  have := (dedI_full ns.length (Nat.le_refl _) h).2
  rwa [List.take_length] at this
section
variable {K : PySem.W.Frag} {σ : L2.St} {H : Hp} {ta : TE}
theorem ev_lenSetG {l : Addr} {ns : List Int} (h : Ev ta σ H (.ref l)) (hl : SqL K H l (ns.map V.int)) (hz : ns.length ≤ 4000) : Ev (tLenSetG K ta) σ H (.int ((dedI ns).length : Nat)) := fun H1 e Q q =>
  h H1 e _ fun H2 e2 => ⟨l, ns, rfl, ex_l (e.trans e2) hl, hz, q H2 e2⟩
end
end Kit

set_option Elab.async false
set_option linter.all false
set_option maxRecDepth 100000
set_option maxHeartbeats 4000000
namespace Kit
open PySem PySem.Spec PyProof.Rows L2 Evl
/-! ### data that is laid in the heap, by its depth -/
inductive Flat : V → PyData → Prop
  | non : Flat .non .none
  | bl (b : Bool) : Flat (.bl b) (.bool b)
  | int (i : Int) : Flat (.int i) (.int i)
  | str (x : Str) (ok : PyData.strOk x = true) : Flat (.str x) (.str x)
def Tk : Nat → Hp → V → PyData → Prop
  | 0, _, v, d => Flat v d
  | n + 1, H, v, d => Flat v d ∨ (∃ a xs ds, v = .ref a ∧ d = .list ds ∧ H a = some (.lst xs) ∧ xs.length ≤ 40000 ∧ Paired (Tk n H) xs ds) ∨ (∃ a xs ds, v = .ref a ∧ d = .tuple ds ∧ H a = some (.tup xs) ∧ xs.length ≤ 40000 ∧ Paired (Tk n H) xs ds)
theorem Tk.flat {v : V} {d : PyData} (h : Flat v d) : ∀ {n : Nat} {H : Hp}, Tk n H v d
  | 0, _ => h
  | _ + 1, _ => .inl h
theorem tk_imp {A B : V → PyData → Prop} (f : ∀ v d, A v d → B v d) : ∀ {xs : List V} {ds : List PyData}, Paired A xs ds → Paired B xs ds
  | _, _, .nil => .nil
  | _, _, .cons h t => .cons (f _ _ h) (tk_imp f t)
theorem Tk.ex {H H' : Hp} (e : Ex H H') : ∀ {n : Nat} {v : V} {d : PyData}, Tk n H v d → Tk n H' v d
  | 0, _, _, h => h
  | _ + 1, _, _, .inl h => .inl h
  | _ + 1, _, _, .inr (.inl ⟨a, xs, ds, h1, h2, h3, hz, h4⟩) => .inr (.inl ⟨a, xs, ds, h1, h2, e a _ h3, hz, tk_imp (fun _ _ => Tk.ex e) h4⟩)
  | _ + 1, _, _, .inr (.inr ⟨a, xs, ds, h1, h2, h3, hz, h4⟩) => .inr (.inr ⟨a, xs, ds, h1, h2, e a _ h3, hz, tk_imp (fun _ _ => Tk.ex e) h4⟩)
theorem Tk.mono {H : Hp} : ∀ {n m : Nat} {v : V} {d : PyData}, n ≤ m → Tk n H v d → Tk m H v d
  | 0, _, _, _, _, h => Tk.flat h
  | _ + 1, 0, _, _, e, _ => absurd e (by omega)
  | _ + 1, _ + 1, _, _, _, .inl h => .inl h
  | _ + 1, _ + 1, _, _, e, .inr (.inl ⟨a, xs, ds, h1, h2, h3, hz, h4⟩) => .inr (.inl ⟨a, xs, ds, h1, h2, h3, hz, tk_imp (fun _ _ => Tk.mono (by omega)) h4⟩)
  | _ + 1, _ + 1, _, _, e, .inr (.inr ⟨a, xs, ds, h1, h2, h3, hz, h4⟩) => .inr (.inr ⟨a, xs, ds, h1, h2, h3, hz, tk_imp (fun _ _ => Tk.mono (by omega)) h4⟩)
theorem tk_int {n : Nat} {H : Hp} (i : Int) : Tk n H (.int i) (.int i) := .flat (.int i)
theorem tk_ints {n : Nat} {H : Hp} : ∀ ns : List Int, Paired (Tk n H) (ns.map V.int) (ns.map PyData.int)
  | [] => .nil
  | i :: r => .cons (tk_int i) (tk_ints r)
theorem tk_lst {n : Nat} {H : Hp} {a : Addr} {xs : List V} {ds : List PyData} (h : H a = some (.lst xs)) (hd : Paired (Tk n H) xs ds) (hz : ds.length ≤ 40000) : Tk (n + 1) H (.ref a) (.list ds) := .inr (.inl ⟨a, xs, ds, rfl, rfl, h, by rw [Paired.length hd]; exact hz, hd⟩)
theorem tk_tup {n : Nat} {H : Hp} {a : Addr} {xs : List V} {ds : List PyData} (h : H a = some (.tup xs)) (hd : Paired (Tk n H) xs ds) (hz : ds.length ≤ 40000) : Tk (n + 1) H (.ref a) (.tuple ds) := .inr (.inr ⟨a, xs, ds, rfl, rfl, h, by rw [Paired.length hd]; exact hz, hd⟩)
theorem flat_dp {K : PySem.W.Frag} {H : Hp} {v : V} {d : PyData} (h : Flat v d) : Dp K H v d := by
  cases h with
  | non => exact .non
  | bl b => exact .bl b
  | int i => exact .int i
  | str x _ => exact .str x
def isSeq : PyData → Bool
  | .list _ => true
  | .tuple _ => true
  | _ => false
def isLs : PyData → Bool
  | .list _ => true
  | _ => false
def isIt : PyData → Bool
  | .int _ => true
  | .bool _ => true
  | _ => false
def isBo : PyData → Bool
  | .bool _ => true
  | _ => false
def isSt : PyData → Bool
  | .str _ => true
  | _ => false
section
variable {K : PySem.W.Frag} {σ : L2.St} {H H' : Hp} {ta tb te : TE} {n : Nat} {v : V} {d : PyData}
theorem tk_kind {f : PyData → Bool} {g : Value → Option Bool} (h : Tk n H v d) (non : g (.type "NoneType") = some (f .none)) (bl : ∀ b, g (.type "bool") = some (f (.bool b))) (it : ∀ i, g (.type "int") = some (f (.int i))) (st : ∀ i, g (.type "str") = some (f (.str i)))
    (ls : ∀ ds, g (.type "list") = some (f (.list ds))) (tu : ∀ ds, g (.type "tuple") = some (f (.tuple ds))) : ∃ t, TyX K H v t ∧ g t = some (f d) := by
  have fl : Flat v d → ∃ t, TyX K H v t ∧ g t = some (f d) := fun h => by
    cases h with
    | non => exact ⟨_, .base .non, non⟩
    | bl b => exact ⟨_, .base (.bl b), bl b⟩
    | int i => exact ⟨_, .base (.int i), it i⟩
    | str x _ => exact ⟨_, .base (.str x), st x⟩
  match n, h with
  | 0, h => exact fl h
  | _ + 1, .inl h => exact fl h
  | _ + 1, .inr (.inl ⟨a, xs, ds, h1, h2, h3, hz, h4⟩) =>
    subst h1 h2
    exact ⟨_, .base (.lst h3), ls ds⟩
  | _ + 1, .inr (.inr ⟨a, xs, ds, h1, h2, h3, hz, h4⟩) =>
    subst h1 h2
    exact ⟨_, .base (.tup h3), tu ds⟩
theorem ev_isOne {T : String} {f : PyData → Bool} (h : Ev ta σ H v) (hv : Tk n H v d) (non : PySem.W.kitOne K (.type "NoneType") (.type T) = some (f .none)) (bl : ∀ b, PySem.W.kitOne K (.type "bool") (.type T) = some (f (.bool b))) (it : ∀ i, PySem.W.kitOne K (.type "int") (.type T) = some (f (.int i))) (st : ∀ i, PySem.W.kitOne K (.type "str") (.type T) = some (f (.str i)))
    (ls : ∀ ds, PySem.W.kitOne K (.type "list") (.type T) = some (f (.list ds))) (tu : ∀ ds, PySem.W.kitOne K (.type "tuple") (.type T) = some (f (.tuple ds))) : Ev (tCB (rIsi K) (tCons ta (tCons (tC (.ty T)) tNil))) σ H (.bl (f d)) := fun H1 e Q q => h H1 e _ fun H2 e2 => by
  obtain ⟨t, ty, k⟩ := tk_kind (K := K) (f := f) (g := fun t => PySem.W.kitOne K t (.type T)) (hv.ex (e.trans e2)) non bl it st ls tu
  exact ⟨v, .ty T, t, .type T, _, rfl, .ty T, ty, k, q H2 e2⟩
theorem ev_isLs (h : Ev ta σ H v) (hv : Tk n H v d) : Ev (tCB (rIsi K) (tCons ta (tCons (tC (.ty "list")) tNil))) σ H (.bl (isLs d)) := ev_isOne (f := isLs) h hv rfl (fun _ => rfl) (fun _ => rfl) (fun _ => rfl) (fun _ => rfl) (fun _ => rfl)
theorem ev_isIt (h : Ev ta σ H v) (hv : Tk n H v d) : Ev (tCB (rIsi K) (tCons ta (tCons (tC (.ty "int")) tNil))) σ H (.bl (isIt d)) := ev_isOne (f := isIt) h hv rfl (fun _ => rfl) (fun _ => rfl) (fun _ => rfl) (fun _ => rfl) (fun _ => rfl)
theorem ev_isBo (h : Ev ta σ H v) (hv : Tk n H v d) : Ev (tCB (rIsi K) (tCons ta (tCons (tC (.ty "bool")) tNil))) σ H (.bl (isBo d)) := ev_isOne (f := isBo) h hv rfl (fun _ => rfl) (fun _ => rfl) (fun _ => rfl) (fun _ => rfl) (fun _ => rfl)
theorem ev_isSt (h : Ev ta σ H v) (hv : Tk n H v d) : Ev (tCB (rIsi K) (tCons ta (tCons (tC (.ty "str")) tNil))) σ H (.bl (isSt d)) := ev_isOne (f := isSt) h hv rfl (fun _ => rfl) (fun _ => rfl) (fun _ => rfl) (fun _ => rfl) (fun _ => rfl)
theorem ev_isSeq (h : Ev ta σ H v) (hv : Tk n H v d) : Ev (tCB (rIsiT K) (tCons ta (tCons (tTup (tCons (tC (.ty "list")) (tCons (tC (.ty "tuple")) tNil))) tNil))) σ H (.bl (isSeq d)) := fun H1 e Q q => h H1 e _ fun H2 e2 =>
  (eu_tup (ea_cons (x := .ty "list") ev_c (ea_cons (x := .ty "tuple") ev_c ea_nil)) (Nat.le_of_ble_eq_true rfl)) H2 (Ex.refl _) _ fun p H3 _ e3 h3 => by
    obtain ⟨t, ty, k⟩ := tk_kind (K := K) (f := isSeq) (g := fun t => PySem.W.kitAny K t [.type "list", .type "tuple"]) (hv.ex (e.trans (e2.trans e3))) rfl (fun _ => rfl) (fun _ => rfl) (fun _ => rfl) (fun _ => rfl) (fun _ => rfl)
    exact ⟨v, p, _, t, [.type "list", .type "tuple"], _, rfl, h3, .cons (.ty _) (.cons (.ty _) .nil), ty, k, q H3 (e2.trans e3)⟩
theorem tk_flat (h : Tk n H v d) (hs : isSeq d = false) : Flat v d := by
  match n, h with
  | 0, h => exact h
  | _ + 1, .inl h => exact h
  | _ + 1, .inr (.inl ⟨_, _, _, _, h2, _⟩) =>
    subst h2
    cases hs
  | _ + 1, .inr (.inr ⟨_, _, _, _, h2, _⟩) =>
    subst h2
    cases hs
theorem tk_seq (h : Tk n H v d) (hs : isSeq d = true) : ∃ m, n = m + 1 ∧ ((∃ a xs ds, v = .ref a ∧ d = .list ds ∧ H a = some (.lst xs) ∧ xs.length ≤ 40000 ∧ Paired (Tk m H) xs ds) ∨ (∃ a xs ds, v = .ref a ∧ d = .tuple ds ∧ H a = some (.tup xs) ∧ xs.length ≤ 40000 ∧ Paired (Tk m H) xs ds)) := by
  have no : Flat v d → False := fun f => by cases f <;> cases hs
  match n, h with
  | 0, h => exact (no h).elim
  | _ + 1, .inl h => exact (no h).elim
  | m + 1, .inr h => exact ⟨m, rfl, h⟩
theorem rv_ixQL {a : Addr} {xs : List V} {i : Int} {x : V} (s : SqL K H a xs) (h : atI xs i = some x) : RV (rIx K) (.ref a) (.int i) H x := fun H1 e Q q => .inl (rv_ixL s h H1 e Q q)
theorem rv_ixQT {a : Addr} {xs : List V} {i : Int} {x : V} (s : SqT K H a xs) (h : atI xs i = some x) : RV (rIx K) (.ref a) (.int i) H x := fun H1 e Q q => .inr (.inl (rv_ixT s h H1 e Q q))
/-! ### expressions that give such data -/
def EvK (n : Nat) (te : TE) (σ : L2.St) (H : Hp) (d : PyData) : Prop := ∀ H1, Ex H H1 → ∀ Q : VK, (∀ v H2, Ex H1 H2 → Tk n H2 v d → Q v H2) → te σ H1 Q
def EvKA (n : Nat) (ta : TA) (σ : L2.St) (H : Hp) (ds : List PyData) : Prop := ∀ H1, Ex H H1 → ∀ Q : List V → Hp → Prop, (∀ vs H2, Ex H1 H2 → Paired (Tk n H2) vs ds → Q vs H2) → ta σ H1 Q
variable {t tr : TA} {ds : List PyData}
theorem ek_of (h : Ev te σ H v) (k : Tk n H v d) : EvK n te σ H d := fun H1 e Q q => h H1 e Q fun H2 e2 => q v H2 e2 (k.ex (e.trans e2))
theorem ek_int {i : Int} (h : Ev te σ H (.int i)) : EvK n te σ H (.int i) := ek_of h (tk_int i)
theorem ek_bl {b : Bool} (h : Ev te σ H (.bl b)) : EvK n te σ H (.bool b) := ek_of h (.flat (.bl b))
theorem ek_non (h : Ev te σ H .non) : EvK n te σ H .none := ek_of h (.flat .non)
theorem ek_str {x : Str} (h : Ev te σ H (.str x)) (ok : PyData.strOk x = true) : EvK n te σ H (.str x) := ek_of h (.flat (.str x ok))
theorem ek_mono {m : Nat} (h : EvK n te σ H d) (e : n ≤ m) : EvK m te σ H d := fun H1 a Q q => h H1 a Q fun v H2 e2 k => q v H2 e2 (k.mono e)
theorem ek_is {e : PyData} (h : EvK n te σ H d) (q : d = e) : EvK n te σ H e := q ▸ h
theorem paired_len {A : V → PyData → Prop} {xs : List V} (h : Paired A xs ds) : xs.length = ds.length := Paired.length h
theorem eka_nil : EvKA n tNil σ H [] := fun H1 _ _ q => q [] H1 (Ex.refl H1) .nil
theorem eka_cons (h : EvK n te σ H d) (hr : EvKA n tr σ H ds) : EvKA n (tCons te tr) σ H (d :: ds) := fun H1 e _ q =>
  h H1 e _ fun v H2 e2 dv => hr H2 (e.trans e2) _ fun vs H3 e3 dvs => q (v :: vs) H3 (e2.trans e3) (.cons (dv.ex e3) dvs)
theorem ek_lst (h : EvKA n t σ H ds) (hl : ds.length ≤ 40000) : EvK (n + 1) (tLst t) σ H (.list ds) := fun H1 e Q q =>
  h H1 e _ fun vs H2 e2 dv => ⟨sz_of (by rw [paired_len dv]; omega), fun p hp => q _ _ (e2.trans (Ex.new hp)) (tk_lst upd_same (tk_imp (fun _ _ => Tk.ex (Ex.new hp)) dv) hl)⟩
theorem ek_tup (h : EvKA n t σ H ds) (hl : ds.length ≤ 40000) : EvK (n + 1) (tTup t) σ H (.tuple ds) := fun H1 e Q q =>
  h H1 e _ fun vs H2 e2 dv => ⟨sz_of (by rw [paired_len dv]; omega), fun p hp => q _ _ (e2.trans (Ex.new hp)) (tk_tup upd_same (tk_imp (fun _ _ => Tk.ex (Ex.new hp)) dv) hl)⟩
theorem ek_L {xs : List V} (h : EvL te σ H xs) (k : Paired (Tk n H) xs ds) (hz : ds.length ≤ 40000) : EvK (n + 1) te σ H (.list ds) := fun H1 e Q q => h H1 e Q fun p H2 _ e2 h2 => q _ H2 e2 (tk_lst h2 (tk_imp (fun _ _ => Tk.ex (e.trans e2)) k) hz)
theorem ek_U {xs : List V} (h : EvU te σ H xs) (k : Paired (Tk n H) xs ds) (hz : ds.length ≤ 40000) : EvK (n + 1) te σ H (.tuple ds) := fun H1 e Q q => h H1 e Q fun p H2 _ e2 h2 => q _ H2 e2 (tk_tup h2 (tk_imp (fun _ _ => Tk.ex (e.trans e2)) k) hz)
theorem ek_LI {ns : List Int} (h : EvL te σ H (ns.map V.int)) (hz : ns.length ≤ 40000) : EvK (n + 1) te σ H (.list (ns.map PyData.int)) := ek_L h (tk_ints ns) (by simpa using hz)
theorem ek_UI {ns : List Int} (h : EvU te σ H (ns.map V.int)) (hz : ns.length ≤ 40000) : EvK (n + 1) te σ H (.tuple (ns.map PyData.int)) := ek_U h (tk_ints ns) (by simpa using hz)
theorem s_asgK {D : Ends} {i : Nat} (h : EvK n te σ H d) (k : ∀ v H1, Ex H H1 → Tk n H1 v d → D.nx (σ.set i (some v)) H1) : tAsg te (gName i) D σ H := h H (Ex.refl H) _ k
theorem q_asgK {D : Ends} {tz : TS} {i : Nat} (h : EvK n te σ H d) (k : ∀ v H1, Ex H H1 → Tk n H1 v d → tz D (σ.set i (some v)) H1) : tSeq (tAsg te (gName i)) tz D σ H := h H (Ex.refl H) _ k
end
end Kit

set_option Elab.async false
set_option linter.all false
set_option maxRecDepth 100000
set_option maxHeartbeats 4000000
namespace Kit
open PySem PySem.Spec PyProof.Rows L2 Evl
/-! ### laid data and dicts of texts: their types, repr -/
mutual
theorem tk_dp {K : PySem.W.Frag} : ∀ {n : Nat} {H : Hp} {v : V} {d : PyData}, Tk n H v d → Dp K H v d
  | 0, _, _, _, h => flat_dp h
  | _ + 1, _, _, _, .inl h => flat_dp h
  | n + 1, _, _, _, .inr (.inl ⟨a, xs, ds, h1, h2, h3, _, h4⟩) => by
    subst h1
    subst h2
    exact .lst (sq_of h3) (tks_dp (n := n) h4)
  | n + 1, _, _, _, .inr (.inr ⟨a, xs, ds, h1, h2, h3, _, h4⟩) => by
    subst h1
    subst h2
    exact .tup (st_of h3) (tks_dp (n := n) h4)
theorem tks_dp {K : PySem.W.Frag} : ∀ {n : Nat} {H : Hp} {xs : List V} {ds : List PyData}, Paired (Tk n H) xs ds → DpAll K H xs ds
  | _, _, _, _, .nil => .nil
  | _, _, _, _, .cons h t => .cons (tk_dp h) (tks_dp t)
end
def Tg3 (H : Hp) (v : V) (d : PyData) : Prop := Tk 4 H v d ∨ ∃ (a : Addr) (kvs : List (Str × Int)), v = .ref a ∧ d = .dict (pairsS kvs) ∧ H a = some (.dK (encS kvs))
theorem Tg3.ex {H H' : Hp} {v : V} {d : PyData} (e : Ex H H') : Tg3 H v d → Tg3 H' v d
  | .inl h => .inl (h.ex e)
  | .inr ⟨a, kvs, h1, h2, h3⟩ => .inr ⟨a, kvs, h1, h2, e a _ h3⟩
theorem Tg3.dq {K : PySem.W.Frag} {H : Hp} {v : V} {d : PyData} : Tg3 H v d → Dq K H v d
  | .inl h => .old (tk_dp h) (dp_noD (K := K) (tk_dp h))
  | .inr ⟨a, kvs, h1, h2, h3⟩ => by
    subst h1
    subst h2
    exact .dct h3
theorem tg3_of {n : Nat} {H : Hp} {v : V} {d : PyData} (h : Tk n H v d) (hn : n ≤ 4) : Tg3 H v d := .inl (h.mono hn)
theorem tk_type {n : Nat} {H : Hp} {v : V} {d : PyData} (h : Tk n H v d) : ∃ nm, zTyV v H = some nm ∧ Meta nm ∧ decide (nm = "int") = isI d ∧ (nm = "list" ↔ (lsO d).isSome = true) := by
  have fl : Flat v d → ∃ nm, zTyV v H = some nm ∧ Meta nm ∧ decide (nm = "int") = isI d ∧ (nm = "list" ↔ (lsO d).isSome = true) := fun h => by
    cases h with
    | non => exact ⟨"NoneType", rfl, PySem.TypeEq.meta_NoneType, by simp [isI], by simp [lsO]⟩
    | bl b => exact ⟨"bool", rfl, PySem.TypeEq.meta_bool, by simp [isI], by simp [lsO]⟩
    | int i => exact ⟨"int", rfl, PySem.TypeEq.meta_int, by simp [isI], by simp [lsO]⟩
    | str x _ => exact ⟨"str", rfl, PySem.TypeEq.meta_str, by simp [isI], by simp [lsO]⟩
  cases n with
  | zero => exact fl h
  | succ n =>
    rcases h with h | ⟨a, xs, ds, rfl, rfl, h3, _, _⟩ | ⟨a, xs, ds, rfl, rfl, h3, _, _⟩
    · exact fl h
    · exact ⟨"list", by simp [zTyV, h3], PySem.TypeEq.meta_list, by simp [isI], by simp [lsO]⟩
    · exact ⟨"tuple", by simp [zTyV, h3], PySem.TypeEq.meta_tuple, by simp [isI], by simp [lsO]⟩
theorem tg3_lst {H : Hp} {v : V} {d : PyData} {ds : List PyData} (h : Tg3 H v d) (hl : lsO d = some ds) : ∃ (a : Addr) (xs : List V), v = .ref a ∧ d = .list ds ∧ H a = some (.lst xs) ∧ Paired (Tk 3 H) xs ds := by
  rcases h with h | ⟨a, kvs, rfl, rfl, h3⟩
  · rcases h with h | ⟨a, xs, ds', rfl, rfl, h3, _, h4⟩ | ⟨a, xs, ds', rfl, rfl, h3, _, h4⟩
    · cases h <;> cases hl
    · have : ds' = ds := Option.some.inj hl
      subst this
      exact ⟨a, xs, rfl, rfl, h3, h4⟩
    · cases hl
  · cases hl
def numOf : PyData → Int
  | .int i => i
  | _ => 0
theorem tks_ints {n : Nat} {H : Hp} : ∀ {xs : List V} {ds : List PyData}, Paired (Tk n H) xs ds → ds.all isI = true → xs = (ds.map numOf).map V.int
  | _, _, .nil, _ => rfl
  | _, _, .cons (a := x) (b := d) h t, ha => by
    rw [List.all_cons, Bool.and_eq_true] at ha
    have ih := tks_ints t ha.2
    have fl : Flat x d → x = V.int (numOf d) := fun h => by
      cases h with
      | int i => rfl
      | non => exact Bool.noConfusion ha.1
      | bl b => exact Bool.noConfusion ha.1
      | str s _ => exact Bool.noConfusion ha.1
    have hx : x = V.int (numOf d) := by
      cases n with
      | zero => exact fl h
      | succ n =>
        rcases h with h | ⟨a, ys, es, rfl, rfl, h3, _, _⟩ | ⟨a, ys, es, rfl, rfl, h3, _, _⟩
        · exact fl h
        · exact Bool.noConfusion ha.1
        · exact Bool.noConfusion ha.1
    rw [List.map_cons, List.map_cons, ← ih, ← hx]
section
variable {K : PySem.W.Frag} {σ : L2.St} {H : Hp} {ta tb : TE}
/-- type(v) != list -/
theorem ev_noList3 {v : V} {d : PyData} (h : Ev ta σ H v) (hv : Tg3 H v d) : Ev (tOp rNeTyG (tThenZ ta kTyp2) (tC (.ty "list"))) σ H (.bl (!(lsO d).isSome)) := fun H1 e Q q => h H1 e _ fun H2 e2 => by
  rcases hv.ex (e.trans e2) with hk | ⟨a, kvs, rfl, rfl, h3⟩
  · obtain ⟨n, hn, mt, _, iff⟩ := tk_type hk
    refine ⟨n, .inl hn, n, "list", rfl, rfl, mt, PySem.TypeEq.meta_list, ?_⟩
    have : decide (n = "list") = (lsO d).isSome := by
      rw [Bool.eq_iff_iff, decide_eq_true_iff]
      exact iff
    rw [this]
    exact q H2 e2
  · refine ⟨"dict", .inr ⟨rfl, a, _, rfl, h3⟩, "dict", "list", rfl, rfl, PySem.TypeEq.meta_dict, PySem.TypeEq.meta_list, ?_⟩
    exact q H2 e2
/-- type(v) == int -/
theorem ev_isWhole3 {n : Nat} {v : V} {d : PyData} (h : Ev ta σ H v) (hv : Tk n H v d) : Ev (tOp rEqTy (tThenZ ta kTyp) (tC (.ty "int"))) σ H (.bl (isI d)) := fun H1 e Q q => h H1 e _ fun H2 e2 => by
  obtain ⟨n, hn, mt, iff, _⟩ := tk_type (hv.ex (e.trans e2))
  refine ⟨n, hn, n, "int", rfl, rfl, mt, PySem.TypeEq.meta_int, ?_⟩
  rw [iff]
  exact q H2 e2
end
end Kit

set_option Elab.async false
set_option linter.all false
set_option maxRecDepth 100000
set_option maxHeartbeats 4000000
namespace Kit
open PySem PySem.Spec PyProof.Rows L2 Evl
/-! ### walks within the suite of a caught exception: lists, tuples taken apart, comprehensions -/
section
variable {prog : Program} {w : World} {A : Around} {E : Value → Shared → Prop} {s : Shared}
theorem listEndH {it l x1 : Addr} {i : Nat} {items : Array Value} {Q : Option Value → Shared → Prop} (hot : HotX.HotAt A x1 s.heap) (far : x1 ≠ it) (hit : s.heap.IsListIter it l i) (hl : s.heap.IsList l items) (hx : items[i]? = none)
    (hQ : ∀ h', Heap.ExtBut it s.heap h' → Q none { s with heap := h' }) : wpAny (model prog w) A (pyNext (.ref it)) Q E s := by
  obtain ⟨o, ho, hc, hd⟩ := id hit
  obtain ⟨ol, hol, _, nl, hdl⟩ := hl
  obtain ⟨hh, o1, vs1, h1, d1, c1⟩ := hot
  unfold pyNext
  refine wpAny_bind (wpAny_attempt (wpAny_callSpecial?_slot (name := Str.ofString "__next__") hit.typeIs slot_listiter_next
    (wpAny_call_entry slot_listiter_next hit.typeIs entry_listiter_next ?_ (args_listiter_next _))))
  show wpAny _ _ (field (.ref it) 0 >>= _) _ _ s
  refine wpAny_bind (wpAny_field ho hd (x := .ref l) rfl ?_)
  show wpAny _ _ (if (Value.ref l == Value.none) = true then _ else _) _ _ s
  rw [if_neg (show ¬ ((Value.ref l == Value.none) = true) from Bool.false_ne_true)]
  show wpAny _ _ (field (.ref it) 1 >>= _) _ _ s
  refine wpAny_bind (wpAny_field ho hd (x := .int i 0) rfl ?_)
  show wpAny _ _ (seqItems? (.ref l) >>= _) _ _ s
  refine wpAny_bind (wpAny_seqItems hol hdl ?_)
  simp only [Int.toNat_natCast, hx]
  refine wpAny_bind (wpAny_rule (wpAny_bind (wpAny_setField ho hd (by simp) ?_)))
  have g1 := (Heap.SameBut.update (h := s.heap) (a := it) (Obj.mapFields (·.setIfInBounds 0 Value.none))).extBut x1 o1 far h1
  show wpAny _ _ (newExc (.type "StopIteration") [] >>= _) _ _ _
  refine wpAny_bind ?_
  simp only [newExc, newTuple]
  refine wpAny_bind (wpAny_newObj_type ?_ (by size_fits))
  refine wpAny_bind (m := firstArgMember _ _) (wpAny_of_eq (a := Value.none) (by first | rfl | (simp only [firstArgMember]; rfl)) ?_)
  refine wpAny_newObj_type ?_ (by size_fits)
  refine HotX.raiseNew_hot (x1 := x1) ⟨hh, o1, vs1, Heap.get?_push_of_some _ (Heap.get?_push_of_some _ g1), d1, c1⟩ (Nat.ne_of_lt (Heap.lt_size (Heap.get?_push_of_some _ g1))) (Heap.get?_push_size _ rfl) rfl (by first | (simp; done) | (simp; omega) | (simp only [Array.size_append]; simp; omega)) ?_
  refine wpAny_bind (wpAny_isInstance (T := "StopIteration") (b := true) ⟨_, Heap.get?_update_self _ (Heap.get?_push_size _ rfl) rfl, rfl⟩ isSubtype_stop ?_)
  refine wpAny_pure (hQ _ fun b o nb e => ?_)
  have e2 := (Heap.SameBut.update (h := s.heap) (a := it) (Obj.mapFields (·.setIfInBounds 0 Value.none))).extBut b o nb e
  rw [Heap.get?_update_other _ _ (Nat.ne_of_gt (Heap.lt_size (Heap.get?_push_of_some _ e2)))]
  exact Heap.get?_push_of_some _ (Heap.get?_push_of_some _ e2)
theorem tupEndH {it l x1 : Addr} {i : Nat} {items : Array Value} {Q : Option Value → Shared → Prop} (hot : HotX.HotAt A x1 s.heap) (far : x1 ≠ it) (hit : IsTupIter s.heap it l i) (hl : IsTup s.heap l items) (hx : items[i]? = none)
    (hQ : ∀ h', Heap.ExtBut it s.heap h' → Q none { s with heap := h' }) : wpAny (model prog w) A (pyNext (.ref it)) Q E s := by
  obtain ⟨o, ho, hc, hd⟩ := id hit
  obtain ⟨ol, hol, _, nl, hdl⟩ := hl
  obtain ⟨hh, o1, vs1, h1, d1, c1⟩ := hot
  unfold pyNext
  refine wpAny_bind (wpAny_attempt (wpAny_callSpecial?_slot (name := Str.ofString "__next__") hit.typeIs slot_tupleiter_next
    (wpAny_call_entry slot_tupleiter_next hit.typeIs entry_tupleiter_next ?_ (args_tupleiter_next _))))
  show wpAny _ _ (field (.ref it) 0 >>= _) _ _ s
  refine wpAny_bind (wpAny_field ho hd (x := .ref l) rfl ?_)
  show wpAny _ _ (if (Value.ref l == Value.none) = true then _ else _) _ _ s
  rw [if_neg (show ¬ ((Value.ref l == Value.none) = true) from Bool.false_ne_true)]
  show wpAny _ _ (field (.ref it) 1 >>= _) _ _ s
  refine wpAny_bind (wpAny_field ho hd (x := .int i 0) rfl ?_)
  show wpAny _ _ (seqItems? (.ref l) >>= _) _ _ s
  refine wpAny_bind (wpAny_seqItems hol hdl ?_)
  simp only [Int.toNat_natCast, hx]
  refine wpAny_bind (wpAny_rule (wpAny_bind (wpAny_setField ho hd (by simp) ?_)))
  have g1 := (Heap.SameBut.update (h := s.heap) (a := it) (Obj.mapFields (·.setIfInBounds 0 Value.none))).extBut x1 o1 far h1
  show wpAny _ _ (newExc (.type "StopIteration") [] >>= _) _ _ _
  refine wpAny_bind ?_
  simp only [newExc, newTuple]
  refine wpAny_bind (wpAny_newObj_type ?_ (by size_fits))
  refine wpAny_bind (m := firstArgMember _ _) (wpAny_of_eq (a := Value.none) (by first | rfl | (simp only [firstArgMember]; rfl)) ?_)
  refine wpAny_newObj_type ?_ (by size_fits)
  refine HotX.raiseNew_hot (x1 := x1) ⟨hh, o1, vs1, Heap.get?_push_of_some _ (Heap.get?_push_of_some _ g1), d1, c1⟩ (Nat.ne_of_lt (Heap.lt_size (Heap.get?_push_of_some _ g1))) (Heap.get?_push_size _ rfl) rfl (by first | (simp; done) | (simp; omega) | (simp only [Array.size_append]; simp; omega)) ?_
  refine wpAny_bind (wpAny_isInstance (T := "StopIteration") (b := true) ⟨_, Heap.get?_update_self _ (Heap.get?_push_size _ rfl) rfl, rfl⟩ isSubtype_stop ?_)
  refine wpAny_pure (hQ _ fun b o nb e => ?_)
  have e2 := (Heap.SameBut.update (h := s.heap) (a := it) (Obj.mapFields (·.setIfInBounds 0 Value.none))).extBut b o nb e
  rw [Heap.get?_update_other _ _ (Nat.ne_of_gt (Heap.lt_size (Heap.get?_push_of_some _ e2)))]
  exact Heap.get?_push_of_some _ (Heap.get?_push_of_some _ e2)
end
end Kit

set_option Elab.async false
set_option linter.all false
set_option maxRecDepth 100000
set_option maxHeartbeats 4000000
namespace Kit
open PySem PySem.Spec PyProof.Rows L2 Evl
/-! The forms of HandS.Comp (pe_lc, ps_setLc), HandS.Base (turn_list, pi_list, pg_tup) and Rows.TupIter (unpackItems_tuple, ..) within the suite of a caught exception: their proofs, followed with the ends of the walks taken from KitH0. -/
section
variable {prog : Program} {w : World} {A : Around} {E : Value → Shared → Prop} {s : Shared}
theorem unpackItemsH {t x1 : Addr} {items : Array Value} {Q : List Value → Shared → Prop} (hot : HotX.HotAt A x1 s.heap) (ht : IsTup s.heap t items)
    (hQ : ∀ h', Heap.ExtBut s.heap.objs.size s.heap h' → Q items.toList { s with heap := h' }) : wpAny (model prog w) A (unpackItems (.ref t) items.size none) Q E s := by
  have hlt : t ≠ s.heap.objs.size := by obtain ⟨o, ho, _⟩ := ht; exact Nat.ne_of_lt (Heap.lt_size ho)
  obtain ⟨hh, o1, vs1, g1, d1, c1⟩ := hot
  have far : x1 ≠ s.heap.objs.size := Nat.ne_of_lt (Heap.lt_size g1)
  unfold unpackItems
  refine wpAny_bind ?_
  unfold notIterableAtAll
  refine wpAny_bind (wpAny_specialOf ht.typeIs slot_tuple_iter.lookup ?_)
  refine wpAny_pure ?_
  simp only [Bool.false_eq_true, if_false]
  refine wpAny_bind (wpAny_holding (iter_tuple ht ?_))
  refine wpAny_bind (wpAny_holding (draw_tuple hlt items.size 0 _ _ ⟨_, Heap.get?_push_size _ rfl, rfl, rfl⟩ (ht.push _) (by omega) fun h₁ hit₁ hs₁ => ?_))
  have hall : List.take items.size (List.drop 0 items.toList) = items.toList := by
    rw [List.drop_zero]; exact List.take_of_length_le (by simp)
  rw [hall, if_neg (by simp)]
  have ht₁ : IsTup h₁ t items := (ht.push _).extBut hs₁.extBut hlt
  refine wpAny_bind (wpAny_holding (tupEndH (x1 := x1) ⟨hh, o1, vs1, hs₁.extBut x1 o1 far (Heap.get?_push_of_some _ g1), d1, c1⟩ far hit₁ ht₁ (by simp) fun h₂ he₂ => ?_))
  simp only [Option.isSome_none, Bool.false_eq_true, if_false]
  exact wpAny_pure (hQ h₂ fun b o hb e => he₂ b o hb (hs₁.extBut b o hb (Heap.get?_push_of_some _ e)))
theorem unpackH {t x1 : Addr} {items : Array Value} {targets : List (Bool × (Value → Sem Unit))} {Q : Unit → Shared → Prop} (hot : HotX.HotAt A x1 s.heap) (ht : IsTup s.heap t items)
    (hn : targets.length = items.size) (hstar : targets.findIdx? (·.1) = none)
    (h : ∀ h', Heap.ExtBut s.heap.objs.size s.heap h' → wpAny (model prog w) A (assignInOrder (targets.map (·.2)) items.toList) Q E { s with heap := h' }) :
    wpAny (model prog w) A (unpack (.ref t) targets) Q E s := by
  unfold unpack
  rw [hn, hstar]
  exact wpAny_bind (wpAny_holding (unpackItemsH hot ht h))
theorem assignTupH {env : Env} {elts : List Expr} {k} {pos : Pos} {t x1 : Addr} {items : Array Value} {Q : Unit → Shared → Prop} (hot : HotX.HotAt A x1 s.heap) (ht : IsTup s.heap t items)
    (hn : (assignEach elts env).length = items.size) (hstar : (assignEach elts env).findIdx? (·.1) = none)
    (h : ∀ h', Heap.ExtBut s.heap.objs.size s.heap h' → wpAny (model prog w) A (assignInOrder ((assignEach elts env).map (·.2)) items.toList) Q E { s with heap := h' }) :
    wpAny (model prog w) A (assign (.Tuple elts k pos) env (.ref t)) Q E s := by
  rw [assign_Tuple]
  exact wpAny_bind (wpAny_standAt (unpackH hot ht hn hstar h))
end
section
variable {X : Cx}
theorem hotC_of {p0 : Addr × Obj} (h : L2H.Hot1 X.A p0) (hp : p0 ∈ X.pn) : L2H.HotC X := ⟨p0, h, hp⟩
theorem pg_tupH {pos : Pos} {es : List Expr} {k : Nat} {t : TGs} {n : Nat} (hc : L2H.HotC X) (h : PGs X es t)
    (hn : (assignEach es X.env).length = n := by rfl) (hst : (assignEach es X.env).findIdx? (·.1) = none := by rfl) : PG X (.Tuple es k pos) (gTup X.K n t) := by
  refine ⟨fun pins s σ H v u Q I r hw => ?_⟩
  obtain ⟨a, xs, e1, hq, hl, hw⟩ := hw
  subst e1
  cases r
  obtain ⟨its, rv, ht, hz⟩ := I.tuple hq
  obtain ⟨x1, hot⟩ := hc.at I
  refine assignTupH hot ht (by simp [hn, ← hl, rv.length]) hst fun h' hx => ?_
  have I1 : Inv X pins σ H { s with heap := h' } := I.kept (t' := s.toks) fun b o e => hx b o (Nat.ne_of_lt (Heap.lt_size e)) e
  exact h.run pins _ σ H xs _ Q I1 (by simpa using rv) hw
theorem turn_listH {P : Program} {w : World} {K : PySem.W.Frag} {tg : Expr} (a it : Addr) : L2H.TurnH P w K tg (Itl K a) [it] it (fun i h => h.IsListIter it a i) where
  mem := by simp
  obj := fun i h st b hb => by
    have e : b = it := by simpa using hb
    subst e
    obtain ⟨o, e, c, d⟩ := st
    exact ⟨o, e, fun v z => by rw [d] at z; cases z⟩
  keep := fun i h h' st k => st.at fun o e => k it (by simp) o e
  item := by
    intro X hP hw hK hc i pins s σ H E I hf st hg
    subst hP hw hK
    obtain ⟨xs, x, hq, hx⟩ := hg
    obtain ⟨its, rv, p, hz⟩ := I.list hq
    obtain ⟨u, hu, ru⟩ := rv.get hx
    obtain ⟨f0, f1, f2, f3, f4, f5⟩ := hf it (by simp)
    refine wpAny_pyNext_list_item st p.isList (x := u) (by simpa using hu) fun h' st' sb => ?_
    have I1 : Inv X pins σ H { s with heap := h' } := I.turned (t' := s.toks) (fun b o hb e => (sb.2 b hb).trans e) f0 f1 f3 f4 f5
    obtain ⟨o, e, c, d⟩ := id st'
    exact ⟨u, rfl, go_of (s := { s with heap := h' }) e c d (by decide) ⟨x, H, I1, ru, ⟨rfl, fun ys hy => by rw [I.list_inj hy hq]; exact hx⟩, st', fun b hb => (hf b hb).1⟩⟩
  done := by
    intro X hP hw hK hc i pins s σ H E I hf st hg
    subst hP hw hK
    obtain ⟨xs, hq, hx⟩ := hg
    obtain ⟨its, rv, p, hz⟩ := I.list hq
    obtain ⟨f0, f1, f2, f3, f4, f5⟩ := hf it (by simp)
    have hl := rv.length
    obtain ⟨p1, ⟨hh, v1, e1, c1⟩, hp⟩ := hc
    have hp' : p1 ∈ X.pn ++ pins := List.mem_append_left _ hp
    exact listEndH (x1 := p1.1) ⟨hh, p1.2, v1, (I.pin p1 hp').1, e1, c1⟩ (f5 p1 hp') st p.isList (by simp; omega) fun h' eb => ⟨rfl, I.turned (t' := s.toks) (fun b o hb e => eb b o hb e) f0 f1 f3 f4 f5⟩
  self := fun _ _ _ _ _ st h => wpAny_pyIter_listiter st h
theorem pi_listH {tg l : Expr} {tl : TE} (hl : PE X l tl) : L2H.PIH X tg l (iList X.K tl) := by
  refine ⟨fun pins s σ H R I h => ?_⟩
  refine thn (hl.run pins s σ H _ I h) fun v s1 ⟨x, H1, I1, r1, q1⟩ => ?_
  obtain ⟨a, e, ⟨xs, hq⟩, q⟩ := q1
  subst e
  cases r1
  obtain ⟨its, rv, p, hz⟩ := I1.list hq
  refine wpAny_pyIter_list p.isList ?_
  refine ⟨s1.heap.objs.size, [s1.heap.objs.size], _, _, H1, rfl, I1.kept (t' := s1.toks) fun b o e => Heap.get?_push_of_some _ e, turn_listH a _, ⟨_, Heap.get?_push_size _ rfl, rfl, rfl⟩, fun b hb => ?_, q⟩
  have e : b = s1.heap.objs.size := by simpa using hb
  subst e
  exact I1.fpOk (Nat.le_refl _) (I1.hok.fresh (Nat.le_refl _))
/-- the block's context, the caught exception pinned in it -/
abbrev blkH (X : Cx) (s : Shared) (H : Hp) (scope : Scope) (cenv : Env) (fp : List Addr) (p0 : Addr × Obj) : Cx := { X.blk s H scope cenv fp with pn := [p0] }
theorem blkH_start {pins : List (Addr × Obj)} {σ : L2.St} {H : Hp} {s : Shared} {scope : Scope} {own : List (Str × Nat)} {fp : List Addr} {p0 : Addr × Obj} (I : Inv X pins σ H s) (ok : BlkOk X.N X.env.scope scope own) (hN : X.N.Nodup) (hfp : ∀ b ∈ fp, FpOk X pins H b ∧ b < s.heap.objs.size) (hp0 : p0 ∈ X.pn) :
    Inv (blkH X s H scope (compEnvC scope (cellsFrom (s.heap.objs.size + 1) scope.names (cloFrom X.env.cells scope.names [])) s.heap.objs.size X.env) fp p0) [] (wipe σ (own.map (·.2))) H { s with heap := pushCells (s.heap.push { cls := .type "dict", data := .dict #[] }) scope.names } := by
  obtain ⟨o, a, b, c, d, e, f, g, h, i, j⟩ := block_start I ok hN hfp
  obtain ⟨q1, q2, q3, q4, q5⟩ := I.pin p0 (List.mem_append_left _ hp0)
  refine ⟨⟨o.mod, o.kind, o.glob, o.blt, o.above, o.inj, o.has, o.cab, o.hd, o.frames, o.stk, o.exf, o.bs, o.bsz, o.noex, o.exfs, o.funs, o.frf⟩, a, b, c, d, e, f, g, fun p hp => ?_, i, j⟩
  have hq : p = p0 := by simpa using (show p ∈ [p0] ++ [] from hp)
  subst hq
  refine ⟨pushCells_keeps _ _ _ _ (Heap.get?_push_of_some _ q1), q2, Nat.ne_of_lt (Heap.lt_size q1), fun z => ?_, q5⟩
  rcases List.mem_cons.mp (I.stkSub _ z) with z | z
  · exact q3 z
  · exact q4 z
theorem lcH_core {pins : List (Addr × Obj)} {s : Shared} {σ : L2.St} {H : Hp} {Q : VK} {elt tg iter : Expr} {ifs : List Expr} {scope : Scope} {own : List (Str × Nat)} {pos pos' : Pos} {wi : TI} {g : TG} {tt : TT} {te : TE} {use : Option (Value → Sem Unit)} {Qf : Value → Shared → Prop}
    {p0 : Addr × Obj} (hot0 : L2H.Hot1 X.A p0) (hp0 : p0 ∈ X.pn) (hN : X.N.Nodup) (I : Inv X pins σ H s) (hi : L2H.PIH X tg iter wi) (ok : BlkOk X.N X.env.scope scope own)
    (hg : ∀ (s : Shared) (H : Hp) (C : Addr) (cl : List (Str × Addr)) (fp : List Addr), PG (blkH X s H scope (compEnvC scope cl C X.env) fp p0) tg g) (ht : ∀ (s : Shared) (H : Hp) (C : Addr) (cl : List (Str × Addr)) (fp : List Addr), PTs (blkH X s H scope (compEnvC scope cl C X.env) fp p0) ifs tt)
    (he : ∀ (s : Shared) (H : Hp) (C : Addr) (cl : List (Str × Addr)) (fp : List Addr), PE (blkH X s H scope (compEnvC scope cl C X.env) fp p0) elt te) (hs : ∀ x, foldedSetIterable iter X.env x = pure x)
    (h : tLc wi g tt te (own.map (·.2)) σ H Q)
    (hRR : ∀ D C s' m H', Inv X pins σ H' s' → Q (.ref D) H' → s'.heap.Ns C m → FpOk X pins H' C → compPost (model X.prog X.w) X.A X.xe use Qf (.ref D) C (.ok .next) s') :
    wpAny (model X.prog X.w) X.A (comprehension (.ListComp elt [⟨tg, iter, ifs, 0⟩] scope pos) scope X.env pos' (newList []) false (eval iter X.env) use) Qf X.xe s := by
  have hfree : ∀ y ∈ scope.names, y.2 = .free → ∃ c, X.env.cells.lookup y.1 = some c := fun y hy e => by
    rcases ok.free y hy e with k | k
    · exact I.ok.has _ (.inl k)
    · exact I.ok.has _ (.inr k)
  refine wpAny_comprehension_free (use := use) rfl hs (closure_ok hfree) ok.kind (fun y hy e => by rw [ok.uniq y hy, e])
    (thn (hi.run pins s σ H _ I h) fun xv s1 hx => thn hx fun itv s2 h2 => ?_)
  obtain ⟨it, fp, tn, J, H2, e, I2, T, st2, f2, q⟩ := h2
  subst e
  refine wpAny_newObj_type (newEnv_comp ?_) (by show 0 ≤ sizeLine; decide)
  generalize hD : s2.heap.objs.size = D
  have hDn : H2 D = none := I2.hok.fresh (Nat.le_of_eq hD)
  obtain ⟨W, ⟨m0, w0⟩, turn⟩ := q D hDn
  -- the new list
  generalize hs3 : ({ s2 with heap := s2.heap.push { cls := .type "list", data := .seq ([] : List Value).toArray } } : Shared) = s3
  have I3 : Inv X pins σ (upd H2 D (.lst [])) s3 := by
    rw [← hs3]
    refine I2.laid (t' := s2.toks) (fun b o e => Heap.get?_push_of_some _ e) (Nat.le_of_eq hD) ⟨Nat.zero_le _, [], 0, .nil, ?_⟩
    rw [← hD]
    exact Heap.get?_push_size _ rfl
  have h3 : s3.heap = s2.heap.push { cls := .type "list", data := .seq ([] : List Value).toArray } := by rw [← hs3]
  have sz : ∀ b ∈ fp, b < s2.heap.objs.size := fun b hb => by
    obtain ⟨o, e, _⟩ := T.obj _ _ st2 b hb
    exact Heap.lt_size e
  have f3 : ∀ b ∈ fp, FpOk X pins (upd H2 D (.lst [])) b ∧ b < s3.heap.objs.size := fun b hb => by
    have hlt := sz b hb
    refine ⟨⟨?_, (f2 b hb).2⟩, by rw [h3, Heap.size_push]; exact Nat.lt_succ_of_lt hlt⟩
    rw [upd_ne (by rw [← hD]; exact Nat.ne_of_lt hlt)]
    exact (f2 b hb).1
  have st3 : tn 0 s3.heap := T.keep _ _ _ st2 fun b _ o e => by rw [h3]; exact Heap.get?_push_of_some _ e
  have I4 := blkH_start I3 ok hN f3 hp0
  have pg := hg s3 (upd H2 D (.lst [])) s3.heap.objs.size (cellsFrom (s3.heap.objs.size + 1) scope.names (cloFrom X.env.cells scope.names [])) fp
  have pt := ht s3 (upd H2 D (.lst [])) s3.heap.objs.size (cellsFrom (s3.heap.objs.size + 1) scope.names (cloFrom X.env.cells scope.names [])) fp
  have pe := he s3 (upd H2 D (.lst [])) s3.heap.objs.size (cellsFrom (s3.heap.objs.size + 1) scope.names (cloFrom X.env.cells scope.names [])) fp
  show codeAny _ _ (.compStart (.ListComp elt [⟨tg, iter, ifs, 0⟩] scope pos) 0 (.ref it) (.ref D) (compEnvC scope (cellsFrom (s3.heap.objs.size + 1) scope.names (cloFrom X.env.cells scope.names [])) s3.heap.objs.size X.env)) (compPost (model X.prog X.w) X.A X.xe use Qf (.ref D) s3.heap.objs.size) { s3 with heap := pushCells (s3.heap.push { cls := .type "dict", data := .dict #[] }) scope.names }
  have nfp : ∀ b ∈ fp, (upd H2 D (.lst [])) b = none := fun b hb => (f3 b hb).1.1
  generalize hce : compEnvC scope (cellsFrom (s3.heap.objs.size + 1) scope.names (cloFrom X.env.cells scope.names [])) s3.heap.objs.size X.env = ce at I4 pg pt pe ⊢
  have cL : ce.locals = s3.heap.objs.size := by subst hce; rfl
  generalize hH3 : upd H2 D (.lst []) = H3 at I3 I4 pg pt pe w0 nfp f3
  generalize hs4 : ({ s3 with heap := pushCells (s3.heap.push { cls := .type "dict", data := .dict #[] }) scope.names } : Shared) = s4 at I4 ⊢
  have st4 : tn 0 s4.heap := T.keep _ _ _ st3 fun b _ o e => by rw [← hs4]; exact pushCells_keeps _ _ _ _ (Heap.get?_push_of_some _ e)
  have hotB : L2H.HotC (blkH X s3 H3 scope ce fp p0) := ⟨p0, hot0, List.mem_singleton.mpr rfl⟩
  have stat : ∀ {σ' : L2.St} {H' : Hp} {s' : Shared}, Inv (blkH X s3 H3 scope ce fp p0) [] σ' H' s' → (∀ b ∈ fp, H' b = none) → ∀ b ∈ fp, FpOk (blkH X s3 H3 scope ce fp p0) [] H' b := fun {σ' H' s'} I' hn b hb =>
    ⟨hn b hb, (I'.ok.exf b hb).1, I'.ok.exfs b hb, .inl hb, fun x c e => (I'.ok.exf b hb).2 x c e, fun p hp => by
      have hq : p = p0 := by simpa using (show p ∈ [p0] ++ [] from hp)
      rw [hq]
      exact (f3 b hb).1.2.2.2.2.2 p0 (List.mem_append_left _ hp0)⟩
  have loop : codeAny (model X.prog X.w) X.A (.compLoop (.ListComp elt [⟨tg, iter, ifs, 0⟩] scope pos) 0 (.ref it) (.ref D) ce) (compPost (model X.prog X.w) X.A X.xe use Qf (.ref D) s3.heap.objs.size) s4 := by
    refine compLoop_any (fun n s' => ∃ i H', Inv (blkH X s3 H3 scope ce fp p0) [] (wipe σ (own.map (·.2))) H' s' ∧ tn i s'.heap ∧ (∀ b ∈ fp, H' b = none) ∧ W i n H') ?_ m0 ⟨0, H3, I4, st4, nfp, w0⟩
    rintro n s5 ⟨i, H5, I5, st5, n5, w5⟩
    rcases turn i n H5 w5 with ⟨stop, qq⟩ | ⟨go, Nx, hNx, step⟩
    · have td := T.done (blkH X s3 H3 scope ce fp p0) rfl rfl rfl hotB i [] s5 _ H5 (fun _ _ => False) I5 (stat I5 n5) st5 stop
      refine thnF td fun r s6 ⟨hr, I6⟩ => ?_
      subst hr
      -- back in the def's context
      have I7 : Inv X pins σ H5 s6 := I3.call' (ch := fp) I6.os I6.base I6.hok I6.bare fun b hb => ⟨(f3 b hb).1.2.2.2.1, (f3 b hb).1.2.1, (f3 b hb).1.2.2.2.2.1, (f3 b hb).1.2.2.2.2.2⟩
      have nC : H5 s3.heap.objs.size = none := by
        have z : H5 ce.locals = none := I6.free
        rw [cL] at z
        exact z
      obtain ⟨m, hn, _⟩ := I6.loc
      have hn : s6.heap.Ns ce.locals m := hn
      rw [cL] at hn
      exact hRR D s3.heap.objs.size s6 m H5 I7 qq hn (I3.fpOk (Nat.le_refl _) nC)
    · have ti := T.item (blkH X s3 H3 scope ce fp p0) rfl rfl rfl hotB i [] s5 _ H5 (fun _ _ => False) I5 (stat I5 n5) st5 go
      refine thnF ti fun r s6 ⟨u, hr, h6⟩ => ?_
      subst hr
      refine thnF h6 fun _ s7 ⟨x, H7, I7, r7, y7, st7, n7⟩ => ?_
      have I7' := I7.pinned (stat I7 n7) (T.obj _ _ st7)
      refine thnF (pg.run _ s7 _ H7 x u _ I7' r7 (step x H7 y7)) fun _ s8 ⟨σ8, H8, I8, hw8, q8⟩ => ?_
      refine thnF (pt.run _ s8 σ8 H8 _ I8 q8) fun b s9 ⟨H9, I9, q9⟩ => ?_
      -- the turn's end
      have fin : ∀ {s' : Shared} {H' : Hp}, Inv (blkH X s3 H3 scope ce fp p0) ([] ++ pinsAt fp s7.heap) σ8 H' s' → Nx H' → ∃ m, m < n ∧ ∃ i H', Inv (blkH X s3 H3 scope ce fp p0) [] (wipe σ (own.map (·.2))) H' s' ∧ tn i s'.heap ∧ (∀ b ∈ fp, H' b = none) ∧ W i m H' := fun {s' H'} I' nx => by
        obtain ⟨m', hm, w'⟩ := hNx H' nx
        have pin' : ∀ b ∈ fp, ∀ o, s7.heap.get? b = some o → s'.heap.get? b = some o ∧ H' b = none := fun b hb o e =>
          let z := I'.pin (b, o) (List.mem_append_right _ (List.mem_append_right _ (mem_pinsAt hb e)))
          ⟨z.1, z.2.1⟩
        have hl : (wipe σ (own.map (·.2))).length = σ8.length := by rw [← hw8, wipe_length]
        refine ⟨m', hm, i + 1, H', (I'.unpinned (pins := [])).weak hl (fun j v e => ?_), T.keep _ _ _ st7 fun b hb o e => (pin' b hb o e).1, fun b hb => ?_, w'⟩
        · rw [← hw8] at e
          exact (wipe_some e).1
        · obtain ⟨o, e, _⟩ := T.obj _ _ st7 b hb
          exact (pin' b hb o e).2
      cases b with
      | false =>
        simp only [Bool.false_eq_true, if_false] at q9 ⊢
        exact fin I9 q9
      | true =>
        simp only [if_true] at q9 ⊢
        refine thnF (pe.run _ s9 σ8 H9 _ I9 q9) fun z s10 ⟨yv, H10, I10, r10, acc, hD10, hz10, nx⟩ => ?_
        exact app_ok (X := blkH X s3 H3 scope ce fp p0) I10 hD10 hz10 r10 fun s11 I11 => fin I11 nx
  exact codeAny_compStart_list loop (T.self X.A 0 _ _ _ st4 loop)

theorem pe_lcH {elt tg iter : Expr} {ifs : List Expr} {scope : Scope} {own : List (Str × Nat)} {pos : Pos} {wi : TI} {g : TG} {tt : TT} {te : TE} {p0 : Addr × Obj} (hot0 : L2H.Hot1 X.A p0) (hp0 : p0 ∈ X.pn) (hN : X.N.Nodup) (hi : L2H.PIH X tg iter wi) (ok : BlkOk X.N X.env.scope scope own)
    (hg : ∀ (s : Shared) (H : Hp) (C : Addr) (cl : List (Str × Addr)) (fp : List Addr), PG (blkH X s H scope (compEnvC scope cl C X.env) fp p0) tg g) (ht : ∀ (s : Shared) (H : Hp) (C : Addr) (cl : List (Str × Addr)) (fp : List Addr), PTs (blkH X s H scope (compEnvC scope cl C X.env) fp p0) ifs tt)
    (he : ∀ (s : Shared) (H : Hp) (C : Addr) (cl : List (Str × Addr)) (fp : List Addr), PE (blkH X s H scope (compEnvC scope cl C X.env) fp p0) elt te) (hs : ∀ x, foldedSetIterable iter X.env x = pure x := by intro _; rfl) :
    PE X (.ListComp elt [⟨tg, iter, ifs, 0⟩] scope pos) (tLc wi g tt te (own.map (·.2))) := by
  refine ⟨fun pins s σ H Q I h => ?_⟩
  rw [eval_ListComp]
  refine lcH_core hot0 hp0 hN I hi ok hg ht he hs h fun D C s' m H' I' q hn f => ⟨m, hn, fun h'' sb => ?_⟩
  obtain ⟨f0, f1, f2, f3, f4, f5⟩ := f
  exact ⟨.ref D, H', I'.turned (t' := s'.toks) (fun b o hb e => (sb.2 b hb).trans e) f0 f1 f3 f4 f5, rfl, q⟩
theorem ps_setLcH {i : Nat} {y : Str} {py : Pos} {elt tg iter : Expr} {ifs : List Expr} {scope : Scope} {own : List (Str × Nat)} {pos spos : Pos} {wi : TI} {g : TG} {tt : TT} {te : TE} {p0 : Addr × Obj} (hot0 : L2H.Hot1 X.A p0) (hp0 : p0 ∈ X.pn) (hN : X.N.Nodup) (hy : X.N[i]? = some y) (hyl : X.env.scope.names.lookup y = some .local)
    (hsw : swapsWith (.ListComp elt [⟨tg, iter, ifs, 0⟩] scope pos) (some (.Name y py)) spos.line X.env = pure true) (hi : L2H.PIH X tg iter wi) (ok : BlkOk X.N X.env.scope scope own)
    (hg : ∀ (s : Shared) (H : Hp) (C : Addr) (cl : List (Str × Addr)) (fp : List Addr), PG (blkH X s H scope (compEnvC scope cl C X.env) fp p0) tg g) (ht : ∀ (s : Shared) (H : Hp) (C : Addr) (cl : List (Str × Addr)) (fp : List Addr), PTs (blkH X s H scope (compEnvC scope cl C X.env) fp p0) ifs tt)
    (he : ∀ (s : Shared) (H : Hp) (C : Addr) (cl : List (Str × Addr)) (fp : List Addr), PE (blkH X s H scope (compEnvC scope cl C X.env) fp p0) elt te) (hs : ∀ x, foldedSetIterable iter X.env x = pure x := by intro _; rfl) :
    PS X (.Assign [.Name y py] (.ListComp elt [⟨tg, iter, ifs, 0⟩] scope pos) spos) (tAsg (tLc wi g tt te (own.map (·.2))) (gName i)) := by
  refine ⟨fun pins s σ H D I h => ?_⟩
  rw [exec_Assign_Name_used _ _ _ _ hsw]
  refine wpAny_bind (wpAny_standAt (wpAny_bind ?_))
  show wpAny _ X.A (do let _ ← comprehension (.ListComp elt [⟨tg, iter, ifs, 0⟩] scope pos) scope X.env (firstIterPos [⟨tg, iter, ifs, 0⟩] pos) (newList []) false (eval iter X.env) (some (assign (.Name y py) X.env))) _ _ s
  have h : tLc wi g tt te (own.map (·.2)) σ H (fun x H1 => gName i x σ H1 D.nx) := h
  refine wpAny_bind (thn (lcH_core (Qf := fun _ s' => SP X pins D .next s') hot0 hp0 hN I hi ok hg ht he hs h fun L C s' m H' I' q hn f => ?_) fun _ s' hq => wpAny_pure (wpAny_pure hq))
  show wpAny _ _ (assign (.Name y py) X.env (.ref L)) _ _ _
  refine wpAny_assign_Name (store_ok2 (v := V.ref L) I' hN hy (.inl hyl) rfl (fun s2 I2 ⟨a, sb, ha⟩ => ?_) (.inr hyl))
  obtain ⟨f0, f1, f2, f3, f4, f5⟩ := f
  have haC : C ≠ a := by
    rcases ha with z | z
    · rw [z]; exact f1
    · exact fun e => f4 y a z e.symm
  refine ⟨m, hn.sameBut sb haC, fun h3 sb3 => ?_⟩
  exact ⟨_, H', I2.turned (t' := s2.toks) (fun b o hb e => (sb3.2 b hb).trans e) f0 f1 f3 f4 f5, q⟩
end
end Kit

set_option Elab.async false
set_option linter.all false
set_option maxRecDepth 100000
namespace Kit
open PySem PySem.Spec PyProof.Rows L2 Evl
/-! ### set(a list of ints), sorted(set(a list of ints)) -/
/-- a new empty set behind a heap -/
abbrev emptyI (led : Bool) : Obj := { cls := .type "set", dict := none, data := .set #[] 0 (.fresh 0 0 led) }
section
variable {prog : Program} {w : World} {A : Around} {E : Value → Shared → Prop} {s : Shared}
set_option maxHeartbeats 3200000 in
theorem set_of_ints {l : Addr} {items : Array Value} {xs : List Int} {Q : Value → Shared → Prop}
    (hand : A.handled = none) (isl : s.heap.IsList l items)
    (are : IntsAre items.toList xs) (room : xs.length + 1 < scanBound)
    (fin : ∀ (h' : Heap) (tk c : Nat),
      SetR w h' s.heap.objs.size (fun j => decide (j ∈ xs)) c → c ≤ xs.length →
      (∀ b o, s.heap.get? b = some o → h'.get? b = some o) →
      Q (.ref s.heap.objs.size) { s with heap := h', toks := tk }) :
    wpAny (model prog w) A (call (.type "set") [.ref l]) Q E s := by
  generalize hled : (!w.params.followText "set-order") = led
  obtain ⟨c, tl, mro⟩ := PySem.F.called_set.mro
  have made := PySem.F.called_set.made
  have subt := PySem.F.called_set.sub
  refine wpAny_call (codeAny_of_tree ?_)
  show wpAny _ _ (callAny (.type "set") _) _ _ _
  refine wpAny_pure ⟨Code.quiet_builtin _ (by decide +kernel),
    codeAny_builtin PySem.F.entry_type_call ?_⟩
  rw [Around.under_plain (weight_type_call_type "set" [.ref l] []) rfl]
  have no1 := PySem.F.called_set.notType
  have no2 := PySem.F.called_set.canCreate
  have tc := PySem.F.typeCall_set_1 (.ref l)
  repeat (any_goals (first | assumption | wp_step))
  refine codeAny_mono (code_set_led1 (.ref l) (E := E) (Q₁ := fun obj s₁ =>
    obj = .ref s.heap.objs.size ∧ s₁ = { s with heap := s.heap.push (emptyI led) })
    (by rw [hled]; exact ⟨rfl, rfl⟩)) fun r s₁ hr => ?_
  cases r with
  | error e => exact hr
  | ok fl =>
    cases fl with
    | ret obj =>
      obtain ⟨rfl, rfl⟩ := hr
      have atS : (s.heap.push (emptyI led)).get? s.heap.objs.size = some (emptyI led) :=
        Heap.get?_push_size _ rfl
      have tyS : Shared.TypeIs { s with heap := s.heap.push (emptyI led) } (.ref s.heap.objs.size) "set" :=
        ⟨_, atS, rfl⟩
      have lk := PySem.F.called_set.init.lookup
      have bd := PySem.F.called_set.init.bind (.ref s.heap.objs.size)
      repeat (any_goals (first | assumption | wp_step))
      refine codeAny_mono (codeAny_call_builtin (R := wants (fun r s₂ => r = .none ∧ ∃ h' tk c,
          s₂ = { s with heap := h', toks := tk } ∧
          SetR w h' s.heap.objs.size (fun j => decide (j ∈ xs)) c ∧ c ≤ xs.length ∧
          (∀ b o, s.heap.get? b = some o → h'.get? b = some o)) E)
        PySem.F.called_set.init.plain PySem.F.entry_set_init (check_set_init_1 tyS ?_)) fun r₂ s₂ hr₂ => ?_
      · obtain ⟨ol, hol, hc, nl, hd⟩ := isl
        obtain ⟨oc, odic, odat, oslo⟩ := ol
        simp only at hc hd
        subst hc
        subst hd
        have hol2 : (s.heap.push (emptyI led)).get? l
            = some { cls := .type "list", dict := odic, data := .seq items nl, slots := oslo } :=
          Heap.get?_push_of_some _ hol
        have sl1 := PySem.F.sub_list_set
        have sl2 := PySem.F.sub_list_frozenset
        have nod : (Value.type "list" == Value.type "dict") = false := by decide
        have isl2 : (s.heap.push (emptyI led)).IsList l items := ⟨_, hol2, rfl, nl, rfl⟩
        unfold Builtin.«set.__init__» noKeywords Builtin.Frozenset.updateFrom
        generalize hgen : pyIter = PI
        wp_walk
        subst hgen
        refine wpAny_pyIter_list isl2 ?_
        refine wpAny_bind (wpAny_runValue ?_)
        have lS : l < s.heap.objs.size := Heap.lt_size hol
        have h3 : A.in1.in1.in1.handled = none := by simp [hand]
        have neI : l ≠ (s.heap.push (emptyI led)).objs.size := by
          rw [Heap.size_push]
          exact Nat.ne_of_lt (Nat.lt_succ_of_lt lS)
        have outS : s.heap.objs.size ∉ [(s.heap.push (emptyI led)).objs.size, l] := by
          rw [Heap.size_push]
          intro q
          rcases List.mem_cons.mp q with q | q
          · exact absurd q (Nat.ne_of_lt (Nat.lt_succ_self _))
          · exact absurd (List.mem_singleton.mp q) (Nat.ne_of_gt lS)
        have szx : items.size = xs.length := by
          have q := IntsAre.length are
          rw [Array.length_toList] at q
          exact q
        have vals : ∀ (i : Nat) (v : Value), items[i]? = some v → ∃ k t, xs[i]? = some k ∧ v = .int k t := fun i v hv => by
          have hi : i < xs.length := by rw [← szx]; exact (Array.getElem?_eq_some_iff.mp hv).1
          obtain ⟨t, e⟩ := PyProof.Rows.IntsAre.int_at are i v (by rw [Array.getElem?_toList]; exact hv)
          exact ⟨xs[i], t, List.getElem?_eq_getElem hi, by rw [e, List.getD_eq_getElem?_getD, List.getElem?_eq_getElem hi]; rfl⟩
        refine set_update_ints ((Walks.list h3 _ l neI items).toS) s.heap.objs.size outS xs szx room vals
          (items.size - 0) 0 _ (by omega) (Nat.zero_le _)
          ⟨⟨_, Heap.get?_push_size _ rfl, rfl, rfl⟩, (isl2.push _)⟩ ?_ ?_
        · have at2 : ((s.heap.push (emptyI led)).push
              { cls := .type "list_iterator", data := .fields #[.ref l, .int 0 0] }).get? s.heap.objs.size
              = some (emptyI led) := Heap.get?_push_of_some _ atS
          refine ⟨0, Nat.le_refl 0, setR_new_at (w := w) (ns := xs) ?_⟩
          rw [hled]
          exact at2
        · intro s2 c2 mv hc2 set2
          obtain ⟨h2, g2, d2, tk2, os2⟩ := s2
          obtain rfl : g2 = s.gens := mv.gens
          obtain rfl : d2 = s.drawn := mv.drawn
          obtain rfl : os2 = s.os := mv.os
          show wpAny _ _ _ _ _ _
          refine wpAny_pure ?_
          show wpAny _ _ (ret Value.none) _ _ _
          refine wpAny_pure ⟨rfl, h2, tk2, c2, rfl, set2, by omega, fun b o e => ?_⟩
          have hb := Heap.lt_size e
          refine mv.heap b o (fun q => ?_) (Heap.get?_push_of_some _ (Heap.get?_push_of_some _ e))
          rcases List.mem_cons.mp q with q | q
          · exact absurd q (Nat.ne_of_lt hb)
          · rcases List.mem_cons.mp q with q | q
            · rw [Heap.size_push] at q
              exact absurd q (Nat.ne_of_lt (Nat.lt_succ_of_lt hb))
            · cases q
      · cases r₂ with
        | error e => exact hr₂
        | ok fl₂ =>
          cases fl₂ with
          | ret r =>
            obtain ⟨rfl, h2, tk2, c2, rfl, set2, hc2, keep2⟩ := hr₂
            repeat (any_goals (first | assumption | wp_step))
            exact fin _ _ _ set2 hc2 keep2
          | _ => exact hr₂.elim
    | _ => exact hr.elim
end
section
variable {X : Cx}
def rSetI (K : PySem.W.Frag) (w : World) : List V → Hp → VK → Prop := fun vs H Q => ∃ (l : Addr) (ns : List Int), vs = [V.ref l] ∧ SqL K H l (ns.map V.int) ∧ ns.length ≤ 4000 ∧ ∀ p c, H p = none → c ≤ ns.length → Q (.ref p) (upd H p (SetO w p (fun j => decide (j ∈ ns)) c))
theorem cr_setI (hc : X.calm = true) : CallR X (.type "set") (rSetI X.K X.w) := by
  intro pins s σ H vs us Q I r h
  obtain ⟨l, ns, rfl, hs, hn, q⟩ := h
  obtain ⟨its, rv, pl, _⟩ := I.list hs
  rw [Vals.ref1 r]
  refine set_of_ints (I.ok.hd hc) pl.isList (by simpa using rv.ints) (by unfold scanBound; omega) fun h' tk c set1 hc1 keep => ?_
  have hf : H s.heap.objs.size = none := I.hok.fresh (Nat.le_refl _)
  exact ⟨.ref s.heap.objs.size, _, I.laid (t' := tk) keep (Nat.le_refl _) (setO_new set1), rfl, q _ c hf hc1⟩
end
section
variable {K : PySem.W.Frag} {w : World} {σ : L2.St} {H : Hp} {ta : TE}
/-- sorted(set(xs)), xs an old list of ints -/
theorem el_sortSet {l : Addr} {ns zs : List Int} (h : Ev ta σ H (.ref l)) (hl : SqL K H l (ns.map V.int)) (h64 : ns.length < 64) (hz : zs.Pairwise (· < ·)) (hm : ∀ k : Int, k ∈ zs ↔ k ∈ ns) : EvL (tCB (rSortedSet w) (tCons (tCB (rSetI K w) (tCons ta tNil)) tNil)) σ H (zs.map V.int) := fun H1 e Q q =>
  h H1 e _ fun H2 e2 => ⟨l, ns, rfl, ex_l (e.trans e2) hl, by omega, fun p c hp hc => ⟨p, _, c, rfl, upd_same, by omega, fun ms r hms hmm _ hr => by
    have : ms = zs := by
      refine List.Perm.eq_of_pairwise (le := fun a b : Int => a < b) (fun a b _ _ h1 h2 => by omega) hms hz ?_
      refine (List.perm_ext_iff_of_nodup (hms.imp fun z => Int.ne_of_lt z) (hz.imp fun z => Int.ne_of_lt z)).mpr fun k => ?_
      rw [hmm k, hm k]
      simp
    subst this
    exact q r _ (fresh_back (e2.trans (Ex.new hp)) hr) ((e2.trans (Ex.new hp)).trans (Ex.new hr)) upd_same⟩⟩
/-- sorted(set(xs)), xs a new list of ints -/
theorem el_sortSetN {ns zs : List Int} (h : EvL ta σ H (ns.map V.int)) (h64 : ns.length < 64) (hz : zs.Pairwise (· < ·)) (hm : ∀ k : Int, k ∈ zs ↔ k ∈ ns) : EvL (tCB (rSortedSet w) (tCons (tCB (rSetI K w) (tCons ta tNil)) tNil)) σ H (zs.map V.int) := fun H1 e Q q =>
  h H1 e _ fun l H2 nl e2 h2 => el_sortSet (K := K) (w := w) (σ := σ) (H := H2) (ta := fun _ H' R => R (.ref l) H') (l := l) (ns := ns) (fun H3 _ Q q => q H3 (Ex.refl _)) (sq_of h2) h64 hz hm H2 (Ex.refl _) Q fun p H3 hp e3 h3 => q p H3 (fresh_back e2 hp) (e2.trans e3) h3
end
end Kit

namespace K23
open PySem PySem.Spec PyProof.Rows L2 Evl Kit
def topS (i : Nat) : Stmt := PySem.Challenge.pw_newtables_k23_errors_of_events.main.body.getD i (.Pass ⟨0, 0, 0, 0⟩)
abbrev s_is_whole : Stmt := topS 24
abbrev n_is_whole : List Str := ["thing"]
theorem sc_is_whole : FnScope n_is_whole ["thing"] (defScope s_is_whole) := ⟨rfl, rfl, rfl, by decide +kernel, rfl, by decide +kernel, by decide +kernel⟩
abbrev s_is_within : Stmt := topS 25
abbrev n_is_within : List Str := ["thing", "least", "most"]
theorem sc_is_within : FnScope n_is_within ["thing", "least", "most"] (defScope s_is_within) := ⟨rfl, rfl, rfl, by decide +kernel, rfl, by decide +kernel, by decide +kernel⟩
abbrev s_is_ascending : Stmt := topS 26
abbrev n_is_ascending : List Str := ["thing", "least", "most", "item"]
theorem sc_is_ascending : FnScope n_is_ascending ["thing", "least", "most"] (defScope s_is_ascending) := ⟨rfl, rfl, rfl, by decide +kernel, rfl, by decide +kernel, by decide +kernel⟩
abbrev s_check_guests : Stmt := topS 27
abbrev n_check_guests : List Str := ["guests"]
theorem sc_check_guests : FnScope n_check_guests ["guests"] (defScope s_check_guests) := ⟨rfl, rfl, rfl, by decide +kernel, rfl, by decide +kernel, by decide +kernel⟩
abbrev s_check_weight : Stmt := topS 28
abbrev n_check_weight : List Str := ["weight"]
theorem sc_check_weight : FnScope n_check_weight ["weight"] (defScope s_check_weight) := ⟨rfl, rfl, rfl, by decide +kernel, rfl, by decide +kernel, by decide +kernel⟩
abbrev s_check_guest : Stmt := topS 29
abbrev n_check_guest : List Str := ["guest", "guests"]
theorem sc_check_guest : FnScope n_check_guest ["guest", "guests"] (defScope s_check_guest) := ⟨rfl, rfl, rfl, by decide +kernel, rfl, by decide +kernel, by decide +kernel⟩
abbrev s_check_number : Stmt := topS 30
abbrev n_check_number : List Str := ["number", "least", "most"]
theorem sc_check_number : FnScope n_check_number ["number", "least", "most"] (defScope s_check_number) := ⟨rfl, rfl, rfl, by decide +kernel, rfl, by decide +kernel, by decide +kernel⟩
abbrev s_check_any_number : Stmt := topS 31
abbrev n_check_any_number : List Str := ["number"]
theorem sc_check_any_number : FnScope n_check_any_number ["number"] (defScope s_check_any_number) := ⟨rfl, rfl, rfl, by decide +kernel, rfl, by decide +kernel, by decide +kernel⟩
abbrev s_raised : Stmt := topS 32
abbrev n_raised : List Str := ["base", "times", "total", "_"]
theorem sc_raised : FnScope n_raised ["base", "times"] (defScope s_raised) := ⟨rfl, rfl, rfl, by decide +kernel, rfl, by decide +kernel, by decide +kernel⟩
abbrev s_rising : Stmt := topS 33
abbrev n_rising : List Str := ["weight", "guests", "total", "guest"]
theorem sc_rising : FnScope n_rising ["weight", "guests"] (defScope s_rising) := ⟨rfl, rfl, rfl, by decide +kernel, rfl, by decide +kernel, by decide +kernel⟩
abbrev s_sums_by_tables : Stmt := topS 34
abbrev n_sums_by_tables : List Str := ["factors", "sums", "steep", "even", "part", "less", "more", "one", "other"]
theorem sc_sums_by_tables : FnScope n_sums_by_tables ["factors"] (defScope s_sums_by_tables) := ⟨rfl, rfl, rfl, by decide +kernel, rfl, by decide +kernel, by decide +kernel⟩
abbrev s_sum_at : Stmt := topS 35
abbrev n_sum_at : List Str := ["factors", "number", "sums"]
theorem sc_sum_at : FnScope n_sum_at ["factors", "number"] (defScope s_sum_at) := ⟨rfl, rfl, rfl, by decide +kernel, rfl, by decide +kernel, by decide +kernel⟩
abbrev s_fraction : Stmt := topS 36
abbrev n_fraction : List Str := ["top", "bottom", "common"]
theorem sc_fraction : FnScope n_fraction ["top", "bottom"] (defScope s_fraction) := ⟨rfl, rfl, rfl, by decide +kernel, rfl, by decide +kernel, by decide +kernel⟩
abbrev s_tables_weight : Stmt := topS 38
abbrev n_tables_weight : List Str := ["guests", "weight", "size"]
theorem sc_tables_weight : FnScope n_tables_weight ["guests", "weight", "size"] (defScope s_tables_weight) := ⟨rfl, rfl, rfl, by decide +kernel, rfl, by decide +kernel, by decide +kernel⟩
abbrev s_weight_with_size : Stmt := topS 39
abbrev n_weight_with_size : List Str := ["guests", "weight", "size"]
theorem sc_weight_with_size : FnScope n_weight_with_size ["guests", "weight", "size"] (defScope s_weight_with_size) := ⟨rfl, rfl, rfl, by decide +kernel, rfl, by decide +kernel, by decide +kernel⟩
abbrev s_weights_by_tables : Stmt := topS 41
abbrev n_weights_by_tables : List Str := ["guests", "weight", "guest"]
theorem sc_weights_by_tables : FnScope n_weights_by_tables ["guests", "weight"] (defScope s_weights_by_tables) := ⟨rfl, rfl, rfl, by decide +kernel, rfl, by decide +kernel, by decide +kernel⟩
abbrev s_opener_share : Stmt := topS 43
abbrev n_opener_share : List Str := ["guests", "weight", "guest"]
theorem sc_opener_share : FnScope n_opener_share ["guests", "weight", "guest"] (defScope s_opener_share) := ⟨rfl, rfl, rfl, by decide +kernel, rfl, by decide +kernel, by decide +kernel⟩
abbrev s_count_openers : Stmt := topS 44
abbrev n_count_openers : List Str := ["guests", "group"]
theorem sc_count_openers : FnScope n_count_openers ["guests", "group"] (defScope s_count_openers) := ⟨rfl, rfl, rfl, by decide +kernel, rfl, by decide +kernel, by decide +kernel⟩
abbrev s_openers_share : Stmt := topS 45
abbrev n_openers_share : List Str := ["guests", "weight", "group"]
theorem sc_openers_share : FnScope n_openers_share ["guests", "weight", "group"] (defScope s_openers_share) := ⟨rfl, rfl, rfl, by decide +kernel, rfl, by decide +kernel, by decide +kernel⟩
abbrev s_last_opener_share : Stmt := topS 46
abbrev n_last_opener_share : List Str := ["guests", "weight", "guest", "top", "bottom", "later"]
theorem sc_last_opener_share : FnScope n_last_opener_share ["guests", "weight", "guest"] (defScope s_last_opener_share) := ⟨rfl, rfl, rfl, by decide +kernel, rfl, by decide +kernel, by decide +kernel⟩
abbrev s_rank_share : Stmt := topS 47
abbrev n_rank_share : List Str := ["guests", "weight", "rank", "guest", "former", "ahead"]
theorem sc_rank_share : FnScope n_rank_share ["guests", "weight", "rank", "guest"] (defScope s_rank_share) := ⟨rfl, rfl, rfl, by decide +kernel, rfl, by decide +kernel, by decide +kernel⟩
abbrev s_together_share : Stmt := topS 48
abbrev n_together_share : List Str := ["guests", "weight", "group"]
theorem sc_together_share : FnScope n_together_share ["guests", "weight", "group"] (defScope s_together_share) := ⟨rfl, rfl, rfl, by decide +kernel, rfl, by decide +kernel, by decide +kernel⟩
abbrev s_just_share : Stmt := topS 49
abbrev n_just_share : List Str := ["guests", "weight", "group", "top"]
theorem sc_just_share : FnScope n_just_share ["guests", "weight", "group"] (defScope s_just_share) := ⟨rfl, rfl, rfl, by decide +kernel, rfl, by decide +kernel, by decide +kernel⟩
abbrev s_tables_shares : Stmt := topS 50
abbrev n_tables_shares : List Str := ["guests", "weight", "group", "total", "part"]
theorem sc_tables_shares : FnScope n_tables_shares ["guests", "weight", "group"] (defScope s_tables_shares) := ⟨rfl, rfl, rfl, by decide +kernel, rfl, by decide +kernel, by decide +kernel⟩
abbrev s_split_share : Stmt := topS 51
abbrev n_split_share : List Str := ["guests", "weight", "groups", "top", "group"]
theorem sc_split_share : FnScope n_split_share ["guests", "weight", "groups"] (defScope s_split_share) := ⟨rfl, rfl, rfl, by decide +kernel, rfl, by decide +kernel, by decide +kernel⟩
abbrev s_given_tables : Stmt := topS 52
abbrev n_given_tables : List Str := ["guests", "number", "group", "guest", "others", "top"]
theorem sc_given_tables : FnScope n_given_tables ["guests", "number", "group"] (defScope s_given_tables) := ⟨rfl, rfl, rfl, by decide +kernel, rfl, by decide +kernel, by decide +kernel⟩
abbrev s_home_share : Stmt := topS 53
abbrev n_home_share : List Str := ["guests", "weight", "steps"]
theorem sc_home_share : FnScope n_home_share ["guests", "weight", "steps"] (defScope s_home_share) := ⟨rfl, rfl, rfl, by decide +kernel, rfl, by decide +kernel, by decide +kernel⟩
abbrev s_other_share : Stmt := topS 54
abbrev n_other_share : List Str := ["guests", "weight", "steps", "total"]
theorem sc_other_share : FnScope n_other_share ["guests", "weight", "steps"] (defScope s_other_share) := ⟨rfl, rfl, rfl, by decide +kernel, rfl, by decide +kernel, by decide +kernel⟩
abbrev s_check_group : Stmt := topS 55
abbrev n_check_group : List Str := ["group", "guests"]
theorem sc_check_group : FnScope n_check_group ["group", "guests"] (defScope s_check_group) := ⟨rfl, rfl, rfl, by decide +kernel, rfl, by decide +kernel, by decide +kernel⟩
abbrev s_check_openers : Stmt := topS 56
abbrev n_check_openers : List Str := ["group", "guests"]
theorem sc_check_openers : FnScope n_check_openers ["group", "guests"] (defScope s_check_openers) := ⟨rfl, rfl, rfl, by decide +kernel, rfl, by decide +kernel, by decide +kernel⟩
abbrev s_check_groups : Stmt := topS 57
abbrev n_check_groups : List Str := ["groups", "guests"]
theorem sc_check_groups : FnScope n_check_groups ["groups", "guests"] (defScope s_check_groups) := ⟨rfl, rfl, rfl, by decide +kernel, rfl, by decide +kernel, by decide +kernel⟩
abbrev s_are_groups : Stmt := topS 58
abbrev n_are_groups : List Str := ["thing", "guests", "group", "guest", "members"]
theorem sc_are_groups : FnScope n_are_groups ["thing", "guests"] (defScope s_are_groups) := ⟨rfl, rfl, rfl, by decide +kernel, rfl, by decide +kernel, by decide +kernel⟩
abbrev s_ways_of_openers : Stmt := topS 59
abbrev n_ways_of_openers : List Str := ["guests", "group", "ways", "guest"]
theorem sc_ways_of_openers : FnScope n_ways_of_openers ["guests", "group"] (defScope s_ways_of_openers) := ⟨rfl, rfl, rfl, by decide +kernel, rfl, by decide +kernel, by decide +kernel⟩
abbrev s_table_weight : Stmt := topS 60
abbrev n_table_weight : List Str := ["weight", "group"]
theorem sc_table_weight : FnScope n_table_weight ["weight", "group"] (defScope s_table_weight) := ⟨rfl, rfl, rfl, by decide +kernel, rfl, by decide +kernel, by decide +kernel⟩
abbrev s_home_weight : Stmt := topS 61
abbrev n_home_weight : List Str := ["guests", "weight", "steps", "size", "sizes"]
theorem sc_home_weight : FnScope n_home_weight ["guests", "weight", "steps"] (defScope s_home_weight) := ⟨rfl, rfl, rfl, by decide +kernel, rfl, by decide +kernel, by decide +kernel⟩
abbrev s_law_store : Stmt := topS 63
abbrev n_law_store : List Str := ["script", "k", "cell"]
theorem sc_law_store : FnScope n_law_store ["script", "k"] (defScope s_law_store) := ⟨rfl, rfl, rfl, by decide +kernel, rfl, by decide +kernel, by decide +kernel⟩
abbrev s_law_pick : Stmt := topS 64
abbrev n_law_pick : List Str := ["store", "bound", "digit", "mixed"]
theorem sc_law_pick : FnScope n_law_pick ["store", "bound"] (defScope s_law_pick) := ⟨rfl, rfl, rfl, by decide +kernel, rfl, by decide +kernel, by decide +kernel⟩
abbrev s_law_heavy : Stmt := topS 65
abbrev n_law_heavy : List Str := ["store"]
theorem sc_law_heavy : FnScope n_law_heavy ["store"] (defScope s_law_heavy) := ⟨rfl, rfl, rfl, by decide +kernel, rfl, by decide +kernel, by decide +kernel⟩
abbrev s_law_gang : Stmt := topS 66
abbrev n_law_gang : List Str := ["store", "many_here", "who", "found"]
theorem sc_law_gang : FnScope n_law_gang ["store", "many_here"] (defScope s_law_gang) := ⟨rfl, rfl, rfl, by decide +kernel, rfl, by decide +kernel, by decide +kernel⟩
abbrev s_law_word_of : Stmt := topS 67
abbrev n_law_word_of : List Str := ["e", "found", "word", "is_one", "some"]
theorem sc_law_word_of : FnScope n_law_word_of ["e"] (defScope s_law_word_of) := ⟨rfl, rfl, rfl, by decide +kernel, rfl, by decide +kernel, by decide +kernel⟩
abbrev s_law_bad_gangs : Stmt := topS 68
abbrev n_law_bad_gangs : List Str := ["many_here", "gang", "found"]
theorem sc_law_bad_gangs : FnScope n_law_bad_gangs ["many_here", "gang"] (defScope s_law_bad_gangs) := ⟨rfl, rfl, rfl, by decide +kernel, rfl, by decide +kernel, by decide +kernel⟩
abbrev s_law_by_gang : Stmt := topS 69
abbrev n_law_by_gang : List Str := ["door", "many_here", "heavy", "gang"]
theorem sc_law_by_gang : FnScope n_law_by_gang ["door", "many_here", "heavy", "gang"] (defScope s_law_by_gang) := ⟨rfl, rfl, rfl, by decide +kernel, rfl, by decide +kernel, by decide +kernel⟩
abbrev s_law_called : Stmt := topS 70
abbrev n_law_called : List Str := ["door", "many_here", "heavy", "first", "second"]
theorem sc_law_called : FnScope n_law_called ["door", "many_here", "heavy", "first", "second"] (defScope s_law_called) := ⟨rfl, rfl, rfl, by decide +kernel, rfl, by decide +kernel, by decide +kernel⟩
abbrev s_law_raised : Stmt := topS 71
abbrev n_law_raised : List Str := ["door", "many_here", "heavy", "first", "second", "caught", "kept", "e"]
theorem sc_law_raised : FnScope n_law_raised ["door", "many_here", "heavy", "first", "second"] (defScope s_law_raised) := ⟨rfl, rfl, rfl, by decide +kernel, rfl, by decide +kernel, by decide +kernel⟩
abbrev s_law_bad_lots : Stmt := topS 72
abbrev n_law_bad_lots : List Str := ["many_here", "gang", "found"]
theorem sc_law_bad_lots : FnScope n_law_bad_lots ["many_here", "gang"] (defScope s_law_bad_lots) := ⟨rfl, rfl, rfl, by decide +kernel, rfl, by decide +kernel, by decide +kernel⟩
abbrev s_law_right : Stmt := topS 73
abbrev n_law_right : List Str := ["store", "many_here", "heavy", "gang", "bad", "door", "told"]
theorem sc_law_right : FnScope n_law_right ["store", "many_here", "heavy"] (defScope s_law_right) := ⟨rfl, rfl, rfl, by decide +kernel, rfl, by decide +kernel, by decide +kernel⟩
abbrev s_law_let_right : Stmt := topS 74
abbrev n_law_let_right : List Str := ["many_here", "heavy", "gang", "due", "told", "door"]
theorem sc_law_let_right : FnScope n_law_let_right ["many_here", "heavy", "gang"] (defScope s_law_let_right) := ⟨rfl, rfl, rfl, by decide +kernel, rfl, by decide +kernel, by decide +kernel⟩
abbrev s_law : Stmt := topS 75
abbrev n_law : List Str := ["script", "k", "store", "top", "who", "single", "told"]
theorem sc_law : FnScope n_law ["script"] (defScope s_law) := ⟨rfl, rfl, rfl, by decide +kernel, rfl, by decide +kernel, by decide +kernel⟩
/-! what the top has written -/
structure Tx (K : PySem.W.Frag) (mg : Str → Option Value) where
  f_is_whole : Addr
  d_is_whole : FuncData
  F_is_whole : Fun K "is_whole" "is_whole" s_is_whole f_is_whole d_is_whole
  g_is_whole : mg "is_whole" = some (.ref f_is_whole)
  b_is_whole : Binds K d_is_whole ["thing"] []
  f_is_within : Addr
  d_is_within : FuncData
  F_is_within : Fun K "is_within" "is_within" s_is_within f_is_within d_is_within
  g_is_within : mg "is_within" = some (.ref f_is_within)
  b_is_within : Binds K d_is_within ["thing", "least", "most"] []
  f_is_ascending : Addr
  d_is_ascending : FuncData
  F_is_ascending : Fun K "is_ascending" "is_ascending" s_is_ascending f_is_ascending d_is_ascending
  g_is_ascending : mg "is_ascending" = some (.ref f_is_ascending)
  b_is_ascending : Binds K d_is_ascending ["thing", "least", "most"] []
  f_check_guests : Addr
  d_check_guests : FuncData
  F_check_guests : Fun K "check_guests" "check_guests" s_check_guests f_check_guests d_check_guests
  g_check_guests : mg "check_guests" = some (.ref f_check_guests)
  b_check_guests : Binds K d_check_guests ["guests"] []
  f_check_weight : Addr
  d_check_weight : FuncData
  F_check_weight : Fun K "check_weight" "check_weight" s_check_weight f_check_weight d_check_weight
  g_check_weight : mg "check_weight" = some (.ref f_check_weight)
  b_check_weight : Binds K d_check_weight ["weight"] []
  f_check_guest : Addr
  d_check_guest : FuncData
  F_check_guest : Fun K "check_guest" "check_guest" s_check_guest f_check_guest d_check_guest
  g_check_guest : mg "check_guest" = some (.ref f_check_guest)
  b_check_guest : Binds K d_check_guest ["guest", "guests"] []
  f_check_number : Addr
  d_check_number : FuncData
  F_check_number : Fun K "check_number" "check_number" s_check_number f_check_number d_check_number
  g_check_number : mg "check_number" = some (.ref f_check_number)
  b_check_number : Binds K d_check_number ["number", "least", "most"] []
  f_check_any_number : Addr
  d_check_any_number : FuncData
  F_check_any_number : Fun K "check_any_number" "check_any_number" s_check_any_number f_check_any_number d_check_any_number
  g_check_any_number : mg "check_any_number" = some (.ref f_check_any_number)
  b_check_any_number : Binds K d_check_any_number ["number"] []
  f_raised : Addr
  d_raised : FuncData
  F_raised : Fun K "raised" "raised" s_raised f_raised d_raised
  g_raised : mg "raised" = some (.ref f_raised)
  b_raised : Binds K d_raised ["base", "times"] []
  f_rising : Addr
  d_rising : FuncData
  F_rising : Fun K "rising" "rising" s_rising f_rising d_rising
  g_rising : mg "rising" = some (.ref f_rising)
  b_rising : Binds K d_rising ["weight", "guests"] []
  f_sums_by_tables : Addr
  d_sums_by_tables : FuncData
  F_sums_by_tables : Fun K "sums_by_tables" "sums_by_tables" s_sums_by_tables f_sums_by_tables d_sums_by_tables
  g_sums_by_tables : mg "sums_by_tables" = some (.ref f_sums_by_tables)
  b_sums_by_tables : Binds K d_sums_by_tables ["factors"] []
  f_sum_at : Addr
  d_sum_at : FuncData
  F_sum_at : Fun K "sum_at" "sum_at" s_sum_at f_sum_at d_sum_at
  g_sum_at : mg "sum_at" = some (.ref f_sum_at)
  b_sum_at : Binds K d_sum_at ["factors", "number"] []
  f_fraction : Addr
  d_fraction : FuncData
  F_fraction : Fun K "fraction" "fraction" s_fraction f_fraction d_fraction
  g_fraction : mg "fraction" = some (.ref f_fraction)
  b_fraction : Binds K d_fraction ["top", "bottom"] []
  f_tables_weight : Addr
  d_tables_weight : FuncData
  F_tables_weight : Fun K "tables_weight" "tables_weight" s_tables_weight f_tables_weight d_tables_weight
  g_tables_weight : mg "tables_weight" = some (.ref f_tables_weight)
  b_tables_weight : Binds K d_tables_weight ["guests", "weight", "size"] []
  f_weight_with_size : Addr
  d_weight_with_size : FuncData
  F_weight_with_size : Fun K "weight_with_size" "weight_with_size" s_weight_with_size f_weight_with_size d_weight_with_size
  g_weight_with_size : mg "weight_with_size" = some (.ref f_weight_with_size)
  b_weight_with_size : Binds K d_weight_with_size ["guests", "weight", "size"] []
  f_weights_by_tables : Addr
  d_weights_by_tables : FuncData
  F_weights_by_tables : Fun K "weights_by_tables" "weights_by_tables" s_weights_by_tables f_weights_by_tables d_weights_by_tables
  g_weights_by_tables : mg "weights_by_tables" = some (.ref f_weights_by_tables)
  b_weights_by_tables : Binds K d_weights_by_tables ["guests", "weight"] []
  f_opener_share : Addr
  d_opener_share : FuncData
  F_opener_share : Fun K "opener_share" "opener_share" s_opener_share f_opener_share d_opener_share
  g_opener_share : mg "opener_share" = some (.ref f_opener_share)
  b_opener_share : Binds K d_opener_share ["guests", "weight", "guest"] []
  f_count_openers : Addr
  d_count_openers : FuncData
  F_count_openers : Fun K "count_openers" "count_openers" s_count_openers f_count_openers d_count_openers
  g_count_openers : mg "count_openers" = some (.ref f_count_openers)
  b_count_openers : Binds K d_count_openers ["guests", "group"] []
  f_openers_share : Addr
  d_openers_share : FuncData
  F_openers_share : Fun K "openers_share" "openers_share" s_openers_share f_openers_share d_openers_share
  g_openers_share : mg "openers_share" = some (.ref f_openers_share)
  b_openers_share : Binds K d_openers_share ["guests", "weight", "group"] []
  f_last_opener_share : Addr
  d_last_opener_share : FuncData
  F_last_opener_share : Fun K "last_opener_share" "last_opener_share" s_last_opener_share f_last_opener_share d_last_opener_share
  g_last_opener_share : mg "last_opener_share" = some (.ref f_last_opener_share)
  b_last_opener_share : Binds K d_last_opener_share ["guests", "weight", "guest"] []
  f_rank_share : Addr
  d_rank_share : FuncData
  F_rank_share : Fun K "rank_share" "rank_share" s_rank_share f_rank_share d_rank_share
  g_rank_share : mg "rank_share" = some (.ref f_rank_share)
  b_rank_share : Binds K d_rank_share ["guests", "weight", "rank", "guest"] []
  f_together_share : Addr
  d_together_share : FuncData
  F_together_share : Fun K "together_share" "together_share" s_together_share f_together_share d_together_share
  g_together_share : mg "together_share" = some (.ref f_together_share)
  b_together_share : Binds K d_together_share ["guests", "weight", "group"] []
  f_just_share : Addr
  d_just_share : FuncData
  F_just_share : Fun K "just_share" "just_share" s_just_share f_just_share d_just_share
  g_just_share : mg "just_share" = some (.ref f_just_share)
  b_just_share : Binds K d_just_share ["guests", "weight", "group"] []
  f_tables_shares : Addr
  d_tables_shares : FuncData
  F_tables_shares : Fun K "tables_shares" "tables_shares" s_tables_shares f_tables_shares d_tables_shares
  g_tables_shares : mg "tables_shares" = some (.ref f_tables_shares)
  b_tables_shares : Binds K d_tables_shares ["guests", "weight", "group"] []
  f_split_share : Addr
  d_split_share : FuncData
  F_split_share : Fun K "split_share" "split_share" s_split_share f_split_share d_split_share
  g_split_share : mg "split_share" = some (.ref f_split_share)
  b_split_share : Binds K d_split_share ["guests", "weight", "groups"] []
  f_given_tables : Addr
  d_given_tables : FuncData
  F_given_tables : Fun K "given_tables" "given_tables" s_given_tables f_given_tables d_given_tables
  g_given_tables : mg "given_tables" = some (.ref f_given_tables)
  b_given_tables : Binds K d_given_tables ["guests", "number", "group"] []
  f_home_share : Addr
  d_home_share : FuncData
  F_home_share : Fun K "home_share" "home_share" s_home_share f_home_share d_home_share
  g_home_share : mg "home_share" = some (.ref f_home_share)
  b_home_share : Binds K d_home_share ["guests", "weight", "steps"] []
  f_other_share : Addr
  d_other_share : FuncData
  F_other_share : Fun K "other_share" "other_share" s_other_share f_other_share d_other_share
  g_other_share : mg "other_share" = some (.ref f_other_share)
  b_other_share : Binds K d_other_share ["guests", "weight", "steps"] []
  f_check_group : Addr
  d_check_group : FuncData
  F_check_group : Fun K "check_group" "check_group" s_check_group f_check_group d_check_group
  g_check_group : mg "check_group" = some (.ref f_check_group)
  b_check_group : Binds K d_check_group ["group", "guests"] []
  f_check_openers : Addr
  d_check_openers : FuncData
  F_check_openers : Fun K "check_openers" "check_openers" s_check_openers f_check_openers d_check_openers
  g_check_openers : mg "check_openers" = some (.ref f_check_openers)
  b_check_openers : Binds K d_check_openers ["group", "guests"] []
  f_check_groups : Addr
  d_check_groups : FuncData
  F_check_groups : Fun K "check_groups" "check_groups" s_check_groups f_check_groups d_check_groups
  g_check_groups : mg "check_groups" = some (.ref f_check_groups)
  b_check_groups : Binds K d_check_groups ["groups", "guests"] []
  f_are_groups : Addr
  d_are_groups : FuncData
  F_are_groups : Fun K "are_groups" "are_groups" s_are_groups f_are_groups d_are_groups
  g_are_groups : mg "are_groups" = some (.ref f_are_groups)
  b_are_groups : Binds K d_are_groups ["thing", "guests"] []
  f_ways_of_openers : Addr
  d_ways_of_openers : FuncData
  F_ways_of_openers : Fun K "ways_of_openers" "ways_of_openers" s_ways_of_openers f_ways_of_openers d_ways_of_openers
  g_ways_of_openers : mg "ways_of_openers" = some (.ref f_ways_of_openers)
  b_ways_of_openers : Binds K d_ways_of_openers ["guests", "group"] []
  f_table_weight : Addr
  d_table_weight : FuncData
  F_table_weight : Fun K "table_weight" "table_weight" s_table_weight f_table_weight d_table_weight
  g_table_weight : mg "table_weight" = some (.ref f_table_weight)
  b_table_weight : Binds K d_table_weight ["weight", "group"] []
  f_home_weight : Addr
  d_home_weight : FuncData
  F_home_weight : Fun K "home_weight" "home_weight" s_home_weight f_home_weight d_home_weight
  g_home_weight : mg "home_weight" = some (.ref f_home_weight)
  b_home_weight : Binds K d_home_weight ["guests", "weight", "steps"] []
  f_law_store : Addr
  d_law_store : FuncData
  F_law_store : Fun K "_law_store" "_law_store" s_law_store f_law_store d_law_store
  g_law_store : mg "_law_store" = some (.ref f_law_store)
  b_law_store : Binds K d_law_store ["script", "k"] []
  f_law_pick : Addr
  d_law_pick : FuncData
  F_law_pick : Fun K "_law_pick" "_law_pick" s_law_pick f_law_pick d_law_pick
  g_law_pick : mg "_law_pick" = some (.ref f_law_pick)
  b_law_pick : Binds K d_law_pick ["store", "bound"] []
  f_law_heavy : Addr
  d_law_heavy : FuncData
  F_law_heavy : Fun K "_law_heavy" "_law_heavy" s_law_heavy f_law_heavy d_law_heavy
  g_law_heavy : mg "_law_heavy" = some (.ref f_law_heavy)
  b_law_heavy : Binds K d_law_heavy ["store"] []
  f_law_gang : Addr
  d_law_gang : FuncData
  F_law_gang : Fun K "_law_gang" "_law_gang" s_law_gang f_law_gang d_law_gang
  g_law_gang : mg "_law_gang" = some (.ref f_law_gang)
  b_law_gang : Binds K d_law_gang ["store", "many_here"] []
  f_law_word_of : Addr
  d_law_word_of : FuncData
  F_law_word_of : Fun K "_law_word_of" "_law_word_of" s_law_word_of f_law_word_of d_law_word_of
  g_law_word_of : mg "_law_word_of" = some (.ref f_law_word_of)
  b_law_word_of : Binds K d_law_word_of ["e"] []
  f_law_bad_gangs : Addr
  d_law_bad_gangs : FuncData
  F_law_bad_gangs : Fun K "_law_bad_gangs" "_law_bad_gangs" s_law_bad_gangs f_law_bad_gangs d_law_bad_gangs
  g_law_bad_gangs : mg "_law_bad_gangs" = some (.ref f_law_bad_gangs)
  b_law_bad_gangs : Binds K d_law_bad_gangs ["many_here", "gang"] []
  f_law_by_gang : Addr
  d_law_by_gang : FuncData
  F_law_by_gang : Fun K "_law_by_gang" "_law_by_gang" s_law_by_gang f_law_by_gang d_law_by_gang
  g_law_by_gang : mg "_law_by_gang" = some (.ref f_law_by_gang)
  b_law_by_gang : Binds K d_law_by_gang ["door", "many_here", "heavy", "gang"] []
  f_law_called : Addr
  d_law_called : FuncData
  F_law_called : Fun K "_law_called" "_law_called" s_law_called f_law_called d_law_called
  g_law_called : mg "_law_called" = some (.ref f_law_called)
  b_law_called : Binds K d_law_called ["door", "many_here", "heavy", "first", "second"] []
  f_law_raised : Addr
  d_law_raised : FuncData
  F_law_raised : Fun K "_law_raised" "_law_raised" s_law_raised f_law_raised d_law_raised
  g_law_raised : mg "_law_raised" = some (.ref f_law_raised)
  b_law_raised : Binds K d_law_raised ["door", "many_here", "heavy", "first", "second"] []
  f_law_bad_lots : Addr
  d_law_bad_lots : FuncData
  F_law_bad_lots : Fun K "_law_bad_lots" "_law_bad_lots" s_law_bad_lots f_law_bad_lots d_law_bad_lots
  g_law_bad_lots : mg "_law_bad_lots" = some (.ref f_law_bad_lots)
  b_law_bad_lots : Binds K d_law_bad_lots ["many_here", "gang"] []
  f_law_right : Addr
  d_law_right : FuncData
  F_law_right : Fun K "_law_right" "_law_right" s_law_right f_law_right d_law_right
  g_law_right : mg "_law_right" = some (.ref f_law_right)
  b_law_right : Binds K d_law_right ["store", "many_here", "heavy"] []
  f_law_let_right : Addr
  d_law_let_right : FuncData
  F_law_let_right : Fun K "_law_let_right" "_law_let_right" s_law_let_right f_law_let_right d_law_let_right
  g_law_let_right : mg "_law_let_right" = some (.ref f_law_let_right)
  b_law_let_right : Binds K d_law_let_right ["many_here", "heavy", "gang"] []
  f_law : Addr
  d_law : FuncData
  F_law : Fun K "law" "law" s_law f_law d_law
  g_law : mg "law" = some (.ref f_law)
  b_law : Binds K d_law ["script"] []
  cl_HallError : Addr
  gc_HallError : mg "HallError" = some (.ref cl_HallError)
  cl_InvalidGuests : Addr
  gc_InvalidGuests : mg "InvalidGuests" = some (.ref cl_InvalidGuests)
  cl_InvalidWeight : Addr
  gc_InvalidWeight : mg "InvalidWeight" = some (.ref cl_InvalidWeight)
  cl_InvalidGuest : Addr
  gc_InvalidGuest : mg "InvalidGuest" = some (.ref cl_InvalidGuest)
  cl_InvalidSeating : Addr
  gc_InvalidSeating : mg "InvalidSeating" = some (.ref cl_InvalidSeating)
  cl_InvalidComing : Addr
  gc_InvalidComing : mg "InvalidComing" = some (.ref cl_InvalidComing)
  cl_InvalidNames : Addr
  gc_InvalidNames : mg "InvalidNames" = some (.ref cl_InvalidNames)
  cl_InvalidTables : Addr
  gc_InvalidTables : mg "InvalidTables" = some (.ref cl_InvalidTables)
  cl_InvalidSizes : Addr
  gc_InvalidSizes : mg "InvalidSizes" = some (.ref cl_InvalidSizes)
  cl_InvalidGroup : Addr
  gc_InvalidGroup : mg "InvalidGroup" = some (.ref cl_InvalidGroup)
  cl_InvalidGroups : Addr
  gc_InvalidGroups : mg "InvalidGroups" = some (.ref cl_InvalidGroups)
  cl_InvalidFacts : Addr
  gc_InvalidFacts : mg "InvalidFacts" = some (.ref cl_InvalidFacts)
  cl_InvalidDistances : Addr
  gc_InvalidDistances : mg "InvalidDistances" = some (.ref cl_InvalidDistances)
  cl_InvalidNumber : Addr
  gc_InvalidNumber : mg "InvalidNumber" = some (.ref cl_InvalidNumber)
  cl_InvalidIndex : Addr
  gc_InvalidIndex : mg "InvalidIndex" = some (.ref cl_InvalidIndex)
  cl_NoSeating : Addr
  gc_NoSeating : mg "NoSeating" = some (.ref cl_NoSeating)
  cl_NothingToUndo : Addr
  gc_NothingToUndo : mg "NothingToUndo" = some (.ref cl_NothingToUndo)
  cl_Refused : Addr
  gc_Refused : mg "Refused" = some (.ref cl_Refused)
  cl_InvalidText : Addr
  gc_InvalidText : mg "InvalidText" = some (.ref cl_InvalidText)
  e_InvalidGuests : Kit.ExcD K cl_InvalidGuests
  x_InvalidGuests : PySem.W.exmOne K (.ref cl_InvalidGuests) (.ref cl_HallError) = some true
  t_InvalidGuests : Kit.isRow K cl_InvalidGuests [((.ref cl_InvalidGuests : Value), true), ((.ref cl_InvalidWeight : Value), false), ((.ref cl_InvalidGuest : Value), false), ((.ref cl_InvalidGroup : Value), false), ((.ref cl_InvalidGroups : Value), false), ((.ref cl_InvalidFacts : Value), false), ((.ref cl_InvalidSizes : Value), false), ((.ref cl_InvalidNumber : Value), false), ((.ref cl_InvalidIndex : Value), false), ((.ref cl_NoSeating : Value), false), ((.ref cl_InvalidSeating : Value), false), ((.ref cl_InvalidComing : Value), false), ((.ref cl_InvalidDistances : Value), false), ((.ref cl_InvalidNames : Value), false), ((.ref cl_InvalidTables : Value), false), ((.ref cl_InvalidText : Value), false), ((.ref cl_NothingToUndo : Value), false), ((.ref cl_Refused : Value), false), ((.ref cl_HallError : Value), true), ((.type "ValueError" : Value), true)] = true
  e_InvalidWeight : Kit.ExcD K cl_InvalidWeight
  x_InvalidWeight : PySem.W.exmOne K (.ref cl_InvalidWeight) (.ref cl_HallError) = some true
  t_InvalidWeight : Kit.isRow K cl_InvalidWeight [((.ref cl_InvalidGuests : Value), false), ((.ref cl_InvalidWeight : Value), true), ((.ref cl_InvalidGuest : Value), false), ((.ref cl_InvalidGroup : Value), false), ((.ref cl_InvalidGroups : Value), false), ((.ref cl_InvalidFacts : Value), false), ((.ref cl_InvalidSizes : Value), false), ((.ref cl_InvalidNumber : Value), false), ((.ref cl_InvalidIndex : Value), false), ((.ref cl_NoSeating : Value), false), ((.ref cl_InvalidSeating : Value), false), ((.ref cl_InvalidComing : Value), false), ((.ref cl_InvalidDistances : Value), false), ((.ref cl_InvalidNames : Value), false), ((.ref cl_InvalidTables : Value), false), ((.ref cl_InvalidText : Value), false), ((.ref cl_NothingToUndo : Value), false), ((.ref cl_Refused : Value), false), ((.ref cl_HallError : Value), true), ((.type "ValueError" : Value), true)] = true
  e_InvalidNumber : Kit.ExcD K cl_InvalidNumber
  x_InvalidNumber : PySem.W.exmOne K (.ref cl_InvalidNumber) (.ref cl_HallError) = some true
  t_InvalidNumber : Kit.isRow K cl_InvalidNumber [((.ref cl_InvalidGuests : Value), false), ((.ref cl_InvalidWeight : Value), false), ((.ref cl_InvalidGuest : Value), false), ((.ref cl_InvalidGroup : Value), false), ((.ref cl_InvalidGroups : Value), false), ((.ref cl_InvalidFacts : Value), false), ((.ref cl_InvalidSizes : Value), false), ((.ref cl_InvalidNumber : Value), true), ((.ref cl_InvalidIndex : Value), false), ((.ref cl_NoSeating : Value), false), ((.ref cl_InvalidSeating : Value), false), ((.ref cl_InvalidComing : Value), false), ((.ref cl_InvalidDistances : Value), false), ((.ref cl_InvalidNames : Value), false), ((.ref cl_InvalidTables : Value), false), ((.ref cl_InvalidText : Value), false), ((.ref cl_NothingToUndo : Value), false), ((.ref cl_Refused : Value), false), ((.ref cl_HallError : Value), true), ((.type "ValueError" : Value), true)] = true
  e_InvalidGuest : Kit.ExcD K cl_InvalidGuest
  x_InvalidGuest : PySem.W.exmOne K (.ref cl_InvalidGuest) (.ref cl_HallError) = some true
  t_InvalidGuest : Kit.isRow K cl_InvalidGuest [((.ref cl_InvalidGuests : Value), false), ((.ref cl_InvalidWeight : Value), false), ((.ref cl_InvalidGuest : Value), true), ((.ref cl_InvalidGroup : Value), false), ((.ref cl_InvalidGroups : Value), false), ((.ref cl_InvalidFacts : Value), false), ((.ref cl_InvalidSizes : Value), false), ((.ref cl_InvalidNumber : Value), false), ((.ref cl_InvalidIndex : Value), false), ((.ref cl_NoSeating : Value), false), ((.ref cl_InvalidSeating : Value), false), ((.ref cl_InvalidComing : Value), false), ((.ref cl_InvalidDistances : Value), false), ((.ref cl_InvalidNames : Value), false), ((.ref cl_InvalidTables : Value), false), ((.ref cl_InvalidText : Value), false), ((.ref cl_NothingToUndo : Value), false), ((.ref cl_Refused : Value), false), ((.ref cl_HallError : Value), true), ((.type "ValueError" : Value), true)] = true
  e_InvalidGroup : Kit.ExcD K cl_InvalidGroup
  x_InvalidGroup : PySem.W.exmOne K (.ref cl_InvalidGroup) (.ref cl_HallError) = some true
  t_InvalidGroup : Kit.isRow K cl_InvalidGroup [((.ref cl_InvalidGuests : Value), false), ((.ref cl_InvalidWeight : Value), false), ((.ref cl_InvalidGuest : Value), false), ((.ref cl_InvalidGroup : Value), true), ((.ref cl_InvalidGroups : Value), false), ((.ref cl_InvalidFacts : Value), false), ((.ref cl_InvalidSizes : Value), false), ((.ref cl_InvalidNumber : Value), false), ((.ref cl_InvalidIndex : Value), false), ((.ref cl_NoSeating : Value), false), ((.ref cl_InvalidSeating : Value), false), ((.ref cl_InvalidComing : Value), false), ((.ref cl_InvalidDistances : Value), false), ((.ref cl_InvalidNames : Value), false), ((.ref cl_InvalidTables : Value), false), ((.ref cl_InvalidText : Value), false), ((.ref cl_NothingToUndo : Value), false), ((.ref cl_Refused : Value), false), ((.ref cl_HallError : Value), true), ((.type "ValueError" : Value), true)] = true
  e_InvalidGroups : Kit.ExcD K cl_InvalidGroups
  x_InvalidGroups : PySem.W.exmOne K (.ref cl_InvalidGroups) (.ref cl_HallError) = some true
  t_InvalidGroups : Kit.isRow K cl_InvalidGroups [((.ref cl_InvalidGuests : Value), false), ((.ref cl_InvalidWeight : Value), false), ((.ref cl_InvalidGuest : Value), false), ((.ref cl_InvalidGroup : Value), false), ((.ref cl_InvalidGroups : Value), true), ((.ref cl_InvalidFacts : Value), false), ((.ref cl_InvalidSizes : Value), false), ((.ref cl_InvalidNumber : Value), false), ((.ref cl_InvalidIndex : Value), false), ((.ref cl_NoSeating : Value), false), ((.ref cl_InvalidSeating : Value), false), ((.ref cl_InvalidComing : Value), false), ((.ref cl_InvalidDistances : Value), false), ((.ref cl_InvalidNames : Value), false), ((.ref cl_InvalidTables : Value), false), ((.ref cl_InvalidText : Value), false), ((.ref cl_NothingToUndo : Value), false), ((.ref cl_Refused : Value), false), ((.ref cl_HallError : Value), true), ((.type "ValueError" : Value), true)] = true
  m_ValueError : mg "ValueError" = none
  m_abs : mg "abs" = none
  m_all : mg "all" = none
  m_int : mg "int" = none
  m_isinstance : mg "isinstance" = none
  m_len : mg "len" = none
  m_list : mg "list" = none
  m_max : mg "max" = none
  m_min : mg "min" = none
  m_range : mg "range" = none
  m_repr : mg "repr" = none
  m_set : mg "set" = none
  m_sorted : mg "sorted" = none
  m_sum : mg "sum" = none
  m_tuple : mg "tuple" = none
  m_type : mg "type" = none
  m_zip : mg "zip" = none
  c_MOST_GUESTS : ∃ u, mg "MOST_GUESTS" = some u ∧ RelV (.int 20) u
  c_MOST_WEIGHT : ∃ u, mg "MOST_WEIGHT" = some u ∧ RelV (.int 1000000000000) u
  i_factorial : mg "factorial" = some (.builtin "math.factorial")
  i_gcd : mg "gcd" = some (.builtin "math.gcd")
  i_perm : mg "perm" = some (.builtin "math.perm")
/-! readings that go by themselves -/
local macro_rules | `(tactic| walk_at "side") => `(tactic| first | with_reducible assumption | with_reducible rfl | omega | decide | (constructor <;> first | assumption | omega | decide))
local macro_rules | `(tactic| walk_at "ev") => `(tactic| first
  | ((with_reducible refine' ev_var ?e1); (case e1 => rfl))
  | (with_reducible exact ev_c)
  | ((with_reducible refine' ev_op ?e1 ?e2 rv_I0); (case e1 => walk_at "ev"); (case e2 => walk_at "ev"))
  | ((with_reducible refine' ev_op ?e1 ?e2 (rv_I ?e3)); (case e1 => walk_at "ev"); (case e2 => walk_at "ev"); (case e3 => walk_at "side"))
  | ((with_reducible refine' ev_op ?e1 ?e2 (rv_eq ?e3)); (case e1 => walk_at "ev"); (case e2 => walk_at "ev"); (case e3 => rfl))
  | ((with_reducible refine' ev_op ?e1 ?e2 (rv_ne ?e3)); (case e1 => walk_at "ev"); (case e2 => walk_at "ev"); (case e3 => rfl))
  | ((with_reducible refine' ev_op ?e1 ?e2 (rv_ixL ?e3 ?e4)); (case e1 => walk_at "ev"); (case e2 => walk_at "ev"); (case e3 => walk_at "sq"); (case e4 => walk_at "at"))
  | ((with_reducible refine' ev_op ?e1 ?e2 (rv_ixT ?e3 ?e4)); (case e1 => walk_at "ev"); (case e2 => walk_at "ev"); (case e3 => walk_at "sq"); (case e4 => walk_at "at"))
  | ((with_reducible refine' ev_op ?e1 ?e2 rv_isN); (case e1 => walk_at "ev"); (case e2 => walk_at "ev"))
  | ((with_reducible refine' ev_op ?e1 ?e2 rv_notN); (case e1 => walk_at "ev"); (case e2 => walk_at "ev"))
  | ((with_reducible refine' ev_op ?e1 ?e2 (rv_eqTy ?e3 ?e4)); (case e1 => walk_at "ev"); (case e2 => walk_at "ev"); (case e3 => exact PySem.TypeEq.meta_int); (case e4 => exact PySem.TypeEq.meta_int))
  | ((with_reducible refine' ev_un ?e1 ru_neg); (case e1 => walk_at "ev"))
  | ((with_reducible refine' ev_intI ?e1); (case e1 => walk_at "ev"))
  | ((with_reducible refine' ev_intB ?e1); (case e1 => walk_at "ev"))
  | ((with_reducible refine' ev_typeI ?e1); (case e1 => walk_at "ev"))
  | ((with_reducible refine' ev_abs ?e1); (case e1 => walk_at "ev"))
  | ((with_reducible refine' ev_max2 ?e1 ?e2); (case e1 => walk_at "ev"); (case e2 => walk_at "ev"))
  | ((with_reducible refine' ev_min2 ?e1 ?e2); (case e1 => walk_at "ev"); (case e2 => walk_at "ev"))
  | ((with_reducible refine' ev_gcd ?e1 ?e2); (case e1 => walk_at "ev"); (case e2 => walk_at "ev"))
  | ((with_reducible refine' ev_len ?e1 ?e2); (case e1 => walk_at "ev"); (case e2 => walk_at "sq"))
  | ((with_reducible refine' ev_chainI ?e1 ?e2 ?e3); (case e1 => walk_at "ev"); (case e2 => walk_at "ev"); (case e3 => walk_at "ev"))
  | ((with_reducible refine' ev_chain3I ?e1 ?e2 ?e3 ?e4); (case e1 => walk_at "ev"); (case e2 => walk_at "ev"); (case e3 => walk_at "ev"); (case e4 => walk_at "ev"))
  | ((with_reducible refine' ev_notV ?e1); (case e1 => walk_at "ev"))
  | ((with_reducible refine' ev_andV ?e1 ?e2); (case e1 => walk_at "ev"); (case e2 => (intro _; walk_at "ev")))
  | ((with_reducible refine' ev_orV ?e1 ?e2); (case e1 => walk_at "ev"); (case e2 => (intro _; walk_at "ev")))
  | ((with_reducible refine' ev_if ?e1 ?e2 ?e3); (case e1 => walk_at "et"); (case e2 => (intro _; walk_at "ev")); (case e3 => (intro _; walk_at "ev")))
  | ((with_reducible refine' ev_call ?e1 ?e2); (case e1 => walk_at "ea"); (case e2 => walk_at "call")))
local macro_rules | `(tactic| walk_at "ea") => `(tactic| first
  | (with_reducible exact ea_nil)
  | ((with_reducible refine' ea_cons ?e1 ?e2); (case e1 => walk_at "ev"); (case e2 => walk_at "ea")))
local macro_rules | `(tactic| walk_at "et") => `(tactic| first
  | ((with_reducible refine' et_test ?e1); (case e1 => walk_at "ev"))
  | ((with_reducible refine' et_B ?e1); (case e1 => walk_at "ev"))
  | ((with_reducible refine' et_not ?e1); (case e1 => walk_at "et"))
  | ((with_reducible refine' et_and ?e1 ?e2); (case e1 => walk_at "et"); (case e2 => (intro _; walk_at "et")))
  | ((with_reducible refine' et_or ?e1 ?e2); (case e1 => walk_at "et"); (case e2 => (intro _; walk_at "et"))))
local macro_rules | `(tactic| walk_at "eu") => `(tactic| first
  | ((with_reducible refine' eu_tup ?e1 ?e2); (case e1 => walk_at "ea"); (case e2 => exact Nat.le_of_ble_eq_true rfl))
  | ((with_reducible refine' eu_call ?e1 ?e2); (case e1 => walk_at "ea"); (case e2 => walk_at "callU")))
local macro_rules | `(tactic| walk_at "el") => `(tactic| first
  | ((with_reducible refine' el_call ?e1 ?e2); (case e1 => walk_at "ea"); (case e2 => walk_at "callL"))
  | ((with_reducible refine' el_lst ?e1 ?e2); (case e1 => walk_at "ea"); (case e2 => exact Nat.le_of_ble_eq_true rfl)))
local macro_rules | `(tactic| walk_at "sq") => `(tactic| first | assumption | exact sq_of (by assumption) | exact st_of (by assumption))
local macro_rules | `(tactic| walk_at "at") => `(tactic| first | assumption | rfl | (apply atI_nat; rfl))
local macro_rules | `(tactic| walk_at "call") => `(tactic| assumption)

/-! ### the pouch -/
/-- H without p -/
def Hm (p : Addr) (H : Hp) : Hp := fun b => if b = p then none else H b
theorem hm_p {p : Addr} {H : Hp} : Hm p H p = none := if_pos rfl
theorem hm_sub {p : Addr} {H : Hp} : Ex (Hm p H) H := fun a o h => by
  unfold Hm at h
  split at h
  · cases h
  · exact h
theorem hm_mono {p : Addr} {H H' : Hp} (e : Ex H H') : Ex (Hm p H) (Hm p H') := fun a o h => by
  unfold Hm at h ⊢
  split at h
  · cases h
  · rename_i ne
    rw [if_neg ne]
    exact e a o h
theorem ex_hm {p : Addr} {H0 H : Hp} (e : Ex H0 H) (h : H0 p = none) : Ex H0 (Hm p H) := fun a o ha => by
  unfold Hm
  rw [if_neg (ne_of_none ha h)]
  exact e a o ha
/-- a pouch after at most n mixed draws -/
def Po (p : Addr) (n : Nat) (H : Hp) : Prop := ∃ a b c : Int, H p = some (.lst [.int a, .int b, .int c]) ∧ (0 ≤ b ∧ b < 2 ^ 200) ∧ 0 ≤ c ∧ c ≤ n
theorem Po.ex {p : Addr} {n : Nat} {H H' : Hp} (h : Po p n H) (e : Ex H H') : Po p n H' := by
  obtain ⟨a, b, c, h1, h2⟩ := h
  exact ⟨a, b, c, e p _ h1, h2⟩
theorem Po.mono {p : Addr} {n m : Nat} {H : Hp} (h : Po p n H) (e : n ≤ m) : Po p m H := by
  obtain ⟨a, b, c, h1, h2, h3, h4⟩ := h
  exact ⟨a, b, c, h1, h2, h3, by omega⟩
theorem pow3_ok {i : Int} (h : i.natAbs < 2 ^ 250) : CPowX i 3 := by
  have := PyProof.Rows.intBits_le h
  unfold CPowX
  omega
theorem divw_ok {i j : Int} (h : 0 < j) (hb : j < 2 ^ 200) : CDivW i j := wide_div (b := 200) h (by omega) (by decide) (by decide)
theorem mulk_ok {i j : Int} (h : i.natAbs < 2 ^ 100000) (hb : j.natAbs < 2 ^ 100000) : CMulX i j := mulx_ok h hb (by decide)
def sp_law_store (K : PySem.W.Frag) : Sp := fun vs H Q _ => ∃ (s : Addr) (ns : List Int) (i : Nat), vs = [.ref s, .int (i : Int)] ∧ SqL K H s (ns.map V.int) ∧ i ≤ 100 ∧ ∀ p H', H p = none → Ex H H' → Po p 0 H' → Q (.ref p) H'
def sp_law_pick : Sp := fun vs H Q _ => ∃ (p : Addr) (n : Nat) (w : Int), vs = [.ref p, .int w] ∧ Po p n H ∧ n < 1000000000 ∧ 0 < w ∧ w < 2 ^ 200 ∧
  ∀ r H', 0 ≤ r → r < w → Po p (n + 1) H' → Ex (Hm p H) H' → Q (.int r) H'
section
variable {P : Program} {w : World} {K : PySem.W.Frag} {mg : Str → Option Value} {base : Heap}
theorem ok_law_pick (T : Tx K mg) : FnOk P w K mg base CX0 1 T.f_law_pick T.d_law_pick ["store", "bound"] sp_law_pick := by
  refine T.F_law_pick.ok sc_law_pick (fun vs H Q E h => ?_) (fun cdv A outer s H vs Q E hr h => ?_)
  · obtain ⟨p, n, w, rfl, _⟩ := h
    rfl
  · obtain ⟨p, n, w, rfl, ⟨a, b, c, hp, ⟨hb0, hb1⟩, hc0, hc1⟩, hn, hw0, hw1, k⟩ := h
    refine ⟨_, (pss_cons (ps_if (pt_cmpR op_gt (pe_ix ix_list (pv 0) pe_int (fun _ _ => rfl)) pe_int (nomark _)) (pss_cons (ps_set (i := 2) sc_law_pick.nd rfl (Or.inl rfl) (pe_op op_mod (pe_callTy call_intI (by rfl) T.m_int (by decide +kernel) (pa_cons (pe_ix ix_list (pv 0) pe_int (fun _ _ => rfl)) pa_nil)) (pv 1)))
      (pss_cons (ps_asg (pe_op op_fdivW (pe_ix ix_list (pv 0) pe_int (fun _ _ => rfl)) (pv 1)) (pg_sub (pv 0) pe_int set_list))
      (pss_one (ps_ret (pv 2))))) pss_nil)
      (pss_cons (ps_asg (pe_op op_add (pe_ix ix_list (pv 0) pe_int (fun _ _ => rfl)) pe_int) (pg_sub (pv 0) pe_int set_list))
      (pss_cons (ps_set (i := 3) sc_law_pick.nd rfl (Or.inl rfl) (pe_op op_mod (pe_callTy call_intI (by rfl) T.m_int (by decide +kernel) (pa_cons (pe_op op_powX (pe_op op_add (pe_ix ix_list (pv 0) pe_int (fun _ _ => rfl)) (pe_op op_mulX pe_int (pe_ix ix_list (pv 0) pe_int (fun _ _ => rfl)))) pe_int) pa_nil)) (pe_op op_add (pe_op op_powX pe_int pe_int) pe_int)))
      (pss_cons (ps_set (i := 3) sc_law_pick.nd rfl (Or.inl rfl) (pe_op op_mod (pe_callTy call_intI (by rfl) T.m_int (by decide +kernel) (pa_cons (pe_op op_powX (pe_op op_add (pv 3) (pe_op op_mulX pe_int (pe_ix ix_list (pv 0) pe_int (fun _ _ => rfl)))) pe_int) pa_nil)) (pe_op op_add (pe_op op_powX pe_int pe_int) pe_int)))
      (pss_one (ps_ret (pe_op op_mod (pe_callTy call_intI (by rfl) T.m_int (by decide +kernel) (pa_cons (pe_op op_fdivW (pv 3) pe_int) pa_nil)) (pv 1)))))))), ?_⟩
    have hp0 : Hm p H p = none := hm_p
    refine q_when (by walk_at "et") (fun hb H1 e1 => ?_) (fun hb H1 e1 => ?_)
    · have hp1 := e1 p _ hp
      refine q_asg (by walk_at "ev") fun H2 e2 => ?_
      have hp2 := e2 p _ hp1
      have hd : CDivW a w := divw_ok hw0 hw1
      refine q_setL (j := 0) hp2 (by walk_at "ev") (by walk_at "ev") ev_c (by show 0 < 3; decide) fun H3 e3 => ?_
      refine s_ret (by walk_at "ev") fun H4 e4 => ?_
      refine k _ _ (Int.emod_nonneg _ (by omega)) (Int.emod_lt_of_pos _ hw0) ⟨a / w, b, c, e4 p _ upd_same, ⟨hb0, hb1⟩, hc0, by omega⟩ ?_
      exact Ex.trans (Ex.mut (hm_sub.trans (e1.trans (e2.trans e3))) hp0) e4
    · have hp1 := e1 p _ hp
      refine q_setL (j := 2) hp1 (by walk_at "ev") (by walk_at "ev") ev_c (by show 2 < 3; decide) fun H2 e2 => ?_
      have hp2 : ∀ H3, Ex (upd H2 p (.lst ([V.int a, .int b, .int c].set 2 (.int (c + 1))))) H3 → H3 p = some (.lst [.int a, .int b, .int (c + 1)]) := fun H3 e => e p _ upd_same
      have hq := hp2 _ (Ex.refl _)
      have hm1 : CMulX 32416187567 (c + 1) := mulx_ok (a := 64) (b := 64) (by decide) (by omega) (by decide)
      have hw1' : CPowX (b + 32416187567 * (c + 1)) 3 := pow3_ok (by omega)
      have hw2 : CPowX 10 40 := ⟨by decide, by decide +kernel⟩
      refine q_asg (by walk_at "ev") fun H3 e3 => ?_
      have hq3 := hp2 _ e3
      have hm2 : CMulX 27644437 (c + 1) := mulx_ok (a := 64) (b := 64) (by decide) (by omega) (by decide)
      generalize hz : (b + 32416187567 * (c + 1)) ^ (3 : Int).toNat % ((10 : Int) ^ (40 : Int).toNat + 121) = z
      have hz0 : 0 ≤ z := by
        rw [← hz]
        exact Int.emod_nonneg _ (by decide)
      have hz1 : z < (10 : Int) ^ (40 : Int).toNat + 121 := by
        rw [← hz]
        exact Int.emod_lt_of_pos _ (by decide)
      have hz2 : z < 2 ^ 200 := Int.lt_trans hz1 (by decide)
      have hw3 : CPowX (z + 27644437 * (c + 1)) 3 := pow3_ok (by omega)
      have hw4 : CPowX 10 39 := ⟨by decide, by decide +kernel⟩
      refine q_asg (by walk_at "ev") fun H4 e4 => ?_
      generalize (z + 27644437 * (c + 1)) ^ (3 : Int).toNat % ((10 : Int) ^ (39 : Int).toNat + 3) = y
      have hd : CDivW y 16381 := divw_ok (by decide) (by decide)
      refine s_ret (by walk_at "ev") fun H5 e5 => ?_
      refine k _ _ (Int.emod_nonneg _ (by omega)) (Int.emod_lt_of_pos _ hw0) ⟨a, b, c + 1, hp2 _ (e3.trans (e4.trans e5)), ⟨hb0, hb1⟩, by omega, by omega⟩ ?_
      exact Ex.trans (Ex.mut (hm_sub.trans (e1.trans e2)) hp0) (e3.trans (e4.trans e5))
theorem ok_law_store (T : Tx K mg) : FnOk P w K mg base CX0 1 T.f_law_store T.d_law_store ["script", "k"] (sp_law_store K) := by
  refine T.F_law_store.ok sc_law_store (fun vs H Q E h => ?_) (fun cdv A outer s H vs Q E hr h => ?_)
  · obtain ⟨a, ns, i, rfl, _⟩ := h
    rfl
  · obtain ⟨a, ns, i, rfl, hs, hi, k⟩ := h
    refine ⟨_, (pss_cons (ps_set (i := 2) sc_law_store.nd rfl (Or.inl rfl) (pe_ifExp (pt_cmpR op_lt (pv 1) (pe_callB call_lenR (by rfl) T.m_len (by decide +kernel) (pa_cons (pv 0) pa_nil)) (nomark _)) (pe_callB call_absR (by rfl) T.m_abs (by decide +kernel) (pa_cons (pe_ix ix_list (pv 0) (pv 1) (fun _ _ => rfl)) pa_nil)) pe_int))
      (pss_one (ps_ret (pe_lst (pa_cons (pe_callB (call_maxR rfl) (by rfl) T.m_max (by decide +kernel) (pa_cons pe_int (pa_cons (pe_op op_sub (pv 2) (pe_op op_powX pe_int pe_int)) pa_nil))) (pa_cons (pe_op op_add (pe_op op_mulX (pe_op op_mod (pe_callTy call_intI (by rfl) T.m_int (by decide +kernel) (pa_cons (pv 2) pa_nil)) (pe_op op_add (pe_op op_powX pe_int pe_int) pe_int)) pe_int) (pe_op op_mulX pe_int (pv 1))) (pa_cons pe_int pa_nil))))))), ?_⟩
    have hlen : (ns.map V.int).length = ns.length := List.length_map ..
    refine q_asg (v := .int (if ns.getD i 0 < 0 then -(ns.getD i 0) else ns.getD i 0)) ?_ fun H1 e1 => ?_
    · refine ev_if (b := decide ((i : Int) < ((ns.map V.int).length : Int))) (by walk_at "et") (fun hb => ?_) (fun hb => ?_)
      · have hb := of_decide_eq_true hb
        rw [hlen] at hb
        have hlt : i < ns.length := by omega
        refine ev_abs (ev_op (ev_var rfl) (ev_var rfl) (rv_ixL hs (atI_nat (j := i) ?_)))
        rw [List.getElem?_map, List.getElem?_eq_getElem hlt]
        simp [List.getD_eq_getElem?_getD, hlt]
      · have hb := of_decide_eq_false hb
        rw [hlen] at hb
        have e0 : ns.getD i 0 = 0 := by
          rw [List.getD_eq_getElem?_getD, List.getElem?_eq_none (by omega)]
          rfl
        rw [e0]
        exact ev_c (v := .int 0)
    · generalize (if ns.getD i 0 < 0 then -(ns.getD i 0) else ns.getD i 0) = z
      have hw1 : CPowX 10 18 := ⟨by decide, by decide +kernel⟩
      have hw2 : CPowX 10 37 := ⟨by decide, by decide +kernel⟩
      have hy0 : 0 ≤ z % ((10 : Int) ^ (37 : Int).toNat + 43) := Int.emod_nonneg _ (by decide)
      have hy1 : z % ((10 : Int) ^ (37 : Int).toNat + 43) < (10 : Int) ^ (37 : Int).toNat + 43 := Int.emod_lt_of_pos _ (by decide)
      have hy2 : z % ((10 : Int) ^ (37 : Int).toNat + 43) < 2 ^ 150 := Int.lt_trans hy1 (by decide)
      have hpos : 0 < (10 : Int) ^ (37 : Int).toNat + 43 := by decide
      have hm1 : CMulX (z % ((10 : Int) ^ (37 : Int).toNat + 43)) 83 := mulx_ok (a := 150) (b := 64) (by omega) (by decide) (by decide)
      have hm2 : CMulX 7 (i : Int) := mulx_ok (a := 64) (b := 64) (by decide) (by omega) (by decide)
      refine s_retL (el_lst (ea_cons (by walk_at "ev") (ea_cons (by walk_at "ev") (ea_cons ev_c ea_nil))) (Nat.le_of_ble_eq_true rfl)) fun p H2 hp e2 hl => ?_
      refine k p H2 (fresh_back e1 hp) (e1.trans e2) ⟨_, _, _, hl, ⟨?_, ?_⟩, by omega, by omega⟩
      · generalize z % ((10 : Int) ^ (37 : Int).toNat + 43) = y at hy0 hy2 ⊢
        omega
      · generalize z % ((10 : Int) ^ (37 : Int).toNat + 43) = y at hy0 hy2 ⊢
        omega
end

/-! ### expressions that draw -/
theorem hm_trans {p : Addr} {H H1 H2 : Hp} (a : Ex (Hm p H) H1) (b : Ex (Hm p H1) H2) : Ex (Hm p H) H2 := fun x o h => by
  have ne : x ≠ p := fun z => by
    subst z
    rw [hm_p] at h
    cases h
  have h1 := a x o h
  refine b x o ?_
  unfold Hm
  rw [if_neg ne]
  exact h1
theorem hm_next {p : Addr} {H0 H H1 : Hp} (h0 : H0 p = none) (e : Ex H0 H) (s : Ex (Hm p H) H1) : Ex H0 H1 := (ex_hm e h0).trans s
theorem hm_of {p : Addr} {H H1 : Hp} (e : Ex H H1) : Ex (Hm p H) H1 := hm_sub.trans e
theorem hm_at {p a : Addr} {H H1 : Hp} {o : HO} (s : Ex (Hm p H) H1) (ne : a ≠ p) (h : H a = some o) : H1 a = some o := s a o (by
  unfold Hm
  rw [if_neg ne]
  exact h)
theorem Po.ne {p l : Addr} {n : Nat} {H : Hp} (h : Po p n H) (hl : H l = none) : l ≠ p := fun z => by
  subst z
  obtain ⟨_, _, _, h1, _⟩ := h
  rw [hl] at h1
  cases h1
def EvP (p : Addr) (k : Nat) (te : TE) (σ : L2.St) (H0 : Hp) (R : V → Hp → Prop) : Prop := ∀ n H1, Ex H0 H1 → Po p n H1 → n + k ≤ 1000000000 →
  ∀ Q : VK, (∀ v H2, R v H2 → Po p (n + k) H2 → Ex (Hm p H1) H2 → Q v H2) → te σ H1 Q
def Stb (p : Addr) (R : V → Hp → Prop) : Prop := ∀ v H H', R v H → Ex (Hm p H) H' → R v H'
section
variable {K : PySem.W.Frag} {σ : L2.St} {H0 H : Hp} {p : Addr} {k k1 k2 : Nat} {te ta tb : TE} {R Ra Rb : V → Hp → Prop}
theorem ep_ev {v : V} (h : Ev te σ H0 v) : EvP p 0 te σ H0 (fun x _ => x = v) := fun n H1 e hp _ Q q => h H1 e Q fun H2 e2 => q v H2 rfl (hp.ex e2) (hm_of e2)
theorem ep_L {xs : List V} (h : EvL te σ H0 xs) : EvP p 0 te σ H0 (fun x H => ∃ l, l ≠ p ∧ x = .ref l ∧ H l = some (.lst xs)) := fun n H1 e hp _ Q q => h H1 e Q fun l H2 hl e2 h2 => q _ H2 ⟨l, hp.ne hl, rfl, h2⟩ (hp.ex e2) (hm_of e2)
theorem stb_L {xs : List V} : Stb p (fun x H => ∃ l, l ≠ p ∧ x = .ref l ∧ H l = some (.lst xs)) := fun v H H' ⟨l, ne, e, h⟩ s => ⟨l, ne, e, hm_at s ne h⟩
theorem stb_c {C : V → Prop} : Stb p (fun x _ => C x) := fun _ _ _ h _ => h
theorem ep_op {r : R2} (h0 : H0 p = none) (ha : EvP p k1 ta σ H0 Ra) (hb : EvP p k2 tb σ H0 Rb) (s1 : Stb p Ra) (s : Stb p R) (hr : ∀ x y H, Ra x H → Rb y H → ∃ z, R z H ∧ RV r x y H z) : EvP p (k1 + k2) (tOp r ta tb) σ H0 R :=
  fun n H1 e hp hn Q q => ha n H1 e hp (by omega) _ fun x H2 hx p2 e2 => hb (n + k1) H2 (hm_next h0 e e2) p2 (by omega) _ fun y H3 hy p3 e3 => by
    obtain ⟨z, hz, hv⟩ := hr x y H3 (s1 x H2 H3 hx e3) hy
    refine hv H3 (Ex.refl H3) Q fun H4 e4 => q z H4 (s z H3 H4 hz (hm_of e4)) ?_ (hm_trans (hm_trans e2 e3) (hm_of e4))
    rw [← Nat.add_assoc]
    exact p3.ex e4
theorem ep_dip {tw : TE} {E : XK} {C : Int → Prop} (h0 : H0 p = none) (hp : Ev ta σ H0 (.ref p)) (hw : EvP p k tw σ H0 (fun v _ => ∃ w, v = .int w ∧ 0 < w ∧ w < 2 ^ 200 ∧ C w)) :
    EvP p (k + 1) (tCall sp_law_pick [] E (tCons ta (tCons tw tNil))) σ H0 (fun v _ => ∃ r w, v = .int r ∧ 0 ≤ r ∧ r < w ∧ C w) :=
  fun n H1 e hpo hn Q q => hp H1 e _ fun H2 e2 => hw n H2 (e.trans e2) (hpo.ex e2) (by omega) _ fun y H3 hy p3 e3 => by
    obtain ⟨w, rfl, w0, w1, c⟩ := hy
    exact ⟨p, n + k, w, rfl, p3, by omega, w0, w1, fun r H' r0 r1 p4 e4 => q _ H' ⟨r, w, rfl, r0, r1, c⟩ p4 (hm_trans (hm_trans (hm_of e2) e3) e4)⟩
theorem ep_is {R' : V → Hp → Prop} (h : EvP p k te σ H0 R) (e : ∀ v H, R v H → R' v H) : EvP p k te σ H0 R' := fun n H1 a b c Q q => h n H1 a b c Q fun v H2 hv => q v H2 (e v H2 hv)
/-- the width is a pure int -/
theorem ep_dipI {tw : TE} {E : XK} {w : Int} (h0 : H0 p = none) (hp : Ev ta σ H0 (.ref p)) (hw : Ev tw σ H0 (.int w)) (w0 : 0 < w) (w1 : w < 2 ^ 200) :
    EvP p 1 (tCall sp_law_pick [] E (tCons ta (tCons tw tNil))) σ H0 (fun v _ => ∃ r, v = .int r ∧ 0 ≤ r ∧ r < w) :=
  ep_is (ep_dip (k := 0) (C := fun z => z = w) h0 hp (ep_is (ep_ev hw) fun v H e => ⟨w, e, w0, w1, rfl⟩)) fun v H ⟨r, z, e, r0, r1, e2⟩ => ⟨r, e, r0, e2 ▸ r1⟩
/-- a + b, b drawn -/
theorem ep_add {a : Int} {C : Int → Prop} (h0 : H0 p = none) (ha : Ev ta σ H0 (.int a)) (hb : EvP p k tb σ H0 (fun v _ => ∃ r, v = .int r ∧ C r)) : EvP p (0 + k) (tOp (rI0 fun i j => .int (i + j)) ta tb) σ H0 (fun v _ => ∃ r, v = .int (a + r) ∧ C r) :=
  ep_op h0 (ep_ev ha) hb stb_c stb_c fun x y H e ⟨r, e2, c⟩ => ⟨.int (a + r), ⟨r, rfl, c⟩, by
    subst e
    subst e2
    exact rv_I0⟩
theorem p_asg {i n : Nat} {D : Ends} (h : EvP p k te σ H0 R) (e : Ex H0 H) (hp : Po p n H) (hn : n + k ≤ 1000000000) (q : ∀ v H2, R v H2 → Po p (n + k) H2 → Ex (Hm p H) H2 → D.nx (σ.set i (some v)) H2) : tAsg te (gName i) D σ H := h n H e hp hn _ q
theorem pq_asg {i n : Nat} {D : Ends} {tz : TS} (h : EvP p k te σ H0 R) (e : Ex H0 H) (hp : Po p n H) (hn : n + k ≤ 1000000000) (q : ∀ v H2, R v H2 → Po p (n + k) H2 → Ex (Hm p H) H2 → tz D (σ.set i (some v)) H2) : tSeq (tAsg te (gName i)) tz D σ H := h n H e hp hn _ q
/-- tests that draw -/
def EtP (p : Addr) (k : Nat) (t : TT) (σ : L2.St) (H0 : Hp) (b : Bool) : Prop := ∀ n H1, Ex H0 H1 → Po p n H1 → n + k ≤ 1000000000 →
  ∀ Q : Bool → Hp → Prop, (∀ H2, Po p (n + k) H2 → Ex (Hm p H1) H2 → Q b H2) → t σ H1 Q
variable {t u : TT} {b c : Bool}
theorem tp_B (h : EvP p k te σ H0 (fun v _ => v = .bl b)) : EtP p k (tB te) σ H0 b := fun n H1 e hp hn Q q => h n H1 e hp hn _ fun v H2 hv p2 e2 => ⟨b, hv, q H2 p2 e2⟩
theorem tp_not (h : EtP p k t σ H0 b) : EtP p k (tNot t) σ H0 (!b) := fun n H1 e hp hn Q q => h n H1 e hp hn _ fun H2 p2 e2 => q H2 p2 e2
theorem tp_is (h : EtP p k t σ H0 b) (e : b = c) : EtP p k t σ H0 c := e ▸ h
theorem tp_or (h0 : H0 p = none) (h : EtP p k1 t σ H0 false) (h' : EtP p k2 u σ H0 b) : EtP p (k1 + k2) (tOr t u) σ H0 b := fun n H1 e hp hn Q q => h n H1 e hp (by omega) _ fun H2 p2 e2 => by
  show u σ H2 Q
  refine h' (n + k1) H2 (hm_next h0 e e2) p2 (by omega) Q fun H3 p3 e3 => q H3 ?_ (hm_trans e2 e3)
  rw [← Nat.add_assoc]
  exact p3
theorem tp_et (h : EvT t σ H0 b) : EtP p 0 t σ H0 b := fun n H1 e hp _ Q q => h H1 e Q fun H2 e2 => q H2 (hp.ex e2) (hm_of e2)
/-- a test that is false: what follows -/
theorem pq_no {n : Nat} {D : Ends} {tu tz : TS} (h : EtP p k t σ H0 false) (e : Ex H0 H) (hp : Po p n H) (hn : n + k ≤ 1000000000) (q : ∀ H2, Po p (n + k) H2 → Ex (Hm p H) H2 → tz D σ H2) : tSeq (tIfS t tu tNext) tz D σ H := h n H e hp hn _ q
theorem ps_no {n : Nat} {D : Ends} {tu : TS} (h : EtP p k t σ H0 false) (e : Ex H0 H) (hp : Po p n H) (hn : n + k ≤ 1000000000) (q : ∀ H2, Po p (n + k) H2 → Ex (Hm p H) H2 → D.nx σ H2) : tIfS t tu tNext D σ H := h n H e hp hn _ q
/-- pouch = _law_store(script, at) -/
theorem pq_pouch {ta : TA} {E : XK} {D : Ends} {tz : TS} {j i : Nat} {s : Addr} {ns : List Int} (h : EvA ta σ H [.ref s, .int (i : Int)]) (hs : SqL K H s (ns.map V.int)) (hi : i ≤ 100) (q : ∀ p H2, H p = none → Ex H H2 → Po p 0 H2 → tz D (σ.set j (some (.ref p))) H2) :
    tSeq (tAsg (tCall (sp_law_store K) [] E ta) (gName j)) tz D σ H := h H (Ex.refl H) _ fun H1 e1 => ⟨s, ns, i, rfl, ex_l e1 hs, hi, fun p H2 hp e2 hpo => q p H2 (fresh_back e1 hp) (e1.trans e2) hpo⟩
end


/-! ### whole numbers, checks, what is raised -/
def iz (xs : List Nat) : List Int := xs.map fun x : Nat => (x : Int)
def nv (xs : List Nat) : List V := (iz xs).map V.int
theorem nv_len (xs : List Nat) : (nv xs).length = xs.length := by simp [nv, iz]
theorem nv_get {xs : List Nat} {i x : Nat} (h : xs[i]? = some x) : (nv xs)[i]? = some (.int x) := by simp [nv, iz, h]
theorem nv_app (xs ys : List Nat) : nv (xs ++ ys) = nv xs ++ nv ys := by simp [nv, iz]
theorem nv_eq (xs : List Nat) : nv xs = xs.map fun x : Nat => V.int (x : Int) := by simp [nv, iz]
theorem el_mapI {K : PySem.W.Frag} {σ : L2.St} {H : Hp} {te tl : TE} {a : Addr} {xs : List V} {j : Nat} {vs : List Nat} (f : Nat → V) (h : Ev tl σ H (.ref a)) (hx : SqL K H a xs) (hz : xs.length ≤ 40000) (hw : ∀ x, wipe ((wipe σ vs).set j (some x)) vs = wipe σ vs)
    (he : ∀ (i : Nat) (x : V) H1, Ex H H1 → xs[i]? = some x → Ev te ((wipe σ vs).set j (some x)) H1 (f i)) : EvL (tLc (iList K tl) (gName j) tYes te vs) σ H ((List.range xs.length).map f) := by
  have e : (List.range xs.length).map f = given xs.length (fun _ => true) f := by
    unfold given
    rw [List.filter_eq_self.mpr (fun _ _ => rfl)]
  rw [e]
  exact el_lcL _ _ h hx hz hw (fun _ _ _ _ _ => et_yes) fun i x H1 e hi _ => he i x H1 e hi
theorem range_iz (n : Nat) : rgV 0 (n : Int) = nv (List.range n) := by
  rw [nv_eq]
  unfold rgV
  simp
def intsOf (ds : List PyData) : List Int := ds.map Kit.numOf
theorem eqv_ints_eq {xs ys : List Int} (h : PyData.eqv (.list (xs.map PyData.int)) (.list (ys.map PyData.int)) = true) : xs = ys := by
  have key : ∀ xs ys : List Int, PyData.eqvAll (xs.map PyData.int) (ys.map PyData.int) = true → xs = ys := by
    intro xs
    induction xs with
    | nil =>
      intro ys h
      cases ys with
      | nil => rfl
      | cons y r => simp [PyData.eqvAll] at h
    | cons x s ih =>
      intro ys h
      cases ys with
      | nil => simp [PyData.eqvAll] at h
      | cons y r =>
        simp only [List.map_cons, PyData.eqvAll, Bool.and_eq_true, PyData.eqv] at h
        rw [ih r h.2]
        have := h.1
        simp at this
        rw [this]
  exact key xs ys h
theorem nat_of_ints : ∀ {ns : List Int}, (∀ n ∈ ns, 0 ≤ n) → ∃ h : List Nat, ns = iz h
  | [], _ => ⟨[], rfl⟩
  | n :: r, hh => by
    obtain ⟨h, e⟩ := nat_of_ints fun m hm => hh m (List.mem_cons_of_mem _ hm)
    refine ⟨n.toNat :: h, ?_⟩
    have := hh n List.mem_cons_self
    rw [e]
    show n :: iz h = ((n.toNat : Nat) : Int) :: iz h
    rw [show ((n.toNat : Nat) : Int) = n by omega]
def EvS (n : Nat) (te : TE) (σ : L2.St) (H : Hp) : Prop := ∀ H1, Ex H H1 → ∀ Q : VK, (∀ y H2, Ex H1 H2 → y.length ≤ n → Q (.str y) H2) → te σ H1 Q
section
variable {K : PySem.W.Frag} {σ : L2.St} {H H' : Hp} {te : TE}
theorem es_c {z : Str} {n : Nat} (h : z.length ≤ n) : EvS n (tC (.str z)) σ H := fun H1 _ Q q => q z H1 (Ex.refl _) h
theorem es_fmt {i : Int} (h : Ev te σ H (.int i)) (hb : i.natAbs < 2 ^ 1900) : EvS 1921 (tFmt te) σ H := fun H1 e Q q => h H1 e _ fun H2 e2 => .inr ⟨i, rfl, by
  by_cases z : i.natAbs = 0
  · rw [z]
    decide
  · exact Nat.lt_of_lt_of_le ((Nat.log2_lt z).mpr hb) (by decide), q _ H2 e2 (by
  refine int_text_len_1921 ?_
  by_cases z : i.natAbs = 0
  · rw [z]
    decide
  · exact Nat.lt_of_lt_of_le ((Nat.log2_lt z).mpr hb) (by decide))⟩
theorem tjs_nil {acc : Str} {Q : Str → Hp → Prop} (q : ∀ y, Q y H) : tJs [] acc σ H Q := q acc
theorem str_app_len (a b : Str) : (a ++ b).length = a.length + b.length := by
  show (Str.mk (a.cps ++ b.cps)).cps.size = _
  rw [Array.size_append]
  rfl
theorem tjs_go {n : Nat} : ∀ {ts : List TE} {acc : Str} {H1 : Hp} {Q : Str → Hp → Prop}, (∀ t ∈ ts, EvS n t σ H) → Ex H H1 → acc.length + ts.length * n ≤ 100000 → (∀ y H2, Ex H1 H2 → Q y H2) → tJs ts acc σ H1 Q
  | [], acc, H1, Q, _, _, _, q => q acc H1 (Ex.refl _)
  | t :: ts, acc, H1, Q, h, e, hz, q => h t List.mem_cons_self H1 e _ fun y H2 e2 hy => by
    rw [List.length_cons, Nat.add_mul, Nat.one_mul] at hz
    have hl := str_app_len acc y
    exact ⟨y, rfl, sz_of (by omega), tjs_go (fun t ht => h t (List.mem_cons_of_mem _ ht)) (e.trans e2) (by omega) fun z H3 e3 => q z H3 (e2.trans e3)⟩
end
def sp_chk1 (C : Addr) (lo hi : Int) : Sp := fun vs H Q E => ∃ x : Int, vs = [.int x] ∧ Out (if lo ≤ x ∧ x ≤ hi then none else some C) H Q E
def sp_chkN (C : Addr) : Sp := fun vs H Q E => ∃ x lo hi : Int, vs = [.int x, .int lo, .int hi] ∧ lo.natAbs < 2 ^ 1900 ∧ hi.natAbs < 2 ^ 1900 ∧ Out (if lo ≤ x ∧ x ≤ hi then none else some C) H Q E
theorem so_chk1 {C : Addr} {lo hi x : Int} {H : Hp} : SpO (sp_chk1 C lo hi) ([.int x] ++ []) H (if lo ≤ x ∧ x ≤ hi then none else some C) := fun H1 e Q E q => ⟨x, rfl, q⟩
theorem so_chkN {C : Addr} {lo hi x : Int} {H : Hp} (h0 : lo.natAbs < 2 ^ 1900) (h1 : hi.natAbs < 2 ^ 1900) : SpO (sp_chkN C) ([.int x, .int lo, .int hi] ++ []) H (if lo ≤ x ∧ x ≤ hi then none else some C) := fun H1 e Q E q => ⟨x, lo, hi, rfl, h0, h1, q⟩
theorem due_no {p : Prop} [Decidable p] {C : Addr} (h : (if p then none else some C) = none) : p := by
  by_cases hp : p
  · exact hp
  · rw [if_neg hp] at h
    cases h
theorem due_yes {p : Prop} [Decidable p] {C D : Addr} (h : (if p then none else some C) = some D) : ¬ p ∧ D = C := by
  by_cases hp : p
  · rw [if_pos hp] at h
    cases h
  · rw [if_neg hp] at h
    exact ⟨hp, (Option.some.inj h).symm⟩
def sp_chkG (C : Addr) : Sp := fun vs H Q E => ∃ x m : Int, vs = [.int x, .int m] ∧ (0 ≤ m ∧ m ≤ 1000) ∧ Out (if 0 ≤ x ∧ x < m then none else some C) H Q E
theorem so_chkG {C : Addr} {m x : Int} {H : Hp} (h1 : 0 ≤ m ∧ m ≤ 1000) : SpO (sp_chkG C) ([.int x, .int m] ++ []) H (if 0 ≤ x ∧ x < m then none else some C) := fun H1 e Q E q => ⟨x, m, rfl, h1, q⟩
section
variable {P : Program} {w : World} {K : PySem.W.Frag} {mg : Str → Option Value} {base : Heap}
/-- an error's class and word by its number -/
def erA (T : Tx K mg) : Nat → Addr
  | 0 => T.cl_InvalidGuests
  | 1 => T.cl_InvalidWeight
  | 2 => T.cl_InvalidGuest
  | 3 => T.cl_InvalidGroup
  | 4 => T.cl_InvalidGroups
  | _ => T.cl_InvalidNumber
def erW : Nat → Str
  | 0 => "halls"
  | 1 => "heavy"
  | 2 => "who"
  | 3 => "gang"
  | 4 => "lots"
  | _ => "far"
end
def sp_chkAny : Sp := fun vs H Q E => ∃ x : Int, vs = [.int x] ∧ Out none H Q E
theorem so_chkAny {x : Int} {H : Hp} : SpO sp_chkAny ([.int x] ++ []) H none := fun H1 e Q E q => ⟨x, rfl, q⟩
def inD (l m : Int) : PyData → Bool
  | .int i => decide (l ≤ i) && decide (i ≤ m)
  | _ => false
def sp_is_whole : Sp := fun vs H Q _ => ∃ (v : V) (d : PyData), vs = [v] ∧ Tk 3 H v d ∧ RetV (.bl (isI d)) H Q
theorem sv_whole {H : Hp} {x : Int} : SpV sp_is_whole ([.int x] ++ []) H (.bl true) := fun H1 _ Q q E => ⟨.int x, .int x, rfl, tk_int x, q⟩
theorem sv_wholeD {H : Hp} {v : V} {d : PyData} (h : Tk 3 H v d) : SpV sp_is_whole ([v] ++ []) H (.bl (isI d)) := fun H1 e Q q E => ⟨v, d, rfl, h.ex e, q⟩
def sp_is_within : Sp := fun vs H Q _ => ∃ (v : V) (d : PyData) (l m : Int), vs = [v, .int l, .int m] ∧ Tk 3 H v d ∧ RetV (.bl (inD l m d)) H Q
theorem sv_within {H : Hp} {v : V} {d : PyData} {l m : Int} (h : Tk 3 H v d) : SpV sp_is_within ([v, .int l, .int m] ++ []) H (.bl (inD l m d)) := fun H1 e Q q E => ⟨v, d, l, m, rfl, h.ex e, q⟩
theorem sv_between {H : Hp} {x l m : Int} : SpV sp_is_within ([.int x, .int l, .int m] ++ []) H (.bl (decide (l ≤ x) && decide (x ≤ m))) := fun H1 _ Q q E => ⟨.int x, .int x, l, m, rfl, tk_int x, q⟩
theorem tk_intv {n : Nat} {H : Hp} {v : V} {i : Int} (h : Tk n H v (.int i)) : v = .int i := by
  cases n with
  | zero => cases h; rfl
  | succ n =>
    rcases h with h | ⟨a, xs, ds, _, h2, _⟩ | ⟨a, xs, ds, _, h2, _⟩
    · cases h; rfl
    · cases h2
    · cases h2
section
variable {P : Program} {w : World} {K : PySem.W.Frag} {mg : Str → Option Value} {base : Heap}
theorem ok_is_whole (T : Tx K mg) : FnOk P w K mg base CX0 1 T.f_is_whole T.d_is_whole ["thing"] sp_is_whole := by
  refine T.F_is_whole.ok sc_is_whole (fun vs H Q E h => ?_) (fun cdv A outer s H vs Q E hr h => ?_)
  · obtain ⟨v, d, rfl, _⟩ := h
    rfl
  · obtain ⟨v, d, rfl, hv, k⟩ := h
    refine ⟨_, (pss_one (ps_ret (pe_cmpR op_eqTy (pe_typeOf (by rfl) T.m_type (pv 0)) (pe_bltn (v := .ty "int") (by rfl) T.m_int (by decide +kernel) rfl) (nomark _)))), ?_⟩
    exact s_ret (ev_isWhole3 (ev_var rfl) hv) fun H1 e1 => k _ e1
local macro_rules | `(tactic| walk_at "call") => `(tactic| (with_reducible exact sv_whole))
theorem ok_is_within (T : Tx K mg) : FnOk P w K mg base CX0 2 T.f_is_within T.d_is_within ["thing", "least", "most"] sp_is_within := by
  refine T.F_is_within.ok sc_is_within (fun vs H Q E h => ?_) (fun cdv A outer s H vs Q E hr h => ?_)
  · obtain ⟨v, d, l, m, rfl, _⟩ := h
    rfl
  · obtain ⟨v, d, l, m, rfl, hv, k⟩ := h
    refine ⟨_, (pss_one (ps_ret (pe_and (pe_call (ok_is_whole T) (hr.mono (by decide)) (by rfl) T.g_is_whole T.F_is_whole.kp T.b_is_whole .nil pass0 (pa_cons (pv 0) pa_nil)) (pe_one (pe_chain op_le op_le (pv 1) (pv 0) (pv 2)))))), ?_⟩
    cases hd : isI d with
    | false =>
      have e : inD l m d = false := by cases d <;> first | rfl | exact Bool.noConfusion hd
      rw [e] at k
      have wh := ev_call (E := E0) (ea_cons (ev_var (i := 0) (v := v) (σ := start n_is_within [v, .int l, .int m]) (H := H) rfl) ea_nil) (sv_wholeD hv)
      rw [hd] at wh
      exact s_ret (ev_is (ev_andV (b := false) wh fun z => Bool.noConfusion z) rfl) fun H1 e1 => k _ e1
    | true =>
      cases d with
      | int i =>
        obtain rfl := tk_intv hv
        refine s_ret (v := .bl (inD l m (.int i))) (ev_is (by walk_at "ev") (by rfl)) fun H1 e1 => k _ e1
      | _ => exact Bool.noConfusion hd
local macro_rules | `(tactic| walk_at "call") => `(tactic| (with_reducible exact sv_between))
theorem ok_check_guests (T : Tx K mg) : FnOk P w K mg base (L2N.CX P w) 3 T.f_check_guests T.d_check_guests ["guests"] (sp_chk1 T.cl_InvalidGuests 1 20) := by
  refine Kit.okN T.F_check_guests sc_check_guests (fun vs H Q E h => ?_) (fun cdv A outer s H vs Q E hr h => ?_)
  · obtain ⟨x, rfl, _⟩ := h
    rfl
  · obtain ⟨x, rfl, k⟩ := h
    refine ⟨_, (pss_one (ps_if (pt_not (pt_val (pe_call (ok_is_within T) (hr.mono (by decide)) (by rfl) T.g_is_within T.F_is_within.kp T.b_is_within .nil pass0 (pa_cons (pv 0) (pa_cons pe_int (pa_cons (pe_gc (by rfl) T.c_MOST_GUESTS) pa_nil)))))) (pss_one (Kit.ps_raiseN rfl Kit.takesN T.e_InvalidGuests T.gc_InvalidGuests (by rfl) pe_str)) pss_nil)), ?_⟩
    refine s_when (by walk_at "et") (fun hb H1 e1 => ?_) fun hb H1 e1 => ?_
    · exact k.yes _ (if_neg fun z => by simp at hb; omega) _ e1
    · exact k.no (if_pos (by simpa using hb)) _ _ e1
theorem ok_check_weight (T : Tx K mg) : FnOk P w K mg base (L2N.CX P w) 3 T.f_check_weight T.d_check_weight ["weight"] (sp_chk1 T.cl_InvalidWeight 1 1000000000000) := by
  refine Kit.okN T.F_check_weight sc_check_weight (fun vs H Q E h => ?_) (fun cdv A outer s H vs Q E hr h => ?_)
  · obtain ⟨x, rfl, _⟩ := h
    rfl
  · obtain ⟨x, rfl, k⟩ := h
    refine ⟨_, (pss_one (ps_if (pt_not (pt_val (pe_call (ok_is_within T) (hr.mono (by decide)) (by rfl) T.g_is_within T.F_is_within.kp T.b_is_within .nil pass0 (pa_cons (pv 0) (pa_cons pe_int (pa_cons (pe_gc (by rfl) T.c_MOST_WEIGHT) pa_nil)))))) (pss_one (Kit.ps_raiseN rfl Kit.takesN T.e_InvalidWeight T.gc_InvalidWeight (by rfl) pe_str)) pss_nil)), ?_⟩
    refine s_when (by walk_at "et") (fun hb H1 e1 => ?_) fun hb H1 e1 => ?_
    · exact k.yes _ (if_neg fun z => by simp at hb; omega) _ e1
    · exact k.no (if_pos (by simpa using hb)) _ _ e1
theorem ok_check_number (T : Tx K mg) : FnOk P w K mg base (L2N.CX P w) 3 T.f_check_number T.d_check_number ["number", "least", "most"] (sp_chkN T.cl_InvalidNumber) := by
  refine Kit.okN T.F_check_number sc_check_number (fun vs H Q E h => ?_) (fun cdv A outer s H vs Q E hr h => ?_)
  · obtain ⟨x, lo, hi, rfl, _⟩ := h
    rfl
  · obtain ⟨x, lo, hi, rfl, h0, h1, k⟩ := h
    refine ⟨_, (pss_one (ps_if (pt_not (pt_val (pe_call (ok_is_within T) (hr.mono (by decide)) (by rfl) T.g_is_within T.F_is_within.kp T.b_is_within .nil pass0 (pa_cons (pv 0) (pa_cons (pv 1) (pa_cons (pv 2) pa_nil)))))) (pss_one (Kit.ps_raiseN rfl Kit.takesN T.e_InvalidNumber T.gc_InvalidNumber (by rfl) (pe_joined (PJ.cons pe_str (PJ.cons (pe_fmt (pv 1)) (PJ.cons pe_str (PJ.cons (pe_fmt (pv 2)) PJ.nil))))))) pss_nil)), ?_⟩
    refine s_when (by walk_at "et") (fun hb H1 e1 => ?_) fun hb H1 e1 => ?_
    · exact tjs_go (n := 2000) (σ := start n_check_number [.int x, .int lo, .int hi]) (H := H1) (fun t ht => by
        simp only [List.mem_cons, List.not_mem_nil, or_false] at ht
        rcases ht with rfl | rfl | rfl | rfl
        · exact es_c (by decide +kernel)
        · exact fun H2 e2 Q q => es_fmt (ev_var rfl) h0 H2 e2 Q fun y H3 e3 hy => q y H3 e3 (by omega)
        · exact es_c (by decide +kernel)
        · exact fun H2 e2 Q q => es_fmt (ev_var rfl) h1 H2 e2 Q fun y H3 e3 hy => q y H3 e3 (by omega)) (Ex.refl _) (by decide) fun y H2 e2 => k.yes _ (if_neg fun z => by simp at hb; omega) _ (e1.trans e2)
    · exact k.no (if_pos (by simpa using hb)) _ _ e1
theorem ok_check_guest (T : Tx K mg) : FnOk P w K mg base (L2N.CX P w) 3 T.f_check_guest T.d_check_guest ["guest", "guests"] (sp_chkG T.cl_InvalidGuest) := by
  refine Kit.okN T.F_check_guest sc_check_guest (fun vs H Q E h => ?_) (fun cdv A outer s H vs Q E hr h => ?_)
  · obtain ⟨x, m, rfl, _⟩ := h
    rfl
  · obtain ⟨x, m, rfl, h1, k⟩ := h
    have hm1 : (m - 1).natAbs < 2 ^ 1900 := Nat.lt_of_le_of_lt (m := 1000) (by omega) (by decide +kernel)
    refine ⟨_, (pss_one (ps_if (pt_not (pt_val (pe_call (ok_is_within T) (hr.mono (by decide)) (by rfl) T.g_is_within T.F_is_within.kp T.b_is_within .nil pass0 (pa_cons (pv 0) (pa_cons pe_int (pa_cons (pe_op op_sub (pv 1) pe_int) pa_nil)))))) (pss_one (Kit.ps_raiseN rfl Kit.takesN T.e_InvalidGuest T.gc_InvalidGuest (by rfl) (pe_joined (PJ.cons pe_str (PJ.cons (pe_fmt (pe_op op_sub (pv 1) pe_int)) PJ.nil))))) pss_nil)), ?_⟩
    refine s_when (by walk_at "et") (fun hb H1 e1 => ?_) fun hb H1 e1 => ?_
    · exact tjs_go (n := 2000) (σ := start n_check_guest [.int x, .int m]) (H := H1) (fun t ht => by
        simp only [List.mem_cons, List.not_mem_nil, or_false] at ht
        rcases ht with rfl | rfl
        · exact es_c (by decide +kernel)
        · exact fun H2 e2 Q q => es_fmt (i := m - 1) (ev_op (ev_var rfl) ev_c rv_I0) hm1 H2 e2 Q fun y H3 e3 hy => q y H3 e3 (by omega)) (Ex.refl _) (by decide) fun y H2 e2 => k.yes _ (if_neg fun z => by simp at hb; omega) _ (e1.trans e2)
    · exact k.no (if_pos (by simp at hb; omega)) _ _ e1
theorem ok_check_any_number (T : Tx K mg) : FnOk P w K mg base (L2N.CX P w) 2 T.f_check_any_number T.d_check_any_number ["number"] sp_chkAny := by
  refine Kit.okN T.F_check_any_number sc_check_any_number (fun vs H Q E h => ?_) (fun cdv A outer s H vs Q E hr h => ?_)
  · obtain ⟨x, rfl, _⟩ := h
    rfl
  · obtain ⟨x, rfl, k⟩ := h
    refine ⟨_, (pss_one (ps_if (pt_not (pt_val (pe_call (ok_is_whole T) (hr.mono (by decide)) (by rfl) T.g_is_whole T.F_is_whole.kp T.b_is_whole .nil pass0 (pa_cons (pv 0) pa_nil)))) (pss_one (Kit.ps_raiseN rfl Kit.takesN T.e_InvalidNumber T.gc_InvalidNumber (by rfl) pe_str)) pss_nil)), ?_⟩
    exact s_when (b := false) (et_not (a := true) (et_B (ev_call (ea_cons (ev_var rfl) ea_nil) sv_whole))) (fun hb H1 e1 => Bool.noConfusion hb) fun hb H1 e1 => k.no rfl _ _ e1
end


/-! ### groups of guests -/
theorem nv_flat (r : List Nat) : (nv r).all flatV = true := by
  rw [nv_eq, List.all_map, List.all_eq_true]
  intro x _
  rfl
theorem nv_in (r : List Nat) (x : Nat) : inV (.int x) (nv r) = decide (x ∈ r) := by
  unfold inV
  rw [nv_eq, List.any_map, Bool.eq_iff_iff, List.any_eq_true, decide_eq_true_iff]
  constructor
  · rintro ⟨y, hy, e⟩
    have : ((y : Int) == (x : Int)) = true := e
    have := eq_of_beq this
    have : y = x := by omega
    exact this ▸ hy
  · intro h
    exact ⟨x, h, beq_self_eq_true _⟩

/-- an ascending list of guests below n -/
structure Gang (n : Nat) (g : List Nat) : Prop where
  ne : g ≠ []
  up : g.Pairwise (· < ·)
  lt : ∀ x ∈ g, x < n
theorem Gang.nd {n : Nat} {g : List Nat} (h : Gang n g) : g.Nodup := h.up.imp fun z => Nat.ne_of_lt z
theorem Gang.len {n : Nat} {g : List Nat} (h : Gang n g) : g.length ≤ n := by
  have := h.nd.length_le_of_subset (l₂ := List.range n) fun x hx => List.mem_range.mpr (h.lt x hx)
  rwa [List.length_range] at this
theorem Gang.pos {n : Nat} {g : List Nat} (h : Gang n g) : 1 ≤ g.length := by
  have := h.ne
  cases g with
  | nil => exact absurd rfl this
  | cons x r => simp
theorem iz_up {g : List Nat} (h : g.Pairwise (· < ·)) : (iz g).Pairwise (· < ·) := by
  unfold iz
  exact List.pairwise_map.mpr (h.imp fun z => by omega)

/-! ### groups without a common guest -/
theorem it_gen {J : It} {n : Nat} {G : Hp → Prop} {Y : Nat → Hp → V → Hp → Prop} (w : Walk J n G Y) {S : Hp} {Qd : Hp → Prop} {B : (Hp → Prop) → V → Hp → Prop} (Pv : Nat → Hp → Prop) (h0 : Pv 0 S) (hG : ∀ i H, i ≤ n → Pv i H → G H)
    (hs : ∀ i x H H', i < n → Pv i H → Y i H x H' → B (Pv (i + 1)) x H') (hd : ∀ H, Pv n H → Qd H) :
    ∃ W : Nat → Nat → Hp → Prop, (∃ m, W 0 m S) ∧ ∀ i m H, W i m H →
      (J.stop i H ∧ Qd H) ∨ (J.go i H ∧ ∃ Nx : Hp → Prop, (∀ H', Nx H' → ∃ m', m' < m ∧ W (i + 1) m' H') ∧ ∀ x H', J.yld i H x H' → B Nx x H') := by
  refine ⟨fun i m H => m = n - i ∧ i ≤ n ∧ Pv i H, ⟨n, by simp, Nat.zero_le _, h0⟩, ?_⟩
  rintro i m H ⟨rfl, hi, p⟩
  have q := hG i H hi p
  by_cases hlt : i < n
  · exact .inr ⟨w.goes i H hlt q, Pv (i + 1), fun H' p' => ⟨n - (i + 1), by omega, rfl, hlt, p'⟩, fun x H' y => hs i x H H' hlt p (w.yields i H x H' hlt q y)⟩
  · have e : i = n := by omega
    subst e
    exact .inl ⟨w.stops H q, hd H p⟩

/-- a list at b -/
def Lb (H : Hp) (v : V) (r : List Nat) : Prop := ∃ b, v = .ref b ∧ H b = some (.lst (nv r))
theorem Lb.ex {H H' : Hp} {v : V} {r : List Nat} (e : Ex H H') (h : Lb H v r) : Lb H' v r := by
  obtain ⟨b, rfl, h⟩ := h
  exact ⟨b, rfl, e b _ h⟩
abbrev PL (H : Hp) (ws : List V) (gs : List (List Nat)) : Prop := Paired (Lb H) ws gs
theorem PL.ex {H H' : Hp} (e : Ex H H') : ∀ {ws : List V} {gs : List (List Nat)}, PL H ws gs → PL H' ws gs
  | [], [], .nil => .nil
  | _ :: _, _ :: _, .cons a r => .cons (a.ex e) (PL.ex e r)
structure Lots (n : Nat) (gs : List (List Nat)) : Prop where
  ne : gs ≠ []
  each : ∀ g ∈ gs, Gang n g
  nd : gs.flatten.Nodup
theorem flat_take {gs : List (List Nat)} {i : Nat} {g : List Nat} (h : gs[i]? = some g) : (gs.take (i + 1)).flatten = (gs.take i).flatten ++ g := by
  rw [List.take_add_one, h, List.flatten_append]
  simp
theorem Lots.all {n : Nat} {gs : List (List Nat)} (o : Lots n gs) : gs.flatten.length ≤ n := by
  have := o.nd.length_le_of_subset (l₂ := List.range n) fun x hx => by
    obtain ⟨g, hg, hx⟩ := List.mem_flatten.mp hx
    exact List.mem_range.mpr ((o.each g hg).lt x hx)
  rwa [List.length_range] at this
theorem flat_ge : ∀ {gs : List (List Nat)}, (∀ g ∈ gs, 1 ≤ g.length) → gs.length ≤ gs.flatten.length
  | [], _ => Nat.le_refl _
  | g :: r, h => by
    have a := flat_ge (gs := r) fun x hx => h x (by simp [hx])
    have b := h g (by simp)
    rw [List.flatten_cons, List.length_append, List.length_cons]
    omega
theorem Lots.len {n : Nat} {gs : List (List Nat)} (o : Lots n gs) : gs.length ≤ n := Nat.le_trans (flat_ge fun g hg => (o.each g hg).pos) o.all
/-- [x for t in ts for x in t], ts a list of lists -/
theorem el_lc2L {K : PySem.W.Frag} {σ : L2.St} {H : Hp} {tl : TE} {j l : Nat} {vs vs1 : List Nat} {a : Addr} {ws : List V} {gs : List (List Nat)} (h : Ev tl σ H (.ref a)) (ha : H a = some (.lst ws)) (ht : PL H ws gs) (hz : gs.flatten.length ≤ 40000)
    (hw : ∀ x, wipe ((wipe σ vs).set j (some x)) vs = wipe σ vs) (hj : ∀ x, ((wipe σ vs).set j (some x))[j]? = some (some x))
    (hw1 : ∀ x y, wipe ((wipe ((wipe σ vs).set j (some x)) vs1).set l (some y)) vs1 = wipe ((wipe σ vs).set j (some x)) vs1) (hl : ∀ x y, ((wipe ((wipe σ vs).set j (some x)) vs1).set l (some y))[l]? = some (some y)) :
    EvL (tLc2 (iList K tl) (gName j) tYes (iList K (tVar j)) (gName l) tYes (tVar l) vs vs1) σ H (nv gs.flatten) := fun H0 e Q q => h H0 e _ fun H1 e1 => ⟨a, rfl, ⟨ws, sq_of (e1 a _ (e a _ ha))⟩, fun Dl hD => by
  have ht := PL.ex (e.trans e1) ht
  have h1 := e1 a _ (e a _ ha)
  have hlen : ws.length = gs.length := Paired.length ht
  refine it_gen walk_list (fun i H' => Ex H1 H' ∧ H' Dl = some (.lst (nv (gs.take i).flatten))) ⟨Ex.new hD, upd_same⟩ (fun i H' _ p => sq_of (p.1 a _ h1)) ?_ fun H' p => ?_
  · rintro i x Hh H' hi ⟨p1, p2⟩ ⟨rfl, hx⟩
    obtain ⟨r, hr, b, rfl, hb⟩ := paired_get ht hx
    have hlr : (gs.take (i + 1)).flatten.length ≤ 40000 := by
      have : (gs.take (i + 1)).flatten.length ≤ gs.flatten.length := by
        conv => rhs; rw [← List.take_append_drop (i + 1) gs, List.flatten_append, List.length_append]
        omega
      omega
    rw [flat_take hr, List.length_append] at hlr
    refine ⟨hw _, ?_⟩
    simp only [tYes, ↓reduceIte]
    refine ⟨.ref b, hj _, b, rfl, ⟨nv r, sq_of (p1 b _ hb)⟩, ?_⟩
    refine it_gen (walk_list (K := K) (a := b) (xs := nv r)) (fun m H2 => Ex H1 H2 ∧ H2 Dl = some (.lst (nv (gs.take i).flatten ++ (nv r).take m))) ⟨p1, by rw [p2]; simp⟩ (fun m H2 _ p => sq_of (p.1 b _ hb)) ?_ fun H2 p => ?_
    · rintro m y H2 H3 hm ⟨p3, p4⟩ ⟨rfl, hy⟩
      refine ⟨hw1 _ _, ?_⟩
      simp only [tYes, ↓reduceIte]
      refine ⟨y, hl _ _, _, p4, sz_lt (by rw [List.length_append, List.length_take, nv_len, nv_len]; omega), Ex.mut p3 hD, ?_⟩
      rw [upd_same, List.take_add_one, hy, List.append_assoc]
      rfl
    · obtain ⟨p3, p4⟩ := p
      refine ⟨p3, ?_⟩
      rw [p4, flat_take hr, List.take_of_length_le (Nat.le_refl _), nv_app]
  · obtain ⟨p1, p2⟩ := p
    rw [hlen, List.take_of_length_le (Nat.le_refl _)] at p2
    exact q Dl H' (fresh_back e1 hD) (e1.trans p1) p2⟩

/-! ### groups -/
def judgeG (m : Int) : Option (List PyData) → Bool
  | none => false
  | some ds => !decide (ds.length = 0) && (ds.all (inD 0 m) && decide ((intsOf ds).Pairwise (· < ·)))
def LenOk (d : PyData) : Prop := ((lsO d).getD []).length ≤ 60
def LenOk2 (d : PyData) : Prop := LenOk d ∧ ∀ e ∈ (lsO d).getD [], LenOk e
def memb (ds : List PyData) : List Int := (ds.map fun d => intsOf ((lsO d).getD [])).flatten
def judgeGs (m : Int) : Option (List PyData) → Bool
  | none => false
  | some ds => ds.all (fun d => judgeG m (lsO d)) && (decide (0 < ds.length) && decide ((memb ds).Nodup))
def upTo (ns : List Int) : List Int := ((List.range 61).map fun i : Nat => (i : Int)).filter fun i => decide (i ∈ ns)
theorem upTo_asc (ns : List Int) : (upTo ns).Pairwise (· < ·) := by
  unfold upTo
  refine List.Pairwise.filter _ ?_
  rw [List.pairwise_map]
  exact List.Pairwise.imp (fun {a b} h => by omega) List.pairwise_lt_range
theorem upTo_mem {ns : List Int} (h : ∀ x ∈ ns, 0 ≤ x ∧ x ≤ 60) (k : Int) : k ∈ upTo ns ↔ k ∈ ns := by
  unfold upTo
  rw [List.mem_filter, decide_eq_true_iff]
  refine ⟨fun z => z.2, fun z => ⟨?_, z⟩⟩
  have := h k z
  exact List.mem_map.mpr ⟨k.toNat, List.mem_range.mpr (by omega), by omega⟩
theorem eqv_refl_ints : ∀ ns : List Int, PyData.eqv (.list (ns.map PyData.int)) (.list (ns.map PyData.int)) = true := by
  have key : ∀ ns : List Int, PyData.eqvAll (ns.map PyData.int) (ns.map PyData.int) = true := fun ns => by
    induction ns with
    | nil => rfl
    | cons x r ih => simp [PyData.eqvAll, PyData.eqv, ih]
  exact key
def sp_asc : Sp := fun vs H Q _ => ∃ (v : V) (d : PyData) (m : Int), vs = [v, .int 0, .int m] ∧ Tg3 H v d ∧ LenOk d ∧ m ≤ 60 ∧ RetV (.bl (judgeG m (lsO d))) H Q
theorem sv_asc {H : Hp} {v : V} {d : PyData} {m : Int} (h : Tg3 H v d) (hz : LenOk d) (hm : m ≤ 60) : SpV sp_asc ([v, .int 0, .int m] ++ []) H (.bl (judgeG m (lsO d))) := fun H1 e Q q E => ⟨v, d, m, rfl, h.ex e, hz, hm, q⟩
def sp_chkGr (C : Addr) : Sp := fun vs H Q E => ∃ (v : V) (d : PyData) (n : Int), vs = [v, .int n] ∧ Tg3 H v d ∧ LenOk d ∧ n ≤ 60 ∧ Out (if judgeG (n - 1) (lsO d) then none else some C) H Q E
theorem so_chkGr {C : Addr} {H : Hp} {v : V} {d : PyData} {n : Int} (h : Tg3 H v d) (hz : LenOk d) (hm : n ≤ 60) : SpO (sp_chkGr C) ([v, .int n] ++ []) H (if judgeG (n - 1) (lsO d) then none else some C) := fun H1 e Q E q => ⟨v, d, n, rfl, h.ex e, hz, hm, q⟩
section
variable {P : Program} {w : World} {K : PySem.W.Frag} {mg : Str → Option Value} {base : Heap}
theorem ok_is_ascending (T : Tx K mg) : FnOk P w K mg base CX0 3 T.f_is_ascending T.d_is_ascending ["thing", "least", "most"] sp_asc := by
  refine T.F_is_ascending.ok sc_is_ascending (fun vs H Q E h => ?_) (fun cdv A outer s H vs Q E hr h => ?_)
  · obtain ⟨v, d, m, rfl, _⟩ := h
    rfl
  · obtain ⟨v, d, m, rfl, hv, hz, hm, k⟩ := h
    refine ⟨_, (pss_cons (ps_if (PW.pt (pw_or (pt_cmpR (op_neTyG (hu_of hr)) (pe_typeOf2 (by rfl) T.m_type (pv 0)) (pe_bltn (v := .ty "list") (by rfl) T.m_list (by decide +kernel) rfl) (nomark _)) (pw_or1 (pt_cmpR op_eq (pe_callB call_lenR (by rfl) T.m_len (by decide +kernel) (pa_cons (pv 0) pa_nil)) pe_int (nomark _))))) (pss_one (ps_ret pe_bl)) pss_nil)
      (pss_cons (ps_if (pt_not (pt_val (pe_callB (cr_all rfl) (by rfl) T.m_all (by decide +kernel) (pa_cons (pe_lc (own := [("item", 3)]) (g := (gName 3)) (tt := tYes) rfl sc_is_ascending.nd (pi_list (pv 0)) (blkOk_by (own := [("item", 3)]) (N := n_is_ascending) (sc := defScope s_is_ascending) (by decide +kernel)) (fun _ _ _ _ _ => (pg_name (i := 3) sc_is_ascending.nd rfl (Or.inl rfl))) (fun _ _ _ _ _ => pts_nil) (fun _ _ _ _ _ => (pe_call (ok_is_within T) (hr.mono (by decide)) (by rfl) T.g_is_within T.F_is_within.kp T.b_is_within .nil pass0 (pa_cons (pv 3) (pa_cons (pv 1) (pa_cons (pv 2) pa_nil)))))) pa_nil)))) (pss_one (ps_ret pe_bl)) pss_nil)
      (pss_one (ps_ret (pe_cmpR (op_eqD hr.units) (pv 0) (pe_callB (id := "sorted") (r := rSortedSet _) (cr_sortedSet rfl) (by rfl) T.m_sorted (by decide +kernel) (pa_cons (pe_callTy (r := rSetI _ _) (cr_setI rfl) (by rfl) T.m_set (by decide +kernel) (pa_cons (pv 0) pa_nil)) pa_nil)) (nomark _)))))), ?_⟩
    cases ho : lsO d with
    | none =>
      rw [ho] at k
      refine q_when (b := true) (et_is (et_or (b := false) (et_test (ev_noList3 (ev_var rfl) hv)) fun z => by rw [ho] at z; exact Bool.noConfusion z) (by rw [ho]; rfl)) (fun _ H1 e1 => ?_) fun hb => Bool.noConfusion hb
      exact s_ret ev_c fun H2 e2 => k _ (e1.trans e2)
    | some ds =>
      rw [ho] at k
      have hz : ds.length ≤ 60 := by
        unfold LenOk at hz
        rw [ho] at hz
        exact hz
      obtain ⟨a, xs, rfl, rfl, ha, hd⟩ := tg3_lst hv ho
      have hl : xs.length = ds.length := Paired.length hd
      refine q_when (b := decide (ds.length = 0)) (et_is (et_or (et_test (ev_noList3 (ev_var rfl) hv)) fun _ => et_test (ev_op (ev_len (K := K) (ev_var rfl) (sq_of ha)) ev_c (rv_eq rfl))) (by rw [hl, Bool.eq_iff_iff]; show (false || decide (V.int (ds.length : Int) = V.int 0)) = true ↔ _; rw [Bool.false_or, decide_eq_true_iff, decide_eq_true_iff]; exact ⟨fun h => by have := V.int.inj h; omega, fun h => by rw [h]; rfl⟩)) (fun hb H1 e1 => ?_) fun hb H1 e1 => ?_
      · have ej : judgeG m (some ds) = false := by
          show (!decide (ds.length = 0) && _) = false
          rw [hb]
          rfl
        rw [ej] at k
        exact s_ret ev_c fun H2 e2 => k _ (e1.trans e2)
      · have h1 := e1 a _ ha
        refine q_when (b := !(ds.all (inD 0 m))) (et_is (et_not (et_B (ev_allN (bs := ds.map (inD 0 m)) ?_))) (by rw [List.all_map]; rfl)) (fun hb2 H2 e2 => ?_) fun hb2 H2 e2 => ?_
        · have e : (List.range xs.length).map (fun i => V.bl (inD 0 m (ds.getD i .none))) = (ds.map (inD 0 m)).map V.bl := by
            rw [hl]
            conv => rhs; rw [range_get ds .none]
            rw [List.map_map, List.map_map]
            rfl
          rw [← e]
          refine el_mapI _ (ev_var rfl) (sq_of h1) (by omega) (fun _ => rfl) fun i x H2 e2 hx => ?_
          obtain ⟨d, hd1, hd2⟩ := paired_get hd hx
          have gd : ds.getD i .none = d := by rw [List.getD_eq_getElem?_getD, hd1] <;> rfl
          rw [gd]
          exact ev_call (ea_cons (ev_var rfl) (ea_cons (ev_var rfl) (ea_cons (ev_var rfl) ea_nil))) (sv_within (Tk.ex (e1.trans e2) hd2))
        · have hb2 : ds.all (inD 0 m) = false := by simpa using hb2
          have ej : judgeG m (some ds) = false := by
            show (!decide (ds.length = 0) && (ds.all (inD 0 m) && _)) = false
            rw [hb, hb2]
            rfl
          rw [ej] at k
          exact s_ret ev_c fun H3 e3 => k _ (e1.trans (e2.trans e3))
        · have hb2 : ds.all (inD 0 m) = true := by simpa using hb2
          have ai : ds.all isI = true := by
            rw [List.all_eq_true] at hb2 ⊢
            intro d hd
            have := hb2 d hd
            cases d with
            | int i => rfl
            | _ => exact Bool.noConfusion this
          have ex : xs = (intsOf ds).map V.int := tks_ints hd ai
          have il : (intsOf ds).length = ds.length := by simp [intsOf]
          have bd : ∀ x ∈ intsOf ds, 0 ≤ x ∧ x ≤ 60 := fun x hx => by
            unfold intsOf at hx
            obtain ⟨d, hd, rfl⟩ := List.mem_map.mp hx
            have := List.all_eq_true.mp hb2 d hd
            cases d with
            | int i =>
              have : (decide ((0 : Int) ≤ i) && decide (i ≤ m)) = true := this
              simp at this
              show 0 ≤ i ∧ i ≤ 60
              omega
            | _ => exact Bool.noConfusion this
          have ej : judgeG m (some ds) = decide ((intsOf ds).Pairwise (· < ·)) := by
            show (!decide (ds.length = 0) && (ds.all (inD 0 m) && _)) = _
            rw [hb, hb2]
            rfl
          rw [ej] at k
          have h2 := e2 a _ h1
          rw [ex] at h2
          by_cases hp : (intsOf ds).Pairwise (· < ·)
          · rw [decide_eq_true hp] at k
            exact s_ret (ev_is (ev_eqD (ed_of (ev_var rfl) (.lst (sq_of h2) (dpa_ints _))) (ed_ofL (el_sortSet (zs := intsOf ds) (ev_var rfl) (sq_of h2) (by omega) hp fun _ => Iff.rfl) (dpa_ints _)) (shaped_ints _) (shaped_ints _)) (congrArg V.bl (eqv_refl_ints _))) fun H3 e3 => k _ (e1.trans (e2.trans e3))
          · rw [decide_eq_false hp] at k
            refine s_ret (ev_is (ev_eqD (ed_of (ev_var rfl) (.lst (sq_of h2) (dpa_ints _))) (ed_ofL (el_sortSet (ev_var rfl) (sq_of h2) (by omega) (upTo_asc _) (upTo_mem bd)) (dpa_ints _)) (shaped_ints _) (shaped_ints _)) (congrArg V.bl ?_)) fun H3 e3 => k _ (e1.trans (e2.trans e3))
            rw [← Bool.not_eq_true]
            intro hq
            have e := eqv_ints_eq hq
            refine hp ?_
            rw [e]
            exact upTo_asc _
theorem ok_check_group (T : Tx K mg) : FnOk P w K mg base (L2N.CX P w) 4 T.f_check_group T.d_check_group ["group", "guests"] (sp_chkGr T.cl_InvalidGroup) := by
  refine Kit.okN T.F_check_group sc_check_group (fun vs H Q E h => ?_) (fun cdv A outer s H vs Q E hr h => ?_)
  · obtain ⟨v, d, n, rfl, _⟩ := h
    rfl
  · obtain ⟨v, d, n, rfl, hv, hz, hn, k⟩ := h
    refine ⟨_, (pss_one (ps_if (pt_not (pt_val (pe_call (ok_is_ascending T) (hr.mono (by decide)) (by rfl) T.g_is_ascending T.F_is_ascending.kp T.b_is_ascending .nil pass0 (pa_cons (pv 0) (pa_cons pe_int (pa_cons (pe_op op_sub (pv 1) pe_int) pa_nil)))))) (pss_one (Kit.ps_raiseN rfl Kit.takesN T.e_InvalidGroup T.gc_InvalidGroup (by rfl) pe_str)) pss_nil)), ?_⟩
    refine s_when (b := !judgeG (n - 1) (lsO d)) (et_is (et_not (et_B (ev_call (ea_cons (ev_var rfl) (ea_cons ev_c (ea_cons (ev_op (ev_var rfl) ev_c rv_I0) ea_nil))) (sv_asc hv hz (by omega))))) rfl) (fun hb H1 e1 => ?_) fun hb H1 e1 => ?_
    · exact k.yes _ (if_neg (by simpa using hb)) _ e1
    · exact k.no (if_pos (by simpa using hb)) _ _ e1
end


/-! ### openers, groups -/
theorem judgeG_get {H : Hp} {v : V} {d : PyData} {n : Nat} (hv : Tg3 H v d) (hj : judgeG ((n : Int) - 1) (lsO d) = true) : ∃ (a : Addr) (g : List Nat), v = .ref a ∧ H a = some (.lst (nv g)) ∧ Gang n g ∧ d = .list ((iz g).map PyData.int) := by
  cases ho : lsO d with
  | none =>
    rw [ho] at hj
    exact Bool.noConfusion hj
  | some ds =>
    rw [ho] at hj
    obtain ⟨a, xs, rfl, rfl, ha, hd⟩ := tg3_lst hv ho
    have hj : (!decide (ds.length = 0) && (ds.all (inD 0 ((n : Int) - 1)) && decide ((intsOf ds).Pairwise (· < ·)))) = true := hj
    simp only [Bool.and_eq_true, Bool.not_eq_true', decide_eq_true_iff, decide_eq_false_iff_not] at hj
    obtain ⟨h0, hb, hp⟩ := hj
    have ai : ds.all isI = true := by
      rw [List.all_eq_true] at hb ⊢
      intro d hd
      have := hb d hd
      cases d with
      | int i => rfl
      | _ => exact Bool.noConfusion this
    have ex : xs = (intsOf ds).map V.int := tks_ints hd ai
    have bd : ∀ x ∈ intsOf ds, 0 ≤ x ∧ x ≤ (n : Int) - 1 := fun x hx => by
      unfold intsOf at hx
      obtain ⟨d, hd, rfl⟩ := List.mem_map.mp hx
      have := List.all_eq_true.mp hb d hd
      cases d with
      | int i =>
        have : (decide ((0 : Int) ≤ i) && decide (i ≤ (n : Int) - 1)) = true := this
        simp at this
        show 0 ≤ i ∧ i ≤ (n : Int) - 1
        omega
      | _ => exact Bool.noConfusion this
    obtain ⟨g, eg⟩ := nat_of_ints (ns := intsOf ds) fun x hx => (bd x hx).1
    have back : ∀ l : List PyData, l.all isI = true → l = (intsOf l).map PyData.int := by
      intro l
      induction l with
      | nil => intro _; rfl
      | cons d r ih =>
        intro h
        rw [List.all_cons, Bool.and_eq_true] at h
        have ih := ih h.2
        cases d with
        | int i =>
          show PyData.int i :: r = PyData.int i :: (intsOf r).map PyData.int
          rw [← ih]
        | _ => exact Bool.noConfusion h.1
    refine ⟨a, g, rfl, by rw [ha, ex, eg]; rfl, ⟨fun z => ?_, ?_, fun x hx => ?_⟩, by rw [← eg, ← back ds ai]⟩
    · subst z
      have : (intsOf ds).length = 0 := by rw [eg]; rfl
      have il : (intsOf ds).length = ds.length := by simp [intsOf]
      omega
    · rw [eg] at hp
      unfold iz at hp
      exact (List.pairwise_map.mp hp).imp fun z => by omega
    · have := (bd (x : Int) (by rw [eg]; exact List.mem_map.mpr ⟨x, hx, rfl⟩)).2
      omega
def judgeO (m : Int) (d : PyData) : Bool := judgeG m (lsO d) && decide ((intsOf ((lsO d).getD [])).head? = some 0)
def sp_chkOp (C : Addr) : Sp := fun vs H Q E => ∃ (v : V) (d : PyData) (n : Nat), vs = [v, .int (n : Int)] ∧ Tg3 H v d ∧ LenOk d ∧ n ≤ 60 ∧ Out (if judgeO ((n : Int) - 1) d then none else some C) H Q E
theorem so_chkOp {C : Addr} {H : Hp} {v : V} {d : PyData} {n : Nat} (h : Tg3 H v d) (hz : LenOk d) (hm : n ≤ 60) : SpO (sp_chkOp C) ([v, .int (n : Int)] ++ []) H (if judgeO ((n : Int) - 1) d then none else some C) := fun H1 e Q E q => ⟨v, d, n, rfl, h.ex e, hz, hm, q⟩
theorem ints_iz (g : List Nat) : intsOf ((iz g).map PyData.int) = iz g := by
  unfold intsOf
  rw [List.map_map]
  exact List.map_id _
theorem lb_all {H : Hp} {n : Nat} : ∀ {xs : List V} {ds : List PyData}, Paired (Tk 3 H) xs ds → ds.all (fun d => judgeG ((n : Int) - 1) (lsO d)) = true → ∃ gs : List (List Nat), PL H xs gs ∧ (∀ g ∈ gs, Gang n g) ∧ memb ds = iz gs.flatten ∧ ds = gs.map (fun g => .list ((iz g).map PyData.int))
  | _, _, .nil, _ => ⟨[], .nil, by simp, rfl, rfl⟩
  | _, _, .cons h t, ha => by
    rw [List.all_cons, Bool.and_eq_true] at ha
    obtain ⟨gs, p, o, m, e⟩ := lb_all t ha.2
    obtain ⟨a, g, rfl, hg, og, rfl⟩ := judgeG_get (tg3_of h (by decide)) ha.1
    refine ⟨g :: gs, .cons ⟨a, rfl, hg⟩ p, fun x hx => ?_, ?_, by rw [e]; rfl⟩
    · rcases List.mem_cons.mp hx with z | z
      · rw [z]
        exact og
      · exact o x z
    · show intsOf ((iz g).map PyData.int) ++ memb _ = _
      rw [ints_iz, m, List.flatten_cons]
      simp [iz]
def sp_grps : Sp := fun vs H Q _ => ∃ (v : V) (d : PyData) (n : Nat), vs = [v, .int (n : Int)] ∧ Tg3 H v d ∧ LenOk2 d ∧ n ≤ 60 ∧ RetV (.bl (judgeGs ((n : Int) - 1) (lsO d))) H Q
theorem sv_grps {H : Hp} {v : V} {d : PyData} {n : Nat} (h : Tg3 H v d) (hz : LenOk2 d) (hm : n ≤ 60) : SpV sp_grps ([v, .int (n : Int)] ++ []) H (.bl (judgeGs ((n : Int) - 1) (lsO d))) := fun H1 e Q q E => ⟨v, d, n, rfl, h.ex e, hz, hm, q⟩
def sp_chkGs (C : Addr) : Sp := fun vs H Q E => ∃ (v : V) (d : PyData) (n : Nat), vs = [v, .int (n : Int)] ∧ Tg3 H v d ∧ LenOk2 d ∧ n ≤ 60 ∧ Out (if judgeGs ((n : Int) - 1) (lsO d) then none else some C) H Q E
theorem so_chkGs {C : Addr} {H : Hp} {v : V} {d : PyData} {n : Nat} (h : Tg3 H v d) (hz : LenOk2 d) (hm : n ≤ 60) : SpO (sp_chkGs C) ([v, .int (n : Int)] ++ []) H (if judgeGs ((n : Int) - 1) (lsO d) then none else some C) := fun H1 e Q E q => ⟨v, d, n, rfl, h.ex e, hz, hm, q⟩
theorem flat_le : ∀ {gs : List (List Nat)}, (∀ g ∈ gs, g.length ≤ 60) → gs.flatten.length ≤ 60 * gs.length
  | [], _ => Nat.zero_le _
  | g :: r, h => by
    have a := flat_le (gs := r) fun x hx => h x (by simp [hx])
    have b := h g (by simp)
    rw [List.flatten_cons, List.length_append, List.length_cons]
    omega
section
variable {P : Program} {w : World} {K : PySem.W.Frag} {mg : Str → Option Value} {base : Heap}
theorem ok_check_openers (T : Tx K mg) : FnOk P w K mg base (L2N.CX P w) 5 T.f_check_openers T.d_check_openers ["group", "guests"] (sp_chkOp T.cl_InvalidGroup) := by
  refine Kit.okN T.F_check_openers sc_check_openers (fun vs H Q E h => ?_) (fun cdv A outer s H vs Q E hr h => ?_)
  · obtain ⟨v, d, n, rfl, _⟩ := h
    rfl
  · obtain ⟨v, d, n, rfl, hv, hz, hn, k⟩ := h
    refine ⟨_, (pss_cons (ps_expr (pe_call (ok_check_group T) (hr.mono (by decide)) (by rfl) T.g_check_group T.F_check_group.kp T.b_check_group .nil Kit.passN (pa_cons (pv 0) (pa_cons (pv 1) pa_nil))))
      (pss_one (ps_if (pt_cmpR op_ne (pe_ix ix_list (pv 0) pe_int (fun _ _ => rfl)) pe_int (nomark _)) (pss_one (Kit.ps_raiseN rfl Kit.takesN T.e_InvalidGroup T.gc_InvalidGroup (by rfl) pe_str)) pss_nil))), ?_⟩
    refine q_chk (ea_cons (ev_var rfl) (ea_cons (ev_var rfl) ea_nil)) (so_chkGr hv hz (by omega)) (fun hd H1 e1 => ?_) fun C hC H1 e1 => ?_
    · have hj := due_no hd
      obtain ⟨a, g, rfl, ha, og, rfl⟩ := judgeG_get (hv.ex e1) hj
      obtain ⟨x, r, rfl⟩ : ∃ x r, g = x :: r := by
        cases g with
        | nil => exact absurd rfl og.ne
        | cons x r => exact ⟨x, r, rfl⟩
      have jo : judgeO ((n : Int) - 1) (.list ((iz (x :: r)).map PyData.int)) = decide (x = 0) := by
        unfold judgeO
        rw [hj]
        show (true && decide ((intsOf ((iz (x :: r)).map PyData.int)).head? = some 0)) = _
        rw [ints_iz, Bool.true_and, Bool.eq_iff_iff, decide_eq_true_iff, decide_eq_true_iff]
        show some (x : Int) = some 0 ↔ _
        constructor
        · intro h
          have : (x : Int) = 0 := Option.some.inj h
          omega
        · intro h
          rw [h]
          rfl
      rw [jo] at k
      refine s_when (b := !decide (x = 0)) (et_is (et_test (ev_op (ev_op (ev_var rfl) ev_c (rv_ixL (K := K) (sq_of ha) (atI_nat (xs := nv (x :: r)) (j := 0) rfl))) ev_c (rv_ne rfl))) ?_) (fun hb H2 e2 => ?_) fun hb H2 e2 => ?_
      · congr 1
        rw [Bool.eq_iff_iff, decide_eq_true_iff, decide_eq_true_iff]
        constructor
        · intro h
          have : (x : Int) = 0 := V.int.inj h
          omega
        · intro h
          rw [h]
          rfl
      · exact k.yes _ (if_neg (by simpa using hb)) _ (e1.trans e2)
      · exact k.no (if_pos (by simpa using hb)) _ _ (e1.trans e2)
    · obtain ⟨hj, rfl⟩ := due_yes hC
      refine k.yes _ (if_neg ?_) _ e1
      unfold judgeO
      have hj : judgeG ((n : Int) - 1) (lsO d) = false := by simpa using hj
      rw [hj]
      exact Bool.false_ne_true
theorem ok_are_groups (T : Tx K mg) : FnOk P w K mg base CX0 4 T.f_are_groups T.d_are_groups ["thing", "guests"] sp_grps := by
  refine T.F_are_groups.ok sc_are_groups (fun vs H Q E h => ?_) (fun cdv A outer s H vs Q E hr h => ?_)
  · obtain ⟨v, d, n, rfl, _⟩ := h
    rfl
  · obtain ⟨v, d, n, rfl, hv, ⟨hz, hz2⟩, hn, k⟩ := h
    refine ⟨_, (pss_cons (ps_if (PW.pt (pw_or (pt_cmpR (op_neTyG (hu_of hr)) (pe_typeOf2 (by rfl) T.m_type (pv 0)) (pe_bltn (v := .ty "list") (by rfl) T.m_list (by decide +kernel) rfl) (nomark _)) (pw_or1 (pt_not (pt_val (pe_callB (cr_all rfl) (by rfl) T.m_all (by decide +kernel) (pa_cons (pe_lc (own := [("group", 2)]) (g := (gName 2)) (tt := tYes) rfl sc_are_groups.nd (pi_list (pv 0)) (blkOk_by (own := [("group", 2)]) (N := n_are_groups) (sc := defScope s_are_groups) (by decide +kernel)) (fun _ _ _ _ _ => (pg_name (i := 2) sc_are_groups.nd rfl (Or.inl rfl))) (fun _ _ _ _ _ => pts_nil) (fun _ _ _ _ _ => (pe_call (ok_is_ascending T) (hr.mono (by decide)) (by rfl) T.g_is_ascending T.F_is_ascending.kp T.b_is_ascending .nil pass0 (pa_cons (pv 2) (pa_cons pe_int (pa_cons (pe_op op_sub (pv 1) pe_int) pa_nil)))))) pa_nil))))))) (pss_one (ps_ret pe_bl)) pss_nil)
      (pss_cons (ps_setLc2 (i := 4) (wi1 := iList K (tVar 2)) (own := [("group", 2), ("guest", 3)]) (vs1 := [3]) (g := (gName 2)) (g1 := (gName 3)) (tt := tYes) (tt1 := tYes) rfl sc_are_groups.nd rfl rfl (sw_true rfl rfl rfl (by decide +kernel)) (pi_list (pv 0)) (blkOk_by (own := [("group", 2), ("guest", 3)]) (N := n_are_groups) (sc := defScope s_are_groups) (by decide +kernel)) (by decide) (fun _ _ _ _ _ => (pg_name (i := 2) sc_are_groups.nd rfl (Or.inl rfl))) (fun _ _ _ _ _ => pts_nil) (fun _ _ _ _ _ => (pi_list (pv 2))) (fun _ _ _ _ _ => (pg_name (i := 3) sc_are_groups.nd rfl (Or.inl rfl))) (fun _ _ _ _ _ => pts_nil) (fun _ _ _ _ _ => (pv 3)))
      (pss_one (ps_ret (pe_and (pe_cmpR op_gt (pe_callB call_lenR (by rfl) T.m_len (by decide +kernel) (pa_cons (pv 0) pa_nil)) pe_int (nomark _)) (pe_one (pe_cmpR op_eq (Kit.pe_lenSetG (by rfl) T.m_len (by rfl) T.m_set (pv 4)) (pe_callB call_lenR (by rfl) T.m_len (by decide +kernel) (pa_cons (pv 4) pa_nil)) (nomark _)))))))), ?_⟩
    cases ho : lsO d with
    | none =>
      rw [ho] at k
      refine q_when (b := true) (et_is (et_or (b := false) (et_test (ev_noList3 (ev_var rfl) hv)) fun z => by rw [ho] at z; exact Bool.noConfusion z) (by rw [ho]; rfl)) (fun _ H1 e1 => ?_) fun hb => Bool.noConfusion hb
      exact s_ret ev_c fun H2 e2 => k _ (e1.trans e2)
    | some ds =>
      rw [ho] at k hz2
      have hz2 : ∀ e ∈ ds, LenOk e := hz2
      have hz : ds.length ≤ 60 := by
        unfold LenOk at hz
        rw [ho] at hz
        exact hz
      obtain ⟨a, xs, rfl, rfl, ha, hd⟩ := tg3_lst hv ho
      have hl : xs.length = ds.length := Paired.length hd
      refine q_when (b := !(ds.all fun d => judgeG ((n : Int) - 1) (lsO d))) (et_is (et_or (et_test (ev_noList3 (ev_var rfl) hv)) fun _ => et_not (et_B (ev_allN (bs := ds.map fun d => judgeG ((n : Int) - 1) (lsO d)) ?_))) (by rw [List.all_map]; rfl)) (fun hb H1 e1 => ?_) fun hb H1 e1 => ?_
      · have e : (List.range xs.length).map (fun i => V.bl (judgeG ((n : Int) - 1) (lsO (ds.getD i .none)))) = (ds.map fun d => judgeG ((n : Int) - 1) (lsO d)).map V.bl := by
          rw [hl]
          conv => rhs; rw [range_get ds .none]
          rw [List.map_map, List.map_map]
          rfl
        rw [← e]
        refine el_mapI _ (ev_var rfl) (sq_of ha) (by omega) (fun _ => rfl) fun i x H2 e2 hx => ?_
        obtain ⟨d, hd1, hd2⟩ := paired_get hd hx
        have gd : ds.getD i .none = d := by rw [List.getD_eq_getElem?_getD, hd1] <;> rfl
        rw [gd]
        exact ev_call (ea_cons (ev_var rfl) (ea_cons ev_c (ea_cons (ev_op (ev_var rfl) ev_c rv_I0) ea_nil))) (sv_asc ((tg3_of hd2 (by decide)).ex e2) (hz2 d (List.mem_of_getElem? hd1)) (by omega))
      · have hb : (ds.all fun d => judgeG ((n : Int) - 1) (lsO d)) = false := by simpa using hb
        have ej : judgeGs ((n : Int) - 1) (some ds) = false := by
          show ((ds.all fun d => judgeG ((n : Int) - 1) (lsO d)) && _) = false
          rw [hb]
          rfl
        rw [ej] at k
        exact s_ret ev_c fun H2 e2 => k _ (e1.trans e2)
      · have hb : (ds.all fun d => judgeG ((n : Int) - 1) (lsO d)) = true := by simpa using hb
        obtain ⟨gs, pl, og, mb, eds⟩ := lb_all hd hb
        have gl : gs.length = ds.length := by rw [eds, List.length_map]
        have g60 : ∀ g ∈ gs, g.length ≤ 60 := fun g hg => by
          have := (og g hg).len
          omega
        have fl := flat_le g60
        have ej : judgeGs ((n : Int) - 1) (some ds) = (decide (0 < ds.length) && decide ((memb ds).Nodup)) := by
          show ((ds.all fun d => judgeG ((n : Int) - 1) (lsO d)) && _) = _
          rw [hb]
          rfl
        rw [ej] at k
        have ha1 := e1 a _ ha
        refine q_asgL (xs := nv gs.flatten) (el_lc2L (ev_var rfl) ha1 (PL.ex e1 pl) (by omega) (fun _ => rfl) (fun _ => rfl) (fun _ _ => rfl) (fun _ _ => rfl)) fun p H2 hp e2 hp2 => ?_
        have ha2 := e2 a _ ha1
        have ls := ev_lenSetG (K := K) (ta := tVar 4) (σ := [some (.ref a), some (.int (n : Int)), none, none, some (.ref p)]) (H := H2) (l := p) (ns := iz gs.flatten) (ev_var (i := 4) (v := .ref p) rfl) (sq_of hp2) (by unfold iz; rw [List.length_map]; omega)
        have ll := ev_len (K := K) (ta := tVar 4) (σ := [some (.ref a), some (.int (n : Int)), none, none, some (.ref p)]) (H := H2) (ev_var (i := 4) (v := .ref p) rfl) (sq_of hp2)
        refine s_ret (v := .bl (decide (0 < ds.length) && decide ((memb ds).Nodup))) (ev_is (ev_andV (ev_op (ev_len (K := K) (ev_var rfl) (sq_of ha2)) ev_c rv_I0) fun _ => ev_op ls ll (rv_eq rfl)) (congrArg V.bl ?_)) fun H3 e3 => k _ (e1.trans (e2.trans e3))
        rw [mb, hl]
        congr 1
        · rw [Bool.eq_iff_iff, decide_eq_true_iff, decide_eq_true_iff]
          omega
        · rw [Bool.eq_iff_iff, decide_eq_true_iff, decide_eq_true_iff, ← dedI_iff]
          have il : (nv gs.flatten).length = (iz gs.flatten).length := by simp [nv]
          rw [il]
          constructor
          · intro h
            have := V.int.inj h
            omega
          · intro h
            rw [h]
theorem ok_check_groups (T : Tx K mg) : FnOk P w K mg base (L2N.CX P w) 5 T.f_check_groups T.d_check_groups ["groups", "guests"] (sp_chkGs T.cl_InvalidGroups) := by
  refine Kit.okN T.F_check_groups sc_check_groups (fun vs H Q E h => ?_) (fun cdv A outer s H vs Q E hr h => ?_)
  · obtain ⟨v, d, n, rfl, _⟩ := h
    rfl
  · obtain ⟨v, d, n, rfl, hv, hz, hn, k⟩ := h
    refine ⟨_, (pss_one (ps_if (pt_not (pt_val (pe_call (ok_are_groups T) (hr.mono (by decide)) (by rfl) T.g_are_groups T.F_are_groups.kp T.b_are_groups .nil pass0 (pa_cons (pv 0) (pa_cons (pv 1) pa_nil))))) (pss_one (Kit.ps_raiseN rfl Kit.takesN T.e_InvalidGroups T.gc_InvalidGroups (by rfl) pe_str)) pss_nil)), ?_⟩
    refine s_when (b := !judgeGs ((n : Int) - 1) (lsO d)) (et_is (et_not (et_B (ev_call (ea_cons (ev_var rfl) (ea_cons (ev_var rfl) ea_nil)) (sv_grps hv hz hn)))) rfl) (fun hb H1 e1 => ?_) fun hb H1 e1 => ?_
    · exact k.yes _ (if_neg (by simpa using hb)) _ e1
    · exact k.no (if_pos (by simpa using hb)) _ _ e1
end


section
variable {P : Program} {w : World} {K : PySem.W.Frag} {mg : Str → Option Value} {base : Heap}
/-! ### fraction -/
def cd (a b : Int) : Int := ((Nat.gcd a.natAbs b.natAbs : Nat) : Int)
theorem cd_pos {a b : Int} (h : 0 < b) : 0 < cd a b := by
  unfold cd
  have := Nat.gcd_pos_of_pos_right a.natAbs (show 0 < b.natAbs by omega)
  omega
theorem cd_le {a b : Int} (h : 0 < b) : cd a b ≤ b := by
  unfold cd
  have := Nat.le_of_dvd (show 0 < b.natAbs by omega) (Nat.gcd_dvd_right a.natAbs b.natAbs)
  omega
theorem cd_dvd1 {a b : Int} : cd a b ∣ a := Int.ofNat_dvd_left.mpr (Nat.gcd_dvd_left a.natAbs b.natAbs)
theorem cd_dvd2 {a b : Int} : cd a b ∣ b := Int.ofNat_dvd_left.mpr (Nat.gcd_dvd_right a.natAbs b.natAbs)
def sp_fraction : Sp := fun vs H Q _ => ∃ a b : Int, vs = [.int a, .int b] ∧ 0 < b ∧ b.natAbs < 2 ^ 8000 ∧ RetU [.int (a / cd a b), .int (b / cd a b)] H Q
theorem su_fraction {H : Hp} {a b : Int} (h0 : 0 < b) (h1 : b.natAbs < 2 ^ 8000) : SpU sp_fraction ([.int a, .int b] ++ []) H [.int (a / cd a b), .int (b / cd a b)] := fun H1 _ Q q E => ⟨a, b, rfl, h0, h1, q⟩
theorem ok_fraction (T : Tx K mg) : FnOk P w K mg base CX0 1 T.f_fraction T.d_fraction ["top", "bottom"] sp_fraction := by
  refine T.F_fraction.ok sc_fraction (fun vs H Q E h => ?_) (fun cdv A outer s H vs Q E hr h => ?_)
  · obtain ⟨a, b, rfl, _⟩ := h
    rfl
  · obtain ⟨a, b, rfl, h0, h1, k⟩ := h
    refine ⟨_, (pss_cons (ps_set (i := 2) sc_fraction.nd rfl (Or.inl rfl) (pe_callBfun cr_gcd (by rfl) T.i_gcd (pa_cons (pv 0) (pa_cons (pv 1) pa_nil))))
      (pss_one (ps_ret (pe_tup (pa_cons (pe_op op_fdivW (pv 0) (pv 2)) (pa_cons (pe_op op_fdivW (pv 1) (pv 2)) pa_nil)))))), ?_⟩
    refine q_asg (by walk_at "ev") fun H1 e1 => ?_
    have hd : ∀ x : Int, CDivW x (cd a b) := fun x => wide_div (cd_pos h0) (Nat.lt_of_le_of_lt (by have := cd_le (a := a) h0; have := cd_pos (a := a) h0; omega) h1) (by decide) (by decide)
    have hd1 := hd a
    have hd2 := hd b
    refine s_retU (by walk_at "eu") fun p H2 hp e2 h2 => k p H2 (fresh_back e1 hp) (e1.trans e2) h2
local macro_rules | `(tactic| walk_at "callU") => `(tactic| ((with_reducible refine' su_fraction ?c1 ?c2); (case c1 => walk_at "side"); (case c2 => walk_at "side")))
end

/-! ### rising products -/
def rise (w : Int) : Nat → Int
  | 0 => 1
  | n + 1 => rise w n * (w + n)
theorem rise_pos {w : Int} (h : 1 ≤ w) : ∀ n, 0 < rise w n
  | 0 => by
    show (0 : Int) < 1
    decide
  | n + 1 => Int.mul_pos (rise_pos h n) (by omega)

/-! ### numbers -/
theorem rise_le {w : Int} (h : w.natAbs < 2 ^ 130) : ∀ n : Nat, n ≤ 100 → (rise w n).natAbs ≤ 2 ^ (131 * n)
  | 0, _ => by
    show (1 : Int).natAbs ≤ 2 ^ 0
    decide
  | n + 1, hn => by
    have ih := rise_le h n (by omega)
    show (rise w n * (w + n)).natAbs ≤ _
    rw [Int.natAbs_mul, Nat.mul_succ, Nat.pow_add]
    exact Nat.mul_le_mul ih (by omega)
def sp_rise : Sp := fun vs H Q _ => ∃ (b : Int) (n : Nat), vs = [.int b, .int n] ∧ b.natAbs < 2 ^ 130 ∧ n ≤ 60 ∧ RetV (.int (rise b n)) H Q
theorem sv_rise {H : Hp} {b : Int} {n : Nat} (hb : b.natAbs < 2 ^ 130) (h1 : n ≤ 60) : SpV sp_rise ([.int b, .int (n : Int)] ++ []) H (.int (rise b n)) := fun H1 _ Q q E => ⟨b, n, rfl, hb, h1, q⟩
section
variable {P : Program} {w : World} {K : PySem.W.Frag} {mg : Str → Option Value} {base : Heap}
theorem ok_rising (T : Tx K mg) : FnOk P w K mg base CX0 1 T.f_rising T.d_rising ["weight","guests"] sp_rise := by
  refine T.F_rising.ok sc_rising (fun vs H Q E h => ?_) (fun cdv A outer s H vs Q E hr h => ?_)
  · obtain ⟨b, n, rfl, _⟩ := h
    rfl
  · obtain ⟨b, n, rfl, hb, hn, k⟩ := h
    refine ⟨_, (pss_cons (ps_set (i := 2) sc_rising.nd rfl (Or.inl rfl) pe_int)
      (pss_cons (ps_for PassesOwn.never rfl (pi_range1 (by rfl) T.m_range (pa_cons (pv 1) pa_nil)) (pg_name (i := 3) sc_rising.nd rfl (Or.inl rfl)) (pss_one (ps_set (i := 2) sc_rising.nd rfl (Or.inl rfl) (pe_op op_mulX (pv 2) (pe_op op_add (pv 0) (pv 3))))))
      (pss_one (ps_ret (pv 2))))), ?_⟩
    refine q_asg ev_c fun H1 e1 => ?_
    refine q_forR1 (n := (n : Int)) (by walk_at "ea") ⟨by omega, by omega⟩ (fun i σ' H' => ∃ y, σ' = [some (.int b), some (.int n), some (.int (rise b i)), y] ∧ Ex H H') (fun H2 e2 => ⟨none, rfl, e1.trans e2⟩) ?_ ?_
    · rintro i σ' H' hi ⟨y, rfl, e⟩
      have hs : (b + (i : Int)).natAbs < 2 ^ 131 := by omega
      have hm : CMulX (rise b i) (b + (i : Int)) := mulx_ok (lt_of_le2 (rise_le hb i (by omega))) hs (by omega)
      exact s_asg (by walk_at "ev") fun H2 e2 => ⟨_, rfl, e.trans e2⟩
    · rintro σ' H' ⟨y, rfl, e⟩
      exact s_ret (by walk_at "ev") fun H2 e2 => k _ (e.trans e2)

end

/-- rising from s: s (s + 1) .. -/
theorem rise_fac (s : Nat) : ∀ m : Nat, (fac s : Int) * rise ((s + 1 : Nat) : Int) m = (fac (s + m) : Int)
  | 0 => by
    show (fac s : Int) * 1 = _
    rw [Int.mul_one]
    rfl
  | m + 1 => by
    have ih := rise_fac s m
    show (fac s : Int) * (rise ((s + 1 : Nat) : Int) m * (((s + 1 : Nat) : Int) + m)) = ((fac (s + m + 1) : Nat) : Int)
    rw [fac_succ, ← Int.mul_assoc, ih]
    push_cast
    congr 1
    omega
theorem cho_rise {s m : Nat} (h : 1 ≤ s) : (cho (s + m - 1) (s - 1) : Int) * (fac m : Int) = rise (s : Int) m := by
  obtain ⟨t, rfl⟩ : ∃ t, s = t + 1 := ⟨s - 1, by omega⟩
  have a := cho_fac (n := t + m) (k := t) (by omega)
  have b := rise_fac t m
  rw [show t + m - t = m by omega] at a
  rw [show t + 1 + m - 1 = t + m by omega, show t + 1 - 1 = t by omega]
  have c : (fac t : Int) * ((cho (t + m) t : Int) * (fac m : Int)) = (fac t : Int) * rise ((t + 1 : Nat) : Int) m := by
    rw [b, ← a]
    push_cast
    grind
  have p := fac_pos t
  exact Int.eq_of_mul_eq_mul_left (by omega) c

/-! ### fractions of one ratio -/
theorem cd_scale {k a b : Int} (hk : 0 ≤ k) : cd (k * a) (k * b) = k * cd a b := by
  unfold cd
  rw [Int.natAbs_mul, Int.natAbs_mul, Nat.gcd_mul_left, Int.natCast_mul]
  congr 1
  omega
theorem quo_scale {k a b : Int} (hk : 0 < k) : k * a / cd (k * a) (k * b) = a / cd a b ∧ k * b / cd (k * a) (k * b) = b / cd a b := by
  rw [cd_scale (by omega)]
  exact ⟨Int.mul_ediv_mul_of_pos _ _ hk, Int.mul_ediv_mul_of_pos _ _ hk⟩
theorem quo_eq {a b c d : Int} (hb : 0 < b) (hd : 0 < d) (h : a * d = c * b) : a / cd a b = c / cd c d ∧ b / cd a b = d / cd c d := by
  have x := quo_scale (k := d) (a := a) (b := b) hd
  have y := quo_scale (k := b) (a := c) (b := d) hb
  rw [show d * a = b * c by rw [Int.mul_comm d a, h, Int.mul_comm], show d * b = b * d from Int.mul_comm _ _] at x
  exact ⟨x.1.symm.trans y.1, x.2.symm.trans y.2⟩

def sums (w : Int) : Nat → List Int
  | 0 => [1]
  | n + 1 => List.zipWith (· + ·) ((sums w n).map (· * (n : Int)) ++ [0]) (0 :: (sums w n).map (· * w))
theorem sums_len (w : Int) : ∀ n, (sums w n).length = n + 1
  | 0 => rfl
  | n + 1 => by
    show (List.zipWith (· + ·) ((sums w n).map (· * (n : Int)) ++ [0]) (0 :: (sums w n).map (· * w))).length = _
    have ih := sums_len w n
    simp [ih]
/-- how many seatings of n guests have t tables -/
def stir : Nat → Nat → Nat
  | 0, 0 => 1
  | 0, _ + 1 => 0
  | n + 1, 0 => n * stir n 0
  | n + 1, t + 1 => n * stir n (t + 1) + stir n t
theorem stir_big : ∀ n t, n < t → stir n t = 0
  | 0, t + 1, _ => rfl
  | n + 1, t + 1, h => by
    show n * stir n (t + 1) + stir n t = 0
    rw [stir_big n (t + 1) (by omega), stir_big n t (by omega)]
    simp
theorem sums_get (w : Int) : ∀ n t, t ≤ n → (sums w n)[t]? = some ((stir n t : Int) * w ^ t)
  | 0, 0, _ => by
    show some (1 : Int) = some (((1 : Nat) : Int) * w ^ 0)
    rw [Int.pow_zero]
    rfl
  | n + 1, 0, _ => by
    have ih := sums_get w n 0 (by omega)
    have hl := sums_len w n
    show (List.zipWith (· + ·) ((sums w n).map (· * (n : Int)) ++ [0]) (0 :: (sums w n).map (· * w)))[0]? = some (((n * stir n 0 : Nat) : Int) * w ^ 0)
    rw [List.getElem?_zipWith, List.getElem?_append_left (by rw [List.length_map]; omega), List.getElem?_map, ih]
    simp
    grind
  | n + 1, t + 1, h => by
    have hl := sums_len w n
    have ih := sums_get w n t (by omega)
    show (List.zipWith (· + ·) ((sums w n).map (· * (n : Int)) ++ [0]) (0 :: (sums w n).map (· * w)))[t + 1]? = some (((n * stir n (t + 1) + stir n t : Nat) : Int) * w ^ (t + 1))
    rw [List.getElem?_zipWith, List.getElem?_cons_succ, List.getElem?_map, ih]
    by_cases ht : t + 1 ≤ n
    · have ih2 := sums_get w n (t + 1) ht
      rw [List.getElem?_append_left (by rw [List.length_map]; omega), List.getElem?_map, ih2]
      simp
      rw [Int.pow_succ]
      grind
    · have e : t = n := by omega
      subst e
      rw [List.getElem?_append_right (by rw [List.length_map]; omega), List.length_map, hl, stir_big t (t + 1) (by omega)]
      simp
      rw [Int.pow_succ]
      grind
theorem sums_small {w : Int} (h0 : 0 ≤ w) (h1 : w ≤ 2 ^ 42) : ∀ n, n ≤ 20 → ∀ x ∈ sums w n, 0 ≤ x ∧ x ≤ 2 ^ (43 * n)
  | 0, _, x, hx => by
    have e : x = 1 := by simpa [sums] using hx
    subst e
    decide
  | n + 1, hn, x, hx => by
    have ih := sums_small h0 h1 n (by omega)
    have hp : (0 : Int) ≤ 2 ^ (43 * n) := Int.pow_nonneg (by decide)
    have e43 : (2 : Int) ^ (43 * (n + 1)) = 2 ^ (43 * n) * 2 ^ 43 := by rw [Nat.mul_succ, Int.pow_add]
    rw [e43]
    have hx : x ∈ List.zipWith (· + ·) ((sums w n).map (· * (n : Int)) ++ [0]) (0 :: (sums w n).map (· * w)) := hx
    obtain ⟨i, hi⟩ := List.mem_iff_getElem?.mp hx
    rw [List.getElem?_zipWith] at hi
    have one : ∀ a, ((sums w n).map (· * (n : Int)) ++ [0])[i]? = some a → 0 ≤ a ∧ a ≤ 2 ^ (43 * n) * 20 := fun a ha => by
      rcases List.mem_append.mp (List.mem_iff_getElem?.mpr ⟨i, ha⟩) with h | h
      · obtain ⟨y, hy, rfl⟩ := List.mem_map.mp h
        obtain ⟨y0, y1⟩ := ih y hy
        exact ⟨Int.mul_nonneg y0 (by omega), Int.mul_le_mul y1 (by omega) (by omega) hp⟩
      · have : a = 0 := by simpa using h
        omega
    have two : ∀ b, (0 :: (sums w n).map (· * w))[i]? = some b → 0 ≤ b ∧ b ≤ 2 ^ (43 * n) * 2 ^ 42 := fun b hb => by
      rcases List.mem_cons.mp (List.mem_iff_getElem?.mpr ⟨i, hb⟩) with h | h
      · omega
      · obtain ⟨y, hy, rfl⟩ := List.mem_map.mp h
        obtain ⟨y0, y1⟩ := ih y hy
        exact ⟨Int.mul_nonneg y0 h0, Int.mul_le_mul y1 h1 h0 hp⟩
    cases ha : ((sums w n).map (· * (n : Int)) ++ [0])[i]? with
    | none =>
      rw [ha] at hi
      cases hi
    | some a =>
      cases hb : (0 :: (sums w n).map (· * w))[i]? with
      | none =>
        rw [ha, hb] at hi
        cases hi
      | some b =>
        rw [ha, hb] at hi
        have e : a + b = x := Option.some.inj hi
        have A := one a ha
        have B := two b hb
        omega

section
variable {P : Program} {w : World} {K : PySem.W.Frag} {mg : Str → Option Value} {base : Heap}
/-- the product of all (f.1 * x + f.2) -/
def sstep (ns : List Int) (f : Int × Int) : List Int := List.zipWith (· + ·) (ns.map (· * f.2) ++ [0]) (0 :: ns.map (· * f.1))
def sumsF (fs : List (Int × Int)) : List Int := fs.foldl sstep [1]
theorem sumsF_take {fs : List (Int × Int)} {i : Nat} {f : Int × Int} (h : fs[i]? = some f) : sumsF (fs.take (i + 1)) = sstep (sumsF (fs.take i)) f := by
  unfold sumsF
  rw [List.take_add_one, h, List.foldl_append]
  rfl
theorem sstep_len (ns : List Int) (f : Int × Int) : (sstep ns f).length = ns.length + 1 := by
  simp [sstep]
theorem foldS_len : ∀ (fs : List (Int × Int)) (ns : List Int), (fs.foldl sstep ns).length = ns.length + fs.length
  | [], _ => rfl
  | f :: r, ns => by
    rw [List.foldl_cons, foldS_len r, sstep_len, List.length_cons]
    omega
theorem sumsF_len (fs : List (Int × Int)) : (sumsF fs).length = fs.length + 1 := by
  unfold sumsF
  rw [foldS_len, List.length_singleton]
  omega
def FOk (fs : List (Int × Int)) : Prop := fs.length ≤ 40 ∧ ∀ f ∈ fs, 0 ≤ f.1 ∧ f.1 ≤ 2 ^ 42 ∧ 0 ≤ f.2 ∧ f.2 ≤ 2 ^ 42
theorem sstep_small {ns : List Int} {f : Int × Int} {B : Int} (hB : 0 ≤ B) (h : ∀ x ∈ ns, 0 ≤ x ∧ x ≤ B) (h0 : 0 ≤ f.1) (h1 : f.1 ≤ 2 ^ 42) (h2 : 0 ≤ f.2) (h3 : f.2 ≤ 2 ^ 42) : ∀ x ∈ sstep ns f, 0 ≤ x ∧ x ≤ B * 2 ^ 43 := fun x hx => by
  obtain ⟨i, hi⟩ := List.mem_iff_getElem?.mp hx
  unfold sstep at hi
  rw [List.getElem?_zipWith] at hi
  have two : ∀ (g : Int), 0 ≤ g → g ≤ 2 ^ 42 → ∀ y ∈ ns.map (· * g), 0 ≤ y ∧ y ≤ B * 2 ^ 42 := fun g g0 g1 y hy => by
    obtain ⟨z, hz, rfl⟩ := List.mem_map.mp hy
    obtain ⟨z0, z1⟩ := h z hz
    exact ⟨Int.mul_nonneg z0 g0, Int.mul_le_mul z1 g1 g0 hB⟩
  have A : ∀ a, (ns.map (· * f.2) ++ [0])[i]? = some a → 0 ≤ a ∧ a ≤ B * 2 ^ 42 := fun a ha => by
    rcases List.mem_append.mp (List.mem_iff_getElem?.mpr ⟨i, ha⟩) with h | h
    · exact two _ h2 h3 a h
    · have : a = 0 := by simpa using h
      subst this
      exact ⟨Int.le_refl _, Int.mul_nonneg hB (by decide)⟩
  have C : ∀ b, (0 :: ns.map (· * f.1))[i]? = some b → 0 ≤ b ∧ b ≤ B * 2 ^ 42 := fun b hb => by
    rcases List.mem_cons.mp (List.mem_iff_getElem?.mpr ⟨i, hb⟩) with h | h
    · subst h
      exact ⟨Int.le_refl _, Int.mul_nonneg hB (by decide)⟩
    · exact two _ h0 h1 b h
  cases ha : (ns.map (· * f.2) ++ [0])[i]? with
  | none =>
    rw [ha] at hi
    cases hi
  | some a =>
    cases hb : (0 :: ns.map (· * f.1))[i]? with
    | none =>
      rw [ha, hb] at hi
      cases hi
    | some b =>
      rw [ha, hb] at hi
      have e : a + b = x := Option.some.inj hi
      have p := A a ha
      have q := C b hb
      omega
theorem foldS_small : ∀ (fs : List (Int × Int)), (∀ f ∈ fs, 0 ≤ f.1 ∧ f.1 ≤ 2 ^ 42 ∧ 0 ≤ f.2 ∧ f.2 ≤ 2 ^ 42) → ∀ (ns : List Int) (k : Nat), (∀ x ∈ ns, 0 ≤ x ∧ x ≤ 2 ^ (43 * k)) → ∀ x ∈ fs.foldl sstep ns, 0 ≤ x ∧ x ≤ 2 ^ (43 * (k + fs.length))
  | [], _, ns, k, h => h
  | f :: r, hf, ns, k, h => by
    obtain ⟨a, b, c, d⟩ := hf f List.mem_cons_self
    have e43 : (2 : Int) ^ (43 * (k + 1)) = 2 ^ (43 * k) * 2 ^ 43 := by rw [Nat.mul_succ, Int.pow_add]
    have ih := foldS_small r (fun g hg => hf g (List.mem_cons_of_mem _ hg)) (sstep ns f) (k + 1) (fun x hx => by
      rw [e43]
      exact sstep_small (Int.pow_nonneg (by decide)) h a b c d x hx)
    rw [show k + (f :: r).length = k + 1 + r.length by rw [List.length_cons]; omega]
    exact ih
theorem sumsF_small {fs : List (Int × Int)} (h : FOk fs) : ∀ x ∈ sumsF fs, 0 ≤ x ∧ x ≤ 2 ^ (43 * fs.length) := by
  have q := foldS_small fs h.2 [1] 0 (fun x hx => by
    have e : x = 1 := by simpa using hx
    subst e
    decide)
  rw [Nat.zero_add] at q
  exact q
theorem FOk.take {fs : List (Int × Int)} (h : FOk fs) (i : Nat) : FOk (fs.take i) := ⟨by
  have := h.1
  rw [List.length_take]
  omega, fun f hf => h.2 f (List.mem_of_mem_take hf)⟩
def twoV (f : Int × Int) : List V := [.int f.1, .int f.2]
def sp_sums_by_tables : Sp := fun vs H Q _ => ∃ (a : Addr) (ws : List V) (fs : List (Int × Int)), vs = [.ref a] ∧ H a = some (.lst ws) ∧ TL H ws (fs.map twoV) ∧ FOk fs ∧ RetL ((sumsF fs).map V.int) H Q
def mulV (g : Int) : V → V
  | .int x => .int (x * g)
  | v => v
def addV : V → V → V
  | .int x, .int y => .int (x + y)
  | v, _ => v
theorem map_mulV (g : Int) (ns : List Int) : (ns.map V.int).map (mulV g) = (ns.map (· * g)).map V.int := by
  rw [List.map_map, List.map_map]
  rfl
theorem zip_addV : ∀ ns ms : List Int, List.zipWith addV (ns.map V.int) (ms.map V.int) = (List.zipWith (· + ·) ns ms).map V.int
  | [], _ => rfl
  | _ :: _, [] => rfl
  | x :: r, y :: s => congrArg (V.int (x + y) :: ·) (zip_addV r s)
theorem ok_sums_by_tables (T : Tx K mg) : FnOk P w K mg base CX0 1 T.f_sums_by_tables T.d_sums_by_tables ["factors"] sp_sums_by_tables := by
  refine T.F_sums_by_tables.ok sc_sums_by_tables (fun vs H Q E h => ?_) (fun cdv A outer s H vs Q E hr h => ?_)
  · obtain ⟨a, ws, fs, rfl, _⟩ := h
    rfl
  · obtain ⟨a, ws, fs, rfl, ha, ht, hf, k⟩ := h
    refine ⟨_, (pss_cons (ps_set (i := 1) sc_sums_by_tables.nd rfl (Or.inl rfl) (pe_lst (pa_cons pe_int pa_nil)))
      (pss_cons (ps_for PassesOwn.never rfl (pi_list (pv 0)) (pg_tup rfl (pgs_cons (pg_name (i := 2) sc_sums_by_tables.nd rfl (Or.inr rfl)) (pgs_cons (pg_name (i := 3) sc_sums_by_tables.nd rfl (Or.inr rfl)) pgs_nil))) (pss_cons (ps_set (i := 5) sc_sums_by_tables.nd rfl (Or.inl rfl) (pe_op op_cat (pe_lc (own := [("part", 4)]) (g := (gName 4)) (tt := tYes) rfl sc_sums_by_tables.nd (pi_list (pv 1)) (blkOk_by (own := [("part", 4)]) (N := n_sums_by_tables) (sc := defScope s_sums_by_tables) (by decide +kernel)) (fun _ _ _ _ _ => (pg_name (i := 4) sc_sums_by_tables.nd rfl (Or.inl rfl))) (fun _ _ _ _ _ => pts_nil) (fun _ _ _ _ _ => (pe_op op_mulX (pv 4) (pv 3)))) (pe_lst (pa_cons pe_int pa_nil))))
      (pss_cons (ps_set (i := 6) sc_sums_by_tables.nd rfl (Or.inl rfl) (pe_op op_cat (pe_lst (pa_cons pe_int pa_nil)) (pe_lc (own := [("part", 4)]) (g := (gName 4)) (tt := tYes) rfl sc_sums_by_tables.nd (pi_list (pv 1)) (blkOk_by (own := [("part", 4)]) (N := n_sums_by_tables) (sc := defScope s_sums_by_tables) (by decide +kernel)) (fun _ _ _ _ _ => (pg_name (i := 4) sc_sums_by_tables.nd rfl (Or.inl rfl))) (fun _ _ _ _ _ => pts_nil) (fun _ _ _ _ _ => (pe_op op_mulX (pv 4) (pv 2))))))
      (pss_one (ps_setLc (i := 1) (own := [("one", 7), ("other", 8)]) (g := (gTup _ 2 (gCons (gName 7) (gCons (gName 8) gNil)))) (tt := tYes) rfl sc_sums_by_tables.nd rfl rfl (sw_true rfl rfl rfl (by decide +kernel)) (pi_zip (by rfl) T.m_zip (pa_cons (pv 5) (pa_cons (pv 6) pa_nil))) (blkOk_by (own := [("one", 7), ("other", 8)]) (N := n_sums_by_tables) (sc := defScope s_sums_by_tables) (by decide +kernel)) (fun _ _ _ _ _ => (pg_tup rfl (pgs_cons (pg_name (i := 7) sc_sums_by_tables.nd rfl (Or.inl rfl)) (pgs_cons (pg_name (i := 8) sc_sums_by_tables.nd rfl (Or.inl rfl)) pgs_nil)))) (fun _ _ _ _ _ => pts_nil) (fun _ _ _ _ _ => (pe_op op_add (pv 7) (pv 8))))))))
      (pss_one (ps_ret (pv 1))))), ?_⟩
    have hwl : ws.length = fs.length := by rw [ht.len, List.length_map]
    have hfl := hf.1
    refine q_asgL (by walk_at "el") fun p H1 hp e1 h1 => ?_
    refine q_forL (ev_var rfl) (sq_of (e1 a _ ha))
      (fun i σ' H' => ∃ q y2 y3 y5 y6, σ' = [some (.ref a), some (.ref q), y2, y3, none, y5, y6, none, none] ∧ H q = none ∧ Ex H H' ∧ H' q = some (.lst ((sumsF (fs.take i)).map V.int)))
      (fun H2 e2 => ⟨p, none, none, none, none, rfl, hp, e1.trans e2, e2 p _ h1⟩) (fun i σ' H' _ ⟨q, y2, y3, y5, y6, _, _, e, _⟩ => sq_of (e a _ ha)) ?_ ?_
    · rintro i x σ' H' hx ⟨q, y2, y3, y5, y6, rfl, hq, e, hl⟩
      obtain ⟨b, r, rfl, hb, hr2⟩ := ht.get hx
      obtain ⟨f, hfi, rfl⟩ : ∃ f, fs[i]? = some f ∧ twoV f = r := by
        rw [List.getElem?_map] at hr2
        exact Option.map_eq_some_iff.mp hr2
      have him : i < fs.length := (List.getElem?_eq_some_iff.mp hfi).1
      obtain ⟨fa, fb, fc, fd⟩ := hf.2 f (List.mem_iff_getElem?.mpr ⟨i, hfi⟩)
      have hsm := sumsF_small (hf.take i)
      have hlen := sumsF_len (fs.take i)
      have hti : (fs.take i).length = i := by
        rw [List.length_take]
        omega
      rw [hti] at hsm hlen
      have cm : ∀ (g : Int), g.natAbs < 2 ^ 64 → ∀ (j : Nat) (y : V), ((sumsF (fs.take i)).map V.int)[j]? = some y → ∃ z, y = .int z ∧ CMulX z g := fun g hg j y hy => by
        rw [List.getElem?_map] at hy
        cases hz : (sumsF (fs.take i))[j]? with
        | none =>
          rw [hz] at hy
          cases hy
        | some z =>
          rw [hz] at hy
          obtain ⟨z0, z1⟩ := hsm z (List.mem_iff_getElem?.mpr ⟨j, hz⟩)
          have hp2 : (2 : Int) ^ (43 * i) = ((2 ^ (43 * i) : Nat) : Int) := by simp
          rw [hp2] at z1
          exact ⟨z, (Option.some.inj hy).symm, mulx_ok (lt_of_le2 (k := 43 * i) (by omega)) hg (by omega)⟩
      refine ⟨b, [.int f.1, .int f.2], rfl, st_of (e b _ hb), rfl, .int f.1, [.int f.2], rfl, .int f.2, [], rfl, rfl, ?_⟩
      refine q_asgL (el_cat (el_map (mulV f.2) (ev_var rfl) (sq_of hl) (by rw [List.length_map]; omega) (fun _ => rfl) fun j y H2 e2 hy => ?_) (by walk_at "el") (by simp; omega)) fun p5 H2 hp5 e2 h2 => ?_
      · obtain ⟨z, rfl, hc⟩ := cm f.2 (by omega) j y hy
        exact ev_op (ev_var rfl) (ev_var rfl) (rv_I hc)
      have hl2 := e2 q _ hl
      refine q_asgL (el_cat (by walk_at "el") (el_map (mulV f.1) (ev_var rfl) (sq_of hl2) (by rw [List.length_map]; omega) (fun _ => rfl) fun j y H3 e3 hy => ?_) (by simp; omega)) fun p6 H3 hp6 e3 h3 => ?_
      · obtain ⟨z, rfl, hc⟩ := cm f.1 (by omega) j y hy
        exact ev_op (ev_var rfl) (ev_var rfl) (rv_I hc)
      rw [map_mulV] at h2 h3
      have g2 : H3 p5 = some (.lst (((sumsF (fs.take i)).map (· * f.2) ++ [0]).map V.int)) := by
        rw [List.map_append]
        exact e3 p5 _ h2
      have g3 : H3 p6 = some (.lst ((0 :: (sumsF (fs.take i)).map (· * f.1)).map V.int)) := h3
      refine s_asgL (el_zip addV (by walk_at "ea") (sq_of g2) (sq_of g3) (by simp) (by simp; omega) (fun _ _ => rfl) fun j a b H4 e4 ha hb => ?_) fun p2 H4 hp2 e4 h4 => ?_
      · rw [List.getElem?_map] at ha hb
        obtain ⟨a', _, rfl⟩ := Option.map_eq_some_iff.mp ha
        obtain ⟨b', _, rfl⟩ := Option.map_eq_some_iff.mp hb
        exact ev_op (ev_var rfl) (ev_var rfl) rv_I0
      · rw [zip_addV] at h4
        exact ⟨p2, _, _, _, _, rfl, fresh_back (e.trans (e2.trans e3)) hp2, e.trans (e2.trans (e3.trans e4)), by rw [sumsF_take hfi]; exact h4⟩
    · rintro σ' H' ⟨q, y2, y3, y5, y6, rfl, hq, e, hl⟩
      rw [hwl, List.take_length] at hl
      refine s_ret (ev_var rfl) fun H2 e2 => k q H2 hq (e.trans e2) (e2 q _ hl)

theorem el_call1LT {σ : L2.St} {H : Hp} {te : TE} {sp : Sp} {dvs ys : List V} {xs : List (List V)} {E : XK} (h : EvLT te σ H xs) (hs : ∀ p ws H1, Ex H H1 → H1 p = some (.lst ws) → TL H1 ws xs → SpL sp ([.ref p] ++ dvs) H1 ys) : EvL (tCall sp dvs E (tCons te tNil)) σ H ys := fun H1 e Q q =>
  h H1 e _ fun p ws H2 _ e2 h2 hw => hs p ws H2 (e.trans e2) h2 hw H2 (Ex.refl _) Q (fun l H3 hl e3 h3 => q l H3 (fresh_back e2 hl) (e2.trans e3) h3) E
theorem sl_sums {H : Hp} {a : Addr} {ws : List V} {fs : List (Int × Int)} (ha : H a = some (.lst ws)) (ht : TL H ws (fs.map twoV)) (hf : FOk fs) : SpL sp_sums_by_tables ([.ref a] ++ []) H ((sumsF fs).map V.int) := fun H1 e Q q E => ⟨a, ws, fs, rfl, e a _ ha, ht.ex e, hf, q⟩
/-- the factors of weights_by_tables -/
def facs (w : Int) (n : Nat) : List (Int × Int) := (List.range n).map fun i : Nat => (w, (i : Int))
theorem fok_facs {w : Int} {n : Nat} (hn : n ≤ 20) (h0 : 0 ≤ w) (h1 : w ≤ 2 ^ 42) : FOk (facs w n) := ⟨by
  unfold facs
  rw [List.length_map, List.length_range]
  omega, fun f hf => by
  obtain ⟨i, hi, rfl⟩ := List.mem_map.mp hf
  have := List.mem_range.mp hi
  exact ⟨h0, h1, by show (0 : Int) ≤ (i : Int); omega, by show (i : Int) ≤ 2 ^ 42; omega⟩⟩

theorem sumsF_facs (w : Int) : ∀ n, sumsF (facs w n) = sums w n
  | 0 => rfl
  | n + 1 => by
    have ih := sumsF_facs w n
    unfold sumsF facs at ih ⊢
    rw [List.range_succ, List.map_append, List.foldl_append, ih]
    rfl
def sp_weights_by_tables : Sp := fun vs H Q _ => ∃ (n : Nat) (w : Int), vs = [.int n, .int w] ∧ n ≤ 20 ∧ 0 ≤ w ∧ w ≤ 2 ^ 42 ∧ RetL ((sums w n).map V.int) H Q
theorem sl_wbt {H : Hp} {n : Nat} {w : Int} (h0 : n ≤ 20) (h1 : 0 ≤ w) (h2 : w ≤ 2 ^ 42) : SpL sp_weights_by_tables ([.int (n : Int), .int w] ++ []) H ((sums w n).map V.int) := fun H1 _ Q q E => ⟨n, w, rfl, h0, h1, h2, q⟩
theorem ok_weights_by_tables (T : Tx K mg) : FnOk P w K mg base CX0 2 T.f_weights_by_tables T.d_weights_by_tables ["guests", "weight"] sp_weights_by_tables := by
  refine T.F_weights_by_tables.ok sc_weights_by_tables (fun vs H Q E h => ?_) (fun cdv A outer s H vs Q E hr h => ?_)
  · obtain ⟨n, x, rfl, _⟩ := h
    rfl
  · obtain ⟨n, x, rfl, hn, hx0, hx1, k⟩ := h
    refine ⟨_, (pss_one (ps_ret (pe_call (ok_sums_by_tables T) (hr.mono (by decide)) (by rfl) T.g_sums_by_tables T.F_sums_by_tables.kp T.b_sums_by_tables .nil pass0 (pa_cons (pe_lc (own := [("guest", 2)]) (g := (gName 2)) (tt := tYes) rfl sc_weights_by_tables.nd (pi_range1 (by rfl) T.m_range (pa_cons (pv 0) pa_nil)) (blkOk_by (own := [("guest", 2)]) (N := n_weights_by_tables) (sc := defScope s_weights_by_tables) (by decide +kernel)) (fun _ _ _ _ _ => (pg_name (i := 2) sc_weights_by_tables.nd rfl (Or.inl rfl))) (fun _ _ _ _ _ => pts_nil) (fun _ _ _ _ _ => (pe_tup (pa_cons (pv 1) (pa_cons (pv 2) pa_nil))))) pa_nil)))), ?_⟩
    have lt := elt_R1 (te := tTup (tCons (tVar 1) (tCons (tVar 2) tNil))) (ta := tCons (tVar 0) tNil) (j := 2) (vs := [2]) (H := H) (σ := start n_weights_by_tables [.int (n : Int), .int x]) (n := (n : Int)) (fun i : Nat => twoV (x, (i : Int))) (ea_cons (ev_var (i := 0) rfl) ea_nil) ⟨by omega, by omega⟩ (fun _ => rfl) (fun i H1 e hi => eu_tup (ea_cons (ev_var rfl) (ea_cons (ev_var rfl) ea_nil)) (Nat.le_of_ble_eq_true rfl))
    have e : (List.range (n : Int).toNat).map (fun i : Nat => twoV (x, (i : Int))) = (facs x n).map twoV := by
      unfold facs
      rw [List.map_map]
      rfl
    rw [e] at lt
    refine s_retL (el_call1LT lt fun p ws H1 e1 h1 hw => sl_sums h1 hw (fok_facs hn hx0 hx1)) fun p H1 hp e1 h1 => k p H1 hp e1 ?_
    rw [sumsF_facs] at h1
    exact h1

def sp_sum_at : Sp := fun vs H Q _ => ∃ (a : Addr) (ws : List V) (fs : List (Int × Int)) (t : Nat), vs = [.ref a, .int (t : Int)] ∧ H a = some (.lst ws) ∧ TL H ws (fs.map twoV) ∧ FOk fs ∧ RetV (.int ((sumsF fs).getD t 0)) H Q
theorem ok_sum_at (T : Tx K mg) : FnOk P w K mg base CX0 2 T.f_sum_at T.d_sum_at ["factors", "number"] sp_sum_at := by
  refine T.F_sum_at.ok sc_sum_at (fun vs H Q E h => ?_) (fun cdv A outer s H vs Q E hr h => ?_)
  · obtain ⟨a, ws, fs, t, rfl, _⟩ := h
    rfl
  · obtain ⟨a, ws, fs, t, rfl, ha, ht, hf, k⟩ := h
    refine ⟨_, (pss_cons (ps_set (i := 2) sc_sum_at.nd rfl (Or.inl rfl) (pe_call (ok_sums_by_tables T) (hr.mono (by decide)) (by rfl) T.g_sums_by_tables T.F_sums_by_tables.kp T.b_sums_by_tables .nil pass0 (pa_cons (pv 0) pa_nil)))
      (pss_one (ps_ret (pe_ifExp (pt_cmpR op_lt (pv 1) (pe_callB call_lenR (by rfl) T.m_len (by decide +kernel) (pa_cons (pv 2) pa_nil)) (nomark _)) (pe_ix ix_list (pv 2) (pv 1) (fun _ _ => rfl)) pe_int)))), ?_⟩
    refine q_asgL (xs := (sumsF fs).map V.int) (el_call (ea_cons (ev_var rfl) ea_nil) (sl_sums ha ht hf)) fun p H1 hp e1 h1 => ?_
    have hlen : ((sumsF fs).map V.int).length = (sumsF fs).length := List.length_map ..
    refine s_ret (v := .int ((sumsF fs).getD t 0)) (ev_if (b := decide ((t : Int) < (((sumsF fs).map V.int).length : Int))) (et_test (ev_op (ev_var rfl) (ev_len (K := K) (ev_var rfl) (sq_of h1)) rv_I0)) (fun hb => ?_) (fun hb => ?_)) fun H2 e2 => k _ (e1.trans e2)
    · have hb := of_decide_eq_true hb
      rw [hlen] at hb
      have hlt : t < (sumsF fs).length := by omega
      refine ev_op (ev_var rfl) (ev_var rfl) (rv_ixL (K := K) (sq_of h1) (atI_nat (j := t) ?_))
      rw [List.getElem?_map, List.getElem?_eq_getElem hlt]
      simp [List.getD_eq_getElem?_getD, hlt]
    · have hb := of_decide_eq_false hb
      rw [hlen] at hb
      have e0 : (sumsF fs).getD t 0 = 0 := by
        rw [List.getD_eq_getElem?_getD, List.getElem?_eq_none (by omega)]
        rfl
      rw [e0]
      exact ev_c

end

/-- the ways of the others -/
def wayO (g : List Nat) (n : Nat) : Int := (List.range n).foldl (fun m x => if x ∈ g then m else m * (x : Int)) 1
theorem wayO_next (g : List Nat) (n : Nat) : wayO g (n + 1) = if n ∈ g then wayO g n else wayO g n * (n : Int) := by
  unfold wayO
  rw [List.range_succ, List.foldl_append]
  rfl
theorem wayO_bd (g : List Nat) : ∀ n, n ≤ 20 → 0 ≤ wayO g n ∧ (wayO g n).natAbs < 2 ^ (5 * n + 1)
  | 0, _ => ⟨(by decide : (0 : Int) ≤ 1), (by decide : (1 : Int).natAbs < 2 ^ (5 * 0 + 1))⟩
  | n + 1, hn => by
    obtain ⟨a, b⟩ := wayO_bd g n (by omega)
    rw [wayO_next]
    split
    · exact ⟨a, Nat.lt_of_lt_of_le b (Nat.pow_le_pow_right (by decide) (by omega))⟩
    · refine ⟨Int.mul_nonneg a (by omega), ?_⟩
      rw [Int.natAbs_mul, show 5 * (n + 1) + 1 = (5 * n + 1) + 5 by omega, Nat.pow_add]
      exact Nat.mul_lt_mul_of_lt_of_le b (by omega) (by decide)
def sp_ways_of_openers : Sp := fun vs H Q _ => ∃ (a : Addr) (g : List Nat) (n : Nat), vs = [.int (n : Int), .ref a] ∧ H a = some (.lst (nv g)) ∧ n ≤ 20 ∧ g.length ≤ 20 ∧ RetV (.int (wayO g n)) H Q
theorem sv_ways_of {H : Hp} {a : Addr} {g : List Nat} {n : Nat} (ha : H a = some (.lst (nv g))) (hn : n ≤ 20) (hg : g.length ≤ 20) : SpV sp_ways_of_openers ([.int (n : Int), .ref a] ++ []) H (.int (wayO g n)) := fun H1 e Q q E => ⟨a, g, n, rfl, e a _ ha, hn, hg, q⟩
def pw (w : Int) : Nat → Int
  | 0 => 1
  | n + 1 => pw w n * w
theorem pw_bd {w : Int} (h0 : 1 ≤ w) (h1 : w ≤ 1000000000000) : ∀ n, n ≤ 20 → 0 < pw w n ∧ (pw w n).natAbs < 2 ^ (40 * n + 1)
  | 0, _ => ⟨(by decide : (0 : Int) < 1), (by decide : (1 : Int).natAbs < 2 ^ (40 * 0 + 1))⟩
  | n + 1, hn => by
    obtain ⟨a, b⟩ := pw_bd h0 h1 n (by omega)
    show 0 < pw w n * w ∧ (pw w n * w).natAbs < _
    refine ⟨Int.mul_pos a (by omega), ?_⟩
    rw [Int.natAbs_mul, show 40 * (n + 1) + 1 = (40 * n + 1) + 40 by omega, Nat.pow_add]
    exact Nat.mul_lt_mul_of_lt_of_le b (by omega) (by decide)
def sp_raised : Sp := fun vs H Q _ => ∃ (w : Int) (n : Nat), vs = [.int w, .int (n : Int)] ∧ n ≤ 20 ∧ 1 ≤ w ∧ w ≤ 1000000000000 ∧ RetV (.int (pw w n)) H Q
theorem sv_raised {H : Hp} {w : Int} {n : Nat} (hn : n ≤ 20) (h0 : 1 ≤ w) (h1 : w ≤ 1000000000000) : SpV sp_raised ([.int w, .int (n : Int)] ++ []) H (.int (pw w n)) := fun H1 e Q q E => ⟨w, n, rfl, hn, h0, h1, q⟩
section
variable {P : Program} {w : World} {K : PySem.W.Frag} {mg : Str → Option Value} {base : Heap}
theorem ok_raised (T : Tx K mg) : FnOk P w K mg base CX0 1 T.f_raised T.d_raised ["base", "times"] sp_raised := by
  refine T.F_raised.ok sc_raised (fun vs H Q E h => ?_) (fun cdv A outer s H vs Q E hr h => ?_)
  · obtain ⟨x, n, rfl, _⟩ := h
    rfl
  · obtain ⟨x, n, rfl, hn, h0, h1, k⟩ := h
    refine ⟨_, (pss_cons (ps_set (i := 2) sc_raised.nd rfl (Or.inl rfl) pe_int)
      (pss_cons (ps_for PassesOwn.never rfl (pi_range1 (by rfl) T.m_range (pa_cons (pv 1) pa_nil)) (pg_name (i := 3) sc_raised.nd rfl (Or.inl rfl)) (pss_one (ps_set (i := 2) sc_raised.nd rfl (Or.inl rfl) (pe_op op_mulX (pv 2) (pv 0)))))
      (pss_one (ps_ret (pv 2))))), ?_⟩
    refine q_asg (v := .int 1) ev_c fun H1 e1 => ?_
    refine q_forR1 (n := (n : Int)) (ea_cons (ev_var rfl) ea_nil) ⟨by omega, by omega⟩ (fun i σ' H' => ∃ y : Option V, σ' = [some (.int x), some (.int (n : Int)), some (.int (pw x i)), y] ∧ Ex H H') (fun H2 e2 => ⟨none, rfl, e1.trans e2⟩) ?_ ?_
    · rintro i σ' H' hi ⟨y, rfl, e⟩
      have b := (pw_bd h0 h1 i (by omega)).2
      have m : CMulX (pw x i) x := mulx_ok (a := 1000) (b := 64) (Nat.lt_of_lt_of_le b (Nat.pow_le_pow_right (by decide) (by omega))) (by omega) (by decide)
      exact s_asg (ev_op (ev_var rfl) (ev_var rfl) (rv_I m)) fun H2 e2 => ⟨_, rfl, e.trans e2⟩
    · rintro σ' H' ⟨y, rfl, e⟩
      rw [Int.toNat_natCast]
      exact s_ret (ev_var rfl) fun H2 e2 => k H2 (e.trans e2)
theorem ok_ways_of_openers (T : Tx K mg) : FnOk P w K mg base CX0 1 T.f_ways_of_openers T.d_ways_of_openers ["guests", "group"] sp_ways_of_openers := by
  refine T.F_ways_of_openers.ok sc_ways_of_openers (fun vs H Q E h => ?_) (fun cdv A outer s H vs Q E hr h => ?_)
  · obtain ⟨a, g, n, rfl, _⟩ := h
    rfl
  · obtain ⟨a, g, n, rfl, ha, hn, hg, k⟩ := h
    refine ⟨_, (pss_cons (ps_set (i := 2) sc_ways_of_openers.nd rfl (Or.inl rfl) pe_int)
      (pss_cons (ps_for PassesOwn.never rfl (pi_range1 (by rfl) T.m_range (pa_cons (pv 0) pa_nil)) (pg_name (i := 3) sc_ways_of_openers.nd rfl (Or.inl rfl)) (pss_one (ps_if (pt_cmpR op_notIn_seq (pv 3) (pv 1) (by rfl)) (pss_one (ps_set (i := 2) sc_ways_of_openers.nd rfl (Or.inl rfl) (pe_op op_mulX (pv 2) (pv 3)))) pss_nil)))
      (pss_one (ps_ret (pv 2))))), ?_⟩
    refine q_asg (v := .int 1) ev_c fun H1 e1 => ?_
    refine q_forR1 (n := (n : Int)) (ea_cons (ev_var rfl) ea_nil) ⟨by omega, by omega⟩ (fun i σ' H' => ∃ y : Option V, σ' = [some (.int (n : Int)), some (.ref a), some (.int (wayO g i)), y] ∧ Ex H H') (fun H2 e2 => ⟨none, rfl, e1.trans e2⟩) ?_ ?_
    · rintro i σ' H' hi ⟨y, rfl, e⟩
      have b := (wayO_bd g i (by omega)).2
      have m : CMulX (wayO g i) (i : Int) := mulx_ok (a := 200) (b := 64) (Nat.lt_of_lt_of_le b (Nat.pow_le_pow_right (by decide) (by omega))) (by omega) (by decide)
      refine s_when (b := !decide (i ∈ g)) (et_is (et_test (ev_op (ev_var rfl) (ev_var rfl) (rv_niL (sq_of (e a _ ha)) rfl (nv_flat g)))) (by rw [nv_in])) (fun hb H2 e2 => ?_) fun hb H2 e2 => ?_
      · have ne : i ∉ g := by simpa using hb
        exact s_asg (ev_op (ev_var rfl) (ev_var rfl) (rv_I m)) fun H3 e3 => ⟨some (.int (i : Int)), by rw [wayO_next, if_neg ne]; rfl, e.trans (e2.trans e3)⟩
      · have ne : i ∈ g := by simpa using hb
        exact ⟨some (.int (i : Int)), by rw [wayO_next, if_pos ne]; rfl, e.trans e2⟩
    · rintro σ' H' ⟨y, rfl, e⟩
      rw [Int.toNat_natCast]
      exact s_ret (ev_var rfl) fun H2 e2 => k H2 (e.trans e2)
end


def frac (a b : Int) : List V := [.int (a / cd a b), .int (b / cd a b)]
/-! ### shares of openers -/
theorem two_ok {k : Nat} {x : Int} (h : x.natAbs < 2 ^ k) (hk : k ≤ 8000) : x.natAbs < 2 ^ 8000 := Nat.lt_of_lt_of_le h (Nat.pow_le_pow_right (by decide) hk)
def loT (w : Int) (g : Nat) : Nat → Int
  | 0 => w
  | k + 1 => loT w g k * ((g : Int) + 1 + (k : Int))
def loB (w : Int) (g : Nat) : Nat → Int
  | 0 => w + (g : Int)
  | k + 1 => loB w g k * (w + ((g : Int) + 1 + (k : Int)))
theorem lo_bd {w : Int} (h0 : 1 ≤ w) (h1 : w ≤ 1000000000000) {g : Nat} : ∀ k, g + 1 + k ≤ 20 → 0 < loT w g k ∧ (loT w g k).natAbs < 2 ^ (41 * (k + 1)) ∧ 0 < loB w g k ∧ (loB w g k).natAbs < 2 ^ (41 * (k + 1))
  | 0, hg => ⟨(by show 0 < w; omega), (by show w.natAbs < 2 ^ 41; omega), (by show 0 < w + (g : Int); omega), (by show (w + (g : Int)).natAbs < 2 ^ 41; omega)⟩
  | k + 1, hg => by
    obtain ⟨a, b, c, d⟩ := lo_bd h0 h1 (g := g) k (by omega)
    show 0 < loT w g k * ((g : Int) + 1 + (k : Int)) ∧ (loT w g k * ((g : Int) + 1 + (k : Int))).natAbs < _ ∧ 0 < loB w g k * (w + ((g : Int) + 1 + (k : Int))) ∧ (loB w g k * (w + ((g : Int) + 1 + (k : Int)))).natAbs < _
    rw [Int.natAbs_mul, Int.natAbs_mul, show 41 * (k + 1 + 1) = 41 * (k + 1) + 41 by omega, Nat.pow_add]
    exact ⟨Int.mul_pos a (by omega), Nat.mul_lt_mul_of_lt_of_le b (by omega) (by decide), Int.mul_pos c (by omega), Nat.mul_lt_mul_of_lt_of_le d (by omega) (by decide)⟩
/-! ### shares of tables -/
section
variable {K : PySem.W.Frag} {σ : L2.St} {H : Hp} {ta tb te : TE} {D : Ends} {tz : TS}
theorem ev_call2LT {sp : Sp} {dvs : List V} {xs : List (List V)} {x z : V} {E : XK} (h : EvLT te σ H xs) (h2 : ∀ H1, Ex H H1 → Ev tb σ H1 x) (hs : ∀ p ws H1, Ex H H1 → H1 p = some (.lst ws) → TL H1 ws xs → SpV sp ([.ref p, x] ++ dvs) H1 z) : Ev (tCall sp dvs E (tCons te (tCons tb tNil))) σ H z := fun H1 e Q q =>
  h H1 e _ fun p ws H2 _ e2 h3 hw => h2 H2 (e.trans e2) H2 (Ex.refl _) _ fun H3 e3 => hs p ws H3 ((e.trans e2).trans e3) (e3 p _ h3) (TL.ex e3 hw) H3 (Ex.refl _) Q (fun H4 e4 => q H4 (e2.trans (e3.trans e4))) E
end

theorem sums_nn {w : Int} (h0 : 1 ≤ w) (h1 : w ≤ 1000000000000) {n : Nat} (hn : n ≤ 20) (t : Nat) : 0 ≤ (sums w n).getD t 0 ∧ ((sums w n).getD t 0).natAbs < 2 ^ 900 := by
  rcases Nat.lt_or_ge t (sums w n).length with h | h
  · have e : (sums w n).getD t 0 = (sums w n)[t] := by rw [List.getD_eq_getElem?_getD, List.getElem?_eq_getElem h]; rfl
    have := sums_small (w := w) (by omega) (by omega) n hn (sums w n)[t] (List.getElem_mem h)
    rw [e]
    refine ⟨this.1, ?_⟩
    have a : (2 : Int) ^ (43 * n) = ((2 ^ (43 * n) : Nat) : Int) := by simp
    rw [a] at this
    have b : 2 ^ (43 * n) < 2 ^ 900 := Nat.pow_lt_pow_right (by decide) (by omega)
    omega
  · have e : (sums w n).getD t 0 = 0 := by rw [List.getD_eq_getElem?_getD, List.getElem?_eq_none h]; rfl
    rw [e]
    exact ⟨by decide, by decide⟩
theorem fac_bd {n : Nat} (hn : n ≤ 40) : ((fac n : Nat) : Int).natAbs < 2 ^ 300 := by
  have : ∀ m, m ≤ 40 → fac m ≤ 2 ^ (6 * m) := fun m => by
    induction m with
    | zero => intro _; exact Nat.le_refl _
    | succ m ih =>
      intro hm
      rw [fac_succ, show 6 * (m + 1) = 6 * m + 6 by omega, Nat.pow_add]
      exact Nat.mul_le_mul (ih (by omega)) (by omega)
  have a := this n hn
  have b : 2 ^ (6 * n) < 2 ^ 300 := Nat.pow_lt_pow_right (by decide) (by omega)
  omega
theorem rise_ok {w : Int} (h0 : 1 ≤ w) (h1 : w ≤ 1000000000000) {n : Nat} (hn : n ≤ 20) : 0 < rise w n ∧ (rise w n).natAbs < 2 ^ 3000 := by
  refine ⟨rise_pos h0 n, ?_⟩
  have := rise_le (w := w) (by omega) n (by omega)
  exact Nat.lt_of_le_of_lt this (Nat.pow_lt_pow_right (by decide) (by omega))
def tabW (w : Int) (g : List Nat) : Int := w * ((fac (g.length - 1) : Nat) : Int)
theorem tabW_bd {w : Int} (h0 : 1 ≤ w) (h1 : w ≤ 1000000000000) {g : List Nat} (hg : g.length ≤ 20) : 0 < tabW w g ∧ (tabW w g).natAbs < 2 ^ 400 := by
  unfold tabW
  have a := fac_pos (g.length - 1)
  have b := fac_bd (n := g.length - 1) (by omega)
  refine ⟨Int.mul_pos (by omega) (by omega), ?_⟩
  rw [Int.natAbs_mul, show 400 = 100 + 300 by omega, Nat.pow_add]
  exact Nat.mul_lt_mul_of_le_of_lt (by omega) b (by decide)
def sp_table_weight : Sp := fun vs H Q _ => ∃ (w : Int) (a : Addr) (g : List Nat), vs = [.int w, .ref a] ∧ H a = some (.lst (nv g)) ∧ 1 ≤ g.length ∧ g.length ≤ 20 ∧ 1 ≤ w ∧ w ≤ 1000000000000 ∧ RetV (.int (tabW w g)) H Q
theorem sv_table_weight {H : Hp} {w : Int} {a : Addr} {g : List Nat} (ha : H a = some (.lst (nv g))) (g0 : 1 ≤ g.length) (g1 : g.length ≤ 20) (h0 : 1 ≤ w) (h1 : w ≤ 1000000000000) : SpV sp_table_weight ([.int w, .ref a] ++ []) H (.int (tabW w g)) := fun H1 e Q q E => ⟨w, a, g, rfl, e a _ ha, g0, g1, h0, h1, q⟩
/-! ### tables of a group, what is told of numbers of tables -/
section
variable {K : PySem.W.Frag} {σ : L2.St} {H : Hp} {ta tb te tl : TE}
theorem elt_mapN {xs : List V} {j : Nat} {vs : List Nat} (f : Nat → List V) (h : EvL tl σ H xs) (hz : xs.length ≤ 40000) (hw : ∀ x, wipe ((wipe σ vs).set j (some x)) vs = wipe σ vs)
    (he : ∀ (i : Nat) (x : V) H1, Ex H H1 → xs[i]? = some x → EvU te ((wipe σ vs).set j (some x)) H1 (f i)) : EvLT (tLc (iList K tl) (gName j) tYes te vs) σ H ((List.range xs.length).map f) := fun H1 e Q q =>
  h H1 e _ fun l H2 nl e2 h2 => elt_map (K := K) (tl := fun _ H' R => R (.ref l) H') (H := H2) (σ := σ) (xs := xs) f (fun H3 _ Q q => q H3 (Ex.refl _)) (sq_of h2) hz hw (fun i x H3 e3 hx => he i x H3 (e.trans (e2.trans e3)) hx) H2 (Ex.refl _) Q fun p ws H3 hp e3 h3 t3 => q p ws H3 (fresh_back e2 hp) (e2.trans e3) h3 t3
/-- [a tuple] + an old list of tuples -/
theorem elt_cons1 {r : List V} {b : Addr} {ws : List V} {rs : List (List V)} (h : EvU te σ H r) (hb : Ev tb σ H (.ref b)) (hl : H b = some (.lst ws)) (ht : TL H ws rs) (hz : ws.length ≤ 1000) : EvLT (tOp rCat (tLst (tCons te tNil)) tb) σ H (r :: rs) := fun H1 e Q q =>
  h H1 e _ fun u H2 nu e2 hu => ⟨sz_of (by show 1 ≤ 100000; decide), fun l hl2 => hb _ (e.trans (e2.trans (Ex.new hl2))) _ fun H4 e4 => by
    have ul : u ≠ l := fun z => by
      subst z
      rw [hu] at hl2
      cases hl2
    have hu4 := e4 u _ ((Ex.new hl2) u _ hu)
    have hb4 := e4 b _ ((Ex.new hl2) b _ (e2 b _ (e b _ hl)))
    have E4 := e.trans (e2.trans ((Ex.new hl2 (o := .lst [.ref u])).trans e4))
    refine ⟨l, b, [.ref u], ws, rfl, rfl, e4 l _ upd_same, hb4, sz_of (by show 1 + ws.length ≤ 100000; omega), fun p hp => q p ([.ref u] ++ ws) _ (fresh_back (e2.trans ((Ex.new hl2 (o := .lst [.ref u])).trans e4)) hp) ((e2.trans ((Ex.new hl2 (o := .lst [.ref u])).trans e4)).trans (Ex.new hp)) upd_same ?_⟩
    exact .cons ⟨u, rfl, (Ex.new hp) u _ hu4⟩ ((ht.ex E4).ex (Ex.new hp))⟩
end
def othF (len n : Nat) : List (Int × Int) := (List.range (n - len)).map fun i : Nat => (1, ((len + i : Nat) : Int))
theorem fok_oth {len n : Nat} (hn : n ≤ 20) : FOk ((1, 0) :: othF len n) := ⟨by
  rw [List.length_cons]
  unfold othF
  rw [List.length_map, List.length_range]
  omega, fun f hf => by
  rcases List.mem_cons.mp hf with e | hf
  · rw [e]
    exact ⟨by decide, by decide, by decide, by decide⟩
  · obtain ⟨i, hi, rfl⟩ := List.mem_map.mp hf
    have := List.mem_range.mp hi
    exact ⟨(by decide : (0 : Int) ≤ 1), (by decide +kernel : (1 : Int) ≤ 2 ^ 42), by show (0 : Int) ≤ ((len + i : Nat) : Int); omega, by show ((len + i : Nat) : Int) ≤ 2 ^ 42; omega⟩⟩
theorem sumsF_nn {fs : List (Int × Int)} (h : FOk fs) (hl : fs.length ≤ 21) (t : Nat) : 0 ≤ (sumsF fs).getD t 0 ∧ ((sumsF fs).getD t 0).natAbs < 2 ^ 1000 := by
  rcases Nat.lt_or_ge t (sumsF fs).length with z | z
  · have e : (sumsF fs).getD t 0 = (sumsF fs)[t] := by rw [List.getD_eq_getElem?_getD, List.getElem?_eq_getElem z]; rfl
    have := sumsF_small h (sumsF fs)[t] (List.getElem_mem z)
    rw [e]
    refine ⟨this.1, ?_⟩
    have a : (2 : Int) ^ (43 * fs.length) = ((2 ^ (43 * fs.length) : Nat) : Int) := by simp
    rw [a] at this
    have b : 2 ^ (43 * fs.length) < 2 ^ 1000 := Nat.pow_lt_pow_right (by decide) (by omega)
    omega
  · have e : (sumsF fs).getD t 0 = 0 := by rw [List.getD_eq_getElem?_getD, List.getElem?_eq_none z]; rfl
    rw [e]
    exact ⟨by decide, by decide⟩
theorem stir_pos : ∀ {n m : Nat}, 1 ≤ m → m ≤ n → 0 < stir n m := by
  intro n
  induction n with
  | zero => intro m h0 h1; omega
  | succ n ih =>
    intro m h0 h1
    cases m with
    | zero => omega
    | succ t =>
      show 0 < n * stir n (t + 1) + stir n t
      cases t with
      | zero =>
        cases n with
        | zero => decide
        | succ k =>
          have := Nat.mul_pos (show 0 < k + 1 by omega) (ih (m := 0 + 1) (by omega) (by omega))
          omega
      | succ u =>
        have := ih (m := u + 1) (by omega) (by omega)
        omega
theorem sums_pos1 {n m : Nat} (h0 : 1 ≤ m) (h1 : m ≤ n) : 0 < (sums 1 n).getD m 0 := by
  rw [List.getD_eq_getElem?_getD, sums_get 1 n m h1]
  have := stir_pos h0 h1
  show 0 < (stir n m : Int) * 1 ^ m
  rw [Int.one_pow]
  omega
theorem ev_ixN {K : PySem.W.Frag} {σ : L2.St} {H : Hp} {ta tb : TE} {xs : List V} {i : Int} {v : V} (h : EvL ta σ H xs) (hb : Ev tb σ H (.int i)) (hi : atI xs i = some v) : Ev (tOp (rIxL K) ta tb) σ H v := fun H1 e Q q =>
  h H1 e _ fun p H2 hp e2 h2 => hb H2 (e.trans e2) _ fun H3 e3 => rv_ixL (K := K) (sq_of (e3 p _ h2)) hi H3 (Ex.refl H3) Q fun H4 e4 => q H4 (e2.trans (e3.trans e4))
/-! ### home by steps -/
theorem prm60 {n k : Nat} (h : k ≤ n) (hn : n ≤ 60) : 0 ≤ prm n k ∧ (prm n k).natAbs < 2 ^ 400 := by
  have a := prm_fac h
  have b := prm_pos h
  have c := fac_pos (n - k)
  refine ⟨by omega, ?_⟩
  have d : ∀ m, m ≤ 60 → fac m ≤ 2 ^ (6 * m) := fun m => by
    induction m with
    | zero => intro _; exact Nat.le_refl _
    | succ m ih =>
      intro hm
      rw [fac_succ, show 6 * (m + 1) = 6 * m + 6 by omega, Nat.pow_add]
      exact Nat.mul_le_mul (ih (by omega)) (by omega)
  have e := d n hn
  have f : 2 ^ (6 * n) < 2 ^ 400 := Nat.pow_lt_pow_right (by decide) (by omega)
  have : prm n k * 1 ≤ prm n k * (fac (n - k) : Int) := Int.mul_le_mul_of_nonneg_left (by omega) (by omega)
  rw [a, Int.mul_one] at this
  omega
def wsz (n : Nat) (w : Int) (s : Nat) : Int := w * prm (n - 1) (s - 1) * rise w (n - s)
def hsz (n : Nat) (st : Int) : List Nat := ((List.range n).filter fun i : Nat => decide (st % ((1 : Int) + (i : Int)) = 0)).map fun i => i + 1
def homW (n : Nat) (w st : Int) : Int := ((hsz n st).map fun s => wsz n w s).sum
theorem hsz_mem {n : Nat} {st : Int} {s : Nat} (h : s ∈ hsz n st) : 1 ≤ s ∧ s ≤ n := by
  obtain ⟨i, hi, rfl⟩ := List.mem_map.mp h
  have := List.mem_range.mp (List.mem_filter.mp hi).1
  omega
theorem hsz_len (n : Nat) (st : Int) : (hsz n st).length ≤ n := by
  unfold hsz
  rw [List.length_map]
  have := List.length_filter_le (fun i : Nat => decide (st % ((1 : Int) + (i : Int)) = 0)) (List.range n)
  rwa [List.length_range] at this
def sp_tabs_weight : Sp := fun vs H Q _ => ∃ (n s : Nat) (w : Int), vs = [.int (n : Int), .int w, .int (s : Int)] ∧ 1 ≤ s ∧ s ≤ n ∧ n ≤ 20 ∧ 1 ≤ w ∧ w ≤ 1000000000000 ∧ RetV (.int (w * prm (n - 1) (s - 1))) H Q
theorem sv_tabs_weight {H : Hp} {n s : Nat} {w : Int} (s0 : 1 ≤ s) (s1 : s ≤ n) (hn : n ≤ 20) (h0 : 1 ≤ w) (h1 : w ≤ 1000000000000) : SpV sp_tabs_weight ([.int (n : Int), .int w, .int (s : Int)] ++ []) H (.int (w * prm (n - 1) (s - 1))) := fun H1 e Q q E => ⟨n, s, w, rfl, s0, s1, hn, h0, h1, q⟩
def sp_with_size : Sp := fun vs H Q _ => ∃ (n s : Nat) (w : Int), vs = [.int (n : Int), .int w, .int (s : Int)] ∧ 1 ≤ s ∧ s ≤ n ∧ n ≤ 20 ∧ 1 ≤ w ∧ w ≤ 1000000000000 ∧ RetV (.int (wsz n w s)) H Q
theorem sv_with_size {H : Hp} {n s : Nat} {w : Int} (s0 : 1 ≤ s) (s1 : s ≤ n) (hn : n ≤ 20) (h0 : 1 ≤ w) (h1 : w ≤ 1000000000000) : SpV sp_with_size ([.int (n : Int), .int w, .int (s : Int)] ++ []) H (.int (wsz n w s)) := fun H1 e Q q E => ⟨n, s, w, rfl, s0, s1, hn, h0, h1, q⟩
def sp_home_weight : Sp := fun vs H Q _ => ∃ (n : Nat) (w st : Int), vs = [.int (n : Int), .int w, .int st] ∧ n ≤ 20 ∧ 1 ≤ w ∧ w ≤ 1000000000000 ∧ RetV (.int (homW n w st)) H Q
theorem sv_home_weight {H : Hp} {n : Nat} {w st : Int} (hn : n ≤ 20) (h0 : 1 ≤ w) (h1 : w ≤ 1000000000000) : SpV sp_home_weight ([.int (n : Int), .int w, .int st] ++ []) H (.int (homW n w st)) := fun H1 e Q q E => ⟨n, w, st, rfl, hn, h0, h1, q⟩
def othV (n : Nat) (w st : Int) : List V := if n = 1 then [.int 0, .int 1] else frac (rise w n - homW n w st) (rise w n * ((n : Int) - 1))
/-! ### groups at tables of their own -/
theorem sum_cast : ∀ ls : List Nat, (ls.map fun n : Nat => (n : Int)).sum = (ls.sum : Int)
  | [] => rfl
  | z :: r => by
    rw [List.map_cons, List.sum_cons, sum_cast r, List.sum_cons]
    omega
theorem given_at {n : Nat} (v : Nat → V) : given n (fun _ => true) v = (List.range n).map v := by
  unfold given
  rw [List.filter_eq_self.mpr fun _ _ => rfl]
def lotT (w : Int) (gs : List (List Nat)) : Int := gs.foldl (fun t g => t * tabW w g) 1
theorem lotT_next {w : Int} {gs : List (List Nat)} {i : Nat} {g : List Nat} (h : gs[i]? = some g) : lotT w (gs.take (i + 1)) = lotT w (gs.take i) * tabW w g := by
  unfold lotT
  rw [List.take_add_one, h, List.foldl_append]
  rfl
section
variable {P : Program} {w : World} {K : PySem.W.Frag} {mg : Str → Option Value} {base : Heap}
theorem ok_table_weight (T : Tx K mg) : FnOk P w K mg base CX0 1 T.f_table_weight T.d_table_weight ["weight", "group"] sp_table_weight := by
  refine T.F_table_weight.ok sc_table_weight (fun vs H Q E h => ?_) (fun cdv A outer s H vs Q E hr h => ?_)
  · obtain ⟨x, a, g, rfl, _⟩ := h
    rfl
  · obtain ⟨x, a, g, rfl, ha, g0, g1, h0, h1, k⟩ := h
    refine ⟨_, (pss_one (ps_ret (pe_op op_mulX (pv 0) (pe_callBfun cr_factorial (by rfl) T.i_factorial (pa_cons (pe_op op_sub (pe_callB call_lenR (by rfl) T.m_len (by decide +kernel) (pa_cons (pv 1) pa_nil)) pe_int) pa_nil))))), ?_⟩
    have ln := ev_len (K := K) (ta := tVar 1) (σ := start n_table_weight [.int x, .ref a]) (H := H) (ev_var (i := 1) (v := .ref a) rfl) (sq_of ha)
    rw [nv_len] at ln
    have fb := fac_bd (n := g.length - 1) (by omega)
    have m : CMulX x ((fac (g.length - 1) : Nat) : Int) := mulx_ok (a := 64) (b := 300) (by omega) fb (by decide)
    exact s_ret (ev_op (ev_var rfl) (ev_fac (n := g.length - 1) (ev_is (ev_op ln ev_c rv_I0) (by congr 1; omega)) (by omega)) (rv_I m)) fun H1 e1 => k H1 e1
theorem ok_tables_weight (T : Tx K mg) : FnOk P w K mg base CX0 1 T.f_tables_weight T.d_tables_weight ["guests", "weight", "size"] sp_tabs_weight := by
  refine T.F_tables_weight.ok sc_tables_weight (fun vs H Q E h => ?_) (fun cdv A outer s H vs Q E hr h => ?_)
  · obtain ⟨n, s, x, rfl, _⟩ := h
    rfl
  · obtain ⟨n, s, x, rfl, s0, s1, hn, h0, h1, k⟩ := h
    refine ⟨_, (pss_one (ps_ret (pe_op op_mulX (pv 1) (pe_callBfun cr_perm (by rfl) T.i_perm (pa_cons (pe_op op_sub (pv 0) pe_int) (pa_cons (pe_op op_sub (pv 2) pe_int) pa_nil)))))), ?_⟩
    have pb := prm60 (n := n - 1) (k := s - 1) (by omega) (by omega)
    have m : CMulX x (prm (n - 1) (s - 1)) := mulx_ok (a := 64) (b := 400) (by omega) pb.2 (by decide)
    exact s_ret (ev_op (ev_var rfl) (ev_perm (n := n - 1) (k := s - 1) (ev_is (ev_op (ev_var rfl) ev_c rv_I0) (by congr 1; omega)) (ev_is (ev_op (ev_var rfl) ev_c rv_I0) (by congr 1; omega)) (by omega) (by omega)) (rv_I m)) fun H1 e1 => k H1 e1
theorem ok_weight_with_size (T : Tx K mg) : FnOk P w K mg base CX0 2 T.f_weight_with_size T.d_weight_with_size ["guests", "weight", "size"] sp_with_size := by
  refine T.F_weight_with_size.ok sc_weight_with_size (fun vs H Q E h => ?_) (fun cdv A outer s H vs Q E hr h => ?_)
  · obtain ⟨n, s, x, rfl, _⟩ := h
    rfl
  · obtain ⟨n, s, x, rfl, s0, s1, hn, h0, h1, k⟩ := h
    refine ⟨_, (pss_one (ps_ret (pe_op op_mulX (pe_call (ok_tables_weight T) (hr.mono (by decide)) (by rfl) T.g_tables_weight T.F_tables_weight.kp T.b_tables_weight .nil pass0 (pa_cons (pv 0) (pa_cons (pv 1) (pa_cons (pv 2) pa_nil)))) (pe_call (ok_rising T) (hr.mono (by decide)) (by rfl) T.g_rising T.F_rising.kp T.b_rising .nil pass0 (pa_cons (pv 1) (pa_cons (pe_op op_sub (pv 0) (pv 2)) pa_nil)))))), ?_⟩
    have pb := prm60 (n := n - 1) (k := s - 1) (by omega) (by omega)
    have rb := rise_ok h0 h1 (n := n - s) (by omega)
    have b : (x * prm (n - 1) (s - 1)).natAbs < 2 ^ 500 := by
      rw [Int.natAbs_mul, show 500 = 100 + 400 by omega, Nat.pow_add]
      exact Nat.mul_lt_mul_of_le_of_lt (by omega) pb.2 (by decide)
    have m : CMulX (x * prm (n - 1) (s - 1)) (rise x (n - s)) := mulx_ok b rb.2 (by decide)
    exact s_ret (ev_op (ev_call (ea_cons (ev_var rfl) (ea_cons (ev_var rfl) (ea_cons (ev_var rfl) ea_nil))) (sv_tabs_weight s0 s1 hn h0 h1)) (ev_call (ea_cons (ev_var rfl) (ea_cons (ev_is (ev_op (ev_var rfl) (ev_var rfl) rv_I0) (by congr 1; omega)) ea_nil)) (sv_rise (n := n - s) (by omega) (by omega))) (rv_I m)) fun H1 e1 => k H1 e1
theorem ok_home_weight (T : Tx K mg) : FnOk P w K mg base CX0 3 T.f_home_weight T.d_home_weight ["guests", "weight", "steps"] sp_home_weight := by
  refine T.F_home_weight.ok sc_home_weight (fun vs H Q E h => ?_) (fun cdv A outer s H vs Q E hr h => ?_)
  · obtain ⟨n, x, st, rfl, _⟩ := h
    rfl
  · obtain ⟨n, x, st, rfl, hn, h0, h1, k⟩ := h
    refine ⟨_, (pss_cons (ps_setLc (i := 4) (own := [("size", 3)]) (g := (gName 3)) rfl sc_home_weight.nd rfl rfl (sw_true rfl rfl rfl (by decide +kernel)) (pi_range2 (by rfl) T.m_range (pa_cons pe_int (pa_cons (pe_op op_add (pv 0) pe_int) pa_nil))) (blkOk_by (own := [("size", 3)]) (N := n_home_weight) (sc := defScope s_home_weight) (by decide +kernel)) (fun _ _ _ _ _ => (pg_name (i := 3) sc_home_weight.nd rfl (Or.inl rfl))) (fun _ _ _ _ _ => (pts_one (pt_cmpR op_eq (pe_op op_mod (pv 2) (pv 3)) pe_int (nomark _)))) (fun _ _ _ _ _ => (pv 3)))
      (pss_one (ps_ret (pe_callB (cr_sum rfl) (by rfl) T.m_sum (by decide +kernel) (pa_cons (pe_lc (own := [("size", 3)]) (g := (gName 3)) (tt := tYes) rfl sc_home_weight.nd (pi_list (pv 4)) (blkOk_by (own := [("size", 3)]) (N := n_home_weight) (sc := defScope s_home_weight) (by decide +kernel)) (fun _ _ _ _ _ => (pg_name (i := 3) sc_home_weight.nd rfl (Or.inl rfl))) (fun _ _ _ _ _ => pts_nil) (fun _ _ _ _ _ => (pe_call (ok_weight_with_size T) (hr.mono (by decide)) (by rfl) T.g_weight_with_size T.F_weight_with_size.kp T.b_weight_with_size .nil pass0 (pa_cons (pv 0) (pa_cons (pv 1) (pa_cons (pv 3) pa_nil)))))) pa_nil))))), ?_⟩
    refine q_asgL (xs := nv (hsz n st)) ?_ fun p H1 hp e1 hp1 => ?_
    · have g := el_lcR2 (te := tVar 3) (ta := tCons (tC (.int 1)) (tCons (tOp (rI0 fun i j => .int (i + j)) (tVar 0) (tC (.int 1))) tNil)) (t := tTest (tOp rEq (tOp (rI (fun _ j => 0 < j) fun i j => .int (i % j)) (tVar 2) (tVar 3)) (tC (.int 0)))) (j := 3) (vs := [3]) (H := H) (σ := start n_home_weight [.int (n : Int), .int x, .int st]) (lo := 1) (n := (n : Int) + 1) (fun i => decide (st % ((1 : Int) + (i : Int)) = 0)) (fun i => .int ((1 : Int) + (i : Int))) (ea_cons ev_c (ea_cons (ev_op (ev_var rfl) ev_c rv_I0) ea_nil)) ⟨by omega, by omega, by omega, by omega⟩ (fun _ => rfl) (fun i H1 e hi => et_is (et_test (ev_op (ev_op (ev_var rfl) (ev_var rfl) (rv_I (show (0 : Int) < 1 + (i : Int) by omega))) ev_c (rv_eq rfl))) ?_) (fun i H1 e hi _ => ev_var rfl)
      · have e : given ((n : Int) + 1 - 1).toNat (fun i => decide (st % ((1 : Int) + (i : Int)) = 0)) (fun i => V.int ((1 : Int) + (i : Int))) = nv (hsz n st) := by
          unfold given hsz
          rw [nv_eq, List.map_map, show ((n : Int) + 1 - 1).toNat = n by omega]
          refine List.map_congr_left fun i _ => ?_
          show V.int ((1 : Int) + (i : Int)) = V.int ((i + 1 : Nat) : Int)
          congr 1
          omega
        rw [e] at g
        exact g
      · rw [Bool.eq_iff_iff, decide_eq_true_iff, decide_eq_true_iff]
        exact ⟨fun z => V.int.inj z, fun z => by rw [z]⟩
    have hl := nv_len (hsz n st)
    have ll := hsz_len n st
    refine s_ret (v := .int (homW n x st)) (ev_sumN (ns := (hsz n st).map fun s => wsz n x s) ?_) fun H2 e2 => k H2 (e1.trans e2)
    have g := el_map (K := K) (te := tCall sp_with_size [] E0 (tCons (tVar 0) (tCons (tVar 1) (tCons (tVar 3) tNil)))) (tl := tVar 4) (j := 3) (vs := [3]) (H := H1) (a := p) (xs := nv (hsz n st)) (σ := [some (.int (n : Int)), some (.int x), some (.int st), none, some (.ref p)]) (fun v => match v with
      | .int i => .int (wsz n x i.toNat)
      | _ => .non) (ev_var rfl) (sq_of hp1) (by omega) (fun _ => rfl) fun i v H2 e2 hv => ?_
    · have e : (nv (hsz n st)).map (fun v => match v with
        | .int i => V.int (wsz n x i.toNat)
        | _ => .non) = ((hsz n st).map fun s => wsz n x s).map V.int := by
        rw [nv_eq, List.map_map, List.map_map]
        rfl
      rw [e] at g
      exact g
    · rw [nv_eq, List.getElem?_map] at hv
      obtain ⟨z, hz, rfl⟩ := Option.map_eq_some_iff.mp hv
      have hm := hsz_mem (List.mem_of_getElem? hz)
      exact ev_call (ea_cons (ev_var rfl) (ea_cons (ev_var rfl) (ea_cons (ev_var rfl) ea_nil))) (sv_with_size hm.1 hm.2 hn h0 h1)
end
theorem judgeO_g {m : Int} {d : PyData} (h : judgeO m d = true) : judgeG m (lsO d) = true := (Bool.and_eq_true_iff.mp h).1
theorem judgeGs_get {H : Hp} {v : V} {d : PyData} {n : Nat} (hv : Tg3 H v d) (hj : judgeGs ((n : Int) - 1) (lsO d) = true) : ∃ (a : Addr) (ws : List V) (gs : List (List Nat)), v = .ref a ∧ H a = some (.lst ws) ∧ PL H ws gs ∧ Lots n gs := by
  cases ho : lsO d with
  | none =>
    rw [ho] at hj
    exact Bool.noConfusion hj
  | some ds =>
    rw [ho] at hj
    obtain ⟨a, xs, rfl, rfl, ha, hd⟩ := tg3_lst hv ho
    have hj : (ds.all (fun d => judgeG ((n : Int) - 1) (lsO d)) && (decide (0 < ds.length) && decide ((memb ds).Nodup))) = true := hj
    simp only [Bool.and_eq_true, decide_eq_true_iff] at hj
    obtain ⟨h1, h2, h3⟩ := hj
    obtain ⟨gs, pl, og, mb, eds⟩ := lb_all hd h1
    refine ⟨a, xs, gs, rfl, ha, pl, ⟨fun z => ?_, og, ?_⟩⟩
    · rw [eds, z] at h2
      simp at h2
    · rw [mb] at h3
      unfold iz at h3
      exact (List.pairwise_map.mp h3).imp fun z e => z (by rw [e])


/-! ### the twelve shares, with their checks -/
def dGst (n x g : Int) : Option Nat := if 1 ≤ n ∧ n ≤ 20 then (if 1 ≤ x ∧ x ≤ 1000000000000 then (if 0 ≤ g ∧ g < n then none else some 2) else some 1) else some 0
def dRnk (n x r g : Int) : Option Nat := if 1 ≤ n ∧ n ≤ 20 then (if 1 ≤ x ∧ x ≤ 1000000000000 then (if 0 ≤ r ∧ r ≤ n - 1 then (if 0 ≤ g ∧ g < n then none else some 2) else some 5) else some 1) else some 0
def dGrp (n x : Int) (d : PyData) : Option Nat := if 1 ≤ n ∧ n ≤ 20 then (if 1 ≤ x ∧ x ≤ 1000000000000 then (if judgeG (n - 1) (lsO d) then none else some 3) else some 1) else some 0
def dOpn (n x : Int) (d : PyData) : Option Nat := if 1 ≤ n ∧ n ≤ 20 then (if 1 ≤ x ∧ x ≤ 1000000000000 then (if judgeO (n - 1) d then none else some 3) else some 1) else some 0
def dCnt (n : Int) (d : PyData) : Option Nat := if 1 ≤ n ∧ n ≤ 20 then (if judgeO (n - 1) d then none else some 3) else some 0
def dSpl (n x : Int) (d : PyData) : Option Nat := if 1 ≤ n ∧ n ≤ 20 then (if 1 ≤ x ∧ x ≤ 1000000000000 then (if judgeGs (n - 1) (lsO d) then none else some 4) else some 1) else some 0
def dGiv (n r : Int) (d : PyData) : Option Nat := if 1 ≤ n ∧ n ≤ 20 then (if 1 ≤ r ∧ r ≤ n then (if judgeG (n - 1) (lsO d) then none else some 3) else some 5) else some 0
def dHom (n x : Int) : Option Nat := if 1 ≤ n ∧ n ≤ 20 then (if 1 ≤ x ∧ x ≤ 1000000000000 then none else some 1) else some 0
section
variable {P : Program} {w : World} {K : PySem.W.Frag} {mg : Str → Option Value} {base : Heap}
def sp_opener_share (T : Tx K mg) : Sp := fun vs H Q E => ∃ (m x q : Int), vs = [.int m, .int x, .int q] ∧ Out ((dGst m x q).map (erA T)) H Q E
def sp_last_opener_share (T : Tx K mg) : Sp := fun vs H Q E => ∃ (m x q : Int), vs = [.int m, .int x, .int q] ∧ Out ((dGst m x q).map (erA T)) H Q E
def sp_rank_share (T : Tx K mg) : Sp := fun vs H Q E => ∃ (m x u q : Int), vs = [.int m, .int x, .int u, .int q] ∧ Out ((dRnk m x u q).map (erA T)) H Q E
def sp_together_share (T : Tx K mg) : Sp := fun vs H Q E => ∃ (m x : Int) (v : V) (d : PyData), vs = [.int m, .int x, v] ∧ Tg3 H v d ∧ LenOk d ∧ Out ((dGrp m x d).map (erA T)) H Q E
def sp_just_share (T : Tx K mg) : Sp := fun vs H Q E => ∃ (m x : Int) (v : V) (d : PyData), vs = [.int m, .int x, v] ∧ Tg3 H v d ∧ LenOk d ∧ Out ((dGrp m x d).map (erA T)) H Q E
def sp_tables_shares (T : Tx K mg) : Sp := fun vs H Q E => ∃ (m x : Int) (v : V) (d : PyData), vs = [.int m, .int x, v] ∧ Tg3 H v d ∧ LenOk d ∧ Out ((dGrp m x d).map (erA T)) H Q E
def sp_openers_share (T : Tx K mg) : Sp := fun vs H Q E => ∃ (m x : Int) (v : V) (d : PyData), vs = [.int m, .int x, v] ∧ Tg3 H v d ∧ LenOk d ∧ Out ((dOpn m x d).map (erA T)) H Q E
def sp_count_openers (T : Tx K mg) : Sp := fun vs H Q E => ∃ (m : Int) (v : V) (d : PyData), vs = [.int m, v] ∧ Tg3 H v d ∧ LenOk d ∧ Out ((dCnt m d).map (erA T)) H Q E
def sp_split_share (T : Tx K mg) : Sp := fun vs H Q E => ∃ (m x : Int) (v : V) (d : PyData), vs = [.int m, .int x, v] ∧ Tg3 H v d ∧ LenOk2 d ∧ Out ((dSpl m x d).map (erA T)) H Q E
def sp_given_tables (T : Tx K mg) : Sp := fun vs H Q E => ∃ (m u : Int) (v : V) (d : PyData), vs = [.int m, .int u, v] ∧ Tg3 H v d ∧ LenOk d ∧ Out ((dGiv m u d).map (erA T)) H Q E
def sp_home_share (T : Tx K mg) : Sp := fun vs H Q E => ∃ (m x st : Int), vs = [.int m, .int x, .int st] ∧ Out ((dHom m x).map (erA T)) H Q E
def sp_other_share (T : Tx K mg) : Sp := fun vs H Q E => ∃ (m x st : Int), vs = [.int m, .int x, .int st] ∧ Out ((dHom m x).map (erA T)) H Q E
end
section
variable {P : Program} {w : World} {K : PySem.W.Frag} {mg : Str → Option Value} {base : Heap}
theorem ok_opener_share (T : Tx K mg) : FnOk P w K mg base (L2N.CX P w) 5 T.f_opener_share T.d_opener_share ["guests", "weight", "guest"] (sp_opener_share T) := by
  refine Kit.okN T.F_opener_share sc_opener_share (fun vs H Q E h => ?_) (fun cdv A outer s H vs Q E hr h => ?_)
  · obtain ⟨m, x, q, rfl, _⟩ := h
    rfl
  · obtain ⟨m, x, q, rfl, k⟩ := h
    refine ⟨_, (pss_cons (ps_expr (pe_call (ok_check_guests T) (hr.mono (by decide)) (by rfl) T.g_check_guests T.F_check_guests.kp T.b_check_guests .nil Kit.passN (pa_cons (pv 0) pa_nil)))
      (pss_cons (ps_expr (pe_call (ok_check_weight T) (hr.mono (by decide)) (by rfl) T.g_check_weight T.F_check_weight.kp T.b_check_weight .nil Kit.passN (pa_cons (pv 1) pa_nil)))
      (pss_cons (ps_expr (pe_call (ok_check_guest T) (hr.mono (by decide)) (by rfl) T.g_check_guest T.F_check_guest.kp T.b_check_guest .nil Kit.passN (pa_cons (pv 2) (pa_cons (pv 0) pa_nil))))
      (PSs.nox (pss_one (ps_ret (pe_call (ok_fraction T) (hr.mono (by decide)) (by rfl) T.g_fraction T.F_fraction.kp T.b_fraction .nil pass0 (pa_cons (pv 1) (pa_cons (pe_op op_add (pv 1) (pv 2)) pa_nil))))))))), ?_⟩
    refine q_chk (ea_cons (ev_var rfl) ea_nil) so_chk1 (fun hd1 H1 e1 => ?_) fun C hC H1 e1 => ?_
    rotate_left
    · obtain ⟨hj, rfl⟩ := due_yes hC
      exact k.yes _ (by unfold dGst; rw [if_neg hj]; rfl) _ (e1)
    have c1 := due_no hd1
    obtain ⟨n, rfl⟩ : ∃ n : Nat, m = (n : Int) := ⟨m.toNat, by omega⟩
    refine q_chk (ea_cons (ev_var rfl) ea_nil) so_chk1 (fun hd2 H2 e2 => ?_) fun C hC H2 e2 => ?_
    rotate_left
    · obtain ⟨hj, rfl⟩ := due_yes hC
      exact k.yes _ (by unfold dGst; rw [if_pos c1, if_neg hj]; rfl) _ (e1.trans e2)
    have c2 := due_no hd2
    have h0 := c2.1
    have h1 := c2.2
    refine q_chk (ea_cons (ev_var rfl) (ea_cons (ev_var rfl) ea_nil)) (so_chkG (by omega)) (fun hd3 H3 e3 => ?_) fun C hC H3 e3 => ?_
    rotate_left
    · obtain ⟨hj, rfl⟩ := due_yes hC
      exact k.yes _ (by unfold dGst; rw [if_pos c1, if_pos c2, if_neg hj]; rfl) _ (e1.trans (e2.trans e3))
    have c3 := due_no hd3
    obtain ⟨g, rfl⟩ : ∃ g : Nat, q = (g : Int) := ⟨q.toNat, by omega⟩
    have kn := k.no (by unfold dGst; rw [if_pos c1, if_pos c2, if_pos c3]; rfl)
    have hn : n ≤ 20 := by omega
    have hg : g < n := by omega
    exact s_retU (eu_call (ea_cons (ev_var rfl) (ea_cons (ev_op (ev_var rfl) (ev_var rfl) rv_I0) ea_nil)) (su_fraction (by omega) (two_ok (k := 64) (by omega) (by decide)))) fun p H4 hp e4 h4 => kn _ _ (e1.trans (e2.trans (e3.trans e4)))
theorem ok_last_opener_share (T : Tx K mg) : FnOk P w K mg base (L2N.CX P w) 5 T.f_last_opener_share T.d_last_opener_share ["guests", "weight", "guest"] (sp_last_opener_share T) := by
  refine Kit.okN T.F_last_opener_share sc_last_opener_share (fun vs H Q E h => ?_) (fun cdv A outer s H vs Q E hr h => ?_)
  · obtain ⟨m, x, q, rfl, _⟩ := h
    rfl
  · obtain ⟨m, x, q, rfl, k⟩ := h
    refine ⟨_, (pss_cons (ps_expr (pe_call (ok_check_guests T) (hr.mono (by decide)) (by rfl) T.g_check_guests T.F_check_guests.kp T.b_check_guests .nil Kit.passN (pa_cons (pv 0) pa_nil)))
      (pss_cons (ps_expr (pe_call (ok_check_weight T) (hr.mono (by decide)) (by rfl) T.g_check_weight T.F_check_weight.kp T.b_check_weight .nil Kit.passN (pa_cons (pv 1) pa_nil)))
      (pss_cons (ps_expr (pe_call (ok_check_guest T) (hr.mono (by decide)) (by rfl) T.g_check_guest T.F_check_guest.kp T.b_check_guest .nil Kit.passN (pa_cons (pv 2) (pa_cons (pv 0) pa_nil))))
      (PSs.nox (pss_cons (ps_set (i := 3) sc_last_opener_share.nd rfl (Or.inl rfl) (pv 1))
      (pss_cons (ps_set (i := 4) sc_last_opener_share.nd rfl (Or.inl rfl) (pe_op op_add (pv 1) (pv 2)))
      (pss_cons (ps_for PassesOwn.never rfl (pi_range2 (by rfl) T.m_range (pa_cons (pe_op op_add (pv 2) pe_int) (pa_cons (pv 0) pa_nil))) (pg_name (i := 5) sc_last_opener_share.nd rfl (Or.inl rfl)) (pss_cons (ps_set (i := 3) sc_last_opener_share.nd rfl (Or.inl rfl) (pe_op op_mulX (pv 3) (pv 5)))
      (pss_one (ps_set (i := 4) sc_last_opener_share.nd rfl (Or.inl rfl) (pe_op op_mulX (pv 4) (pe_op op_add (pv 1) (pv 5)))))))
      (pss_one (ps_ret (pe_call (ok_fraction T) (hr.mono (by decide)) (by rfl) T.g_fraction T.F_fraction.kp T.b_fraction .nil pass0 (pa_cons (pv 3) (pa_cons (pv 4) pa_nil)))))))))))), ?_⟩
    refine q_chk (ea_cons (ev_var rfl) ea_nil) so_chk1 (fun hd1 H1 e1 => ?_) fun C hC H1 e1 => ?_
    rotate_left
    · obtain ⟨hj, rfl⟩ := due_yes hC
      exact k.yes _ (by unfold dGst; rw [if_neg hj]; rfl) _ (e1)
    have c1 := due_no hd1
    obtain ⟨n, rfl⟩ : ∃ n : Nat, m = (n : Int) := ⟨m.toNat, by omega⟩
    refine q_chk (ea_cons (ev_var rfl) ea_nil) so_chk1 (fun hd2 H2 e2 => ?_) fun C hC H2 e2 => ?_
    rotate_left
    · obtain ⟨hj, rfl⟩ := due_yes hC
      exact k.yes _ (by unfold dGst; rw [if_pos c1, if_neg hj]; rfl) _ (e1.trans e2)
    have c2 := due_no hd2
    have h0 := c2.1
    have h1 := c2.2
    refine q_chk (ea_cons (ev_var rfl) (ea_cons (ev_var rfl) ea_nil)) (so_chkG (by omega)) (fun hd3 H3 e3 => ?_) fun C hC H3 e3 => ?_
    rotate_left
    · obtain ⟨hj, rfl⟩ := due_yes hC
      exact k.yes _ (by unfold dGst; rw [if_pos c1, if_pos c2, if_neg hj]; rfl) _ (e1.trans (e2.trans e3))
    have c3 := due_no hd3
    obtain ⟨g, rfl⟩ : ∃ g : Nat, q = (g : Int) := ⟨q.toNat, by omega⟩
    have kn := k.no (by unfold dGst; rw [if_pos c1, if_pos c2, if_pos c3]; rfl)
    have hn : n ≤ 20 := by omega
    have hg : g < n := by omega
    refine q_asg (v := .int x) (ev_var rfl) fun H4 e4 => ?_
    refine q_asg (v := .int (x + (g : Int))) (ev_op (ev_var rfl) (ev_var rfl) rv_I0) fun H5 e5 => ?_
    refine q_forR2 (lo := (g : Int) + 1) (n := (n : Int)) (ea_cons (ev_op (ev_var rfl) ev_c rv_I0) (ea_cons (ev_var rfl) ea_nil)) ⟨by omega, by omega, by omega, by omega⟩ (fun i σ' H' => ∃ y : Option V, σ' = [some (.int (n : Int)), some (.int x), some (.int (g : Int)), some (.int (loT x g i)), some (.int (loB x g i)), y] ∧ Ex H H')
      (fun H6 e6 => ⟨none, rfl, e1.trans (e2.trans (e3.trans (e4.trans (e5.trans e6))))⟩) ?_ ?_
    · rintro i σ' H' hi ⟨y, rfl, e⟩
      obtain ⟨a, b, c, d⟩ := lo_bd h0 h1 (g := g) i (by omega)
      have m1 : CMulX (loT x g i) ((g : Int) + 1 + (i : Int)) := mulx_ok (a := 41 * (i + 1)) (b := 64) b (by omega) (by omega)
      have m2 : CMulX (loB x g i) (x + ((g : Int) + 1 + (i : Int))) := mulx_ok (a := 41 * (i + 1)) (b := 64) d (by omega) (by omega)
      refine q_asg (v := .int (loT x g (i + 1))) (ev_op (ev_var rfl) (ev_var rfl) (rv_I m1)) fun H6 e6 => ?_
      exact s_asg (v := .int (loB x g (i + 1))) (ev_op (ev_var rfl) (ev_op (ev_var rfl) (ev_var rfl) rv_I0) (rv_I m2)) fun H7 e7 => ⟨_, rfl, e.trans (e6.trans e7)⟩
    · rintro σ' H' ⟨y, rfl, e⟩
      have en : ((n : Int) - ((g : Int) + 1)).toNat = n - (g + 1) := by omega
      rw [en]
      obtain ⟨a, b, c, d⟩ := lo_bd h0 h1 (g := g) (n - (g + 1)) (by omega)
      exact s_retU (eu_call (ea_cons (ev_var rfl) (ea_cons (ev_var rfl) ea_nil)) (su_fraction c (two_ok d (by omega)))) fun p H4 hp e4 h4 => kn _ _ (e.trans e4)
theorem ok_count_openers (T : Tx K mg) : FnOk P w K mg base (L2N.CX P w) 7 T.f_count_openers T.d_count_openers ["guests", "group"] (sp_count_openers T) := by
  refine Kit.okN T.F_count_openers sc_count_openers (fun vs H Q E h => ?_) (fun cdv A outer s H vs Q E hr h => ?_)
  · obtain ⟨m, v, d, rfl, _⟩ := h
    rfl
  · obtain ⟨m, v, d, rfl, hv, hz, k⟩ := h
    refine ⟨_, (pss_cons (ps_expr (pe_call (ok_check_guests T) (hr.mono (by decide)) (by rfl) T.g_check_guests T.F_check_guests.kp T.b_check_guests .nil Kit.passN (pa_cons (pv 0) pa_nil)))
      (pss_cons (ps_expr (pe_call (ok_check_openers T) (hr.mono (by decide)) (by rfl) T.g_check_openers T.F_check_openers.kp T.b_check_openers .nil Kit.passN (pa_cons (pv 1) (pa_cons (pv 0) pa_nil))))
      (PSs.nox (pss_one (ps_ret (pe_call (ok_ways_of_openers T) (hr.mono (by decide)) (by rfl) T.g_ways_of_openers T.F_ways_of_openers.kp T.b_ways_of_openers .nil pass0 (pa_cons (pv 0) (pa_cons (pv 1) pa_nil)))))))), ?_⟩
    refine q_chk (ea_cons (ev_var rfl) ea_nil) so_chk1 (fun hd1 H1 e1 => ?_) fun C hC H1 e1 => ?_
    rotate_left
    · obtain ⟨hj, rfl⟩ := due_yes hC
      exact k.yes _ (by unfold dCnt; rw [if_neg hj]; rfl) _ (e1)
    have c1 := due_no hd1
    obtain ⟨n, rfl⟩ : ∃ n : Nat, m = (n : Int) := ⟨m.toNat, by omega⟩
    refine q_chk (ea_cons (ev_var rfl) (ea_cons (ev_var rfl) ea_nil)) (so_chkOp (hv.ex e1) hz (by omega)) (fun hd2 H2 e2 => ?_) fun C hC H2 e2 => ?_
    rotate_left
    · obtain ⟨hj, rfl⟩ := due_yes hC
      exact k.yes _ (by unfold dCnt; rw [if_pos c1, if_neg hj]; rfl) _ (e1.trans e2)
    have c2 := due_no hd2
    have kn := k.no (by unfold dCnt; rw [if_pos c1, if_pos c2]; rfl)
    obtain ⟨a, g, rfl, ha2, o, rfl⟩ := judgeG_get (hv.ex (e1.trans e2)) (judgeO_g c2)
    have hn : n ≤ 20 := by omega
    have gl := o.len
    have gp := o.pos
    exact s_ret (ev_call (ea_cons (ev_var rfl) (ea_cons (ev_var rfl) ea_nil)) (sv_ways_of (ha2) hn (by omega))) fun H3 e3 => kn _ _ (e1.trans (e2.trans e3))
theorem ok_openers_share (T : Tx K mg) : FnOk P w K mg base (L2N.CX P w) 7 T.f_openers_share T.d_openers_share ["guests", "weight", "group"] (sp_openers_share T) := by
  refine Kit.okN T.F_openers_share sc_openers_share (fun vs H Q E h => ?_) (fun cdv A outer s H vs Q E hr h => ?_)
  · obtain ⟨m, x, v, d, rfl, _⟩ := h
    rfl
  · obtain ⟨m, x, v, d, rfl, hv, hz, k⟩ := h
    refine ⟨_, (pss_cons (ps_expr (pe_call (ok_check_guests T) (hr.mono (by decide)) (by rfl) T.g_check_guests T.F_check_guests.kp T.b_check_guests .nil Kit.passN (pa_cons (pv 0) pa_nil)))
      (pss_cons (ps_expr (pe_call (ok_check_weight T) (hr.mono (by decide)) (by rfl) T.g_check_weight T.F_check_weight.kp T.b_check_weight .nil Kit.passN (pa_cons (pv 1) pa_nil)))
      (pss_cons (ps_expr (pe_call (ok_check_openers T) (hr.mono (by decide)) (by rfl) T.g_check_openers T.F_check_openers.kp T.b_check_openers .nil Kit.passN (pa_cons (pv 2) (pa_cons (pv 0) pa_nil))))
      (PSs.nox (pss_one (ps_ret (pe_call (ok_fraction T) (hr.mono (by decide)) (by rfl) T.g_fraction T.F_fraction.kp T.b_fraction .nil pass0 (pa_cons (pe_op op_mulX (pe_call (ok_ways_of_openers T) (hr.mono (by decide)) (by rfl) T.g_ways_of_openers T.F_ways_of_openers.kp T.b_ways_of_openers .nil pass0 (pa_cons (pv 0) (pa_cons (pv 2) pa_nil))) (pe_call (ok_raised T) (hr.mono (by decide)) (by rfl) T.g_raised T.F_raised.kp T.b_raised .nil pass0 (pa_cons (pv 1) (pa_cons (pe_callB call_lenR (by rfl) T.m_len (by decide +kernel) (pa_cons (pv 2) pa_nil)) pa_nil)))) (pa_cons (pe_call (ok_rising T) (hr.mono (by decide)) (by rfl) T.g_rising T.F_rising.kp T.b_rising .nil pass0 (pa_cons (pv 1) (pa_cons (pv 0) pa_nil))) pa_nil))))))))), ?_⟩
    refine q_chk (ea_cons (ev_var rfl) ea_nil) so_chk1 (fun hd1 H1 e1 => ?_) fun C hC H1 e1 => ?_
    rotate_left
    · obtain ⟨hj, rfl⟩ := due_yes hC
      exact k.yes _ (by unfold dOpn; rw [if_neg hj]; rfl) _ (e1)
    have c1 := due_no hd1
    obtain ⟨n, rfl⟩ : ∃ n : Nat, m = (n : Int) := ⟨m.toNat, by omega⟩
    refine q_chk (ea_cons (ev_var rfl) ea_nil) so_chk1 (fun hd2 H2 e2 => ?_) fun C hC H2 e2 => ?_
    rotate_left
    · obtain ⟨hj, rfl⟩ := due_yes hC
      exact k.yes _ (by unfold dOpn; rw [if_pos c1, if_neg hj]; rfl) _ (e1.trans e2)
    have c2 := due_no hd2
    have h0 := c2.1
    have h1 := c2.2
    refine q_chk (ea_cons (ev_var rfl) (ea_cons (ev_var rfl) ea_nil)) (so_chkOp (hv.ex (e1.trans e2)) hz (by omega)) (fun hd3 H3 e3 => ?_) fun C hC H3 e3 => ?_
    rotate_left
    · obtain ⟨hj, rfl⟩ := due_yes hC
      exact k.yes _ (by unfold dOpn; rw [if_pos c1, if_pos c2, if_neg hj]; rfl) _ (e1.trans (e2.trans e3))
    have c3 := due_no hd3
    have kn := k.no (by unfold dOpn; rw [if_pos c1, if_pos c2, if_pos c3]; rfl)
    obtain ⟨a, g, rfl, ha3, o, rfl⟩ := judgeG_get (hv.ex (e1.trans (e2.trans e3))) (judgeO_g c3)
    have hn : n ≤ 20 := by omega
    have hx0 := h0
    have hx1 := h1
    have gl := o.len
    have gp := o.pos
    have ln := ev_len (K := K) (ta := tVar 2) (σ := start n_openers_share [.int (n : Int), .int x, .ref a]) (H := H3) (ev_var (i := 2) (v := .ref a) rfl) (sq_of ha3)
    rw [nv_len] at ln
    have b1 := (wayO_bd g n (by omega)).2
    have b2 := (pw_bd hx0 hx1 g.length (by omega)).2
    have m : CMulX (wayO g n) (pw x g.length) := mulx_ok b1 b2 (by omega)
    have rp := rise_pos hx0 n
    have rl := rise_le (w := x) (by omega) n (by omega)
    exact s_retU (eu_call (ea_cons (ev_op (ev_call (ea_cons (ev_var rfl) (ea_cons (ev_var rfl) ea_nil)) (sv_ways_of ha3 hn (by omega))) (ev_call (ea_cons (ev_var rfl) (ea_cons ln ea_nil)) (sv_raised (by omega) hx0 hx1)) (rv_I m)) (ea_cons (ev_call (ea_cons (ev_var rfl) (ea_cons (ev_var rfl) ea_nil)) (sv_rise (by omega) (by omega))) ea_nil)) (su_fraction rp (two_ok (k := 131 * n + 1) (Nat.lt_of_le_of_lt rl (Nat.pow_lt_pow_right (by decide) (by omega))) (by omega)))) fun p H4 hp e4 h4 => kn _ _ (e1.trans (e2.trans (e3.trans e4)))
theorem ok_together_share (T : Tx K mg) : FnOk P w K mg base (L2N.CX P w) 6 T.f_together_share T.d_together_share ["guests", "weight", "group"] (sp_together_share T) := by
  refine Kit.okN T.F_together_share sc_together_share (fun vs H Q E h => ?_) (fun cdv A outer s H vs Q E hr h => ?_)
  · obtain ⟨m, x, v, d, rfl, _⟩ := h
    rfl
  · obtain ⟨m, x, v, d, rfl, hv, hz, k⟩ := h
    refine ⟨_, (pss_cons (ps_expr (pe_call (ok_check_guests T) (hr.mono (by decide)) (by rfl) T.g_check_guests T.F_check_guests.kp T.b_check_guests .nil Kit.passN (pa_cons (pv 0) pa_nil)))
      (pss_cons (ps_expr (pe_call (ok_check_weight T) (hr.mono (by decide)) (by rfl) T.g_check_weight T.F_check_weight.kp T.b_check_weight .nil Kit.passN (pa_cons (pv 1) pa_nil)))
      (pss_cons (ps_expr (pe_call (ok_check_group T) (hr.mono (by decide)) (by rfl) T.g_check_group T.F_check_group.kp T.b_check_group .nil Kit.passN (pa_cons (pv 2) (pa_cons (pv 0) pa_nil))))
      (PSs.nox (pss_one (ps_ret (pe_call (ok_fraction T) (hr.mono (by decide)) (by rfl) T.g_fraction T.F_fraction.kp T.b_fraction .nil pass0 (pa_cons (pe_call (ok_table_weight T) (hr.mono (by decide)) (by rfl) T.g_table_weight T.F_table_weight.kp T.b_table_weight .nil pass0 (pa_cons (pv 1) (pa_cons (pv 2) pa_nil))) (pa_cons (pe_call (ok_rising T) (hr.mono (by decide)) (by rfl) T.g_rising T.F_rising.kp T.b_rising .nil pass0 (pa_cons (pv 1) (pa_cons (pe_callB call_lenR (by rfl) T.m_len (by decide +kernel) (pa_cons (pv 2) pa_nil)) pa_nil))) pa_nil))))))))), ?_⟩
    refine q_chk (ea_cons (ev_var rfl) ea_nil) so_chk1 (fun hd1 H1 e1 => ?_) fun C hC H1 e1 => ?_
    rotate_left
    · obtain ⟨hj, rfl⟩ := due_yes hC
      exact k.yes _ (by unfold dGrp; rw [if_neg hj]; rfl) _ (e1)
    have c1 := due_no hd1
    obtain ⟨n, rfl⟩ : ∃ n : Nat, m = (n : Int) := ⟨m.toNat, by omega⟩
    refine q_chk (ea_cons (ev_var rfl) ea_nil) so_chk1 (fun hd2 H2 e2 => ?_) fun C hC H2 e2 => ?_
    rotate_left
    · obtain ⟨hj, rfl⟩ := due_yes hC
      exact k.yes _ (by unfold dGrp; rw [if_pos c1, if_neg hj]; rfl) _ (e1.trans e2)
    have c2 := due_no hd2
    have h0 := c2.1
    have h1 := c2.2
    refine q_chk (ea_cons (ev_var rfl) (ea_cons (ev_var rfl) ea_nil)) (so_chkGr (hv.ex (e1.trans e2)) hz (by omega)) (fun hd3 H3 e3 => ?_) fun C hC H3 e3 => ?_
    rotate_left
    · obtain ⟨hj, rfl⟩ := due_yes hC
      exact k.yes _ (by unfold dGrp; rw [if_pos c1, if_pos c2, if_neg hj]; rfl) _ (e1.trans (e2.trans e3))
    have c3 := due_no hd3
    have kn := k.no (by unfold dGrp; rw [if_pos c1, if_pos c2, if_pos c3]; rfl)
    obtain ⟨a, g, rfl, ha3, o, rfl⟩ := judgeG_get (hv.ex (e1.trans (e2.trans e3))) c3
    have hn : n ≤ 20 := by omega
    have gl := o.len
    have gp := o.pos
    have ln := ev_len (K := K) (ta := tVar 2) (σ := start n_together_share [.int (n : Int), .int x, .ref a]) (H := H3) (ev_var (i := 2) (v := .ref a) rfl) (sq_of ha3)
    rw [nv_len] at ln
    have rk := rise_ok h0 h1 (n := g.length) (by omega)
    exact s_retU (eu_call (ea_cons (ev_call (ea_cons (ev_var rfl) (ea_cons (ev_var rfl) ea_nil)) (sv_table_weight ha3 gp (by omega) h0 h1)) (ea_cons (ev_call (ea_cons (ev_var rfl) (ea_cons ln ea_nil)) (sv_rise (by omega) (by omega))) ea_nil)) (su_fraction rk.1 (two_ok rk.2 (by decide)))) fun p H4 hp e4 h4 => kn _ _ (e1.trans (e2.trans (e3.trans e4)))
theorem ok_just_share (T : Tx K mg) : FnOk P w K mg base (L2N.CX P w) 6 T.f_just_share T.d_just_share ["guests", "weight", "group"] (sp_just_share T) := by
  refine Kit.okN T.F_just_share sc_just_share (fun vs H Q E h => ?_) (fun cdv A outer s H vs Q E hr h => ?_)
  · obtain ⟨m, x, v, d, rfl, _⟩ := h
    rfl
  · obtain ⟨m, x, v, d, rfl, hv, hz, k⟩ := h
    refine ⟨_, (pss_cons (ps_expr (pe_call (ok_check_guests T) (hr.mono (by decide)) (by rfl) T.g_check_guests T.F_check_guests.kp T.b_check_guests .nil Kit.passN (pa_cons (pv 0) pa_nil)))
      (pss_cons (ps_expr (pe_call (ok_check_weight T) (hr.mono (by decide)) (by rfl) T.g_check_weight T.F_check_weight.kp T.b_check_weight .nil Kit.passN (pa_cons (pv 1) pa_nil)))
      (pss_cons (ps_expr (pe_call (ok_check_group T) (hr.mono (by decide)) (by rfl) T.g_check_group T.F_check_group.kp T.b_check_group .nil Kit.passN (pa_cons (pv 2) (pa_cons (pv 0) pa_nil))))
      (PSs.nox (pss_cons (ps_set (i := 3) sc_just_share.nd rfl (Or.inl rfl) (pe_op op_mulX (pe_call (ok_table_weight T) (hr.mono (by decide)) (by rfl) T.g_table_weight T.F_table_weight.kp T.b_table_weight .nil pass0 (pa_cons (pv 1) (pa_cons (pv 2) pa_nil))) (pe_call (ok_rising T) (hr.mono (by decide)) (by rfl) T.g_rising T.F_rising.kp T.b_rising .nil pass0 (pa_cons (pv 1) (pa_cons (pe_op op_sub (pv 0) (pe_callB call_lenR (by rfl) T.m_len (by decide +kernel) (pa_cons (pv 2) pa_nil))) pa_nil)))))
      (pss_one (ps_ret (pe_call (ok_fraction T) (hr.mono (by decide)) (by rfl) T.g_fraction T.F_fraction.kp T.b_fraction .nil pass0 (pa_cons (pv 3) (pa_cons (pe_call (ok_rising T) (hr.mono (by decide)) (by rfl) T.g_rising T.F_rising.kp T.b_rising .nil pass0 (pa_cons (pv 1) (pa_cons (pv 0) pa_nil))) pa_nil)))))))))), ?_⟩
    refine q_chk (ea_cons (ev_var rfl) ea_nil) so_chk1 (fun hd1 H1 e1 => ?_) fun C hC H1 e1 => ?_
    rotate_left
    · obtain ⟨hj, rfl⟩ := due_yes hC
      exact k.yes _ (by unfold dGrp; rw [if_neg hj]; rfl) _ (e1)
    have c1 := due_no hd1
    obtain ⟨n, rfl⟩ : ∃ n : Nat, m = (n : Int) := ⟨m.toNat, by omega⟩
    refine q_chk (ea_cons (ev_var rfl) ea_nil) so_chk1 (fun hd2 H2 e2 => ?_) fun C hC H2 e2 => ?_
    rotate_left
    · obtain ⟨hj, rfl⟩ := due_yes hC
      exact k.yes _ (by unfold dGrp; rw [if_pos c1, if_neg hj]; rfl) _ (e1.trans e2)
    have c2 := due_no hd2
    have h0 := c2.1
    have h1 := c2.2
    refine q_chk (ea_cons (ev_var rfl) (ea_cons (ev_var rfl) ea_nil)) (so_chkGr (hv.ex (e1.trans e2)) hz (by omega)) (fun hd3 H3 e3 => ?_) fun C hC H3 e3 => ?_
    rotate_left
    · obtain ⟨hj, rfl⟩ := due_yes hC
      exact k.yes _ (by unfold dGrp; rw [if_pos c1, if_pos c2, if_neg hj]; rfl) _ (e1.trans (e2.trans e3))
    have c3 := due_no hd3
    have kn := k.no (by unfold dGrp; rw [if_pos c1, if_pos c2, if_pos c3]; rfl)
    obtain ⟨a, g, rfl, ha3, o, rfl⟩ := judgeG_get (hv.ex (e1.trans (e2.trans e3))) c3
    have hn : n ≤ 20 := by omega
    have gl := o.len
    have gp := o.pos
    have ln := ev_len (K := K) (ta := tVar 2) (σ := start n_just_share [.int (n : Int), .int x, .ref a]) (H := H3) (ev_var (i := 2) (v := .ref a) rfl) (sq_of ha3)
    rw [nv_len] at ln
    have rk := rise_ok h0 h1 (n := n) (by omega)
    have rj := rise_ok h0 h1 (n := n - g.length) (by omega)
    have tb := tabW_bd h0 h1 (g := g) (by omega)
    have m : CMulX (tabW x g) (rise x (n - g.length)) := mulx_ok tb.2 rj.2 (by decide)
    refine q_asg (v := .int (tabW x g * rise x (n - g.length))) (ev_op (ev_call (ea_cons (ev_var rfl) (ea_cons (ev_var rfl) ea_nil)) (sv_table_weight ha3 gp (by omega) h0 h1)) (ev_call (ea_cons (ev_var rfl) (ea_cons (ev_is (ev_op (ev_var rfl) ln rv_I0) (by congr 1; omega)) ea_nil)) (sv_rise (n := n - g.length) (by omega) (by omega))) (rv_I m)) fun H4 e4 => ?_
    exact s_retU (eu_call (ea_cons (ev_var rfl) (ea_cons (ev_call (ea_cons (ev_var rfl) (ea_cons (ev_var rfl) ea_nil)) (sv_rise (by omega) (by omega))) ea_nil)) (su_fraction rk.1 (two_ok rk.2 (by decide)))) fun p H5 hp e5 h5 => kn _ _ (e1.trans (e2.trans (e3.trans (e4.trans e5))))
theorem ok_tables_shares (T : Tx K mg) : FnOk P w K mg base (L2N.CX P w) 6 T.f_tables_shares T.d_tables_shares ["guests", "weight", "group"] (sp_tables_shares T) := by
  refine Kit.okN T.F_tables_shares sc_tables_shares (fun vs H Q E h => ?_) (fun cdv A outer s H vs Q E hr h => ?_)
  · obtain ⟨m, x, v, d, rfl, _⟩ := h
    rfl
  · obtain ⟨m, x, v, d, rfl, hv, hz, k⟩ := h
    refine ⟨_, (pss_cons (ps_expr (pe_call (ok_check_guests T) (hr.mono (by decide)) (by rfl) T.g_check_guests T.F_check_guests.kp T.b_check_guests .nil Kit.passN (pa_cons (pv 0) pa_nil)))
      (pss_cons (ps_expr (pe_call (ok_check_weight T) (hr.mono (by decide)) (by rfl) T.g_check_weight T.F_check_weight.kp T.b_check_weight .nil Kit.passN (pa_cons (pv 1) pa_nil)))
      (pss_cons (ps_expr (pe_call (ok_check_group T) (hr.mono (by decide)) (by rfl) T.g_check_group T.F_check_group.kp T.b_check_group .nil Kit.passN (pa_cons (pv 2) (pa_cons (pv 0) pa_nil))))
      (PSs.nox (pss_cons (ps_set (i := 3) sc_tables_shares.nd rfl (Or.inr rfl) (pe_call (ok_rising T) (hr.mono (by decide)) (by rfl) T.g_rising T.F_rising.kp T.b_rising .nil pass0 (pa_cons (pv 1) (pa_cons (pe_callB call_lenR (by rfl) T.m_len (by decide +kernel) (pa_cons (pv 2) pa_nil)) pa_nil))))
      (pss_one (ps_ret (pe_lc (own := [("part", 4)]) (g := (gName 4)) (tt := tYes) rfl sc_tables_shares.nd (pi_list (pe_call (ok_weights_by_tables T) (hr.mono (by decide)) (by rfl) T.g_weights_by_tables T.F_weights_by_tables.kp T.b_weights_by_tables .nil pass0 (pa_cons (pe_callB (id := "len") (r := rLenS K) call_lenR (by rfl) T.m_len (by decide +kernel) (pa_cons (pv 2) pa_nil)) (pa_cons (pv 1) pa_nil)))) (blkOk_by (own := [("part", 4)]) (N := n_tables_shares) (sc := defScope s_tables_shares) (by decide +kernel)) (fun _ _ _ _ _ => (pg_name (i := 4) sc_tables_shares.nd rfl (Or.inl rfl))) (fun _ _ _ _ _ => pts_nil) (fun _ _ _ _ _ => (pe_call (ok_fraction T) (hr.mono (by decide)) (by rfl) T.g_fraction T.F_fraction.kp T.b_fraction .nil pass0 (pa_cons (pv 4) (pa_cons (pv 3) pa_nil)))))))))))), ?_⟩
    refine q_chk (ea_cons (ev_var rfl) ea_nil) so_chk1 (fun hd1 H1 e1 => ?_) fun C hC H1 e1 => ?_
    rotate_left
    · obtain ⟨hj, rfl⟩ := due_yes hC
      exact k.yes _ (by unfold dGrp; rw [if_neg hj]; rfl) _ (e1)
    have c1 := due_no hd1
    obtain ⟨n, rfl⟩ : ∃ n : Nat, m = (n : Int) := ⟨m.toNat, by omega⟩
    refine q_chk (ea_cons (ev_var rfl) ea_nil) so_chk1 (fun hd2 H2 e2 => ?_) fun C hC H2 e2 => ?_
    rotate_left
    · obtain ⟨hj, rfl⟩ := due_yes hC
      exact k.yes _ (by unfold dGrp; rw [if_pos c1, if_neg hj]; rfl) _ (e1.trans e2)
    have c2 := due_no hd2
    have h0 := c2.1
    have h1 := c2.2
    refine q_chk (ea_cons (ev_var rfl) (ea_cons (ev_var rfl) ea_nil)) (so_chkGr (hv.ex (e1.trans e2)) hz (by omega)) (fun hd3 H3 e3 => ?_) fun C hC H3 e3 => ?_
    rotate_left
    · obtain ⟨hj, rfl⟩ := due_yes hC
      exact k.yes _ (by unfold dGrp; rw [if_pos c1, if_pos c2, if_neg hj]; rfl) _ (e1.trans (e2.trans e3))
    have c3 := due_no hd3
    have kn := k.no (by unfold dGrp; rw [if_pos c1, if_pos c2, if_pos c3]; rfl)
    obtain ⟨a, g, rfl, ha3, o, rfl⟩ := judgeG_get (hv.ex (e1.trans (e2.trans e3))) c3
    have hn : n ≤ 20 := by omega
    have gl := o.len
    have gp := o.pos
    have ln : ∀ (σ : L2.St) (H4 : Hp), σ[2]? = some (some (.ref a)) → Ex H3 H4 → Ev (tCB (rLenS K) (tCons (tVar 2) tNil)) σ H4 (.int (g.length : Int)) := fun σ H4 hσ e4 => by
      have := ev_len (K := K) (ta := tVar 2) (σ := σ) (H := H4) (ev_var (i := 2) (v := .ref a) hσ) (sq_of (e4 a _ ha3))
      rw [nv_len] at this
      exact this
    have rk := rise_ok h0 h1 (n := g.length) (by omega)
    refine q_asg (v := .int (rise x g.length)) (ev_call (ea_cons (ev_var rfl) (ea_cons (ln _ _ rfl (Ex.refl _)) ea_nil)) (sv_rise (by omega) (by omega))) fun H4 e4 => ?_
    have sl := sums_len x g.length
    have g0 := elt_mapN (K := K) (te := tCall sp_fraction [] E0 (tCons (tVar 4) (tCons (tVar 3) tNil))) (tl := tCall sp_weights_by_tables [] E0 (tCons (tCB (rLenS K) (tCons (tVar 2) tNil)) (tCons (tVar 1) tNil))) (j := 4) (vs := [4]) (H := H4) (xs := (sums x g.length).map V.int) (σ := [some (.int (n : Int)), some (.int x), some (.ref a), some (.int (rise x g.length)), none]) (fun t => frac ((sums x g.length).getD t 0) (rise x g.length)) (el_call (ea_cons (ln _ _ rfl e4) (ea_cons (ev_var rfl) ea_nil)) (sl_wbt (by omega) (by omega) (by omega))) (by rw [List.length_map, sl]; omega) (fun _ => rfl) fun i v H5 e5 hv => ?_
    · rw [List.length_map, sl] at g0
      exact s_retLT g0 fun p ws H5 hp e5 h5 t5 => kn _ _ (e1.trans (e2.trans (e3.trans (e4.trans e5))))
    · rw [List.getElem?_map] at hv
      obtain ⟨z, hz, rfl⟩ := Option.map_eq_some_iff.mp hv
      have ez : (sums x g.length).getD i 0 = z := by rw [List.getD_eq_getElem?_getD, hz]; rfl
      rw [ez]
      exact eu_call (ea_cons (ev_var rfl) (ea_cons (ev_var rfl) ea_nil)) (su_fraction rk.1 (two_ok rk.2 (by decide)))
theorem ok_rank_share (T : Tx K mg) : FnOk P w K mg base (L2N.CX P w) 5 T.f_rank_share T.d_rank_share ["guests", "weight", "rank", "guest"] (sp_rank_share T) := by
  refine Kit.okN T.F_rank_share sc_rank_share (fun vs H Q E h => ?_) (fun cdv A outer s H vs Q E hr h => ?_)
  · obtain ⟨m, x, u, q, rfl, _⟩ := h
    rfl
  · obtain ⟨m, x, u, q, rfl, k⟩ := h
    refine ⟨_, (pss_cons (ps_expr (pe_call (ok_check_guests T) (hr.mono (by decide)) (by rfl) T.g_check_guests T.F_check_guests.kp T.b_check_guests .nil Kit.passN (pa_cons (pv 0) pa_nil)))
      (pss_cons (ps_expr (pe_call (ok_check_weight T) (hr.mono (by decide)) (by rfl) T.g_check_weight T.F_check_weight.kp T.b_check_weight .nil Kit.passN (pa_cons (pv 1) pa_nil)))
      (pss_cons (ps_expr (pe_call (ok_check_number T) (hr.mono (by decide)) (by rfl) T.g_check_number T.F_check_number.kp T.b_check_number .nil Kit.passN (pa_cons (pv 2) (pa_cons pe_int (pa_cons (pe_op op_sub (pv 0) pe_int) pa_nil)))))
      (pss_cons (ps_expr (pe_call (ok_check_guest T) (hr.mono (by decide)) (by rfl) T.g_check_guest T.F_check_guest.kp T.b_check_guest .nil Kit.passN (pa_cons (pv 3) (pa_cons (pv 0) pa_nil))))
      (PSs.nox (pss_cons (ps_set (i := 5) sc_rank_share.nd rfl (Or.inl rfl) (pe_call (ok_sum_at T) (hr.mono (by decide)) (by rfl) T.g_sum_at T.F_sum_at.kp T.b_sum_at .nil pass0 (pa_cons (pe_lc (own := [("former", 4)]) (g := (gName 4)) (tt := tYes) rfl sc_rank_share.nd (pi_range1 (by rfl) T.m_range (pa_cons (pv 3) pa_nil)) (blkOk_by (own := [("former", 4)]) (N := n_rank_share) (sc := defScope s_rank_share) (by decide +kernel)) (fun _ _ _ _ _ => (pg_name (i := 4) sc_rank_share.nd rfl (Or.inl rfl))) (fun _ _ _ _ _ => pts_nil) (fun _ _ _ _ _ => (pe_tup (pa_cons (pv 1) (pa_cons (pv 4) pa_nil))))) (pa_cons (pv 2) pa_nil))))
      (pss_one (ps_ret (pe_call (ok_fraction T) (hr.mono (by decide)) (by rfl) T.g_fraction T.F_fraction.kp T.b_fraction .nil pass0 (pa_cons (pe_op op_mulX (pv 5) (pv 1)) (pa_cons (pe_call (ok_rising T) (hr.mono (by decide)) (by rfl) T.g_rising T.F_rising.kp T.b_rising .nil pass0 (pa_cons (pv 1) (pa_cons (pe_op op_add (pv 3) pe_int) pa_nil))) pa_nil))))))))))), ?_⟩
    refine q_chk (ea_cons (ev_var rfl) ea_nil) so_chk1 (fun hd1 H1 e1 => ?_) fun C hC H1 e1 => ?_
    rotate_left
    · obtain ⟨hj, rfl⟩ := due_yes hC
      exact k.yes _ (by unfold dRnk; rw [if_neg hj]; rfl) _ (e1)
    have c1 := due_no hd1
    obtain ⟨n, rfl⟩ : ∃ n : Nat, m = (n : Int) := ⟨m.toNat, by omega⟩
    refine q_chk (ea_cons (ev_var rfl) ea_nil) so_chk1 (fun hd2 H2 e2 => ?_) fun C hC H2 e2 => ?_
    rotate_left
    · obtain ⟨hj, rfl⟩ := due_yes hC
      exact k.yes _ (by unfold dRnk; rw [if_pos c1, if_neg hj]; rfl) _ (e1.trans e2)
    have c2 := due_no hd2
    have h0 := c2.1
    have h1 := c2.2
    refine q_chk (ea_cons (ev_var rfl) (ea_cons ev_c (ea_cons (ev_op (ev_var rfl) ev_c rv_I0) ea_nil))) (so_chkN (by decide) (Nat.lt_of_lt_of_le (show _ < 2 ^ 10 by omega) (Nat.pow_le_pow_right (by decide) (by decide)))) (fun hd3 H3 e3 => ?_) fun C hC H3 e3 => ?_
    rotate_left
    · obtain ⟨hj, rfl⟩ := due_yes hC
      exact k.yes _ (by unfold dRnk; rw [if_pos c1, if_pos c2, if_neg hj]; rfl) _ (e1.trans (e2.trans e3))
    have c3 := due_no hd3
    obtain ⟨r, rfl⟩ : ∃ r : Nat, u = (r : Int) := ⟨u.toNat, by omega⟩
    refine q_chk (ea_cons (ev_var rfl) (ea_cons (ev_var rfl) ea_nil)) (so_chkG (by omega)) (fun hd4 H4 e4 => ?_) fun C hC H4 e4 => ?_
    rotate_left
    · obtain ⟨hj, rfl⟩ := due_yes hC
      exact k.yes _ (by unfold dRnk; rw [if_pos c1, if_pos c2, if_pos c3, if_neg hj]; rfl) _ (e1.trans (e2.trans (e3.trans e4)))
    have c4 := due_no hd4
    obtain ⟨g, rfl⟩ : ∃ g : Nat, q = (g : Int) := ⟨q.toNat, by omega⟩
    have kn := k.no (by unfold dRnk; rw [if_pos c1, if_pos c2, if_pos c3, if_pos c4]; rfl)
    have hn : n ≤ 20 := by omega
    have hr' : r < n := by omega
    have hg : g < n := by omega
    have lt := elt_R1 (te := tTup (tCons (tVar 1) (tCons (tVar 4) tNil))) (ta := tCons (tVar 3) tNil) (j := 4) (vs := [4]) (H := H4) (σ := start n_rank_share [.int (n : Int), .int x, .int (r : Int), .int (g : Int)]) (n := (g : Int)) (fun i : Nat => twoV (x, (i : Int))) (ea_cons (ev_var (i := 3) rfl) ea_nil) ⟨by omega, by omega⟩ (fun _ => rfl) (fun i H1 e hi => eu_tup (ea_cons (ev_var rfl) (ea_cons (ev_var rfl) ea_nil)) (Nat.le_of_ble_eq_true rfl))
    have e : (List.range (g : Int).toNat).map (fun i : Nat => twoV (x, (i : Int))) = (facs x g).map twoV := by
      unfold facs
      rw [List.map_map, Int.toNat_natCast]
      rfl
    rw [e] at lt
    have sb := sums_nn h0 h1 (n := g) (by omega) r
    refine q_asg (v := .int ((sums x g).getD r 0)) (ev_call2LT lt (fun H1 _ => ev_var rfl) fun p ws H1 e1 h1' hw H2 e2 Q q E => ⟨p, ws, facs x g, r, rfl, e2 p _ h1', TL.ex e2 hw, fok_facs (by omega) (by omega) (by omega), by rw [sumsF_facs]; exact q⟩) fun H5 e5 => ?_
    have m : CMulX ((sums x g).getD r 0) x := mulx_ok (a := 900) (b := 64) sb.2 (by omega) (by decide)
    have rk := rise_ok h0 h1 (n := g + 1) (by omega)
    exact s_retU (eu_call (ea_cons (ev_op (ev_var rfl) (ev_var rfl) (rv_I m)) (ea_cons (ev_call (vs := [.int x, .int ((g + 1 : Nat) : Int)]) (ea_cons (ev_var rfl) (ea_cons (ev_is (ev_op (ev_var rfl) ev_c rv_I0) (by congr 1)) ea_nil)) (sv_rise (n := g + 1) (by omega) (by omega))) ea_nil)) (su_fraction rk.1 (two_ok rk.2 (by decide)))) fun p H6 hp e6 h6 => kn _ _ (e1.trans (e2.trans (e3.trans (e4.trans (e5.trans e6)))))
theorem ok_given_tables (T : Tx K mg) : FnOk P w K mg base (L2N.CX P w) 6 T.f_given_tables T.d_given_tables ["guests", "number", "group"] (sp_given_tables T) := by
  refine Kit.okN T.F_given_tables sc_given_tables (fun vs H Q E h => ?_) (fun cdv A outer s H vs Q E hr h => ?_)
  · obtain ⟨m, u, v, d, rfl, _⟩ := h
    rfl
  · obtain ⟨m, u, v, d, rfl, hv, hz, k⟩ := h
    refine ⟨_, (pss_cons (ps_expr (pe_call (ok_check_guests T) (hr.mono (by decide)) (by rfl) T.g_check_guests T.F_check_guests.kp T.b_check_guests .nil Kit.passN (pa_cons (pv 0) pa_nil)))
      (pss_cons (ps_expr (pe_call (ok_check_number T) (hr.mono (by decide)) (by rfl) T.g_check_number T.F_check_number.kp T.b_check_number .nil Kit.passN (pa_cons (pv 1) (pa_cons pe_int (pa_cons (pv 0) pa_nil)))))
      (pss_cons (ps_expr (pe_call (ok_check_group T) (hr.mono (by decide)) (by rfl) T.g_check_group T.F_check_group.kp T.b_check_group .nil Kit.passN (pa_cons (pv 2) (pa_cons (pv 0) pa_nil))))
      (PSs.nox (pss_cons (ps_setLc (i := 4) (own := [("guest", 3)]) (g := (gName 3)) (tt := tYes) rfl sc_given_tables.nd rfl rfl (sw_true rfl rfl rfl (by decide +kernel)) (pi_range2 (by rfl) T.m_range (pa_cons (pe_callB (id := "len") (r := rLenS K) call_lenR (by rfl) T.m_len (by decide +kernel) (pa_cons (pv 2) pa_nil)) (pa_cons (pv 0) pa_nil))) (blkOk_by (own := [("guest", 3)]) (N := n_given_tables) (sc := defScope s_given_tables) (by decide +kernel)) (fun _ _ _ _ _ => (pg_name (i := 3) sc_given_tables.nd rfl (Or.inl rfl))) (fun _ _ _ _ _ => pts_nil) (fun _ _ _ _ _ => (pe_tup (pa_cons pe_int (pa_cons (pv 3) pa_nil)))))
      (pss_cons (ps_set (i := 5) sc_given_tables.nd rfl (Or.inl rfl) (pe_op op_mulX (pe_callBfun cr_factorial (by rfl) T.i_factorial (pa_cons (pe_op op_sub (pe_callB call_lenR (by rfl) T.m_len (by decide +kernel) (pa_cons (pv 2) pa_nil)) pe_int) pa_nil)) (pe_call (ok_sum_at T) (hr.mono (by decide)) (by rfl) T.g_sum_at T.F_sum_at.kp T.b_sum_at .nil pass0 (pa_cons (pe_op op_cat (pe_lst (pa_cons (pe_tup (pa_cons pe_int (pa_cons pe_int pa_nil))) pa_nil)) (pv 4)) (pa_cons (pv 1) pa_nil)))))
      (pss_one (ps_ret (pe_call (ok_fraction T) (hr.mono (by decide)) (by rfl) T.g_fraction T.F_fraction.kp T.b_fraction .nil pass0 (pa_cons (pv 5) (pa_cons (pe_ix ix_list (pe_call (ok_weights_by_tables T) (hr.mono (by decide)) (by rfl) T.g_weights_by_tables T.F_weights_by_tables.kp T.b_weights_by_tables .nil pass0 (pa_cons (pv 0) (pa_cons pe_int pa_nil))) (pv 1) (fun _ _ => rfl)) pa_nil))))))))))), ?_⟩
    refine q_chk (ea_cons (ev_var rfl) ea_nil) so_chk1 (fun hd1 H1 e1 => ?_) fun C hC H1 e1 => ?_
    rotate_left
    · obtain ⟨hj, rfl⟩ := due_yes hC
      exact k.yes _ (by unfold dGiv; rw [if_neg hj]; rfl) _ (e1)
    have c1 := due_no hd1
    obtain ⟨n, rfl⟩ : ∃ n : Nat, m = (n : Int) := ⟨m.toNat, by omega⟩
    refine q_chk (ea_cons (ev_var rfl) (ea_cons ev_c (ea_cons (ev_var rfl) ea_nil))) (so_chkN (by decide) (Nat.lt_of_lt_of_le (show _ < 2 ^ 10 by omega) (Nat.pow_le_pow_right (by decide) (by decide)))) (fun hd2 H2 e2 => ?_) fun C hC H2 e2 => ?_
    rotate_left
    · obtain ⟨hj, rfl⟩ := due_yes hC
      exact k.yes _ (by unfold dGiv; rw [if_pos c1, if_neg hj]; rfl) _ (e1.trans e2)
    have c2 := due_no hd2
    obtain ⟨r, rfl⟩ : ∃ r : Nat, u = (r : Int) := ⟨u.toNat, by omega⟩
    refine q_chk (ea_cons (ev_var rfl) (ea_cons (ev_var rfl) ea_nil)) (so_chkGr (hv.ex (e1.trans e2)) hz (by omega)) (fun hd3 H3 e3 => ?_) fun C hC H3 e3 => ?_
    rotate_left
    · obtain ⟨hj, rfl⟩ := due_yes hC
      exact k.yes _ (by unfold dGiv; rw [if_pos c1, if_pos c2, if_neg hj]; rfl) _ (e1.trans (e2.trans e3))
    have c3 := due_no hd3
    have kn := k.no (by unfold dGiv; rw [if_pos c1, if_pos c2, if_pos c3]; rfl)
    obtain ⟨a, g, rfl, ha3, o, rfl⟩ := judgeG_get (hv.ex (e1.trans (e2.trans e3))) c3
    have hn : n ≤ 20 := by omega
    have hm0 : 1 ≤ r := by omega
    have hm1 : r ≤ n := by omega
    have gl := o.len
    have gp := o.pos
    have ln : ∀ (σ : L2.St) (H4 : Hp), σ[2]? = some (some (.ref a)) → Ex H3 H4 → Ev (tCB (rLenS K) (tCons (tVar 2) tNil)) σ H4 (.int (g.length : Int)) := fun σ H4 hσ e4 => by
      have := ev_len (K := K) (ta := tVar 2) (σ := σ) (H := H4) (ev_var (i := 2) (v := .ref a) hσ) (sq_of (e4 a _ ha3))
      rw [nv_len] at this
      exact this
    have lt := elt_R2 (te := tTup (tCons (tC (.int 1)) (tCons (tVar 3) tNil))) (ta := tCons (tCB (rLenS K) (tCons (tVar 2) tNil)) (tCons (tVar 0) tNil)) (j := 3) (vs := [3]) (H := H3) (σ := start n_given_tables [.int (n : Int), .int (r : Int), .ref a]) (lo := (g.length : Int)) (n := (n : Int)) (fun i : Nat => twoV (1, ((g.length + i : Nat) : Int))) (ea_cons (ln _ _ rfl (Ex.refl _)) (ea_cons (ev_var (i := 0) rfl) ea_nil)) ⟨by omega, by omega, by omega, by omega⟩ (fun _ => rfl) (fun i H1 e hi => eu_tup (ea_cons ev_c (ea_cons (ev_is (ev_var rfl) (congrArg V.int (by omega))) ea_nil)) (Nat.le_of_ble_eq_true rfl))
    have e : (List.range ((n : Int) - (g.length : Int)).toNat).map (fun i : Nat => twoV (1, ((g.length + i : Nat) : Int))) = (othF g.length n).map twoV := by
      unfold othF
      rw [List.map_map, show ((n : Int) - (g.length : Int)).toNat = n - g.length by omega]
      rfl
    rw [e] at lt
    refine q_asgLT lt fun p ws H4 hp e4 h4 t4 => ?_
    have wl := t4.len
    have ol : (othF g.length n).length = n - g.length := by unfold othF; rw [List.length_map, List.length_range]
    rw [List.length_map, ol] at wl
    have sn := sumsF_nn (fok_oth (len := g.length) hn) (by rw [List.length_cons, ol]; omega) r
    have fb := fac_bd (n := g.length - 1) (by omega)
    have mm : CMulX ((fac (g.length - 1) : Nat) : Int) ((sumsF ((1, 0) :: othF g.length n)).getD r 0) := mulx_ok fb sn.2 (by decide)
    have sb := sums_nn (w := 1) (by decide) (by decide) (n := n) hn r
    refine q_asg (v := .int (((fac (g.length - 1) : Nat) : Int) * (sumsF ((1, 0) :: othF g.length n)).getD r 0)) (ev_op (ev_fac (n := g.length - 1) (ev_is (ev_op (ln _ _ rfl e4) ev_c rv_I0) (by congr 1; omega)) (by omega)) (ev_call2LT (xs := ((1, 0) :: othF g.length n).map twoV) (elt_cons1 (r := twoV (1, 0)) (eu_tup (ea_cons ev_c (ea_cons ev_c ea_nil)) (Nat.le_of_ble_eq_true rfl)) (ev_var rfl) h4 t4 (by omega)) (fun H1 _ => ev_var rfl) fun p ws H1 e1 h1' hw H2 e2 Q q E => ⟨p, ws, (1, 0) :: othF g.length n, r, rfl, e2 p _ h1', TL.ex e2 hw, fok_oth hn, q⟩) (rv_I mm)) fun H5 e5 => ?_
    have sg : (sums 1 n)[r]? = some ((sums 1 n).getD r 0) := by
      have := sums_len 1 n
      rw [List.getD_eq_getElem?_getD, List.getElem?_eq_getElem (by omega)]
      rfl
    have pos : 0 < (sums 1 n).getD r 0 := sums_pos1 hm0 hm1
    exact s_retU (eu_call (ea_cons (ev_var rfl) (ea_cons (ev_ixN (el_call (ea_cons (ev_var rfl) (ea_cons ev_c ea_nil)) (sl_wbt hn (by decide) (by decide))) (ev_var rfl) (atI_nat (j := r) (by rw [List.getElem?_map, sg]; rfl))) ea_nil)) (su_fraction pos (two_ok sb.2 (by decide)))) fun p H6 hp e6 h6 => kn _ _ (e1.trans (e2.trans (e3.trans (e4.trans (e5.trans e6)))))
theorem ok_home_share (T : Tx K mg) : FnOk P w K mg base (L2N.CX P w) 5 T.f_home_share T.d_home_share ["guests", "weight", "steps"] (sp_home_share T) := by
  refine Kit.okN T.F_home_share sc_home_share (fun vs H Q E h => ?_) (fun cdv A outer s H vs Q E hr h => ?_)
  · obtain ⟨m, x, st, rfl, _⟩ := h
    rfl
  · obtain ⟨m, x, st, rfl, k⟩ := h
    refine ⟨_, (pss_cons (ps_expr (pe_call (ok_check_guests T) (hr.mono (by decide)) (by rfl) T.g_check_guests T.F_check_guests.kp T.b_check_guests .nil Kit.passN (pa_cons (pv 0) pa_nil)))
      (pss_cons (ps_expr (pe_call (ok_check_weight T) (hr.mono (by decide)) (by rfl) T.g_check_weight T.F_check_weight.kp T.b_check_weight .nil Kit.passN (pa_cons (pv 1) pa_nil)))
      (pss_cons (ps_expr (pe_call (ok_check_any_number T) (hr.mono (by decide)) (by rfl) T.g_check_any_number T.F_check_any_number.kp T.b_check_any_number .nil Kit.passN (pa_cons (pv 2) pa_nil)))
      (PSs.nox (pss_one (ps_ret (pe_call (ok_fraction T) (hr.mono (by decide)) (by rfl) T.g_fraction T.F_fraction.kp T.b_fraction .nil pass0 (pa_cons (pe_call (ok_home_weight T) (hr.mono (by decide)) (by rfl) T.g_home_weight T.F_home_weight.kp T.b_home_weight .nil pass0 (pa_cons (pv 0) (pa_cons (pv 1) (pa_cons (pv 2) pa_nil)))) (pa_cons (pe_call (ok_rising T) (hr.mono (by decide)) (by rfl) T.g_rising T.F_rising.kp T.b_rising .nil pass0 (pa_cons (pv 1) (pa_cons (pv 0) pa_nil))) pa_nil))))))))), ?_⟩
    refine q_chk (ea_cons (ev_var rfl) ea_nil) so_chk1 (fun hd1 H1 e1 => ?_) fun C hC H1 e1 => ?_
    rotate_left
    · obtain ⟨hj, rfl⟩ := due_yes hC
      exact k.yes _ (by unfold dHom; rw [if_neg hj]; rfl) _ (e1)
    have c1 := due_no hd1
    obtain ⟨n, rfl⟩ : ∃ n : Nat, m = (n : Int) := ⟨m.toNat, by omega⟩
    refine q_chk (ea_cons (ev_var rfl) ea_nil) so_chk1 (fun hd2 H2 e2 => ?_) fun C hC H2 e2 => ?_
    rotate_left
    · obtain ⟨hj, rfl⟩ := due_yes hC
      exact k.yes _ (by unfold dHom; rw [if_pos c1, if_neg hj]; rfl) _ (e1.trans e2)
    have c2 := due_no hd2
    have h0 := c2.1
    have h1 := c2.2
    refine q_chk (ea_cons (ev_var rfl) ea_nil) so_chkAny (fun hd3 H3 e3 => ?_) fun C hC H3 e3 => ?_
    rotate_left
    · exact nomatch hC
    have kn := k.no (by unfold dHom; rw [if_pos c1, if_pos c2]; rfl)
    have hn : n ≤ 20 := by omega
    have n1 : 1 ≤ n := by omega
    have rk := rise_ok h0 h1 (n := n) (by omega)
    exact s_retU (eu_call (ea_cons (ev_call (ea_cons (ev_var rfl) (ea_cons (ev_var rfl) (ea_cons (ev_var rfl) ea_nil))) (sv_home_weight hn h0 h1)) (ea_cons (ev_call (ea_cons (ev_var rfl) (ea_cons (ev_var rfl) ea_nil)) (sv_rise (by omega) (by omega))) ea_nil)) (su_fraction rk.1 (two_ok rk.2 (by decide)))) fun p H4 hp e4 h4 => kn _ _ (e1.trans (e2.trans (e3.trans e4)))
theorem ok_other_share (T : Tx K mg) : FnOk P w K mg base (L2N.CX P w) 5 T.f_other_share T.d_other_share ["guests", "weight", "steps"] (sp_other_share T) := by
  refine Kit.okN T.F_other_share sc_other_share (fun vs H Q E h => ?_) (fun cdv A outer s H vs Q E hr h => ?_)
  · obtain ⟨m, x, st, rfl, _⟩ := h
    rfl
  · obtain ⟨m, x, st, rfl, k⟩ := h
    refine ⟨_, (pss_cons (ps_expr (pe_call (ok_check_guests T) (hr.mono (by decide)) (by rfl) T.g_check_guests T.F_check_guests.kp T.b_check_guests .nil Kit.passN (pa_cons (pv 0) pa_nil)))
      (pss_cons (ps_expr (pe_call (ok_check_weight T) (hr.mono (by decide)) (by rfl) T.g_check_weight T.F_check_weight.kp T.b_check_weight .nil Kit.passN (pa_cons (pv 1) pa_nil)))
      (pss_cons (ps_expr (pe_call (ok_check_any_number T) (hr.mono (by decide)) (by rfl) T.g_check_any_number T.F_check_any_number.kp T.b_check_any_number .nil Kit.passN (pa_cons (pv 2) pa_nil)))
      (PSs.nox (pss_cons (ps_if (pt_cmpR op_eq (pv 0) pe_int (nomark _)) (pss_one (ps_ret (pe_tup (pa_cons pe_int (pa_cons pe_int pa_nil))))) pss_nil)
      (pss_cons (ps_set (i := 3) sc_other_share.nd rfl (Or.inl rfl) (pe_call (ok_rising T) (hr.mono (by decide)) (by rfl) T.g_rising T.F_rising.kp T.b_rising .nil pass0 (pa_cons (pv 1) (pa_cons (pv 0) pa_nil))))
      (pss_one (ps_ret (pe_call (ok_fraction T) (hr.mono (by decide)) (by rfl) T.g_fraction T.F_fraction.kp T.b_fraction .nil pass0 (pa_cons (pe_op op_sub (pv 3) (pe_call (ok_home_weight T) (hr.mono (by decide)) (by rfl) T.g_home_weight T.F_home_weight.kp T.b_home_weight .nil pass0 (pa_cons (pv 0) (pa_cons (pv 1) (pa_cons (pv 2) pa_nil))))) (pa_cons (pe_op op_mulX (pv 3) (pe_op op_sub (pv 0) pe_int)) pa_nil))))))))))), ?_⟩
    refine q_chk (ea_cons (ev_var rfl) ea_nil) so_chk1 (fun hd1 H1 e1 => ?_) fun C hC H1 e1 => ?_
    rotate_left
    · obtain ⟨hj, rfl⟩ := due_yes hC
      exact k.yes _ (by unfold dHom; rw [if_neg hj]; rfl) _ (e1)
    have c1 := due_no hd1
    obtain ⟨n, rfl⟩ : ∃ n : Nat, m = (n : Int) := ⟨m.toNat, by omega⟩
    refine q_chk (ea_cons (ev_var rfl) ea_nil) so_chk1 (fun hd2 H2 e2 => ?_) fun C hC H2 e2 => ?_
    rotate_left
    · obtain ⟨hj, rfl⟩ := due_yes hC
      exact k.yes _ (by unfold dHom; rw [if_pos c1, if_neg hj]; rfl) _ (e1.trans e2)
    have c2 := due_no hd2
    have h0 := c2.1
    have h1 := c2.2
    refine q_chk (ea_cons (ev_var rfl) ea_nil) so_chkAny (fun hd3 H3 e3 => ?_) fun C hC H3 e3 => ?_
    rotate_left
    · exact nomatch hC
    have kn := k.no (by unfold dHom; rw [if_pos c1, if_pos c2]; rfl)
    have hn : n ≤ 20 := by omega
    have n1 : 1 ≤ n := by omega
    have rk := rise_ok h0 h1 (n := n) (by omega)
    refine q_when (b := decide (n = 1)) (et_is (et_test (ev_op (ev_var rfl) ev_c (rv_eq rfl))) ?_) (fun hb H4 e4 => ?_) fun hb H4 e4 => ?_
    · rw [Bool.eq_iff_iff, decide_eq_true_iff, decide_eq_true_iff]
      exact ⟨fun z => by have := V.int.inj z; omega, fun z => by rw [z]; rfl⟩
    · have n1' : n = 1 := of_decide_eq_true hb
      have e : othV n x st = [.int 0, .int 1] := by
        unfold othV
        rw [if_pos n1']
      exact s_retU (eu_tup (ea_cons ev_c (ea_cons ev_c ea_nil)) (Nat.le_of_ble_eq_true rfl)) fun p H5 hp e5 h5 => kn _ _ (e1.trans (e2.trans (e3.trans (e4.trans e5))))
    · have n1' : n ≠ 1 := of_decide_eq_false hb
      have e : othV n x st = frac (rise x n - homW n x st) (rise x n * ((n : Int) - 1)) := by
        unfold othV
        rw [if_neg n1']
      refine q_asg (v := .int (rise x n)) (ev_call (ea_cons (ev_var rfl) (ea_cons (ev_var rfl) ea_nil)) (sv_rise (by omega) (by omega))) fun H5 e5 => ?_
      have m : CMulX (rise x n) ((n : Int) - 1) := mulx_ok (a := 3000) (b := 64) rk.2 (by omega) (by decide)
      have bb : (rise x n * ((n : Int) - 1)).natAbs < 2 ^ 3100 := by
        rw [Int.natAbs_mul, show 3100 = 3000 + 100 by omega, Nat.pow_add]
        exact Nat.mul_lt_mul_of_lt_of_le rk.2 (by omega) (by decide)
      refine s_retU (xs := frac (rise x n - homW n x st) (rise x n * ((n : Int) - 1))) (eu_call (ea_cons (ev_op (ev_var rfl) (ev_call (ea_cons (ev_var rfl) (ea_cons (ev_var rfl) (ea_cons (ev_var rfl) ea_nil))) (sv_home_weight hn h0 h1)) rv_I0) (ea_cons (ev_op (ev_var rfl) (ev_op (ev_var rfl) ev_c rv_I0) (rv_I m)) ea_nil)) (su_fraction (Int.mul_pos rk.1 (by omega)) (two_ok bb (by decide)))) fun p H6 hp e6 h6 => kn _ _ (e1.trans (e2.trans (e3.trans (e4.trans (e5.trans e6)))))
theorem ok_split_share (T : Tx K mg) : FnOk P w K mg base (L2N.CX P w) 7 T.f_split_share T.d_split_share ["guests", "weight", "groups"] (sp_split_share T) := by
  refine Kit.okN T.F_split_share sc_split_share (fun vs H Q E h => ?_) (fun cdv A outer s H vs Q E hr h => ?_)
  · obtain ⟨m, x, v, d, rfl, _⟩ := h
    rfl
  · obtain ⟨m, x, v, d, rfl, hv, hz, k⟩ := h
    refine ⟨_, (pss_cons (ps_expr (pe_call (ok_check_guests T) (hr.mono (by decide)) (by rfl) T.g_check_guests T.F_check_guests.kp T.b_check_guests .nil Kit.passN (pa_cons (pv 0) pa_nil)))
      (pss_cons (ps_expr (pe_call (ok_check_weight T) (hr.mono (by decide)) (by rfl) T.g_check_weight T.F_check_weight.kp T.b_check_weight .nil Kit.passN (pa_cons (pv 1) pa_nil)))
      (pss_cons (ps_expr (pe_call (ok_check_groups T) (hr.mono (by decide)) (by rfl) T.g_check_groups T.F_check_groups.kp T.b_check_groups .nil Kit.passN (pa_cons (pv 2) (pa_cons (pv 0) pa_nil))))
      (PSs.nox (pss_cons (ps_set (i := 3) sc_split_share.nd rfl (Or.inl rfl) pe_int)
      (pss_cons (ps_for PassesOwn.never rfl (pi_list (pv 2)) (pg_name (i := 4) sc_split_share.nd rfl (Or.inl rfl)) (pss_one (ps_set (i := 3) sc_split_share.nd rfl (Or.inl rfl) (pe_op op_mulX (pv 3) (pe_call (ok_table_weight T) (hr.mono (by decide)) (by rfl) T.g_table_weight T.F_table_weight.kp T.b_table_weight .nil pass0 (pa_cons (pv 1) (pa_cons (pv 4) pa_nil)))))))
      (pss_one (ps_ret (pe_call (ok_fraction T) (hr.mono (by decide)) (by rfl) T.g_fraction T.F_fraction.kp T.b_fraction .nil pass0 (pa_cons (pv 3) (pa_cons (pe_call (ok_rising T) (hr.mono (by decide)) (by rfl) T.g_rising T.F_rising.kp T.b_rising .nil pass0 (pa_cons (pv 1) (pa_cons (pe_callB (cr_sum rfl) (by rfl) T.m_sum (by decide +kernel) (pa_cons (pe_lc (own := [("group", 4)]) (g := (gName 4)) (tt := tYes) rfl sc_split_share.nd (pi_list (pv 2)) (blkOk_by (own := [("group", 4)]) (N := n_split_share) (sc := defScope s_split_share) (by decide +kernel)) (fun _ _ _ _ _ => (pg_name (i := 4) sc_split_share.nd rfl (Or.inl rfl))) (fun _ _ _ _ _ => pts_nil) (fun _ _ _ _ _ => (pe_callB (id := "len") (r := rLenS K) call_lenR (by rfl) T.m_len (by decide +kernel) (pa_cons (pv 4) pa_nil)))) pa_nil)) pa_nil))) pa_nil))))))))))), ?_⟩
    refine q_chk (ea_cons (ev_var rfl) ea_nil) so_chk1 (fun hd1 H1 e1 => ?_) fun C hC H1 e1 => ?_
    rotate_left
    · obtain ⟨hj, rfl⟩ := due_yes hC
      exact k.yes _ (by unfold dSpl; rw [if_neg hj]; rfl) _ (e1)
    have c1 := due_no hd1
    obtain ⟨n, rfl⟩ : ∃ n : Nat, m = (n : Int) := ⟨m.toNat, by omega⟩
    refine q_chk (ea_cons (ev_var rfl) ea_nil) so_chk1 (fun hd2 H2 e2 => ?_) fun C hC H2 e2 => ?_
    rotate_left
    · obtain ⟨hj, rfl⟩ := due_yes hC
      exact k.yes _ (by unfold dSpl; rw [if_pos c1, if_neg hj]; rfl) _ (e1.trans e2)
    have c2 := due_no hd2
    have h0 := c2.1
    have h1 := c2.2
    refine q_chk (ea_cons (ev_var rfl) (ea_cons (ev_var rfl) ea_nil)) (so_chkGs (hv.ex (e1.trans e2)) hz (by omega)) (fun hd3 H3 e3 => ?_) fun C hC H3 e3 => ?_
    rotate_left
    · obtain ⟨hj, rfl⟩ := due_yes hC
      exact k.yes _ (by unfold dSpl; rw [if_pos c1, if_pos c2, if_neg hj]; rfl) _ (e1.trans (e2.trans e3))
    have c3 := due_no hd3
    have kn := k.no (by unfold dSpl; rw [if_pos c1, if_pos c2, if_pos c3]; rfl)
    obtain ⟨a, ws, gs, rfl, ha0, ht0, o⟩ := judgeGs_get (hv.ex (e1.trans (e2.trans e3))) c3
    have hn : n ≤ 20 := by omega
    have hlen : ws.length = gs.length := Paired.length ht0
    have gl := o.len
    have gf := o.all
    refine q_asg (v := .int 1) ev_c fun H4 e4 => ?_
    refine q_forLn (xs := ws) (K := K) (ev_var rfl) (sq_of (e4 a _ ha0)) (fun i σ' H' => ∃ y : Option V, σ' = [some (.int (n : Int)), some (.int x), some (.ref a), some (.int (lotT x (gs.take i))), y] ∧ Ex H3 H' ∧ (lotT x (gs.take i)).natAbs < 2 ^ (1 + 400 * i))
      (fun H5 e5 => ⟨none, rfl, e4.trans e5, (by decide : (1 : Int).natAbs < 2 ^ (1 + 400 * 0))⟩) (fun i σ' H' _ ⟨_, _, e, _⟩ => sq_of (e a _ ha0)) ?_ ?_
    · rintro i v σ' H' hv ⟨y, rfl, e, b⟩
      obtain ⟨g, hg, c, rfl, hc⟩ := paired_get ht0 hv
      have og := o.each g (List.mem_of_getElem? hg)
      have ogl := og.len
      have tb := tabW_bd h0 h1 (g := g) (by omega)
      have il := (List.getElem?_eq_some_iff.mp hg).1
      have m : CMulX (lotT x (gs.take i)) (tabW x g) := mulx_ok b tb.2 (by omega)
      refine s_asg (v := .int (lotT x (gs.take (i + 1)))) ?_ fun H5 e5 => ⟨_, rfl, e.trans e5, ?_⟩
      · rw [lotT_next hg]
        exact ev_op (ev_var rfl) (ev_call (ea_cons (ev_var rfl) (ea_cons (ev_var rfl) ea_nil)) (sv_table_weight (e c _ hc) og.pos (by omega) h0 h1)) (rv_I m)
      · rw [lotT_next hg, Int.natAbs_mul, show 1 + 400 * (i + 1) = (1 + 400 * i) + 400 by omega, Nat.pow_add]
        exact Nat.mul_lt_mul_of_lt_of_le b (Nat.le_of_lt tb.2) (Nat.pow_pos (by decide))
    · rintro σ' H' ⟨y, rfl, e, b⟩
      rw [hlen, List.take_of_length_le (Nat.le_refl _)]
      have rk := rise_ok h0 h1 (n := gs.flatten.length) (by omega)
      have sm : ((gs.map List.length).map fun n : Nat => (n : Int)).sum = (gs.flatten.length : Int) := by
        rw [List.length_flatten, sum_cast]
      have wsum : Ev (tCB (rSum K) (tCons (tLc (iList K (tVar 2)) (gName 4) tYes (tCB (rLenS K) (tCons (tVar 4) tNil)) [4]) tNil)) [some (.int (n : Int)), some (.int x), some (.ref a), some (.int (lotT x gs)), y] H' (.int (gs.flatten.length : Int)) := by
        rw [← sm]
        refine ev_sumN (ns := (gs.map List.length).map fun n : Nat => (n : Int)) ?_
        have g0 := el_lcL (K := K) (te := tCB (rLenS K) (tCons (tVar 4) tNil)) (tl := tVar 2) (t := tYes) (j := 4) (vs := [4]) (H := H') (a := a) (xs := ws) (σ := [some (.int (n : Int)), some (.int x), some (.ref a), some (.int (lotT x gs)), y]) (fun _ => true) (fun i => .int ((gs.getD i []).length : Int)) (ev_var rfl) (sq_of (e a _ ha0)) (by omega) (fun _ => rfl) (fun _ _ _ _ _ => et_yes) fun i v H5 e5 hv _ => ?_
        · have e0 : given ws.length (fun _ => true) (fun i => V.int ((gs.getD i []).length : Int)) = ((gs.map List.length).map fun n : Nat => (n : Int)).map V.int := by
            rw [given_at, hlen, List.map_map, List.map_map]
            refine List.ext_getElem? fun i => ?_
            rw [List.getElem?_map, List.getElem?_map]
            by_cases hi : i < gs.length
            · rw [List.getElem?_range hi, List.getElem?_eq_getElem hi]
              show some (V.int ((gs.getD i []).length : Int)) = some (V.int ((gs[i]).length : Int))
              rw [List.getD_eq_getElem?_getD, List.getElem?_eq_getElem hi]
              rfl
            · rw [List.getElem?_eq_none (by simp; omega), List.getElem?_eq_none (by omega)]
              rfl
          rw [e0] at g0
          exact g0
        · obtain ⟨g, hg, c, rfl, hc⟩ := paired_get ht0 hv
          have eg : gs.getD i [] = g := by rw [List.getD_eq_getElem?_getD, hg]; rfl
          have := ev_len (K := K) (ta := tVar 4) (σ := (wipe [some (.int (n : Int)), some (.int x), some (.ref a), some (.int (lotT x gs)), y] [4]).set 4 (some (.ref c))) (H := H5) (ev_var (i := 4) (v := .ref c) rfl) (sq_of (e5 c _ (e c _ hc)))
          rw [nv_len] at this
          rw [eg]
          exact this
      exact s_retU (eu_call (ea_cons (ev_var rfl) (ea_cons (ev_call (ea_cons (ev_var rfl) (ea_cons wsum ea_nil)) (sv_rise (by omega) (by omega))) ea_nil)) (su_fraction rk.1 (two_ok rk.2 (by decide)))) fun p H5 hp e5 h5 => kn _ _ ((e1.trans (e2.trans e3)).trans (e.trans e5))
end


/-! ### _law_word_of -/
section
variable {P : Program} {w : World} {K : PySem.W.Frag} {mg : Str → Option Value} {base : Heap}
def rw23 (T : Tx K mg) (i : Nat) : List (Value × Bool) := [(.ref T.cl_InvalidGuests, decide (i = 0)), (.ref T.cl_InvalidWeight, decide (i = 1)), (.ref T.cl_InvalidGuest, decide (i = 2)), (.ref T.cl_InvalidGroup, decide (i = 3)), (.ref T.cl_InvalidGroups, decide (i = 4)), (.ref T.cl_InvalidFacts, false), (.ref T.cl_InvalidSizes, false), (.ref T.cl_InvalidNumber, decide (i = 5)), (.ref T.cl_InvalidIndex, false), (.ref T.cl_NoSeating, false), (.ref T.cl_InvalidSeating, false), (.ref T.cl_InvalidComing, false), (.ref T.cl_InvalidDistances, false), (.ref T.cl_InvalidNames, false), (.ref T.cl_InvalidTables, false), (.ref T.cl_InvalidText, false), (.ref T.cl_NothingToUndo, false), (.ref T.cl_Refused, false), (.ref T.cl_HallError, true), (.type "ValueError", true)]
theorem er_is (T : Tx K mg) {i : Nat} (hi : i < 6) : ExcD K (erA T i) ∧ PySem.W.exmOne K (.ref (erA T i)) (.ref T.cl_HallError) = some true ∧ isRow K (erA T i) (rw23 T i) = true := by
  have : i = 0 ∨ i = 1 ∨ i = 2 ∨ i = 3 ∨ i = 4 ∨ i = 5 := by omega
  rcases this with rfl | rfl | rfl | rfl | rfl | rfl
  · exact ⟨T.e_InvalidGuests, T.x_InvalidGuests, T.t_InvalidGuests⟩
  · exact ⟨T.e_InvalidWeight, T.x_InvalidWeight, T.t_InvalidWeight⟩
  · exact ⟨T.e_InvalidGuest, T.x_InvalidGuest, T.t_InvalidGuest⟩
  · exact ⟨T.e_InvalidGroup, T.x_InvalidGroup, T.t_InvalidGroup⟩
  · exact ⟨T.e_InvalidGroups, T.x_InvalidGroups, T.t_InvalidGroups⟩
  · exact ⟨T.e_InvalidNumber, T.x_InvalidNumber, T.t_InvalidNumber⟩
def fwA (i : Nat) : List (List V) := [[.str "halls", .bl (decide (i = 0))], [.str "heavy", .bl (decide (i = 1))]]
def fwB (i : Nat) : List (List V) := [[.str "who", .bl (decide (i = 2))], [.str "gang", .bl (decide (i = 3))]]
def fwC (i : Nat) : List (List V) := [[.str "lots", .bl (decide (i = 4))], [.str "clues", .bl false]]
def fwD (i : Nat) : List (List V) := [[.str "wide", .bl false], [.str "far", .bl (decide (i = 5))]]
def fwE : List (List V) := [[.str "place", .bl false], [.str "none", .bl false]]
def fwF : List (List V) := [[.str "seat", .bl false]]
def fwG : List (List V) := [[.str "other", .bl false]]
def fwH : List (List V) := [[.str "more", .bl false]]
def wdN : Nat → Str
  | 0 => "halls" | 1 => "heavy" | 2 => "who" | 3 => "gang" | 4 => "lots" | 5 => "clues" | 6 => "wide" | 7 => "far" | 8 => "place" | 9 => "none" | 10 => "seat" | 11 => "other" | _ => "more"
def bdN (i n : Nat) : Bool := (decide (n = 0) && decide (i = 0)) || ((decide (n = 1) && decide (i = 1)) || ((decide (n = 2) && decide (i = 2)) || ((decide (n = 3) && decide (i = 3)) || ((decide (n = 4) && decide (i = 4)) || (decide (n = 7) && decide (i = 5))))))
def sp_law_word_of (T : Tx K mg) : Addr → Value → Option Addr → Sp := fun a cls d vs H Q _ => ∃ i, i < 6 ∧ cls = .ref (erA T i) ∧ d = none ∧ vs = [.ref a] ∧ RetV (.str (erW i)) H Q
theorem ok_law_word_of (T : Tx K mg) : FnP P w K mg base CX0 1 T.f_law_word_of T.d_law_word_of ["e"] (sp_law_word_of T) := by
  refine Kit.okP T.F_law_word_of sc_law_word_of (fun a cls d vs H Q E h => ?_) (fun cdv A outer s H vs Q E p cls d hot hz hr h => ?_)
  · obtain ⟨i, _, _, _, rfl, _⟩ := h
    rfl
  · obtain ⟨i, hi, rfl, rfl, rfl, k⟩ := h
    have hf : ∃ vs, p.2.data = .fields vs := hot.2.imp fun vs e => e.1
    have hp : p ∈ [p] := List.mem_cons_self
    obtain ⟨hC, _, hrow⟩ := er_is T hi
    have hk : ∀ (n : Nat) {v : Value} {b : Bool}, (rw23 T i)[n]? = some (v, b) → PySem.W.kitOne K (.ref (erA T i)) v = some b := fun n {v b} h => isRow_at hrow (List.mem_of_getElem? h)
    generalize hCe : erA T i = C at hC hk hz
    refine ⟨_, (pss_cons (ps_set (i := 1) sc_law_word_of.nd rfl (Or.inl rfl) (pe_lst (pa_cons (pe_tup (pa_cons pe_str (pa_cons (pe_callB (id := "isinstance") (r := rIsE K C p.1) (Kit.call_isP hC hp hz hf) (by rfl) T.m_isinstance (by decide +kernel) (pa_cons (pv 0) (pa_cons (pe_gc (v := .ref T.cl_InvalidGuests) (by rfl) ⟨_, T.gc_InvalidGuests, rfl⟩) pa_nil))) pa_nil))) (pa_cons (pe_tup (pa_cons pe_str (pa_cons (pe_callB (id := "isinstance") (r := rIsE K C p.1) (Kit.call_isP hC hp hz hf) (by rfl) T.m_isinstance (by decide +kernel) (pa_cons (pv 0) (pa_cons (pe_gc (v := .ref T.cl_InvalidWeight) (by rfl) ⟨_, T.gc_InvalidWeight, rfl⟩) pa_nil))) pa_nil))) pa_nil))))
      (pss_cons (ps_set (i := 1) sc_law_word_of.nd rfl (Or.inl rfl) (pe_op op_cat (pv 1) (pe_lst (pa_cons (pe_tup (pa_cons pe_str (pa_cons (pe_callB (id := "isinstance") (r := rIsE K C p.1) (Kit.call_isP hC hp hz hf) (by rfl) T.m_isinstance (by decide +kernel) (pa_cons (pv 0) (pa_cons (pe_gc (v := .ref T.cl_InvalidGuest) (by rfl) ⟨_, T.gc_InvalidGuest, rfl⟩) pa_nil))) pa_nil))) (pa_cons (pe_tup (pa_cons pe_str (pa_cons (pe_callB (id := "isinstance") (r := rIsE K C p.1) (Kit.call_isP hC hp hz hf) (by rfl) T.m_isinstance (by decide +kernel) (pa_cons (pv 0) (pa_cons (pe_gc (v := .ref T.cl_InvalidGroup) (by rfl) ⟨_, T.gc_InvalidGroup, rfl⟩) pa_nil))) pa_nil))) pa_nil)))))
      (pss_cons (ps_set (i := 1) sc_law_word_of.nd rfl (Or.inl rfl) (pe_op op_cat (pv 1) (pe_lst (pa_cons (pe_tup (pa_cons pe_str (pa_cons (pe_callB (id := "isinstance") (r := rIsE K C p.1) (Kit.call_isP hC hp hz hf) (by rfl) T.m_isinstance (by decide +kernel) (pa_cons (pv 0) (pa_cons (pe_gc (v := .ref T.cl_InvalidGroups) (by rfl) ⟨_, T.gc_InvalidGroups, rfl⟩) pa_nil))) pa_nil))) (pa_cons (pe_tup (pa_cons pe_str (pa_cons (pe_callB (id := "isinstance") (r := rIsE K C p.1) (Kit.call_isP hC hp hz hf) (by rfl) T.m_isinstance (by decide +kernel) (pa_cons (pv 0) (pa_cons (pe_gc (v := .ref T.cl_InvalidFacts) (by rfl) ⟨_, T.gc_InvalidFacts, rfl⟩) pa_nil))) pa_nil))) pa_nil)))))
      (pss_cons (ps_set (i := 1) sc_law_word_of.nd rfl (Or.inl rfl) (pe_op op_cat (pv 1) (pe_lst (pa_cons (pe_tup (pa_cons pe_str (pa_cons (pe_callB (id := "isinstance") (r := rIsE K C p.1) (Kit.call_isP hC hp hz hf) (by rfl) T.m_isinstance (by decide +kernel) (pa_cons (pv 0) (pa_cons (pe_gc (v := .ref T.cl_InvalidSizes) (by rfl) ⟨_, T.gc_InvalidSizes, rfl⟩) pa_nil))) pa_nil))) (pa_cons (pe_tup (pa_cons pe_str (pa_cons (pe_callB (id := "isinstance") (r := rIsE K C p.1) (Kit.call_isP hC hp hz hf) (by rfl) T.m_isinstance (by decide +kernel) (pa_cons (pv 0) (pa_cons (pe_gc (v := .ref T.cl_InvalidNumber) (by rfl) ⟨_, T.gc_InvalidNumber, rfl⟩) pa_nil))) pa_nil))) pa_nil)))))
      (pss_cons (ps_set (i := 1) sc_law_word_of.nd rfl (Or.inl rfl) (pe_op op_cat (pv 1) (pe_lst (pa_cons (pe_tup (pa_cons pe_str (pa_cons (pe_callB (id := "isinstance") (r := rIsE K C p.1) (Kit.call_isP hC hp hz hf) (by rfl) T.m_isinstance (by decide +kernel) (pa_cons (pv 0) (pa_cons (pe_gc (v := .ref T.cl_InvalidIndex) (by rfl) ⟨_, T.gc_InvalidIndex, rfl⟩) pa_nil))) pa_nil))) (pa_cons (pe_tup (pa_cons pe_str (pa_cons (pe_callB (id := "isinstance") (r := rIsE K C p.1) (Kit.call_isP hC hp hz hf) (by rfl) T.m_isinstance (by decide +kernel) (pa_cons (pv 0) (pa_cons (pe_gc (v := .ref T.cl_NoSeating) (by rfl) ⟨_, T.gc_NoSeating, rfl⟩) pa_nil))) pa_nil))) pa_nil)))))
      (pss_cons (ps_expr (pe_bm PySem.F.plainAttrs_list PySem.F.slot_list_append PySem.F.type_list_append mt_append (pv 1) (pa_cons (pe_tup (pa_cons pe_str (pa_cons (pe_callB (id := "isinstance") (r := rIsE K C p.1) (Kit.call_isP hC hp hz hf) (by rfl) T.m_isinstance (by decide +kernel) (pa_cons (pv 0) (pa_cons (pe_gc (v := .ref T.cl_InvalidSeating) (by rfl) ⟨_, T.gc_InvalidSeating, rfl⟩) pa_nil))) pa_nil))) pa_nil)))
      (pss_cons (ps_expr (pe_bm PySem.F.plainAttrs_list PySem.F.slot_list_append PySem.F.type_list_append mt_append (pv 1) (pa_cons (pe_tup (pa_cons pe_str (pa_cons (pe_callB (id := "isinstance") (r := rIsET K C p.1) (Kit.call_isPT hC hp hz hf) (by rfl) T.m_isinstance (by decide +kernel) (pa_cons (pv 0) (pa_cons (pe_tup (pa_cons (pe_gc (v := .ref T.cl_InvalidComing) (by rfl) ⟨_, T.gc_InvalidComing, rfl⟩) (pa_cons (pe_gc (v := .ref T.cl_InvalidDistances) (by rfl) ⟨_, T.gc_InvalidDistances, rfl⟩) (pa_cons (pe_gc (v := .ref T.cl_InvalidNames) (by rfl) ⟨_, T.gc_InvalidNames, rfl⟩) (pa_cons (pe_gc (v := .ref T.cl_InvalidTables) (by rfl) ⟨_, T.gc_InvalidTables, rfl⟩) pa_nil))))) pa_nil))) pa_nil))) pa_nil)))
      (pss_cons (ps_expr (pe_bm PySem.F.plainAttrs_list PySem.F.slot_list_append PySem.F.type_list_append mt_append (pv 1) (pa_cons (pe_tup (pa_cons pe_str (pa_cons (pe_callB (id := "isinstance") (r := rIsET K C p.1) (Kit.call_isPT hC hp hz hf) (by rfl) T.m_isinstance (by decide +kernel) (pa_cons (pv 0) (pa_cons (pe_tup (pa_cons (pe_gc (v := .ref T.cl_InvalidText) (by rfl) ⟨_, T.gc_InvalidText, rfl⟩) (pa_cons (pe_gc (v := .ref T.cl_NothingToUndo) (by rfl) ⟨_, T.gc_NothingToUndo, rfl⟩) (pa_cons (pe_gc (v := .ref T.cl_Refused) (by rfl) ⟨_, T.gc_Refused, rfl⟩) pa_nil)))) pa_nil))) pa_nil))) pa_nil)))
      (pss_cons (Kit.ps_setLcH (i := 4) (own := [("word", 2), ("is_one", 3)]) (g := (gTup _ 2 (gCons (gName 2) (gCons (gName 3) gNil)))) hot hp sc_law_word_of.nd rfl rfl (sw_true rfl rfl rfl (by decide +kernel)) (Kit.pi_listH (pv 1)) (blkOk_by (own := [("word", 2), ("is_one", 3)]) (N := n_law_word_of) (sc := defScope s_law_word_of) (by decide +kernel)) (fun _ _ _ _ _ => (Kit.pg_tupH (Kit.hotC_of hot hp) (pgs_cons (pg_name (i := 2) sc_law_word_of.nd rfl (Or.inl rfl)) (pgs_cons (pg_name (i := 3) sc_law_word_of.nd rfl (Or.inl rfl)) pgs_nil)))) (fun _ _ _ _ _ => (pts_one (pt_val (pv 3)))) (fun _ _ _ _ _ => (pv 2)))
      (pss_one (ps_ret (pe_ifExp (PW.pt (pw_and (pt_cmpR op_eq (pe_callB call_lenR (by rfl) T.m_len (by decide +kernel) (pa_cons (pv 4) pa_nil)) pe_int (nomark _)) (pw_and (pt_val (pe_callB (id := "isinstance") (r := rIsE K C p.1) (Kit.call_isP hC hp hz hf) (by rfl) T.m_isinstance (by decide +kernel) (pa_cons (pv 0) (pa_cons (pe_gc (v := .ref T.cl_HallError) (by rfl) ⟨_, T.gc_HallError, rfl⟩) pa_nil)))) (pw_and1 (pt_val (pe_callB (id := "isinstance") (r := rIsE K C p.1) (Kit.call_isP hC hp hz hf) (by rfl) T.m_isinstance (by decide +kernel) (pa_cons (pv 0) (pa_cons (pe_bltn (v := .ty "ValueError") (by rfl) T.m_ValueError (by decide +kernel) rfl) pa_nil)))))))) (pe_ix ix_list (pv 4) pe_int (fun _ _ => rfl)) pe_str)))))))))))), ?_⟩
    have ref : ∀ (b : Addr) (u : Value), RelV (.ref b) u → u = .ref b := fun b u r => r
    have tyv : ∀ (n : String) (u : Value), RelV (.ty n) u → u = .type n := fun n u r => r
    have one : ∀ {σ : L2.St} {G : Hp} {te tf : TE} {z : Str} {D : Addr} {b : Bool}, Ev te σ G (.ref p.1) → Ev tf σ G (.ref D) → PySem.W.kitOne K (.ref C) (.ref D) = some b → EvU (tTup (tCons (tC (.str z)) (tCons (tCB (rIsE K C p.1) (tCons te (tCons tf tNil))) tNil))) σ G [.str z, .bl b] := fun h1 h2 h3 => eu_tup (ea_cons ev_c (ea_cons (ev_isP h1 h2 (ref _) h3) ea_nil)) (Nat.le_of_ble_eq_true rfl)
    refine q_asgLT (rs := fwA i) (elt_lst (eat_cons (one (ev_var rfl) ev_c (hk 0 rfl)) (eat_cons (one (ev_var rfl) ev_c (hk 1 rfl)) eat_nil)) (Nat.le_of_ble_eq_true rfl)) fun l1 w1 H1 n1 e1 h1 t1 => ?_
    refine q_asgLT (rs := fwA i ++ fwB i) (elt_catL (ev_var rfl) h1 t1 (elt_lst (eat_cons (one (ev_var rfl) ev_c (hk 2 rfl)) (eat_cons (one (ev_var rfl) ev_c (hk 3 rfl)) eat_nil)) (Nat.le_of_ble_eq_true rfl)) (Nat.le_of_ble_eq_true rfl)) fun l2 w2 H2 n2 e2 h2 t2 => ?_
    refine q_asgLT (rs := (fwA i ++ fwB i) ++ fwC i) (elt_catL (ev_var rfl) h2 t2 (elt_lst (eat_cons (one (ev_var rfl) ev_c (hk 4 rfl)) (eat_cons (one (ev_var rfl) ev_c (hk 5 rfl)) eat_nil)) (Nat.le_of_ble_eq_true rfl)) (Nat.le_of_ble_eq_true rfl)) fun l3 w3 H3 n3 e3 h3 t3 => ?_
    refine q_asgLT (rs := ((fwA i ++ fwB i) ++ fwC i) ++ fwD i) (elt_catL (ev_var rfl) h3 t3 (elt_lst (eat_cons (one (ev_var rfl) ev_c (hk 6 rfl)) (eat_cons (one (ev_var rfl) ev_c (hk 7 rfl)) eat_nil)) (Nat.le_of_ble_eq_true rfl)) (Nat.le_of_ble_eq_true rfl)) fun l4 w4 H4 n4 e4 h4 t4 => ?_
    refine q_asgLT (rs := (((fwA i ++ fwB i) ++ fwC i) ++ fwD i) ++ fwE) (elt_catL (ev_var rfl) h4 t4 (elt_lst (eat_cons (one (ev_var rfl) ev_c (hk 8 rfl)) (eat_cons (one (ev_var rfl) ev_c (hk 9 rfl)) eat_nil)) (Nat.le_of_ble_eq_true rfl)) (Nat.le_of_ble_eq_true rfl)) fun l5 w5 H5 n5 e5 h5 t5 => ?_
    have len5 : w5.length = 10 := t5.len
    have e05 := e1.trans (e2.trans (e3.trans (e4.trans e5)))
    have n5 := fresh_back (e1.trans (e2.trans (e3.trans e4))) n5
    refine q_appU h5 (ev_var rfl) (one (ev_var rfl) ev_c (hk 10 rfl)) (by omega) fun q6 H6 m6 e6 h6 => ?_
    have t6 := tl_app (TL.upd (o := .lst (w5 ++ [.ref q6])) (e6 _ _ h5) (t5.ex e6)) (show TL (upd H6 l5 (.lst (w5 ++ [.ref q6]))) [.ref q6] fwF from .cons ⟨q6, rfl, by rw [upd_ne (fun z => by rw [z, h5] at m6; cases m6)]; exact h6⟩ .nil)
    refine q_appU (xs := w5 ++ [.ref q6]) upd_same (ev_var rfl) (eu_tup (ea_cons ev_c (ea_cons (ev_isPT (K := K) (cs := [T.cl_InvalidComing, T.cl_InvalidDistances, T.cl_InvalidNames, T.cl_InvalidTables]) (b := false) (ev_var rfl) (eu_tup (ea_cons ev_c (ea_cons ev_c (ea_cons ev_c (ea_cons ev_c ea_nil)))) (Nat.le_of_ble_eq_true rfl)) (by simp [PySem.W.kitAny, hk 11 rfl, hk 12 rfl, hk 13 rfl, hk 14 rfl])) ea_nil)) (Nat.le_of_ble_eq_true rfl)) (by simp; omega) fun q7 H7 m7 e7 h7 => ?_
    have h67 := e7 l5 _ upd_same
    have t7 := tl_app (TL.upd (o := .lst ((w5 ++ [.ref q6]) ++ [.ref q7])) h67 (t6.ex e7)) (show TL (upd H7 l5 (.lst ((w5 ++ [.ref q6]) ++ [.ref q7]))) [.ref q7] fwG from .cons ⟨q7, rfl, by rw [upd_ne (fun z => by rw [z, upd_same] at m7; cases m7)]; exact h7⟩ .nil)
    refine q_appU (xs := (w5 ++ [.ref q6]) ++ [.ref q7]) upd_same (ev_var rfl) (eu_tup (ea_cons ev_c (ea_cons (ev_isPT (K := K) (cs := [T.cl_InvalidText, T.cl_NothingToUndo, T.cl_Refused]) (b := false) (ev_var rfl) (eu_tup (ea_cons ev_c (ea_cons ev_c (ea_cons ev_c ea_nil))) (Nat.le_of_ble_eq_true rfl)) (by simp [PySem.W.kitAny, hk 15 rfl, hk 16 rfl, hk 17 rfl])) ea_nil)) (Nat.le_of_ble_eq_true rfl)) (by simp; omega) fun q8 H8 m8 e8 h8 => ?_
    have h78 := e8 l5 _ upd_same
    have t8 := tl_app (TL.upd (o := .lst (((w5 ++ [.ref q6]) ++ [.ref q7]) ++ [.ref q8])) h78 (t7.ex e8)) (show TL (upd H8 l5 (.lst (((w5 ++ [.ref q6]) ++ [.ref q7]) ++ [.ref q8]))) [.ref q8] fwH from .cons ⟨q8, rfl, by rw [upd_ne (fun z => by rw [z, upd_same] at m8; cases m8)]; exact h8⟩ .nil)
    have e08 : Ex H (upd H8 l5 (.lst (((w5 ++ [.ref q6]) ++ [.ref q7]) ++ [.ref q8]))) := Ex.mut ((Ex.mut ((Ex.mut (e05.trans e6) n5).trans e7) n5).trans e8) n5
    have h9 : upd H8 l5 (.lst (((w5 ++ [.ref q6]) ++ [.ref q7]) ++ [.ref q8])) l5 = some (.lst (((w5 ++ [.ref q6]) ++ [.ref q7]) ++ [.ref q8])) := upd_same
    generalize upd H8 l5 (.lst (((w5 ++ [.ref q6]) ++ [.ref q7]) ++ [.ref q8])) = H9 at t8 e08 h9 ⊢
    have ci : i = 0 ∨ i = 1 ∨ i = 2 ∨ i = 3 ∨ i = 4 ∨ i = 5 := by omega
    have lc := el_lcTL (K := K) (i := 2) (j := 3) (vs := [2, 3]) (tl := tVar 1) (tt := tB (tVar 3)) (te := tVar 2) (σ := [some (.ref p.1), some (.ref l5), none, none, none]) (fun n => V.str (wdN n)) (fun n => V.bl (bdN i n)) (fun n => bdN i n) (fun n => V.str (wdN n)) (ev_var rfl) h9 t8 (Nat.le_of_ble_eq_true rfl) (fun n r hr => ?_) (fun _ _ => rfl) (fun n G hn => et_B (ev_var rfl)) fun n G hn hf => ev_var rfl
    · have eg : given ((((((((fwA i ++ fwB i) ++ fwC i) ++ fwD i) ++ fwE) ++ fwF) ++ fwG) ++ fwH).length) (fun n => bdN i n) (fun n => V.str (wdN n)) = [V.str (erW i)] := by
        rcases ci with rfl | rfl | rfl | rfl | rfl | rfl <;> rfl
      rw [eg] at lc
      refine q_asgL lc fun s0 H10 ns e10 hs => ?_
      refine s_ret (v := .str (erW i)) (ev_if (b := true) (et_is (et_and (a := true) (b := true) (et_is (et_test (ev_op (ev_len (ev_var rfl) (sq_of hs)) ev_c (rv_eq rfl))) (decide_eq_true rfl)) fun _ => et_and (a := true) (b := true) (et_B (ev_isP (ev_var rfl) ev_c (ref _) (hk 18 rfl))) fun _ => et_B (ev_isP (ev_var rfl) ev_c (tyv _) (hk 19 rfl))) rfl) (fun _ => ev_op (ev_var rfl) ev_c (rv_ixL (K := K) (sq_of hs) rfl)) fun z => Bool.noConfusion z) fun H11 e11 => k _ (e08.trans (e10.trans e11))
    · have n13 : n < 13 := (List.getElem?_eq_some_iff.mp hr).1
      have : n = 0 ∨ n = 1 ∨ n = 2 ∨ n = 3 ∨ n = 4 ∨ n = 5 ∨ n = 6 ∨ n = 7 ∨ n = 8 ∨ n = 9 ∨ n = 10 ∨ n = 11 ∨ n = 12 := by omega
      rcases ci with rfl | rfl | rfl | rfl | rfl | rfl <;> rcases this with rfl | rfl | rfl | rfl | rfl | rfl | rfl | rfl | rfl | rfl | rfl | rfl | rfl <;> exact (Option.some.inj hr).symm
end


/-! ### _law_by_gang, _law_called, _law_raised -/
def wordO : Option Nat → Str
  | none => "fine"
  | some i => erW i
structure ShT (d : PyData) : Prop where
  shw : d.showable = true
  len : d.shown.length ≤ 400000
  dep : d.depth ≤ 20
theorem ShT.pair {d e : PyData} (h : ShT d) (h2 : ShT e) : (PyData.list [d, e]).shown.length ≤ sizeLine := by
  have := listText_len_le (PyData.shownAll [d, e])
  have a := h.len
  have b := h2.len
  have c : ((PyData.shownAll [d, e]).map (·.length)).sum = d.shown.length + e.shown.length := by simp [PyData.shownAll]
  have f : (PyData.shownAll [d, e]).length = 2 := by simp [PyData.shownAll]
  rw [c, f] at this
  show (listText (PyData.shownAll [d, e])).length ≤ _
  rw [sizeLine_eq]
  omega
structure Gv (H : Hp) (v : V) (d : PyData) : Prop where
  tg : Tg3 H v d
  lok : LenOk2 d
  sh : ShT d
theorem Gv.ex {H H1 : Hp} {v : V} {d : PyData} (h : Gv H v d) (e : Ex H H1) : Gv H1 v d := ⟨h.tg.ex e, h.lok, h.sh⟩
theorem tg3_int {H : Hp} {v : V} {i : Int} (h : Tg3 H v (.int i)) : v = .int i := by
  rcases h with h | ⟨_, _, _, h2, _⟩
  · exact tk_intv h
  · cases h2
inductive AskG : Int → Int → Int → PyData → Option Nat → Prop
  | d0 (m x : Int) (d : PyData) : AskG 0 m x d (dGrp m x d)
  | d1 (m x : Int) (d : PyData) : AskG 1 m x d (dGrp m x d)
  | d2 (m x : Int) (d : PyData) : AskG 2 m x d (dGrp m x d)
  | d3 (m x : Int) (d : PyData) : AskG 3 m x d (dOpn m x d)
  | d4 (m x : Int) (d : PyData) : AskG 4 m x d (dSpl m x d)
inductive Asked : Int → Int → Int → PyData → PyData → Option Nat → Prop
  | g (w m x : Int) (d e : PyData) (r : Option Nat) (hw : w < 5) (h : AskG w m x d r) : Asked w m x d e r
  | d5 (m x q : Int) (e : PyData) : Asked 5 m x (.int q) e (dGst m x q)
  | d6 (m x q : Int) (e : PyData) : Asked 6 m x (.int q) e (dGst m x q)
  | d7 (m x u q : Int) : Asked 7 m x (.int u) (.int q) (dRnk m x u q)
  | d8 (m x q : Int) (e : PyData) : Asked 8 m x (.int q) e (dHom m x)
  | d9 (m x q : Int) (e : PyData) : Asked 9 m x (.int q) e (dHom m x)
  | d10 (m x : Int) (d e : PyData) : Asked 10 m x d e (dCnt m d)
  | d11 (m x u : Int) (d : PyData) : Asked 11 m x (.int u) d (dGiv m u d)
theorem Asked.lt {w m x : Int} {d e : PyData} {r : Option Nat} (h : Asked w m x d e r) : ∀ i, r = some i → i < 6 := by
  intro i hi
  cases h with
  | g _ _ _ _ _ _ hw h =>
    cases h <;> first | unfold dGrp at hi | unfold dOpn at hi | unfold dSpl at hi
    all_goals repeat (split at hi)
    all_goals first | (cases hi; done) | (have := Option.some.inj hi; omega)
  | _ =>
    first | unfold dGst at hi | unfold dRnk at hi | unfold dHom at hi | unfold dCnt at hi | unfold dGiv at hi
    all_goals repeat (split at hi)
    all_goals first | (cases hi; done) | (have := Option.some.inj hi; omega)
section
variable {P : Program} {w : World} {K : PySem.W.Frag} {mg : Str → Option Value} {base : Heap}
def sp_law_by_gang (T : Tx K mg) : Sp := fun vs H Q E => ∃ (w m x : Int) (v : V) (d : PyData) (r : Option Nat), vs = [.int w, .int m, .int x, v] ∧ Gv H v d ∧ AskG w m x d r ∧ Out (r.map (erA T)) H Q E
def sp_law_called (T : Tx K mg) : Sp := fun vs H Q E => ∃ (w m x : Int) (v u : V) (d e : PyData) (r : Option Nat), vs = [.int w, .int m, .int x, v, u] ∧ Gv H v d ∧ Gv H u e ∧ Asked w m x d e r ∧ Out (r.map (erA T)) H Q E
def sp_law_raised : Sp := fun vs H Q _ => ∃ (w m x : Int) (v u : V) (d e : PyData) (r : Option Nat), vs = [.int w, .int m, .int x, v, u] ∧ Gv H v d ∧ Gv H u e ∧ Asked w m x d e r ∧ RetV (.str (wordO r)) H Q
theorem sv_told {H : Hp} {w m x : Int} {v u : V} {d e : PyData} {r : Option Nat} (hv : Gv H v d) (hu : Gv H u e) (hA : Asked w m x d e r) : SpV sp_law_raised ([.int w, .int m, .int x, v, u] ++ []) H (.str (wordO r)) := fun H1 g Q q E => ⟨w, m, x, v, u, d, e, r, rfl, hv.ex g, hu.ex g, hA, q⟩
theorem s_chkE {σ : L2.St} {H : Hp} {ta : TA} {vs dvs : List V} {sp : Sp} {E : XK} {D : Ends} {due : Option Addr} (ha : EvA ta σ H vs) (hs : SpO sp (vs ++ dvs) H due) (k : due = none → ∀ H1, Ex H H1 → D.nx σ H1) (ke : ∀ C, due = some C → ∀ H1, Ex H H1 → E (.ref C) none H1) : tDrop (tCall sp dvs E ta) D σ H :=
  q_chk (tz := tNext) ha hs k ke
theorem ok_law_by_gang (T : Tx K mg) : FnOk P w K mg base (L2N.CX P w) 8 T.f_law_by_gang T.d_law_by_gang ["door", "many_here", "heavy", "gang"] (sp_law_by_gang T) := by
  refine Kit.okN T.F_law_by_gang sc_law_by_gang (fun vs H Q E h => ?_) (fun cdv A outer s H vs Q E hr h => ?_)
  · obtain ⟨w, m, x, v, d, r, rfl, _⟩ := h
    rfl
  · obtain ⟨w, m, x, v, d, r, rfl, hv, hA, k⟩ := h
    refine ⟨_, (pss_one (ps_if (pt_cmpR op_eq (pv 0) pe_int (nomark _)) (pss_one (ps_expr (pe_call (ok_together_share T) (hr.mono (by decide)) (by rfl) T.g_together_share T.F_together_share.kp T.b_together_share .nil Kit.passN (pa_cons (pv 1) (pa_cons (pv 2) (pa_cons (pv 3) pa_nil)))))) (pss_one (ps_if (pt_cmpR op_eq (pv 0) pe_int (nomark _)) (pss_one (ps_expr (pe_call (ok_just_share T) (hr.mono (by decide)) (by rfl) T.g_just_share T.F_just_share.kp T.b_just_share .nil Kit.passN (pa_cons (pv 1) (pa_cons (pv 2) (pa_cons (pv 3) pa_nil)))))) (pss_one (ps_if (pt_cmpR op_eq (pv 0) pe_int (nomark _)) (pss_one (ps_expr (pe_call (ok_tables_shares T) (hr.mono (by decide)) (by rfl) T.g_tables_shares T.F_tables_shares.kp T.b_tables_shares .nil Kit.passN (pa_cons (pv 1) (pa_cons (pv 2) (pa_cons (pv 3) pa_nil)))))) (pss_one (ps_if (pt_cmpR op_eq (pv 0) pe_int (nomark _)) (pss_one (ps_expr (pe_call (ok_openers_share T) (hr.mono (by decide)) (by rfl) T.g_openers_share T.F_openers_share.kp T.b_openers_share .nil Kit.passN (pa_cons (pv 1) (pa_cons (pv 2) (pa_cons (pv 3) pa_nil)))))) (pss_one (ps_expr (pe_call (ok_split_share T) (hr.mono (by decide)) (by rfl) T.g_split_share T.F_split_share.kp T.b_split_share .nil Kit.passN (pa_cons (pv 1) (pa_cons (pv 2) (pa_cons (pv 3) pa_nil)))))))))))))), ?_⟩
    have end2 : ∀ {G : Hp}, Ex H G → (r.map (erA T) = none → ∀ H1, Ex G H1 → Q .non H1) ∧ (∀ C, r.map (erA T) = some C → ∀ H1, Ex G H1 → E (.ref C) none H1) := fun g => ⟨fun hd H1 e1 => k.no hd _ _ (g.trans e1), fun C hC H1 e1 => k.yes _ hC _ (g.trans e1)⟩
    cases hA with
    | d0 m x d =>
      refine s_if (b := true) (et_is (by walk_at "et") (by rfl)) (fun _ H1 e1 => ?_) (fun z => Bool.noConfusion z)
      exact s_chkE (by walk_at "ea") (fun H2 e2 Q E q => ⟨m, x, v, d, rfl, hv.tg.ex (e1.trans e2), hv.lok.1, q⟩) (end2 e1).1 (end2 e1).2
    | d1 m x d =>
      refine s_if (b := false) (et_is (by walk_at "et") (by rfl)) (fun z => Bool.noConfusion z) fun _ H1 e1 => ?_
      refine s_if (b := true) (et_is (by walk_at "et") (by rfl)) (fun _ H2 e2 => ?_) (fun z => Bool.noConfusion z)
      have g := e1.trans e2
      exact s_chkE (by walk_at "ea") (fun H2 e2 Q E q => ⟨m, x, v, d, rfl, hv.tg.ex (g.trans e2), hv.lok.1, q⟩) (end2 g).1 (end2 g).2
    | d2 m x d =>
      refine s_if (b := false) (et_is (by walk_at "et") (by rfl)) (fun z => Bool.noConfusion z) fun _ H1 e1 => ?_
      refine s_if (b := false) (et_is (by walk_at "et") (by rfl)) (fun z => Bool.noConfusion z) fun _ H2 e2 => ?_
      refine s_if (b := true) (et_is (by walk_at "et") (by rfl)) (fun _ H3 e3 => ?_) (fun z => Bool.noConfusion z)
      have g := e1.trans (e2.trans e3)
      exact s_chkE (by walk_at "ea") (fun H2 e2 Q E q => ⟨m, x, v, d, rfl, hv.tg.ex (g.trans e2), hv.lok.1, q⟩) (end2 g).1 (end2 g).2
    | d3 m x d =>
      refine s_if (b := false) (et_is (by walk_at "et") (by rfl)) (fun z => Bool.noConfusion z) fun _ H1 e1 => ?_
      refine s_if (b := false) (et_is (by walk_at "et") (by rfl)) (fun z => Bool.noConfusion z) fun _ H2 e2 => ?_
      refine s_if (b := false) (et_is (by walk_at "et") (by rfl)) (fun z => Bool.noConfusion z) fun _ H3 e3 => ?_
      refine s_if (b := true) (et_is (by walk_at "et") (by rfl)) (fun _ H4 e4 => ?_) (fun z => Bool.noConfusion z)
      have g := e1.trans (e2.trans (e3.trans e4))
      exact s_chkE (by walk_at "ea") (fun H2 e2 Q E q => ⟨m, x, v, d, rfl, hv.tg.ex (g.trans e2), hv.lok.1, q⟩) (end2 g).1 (end2 g).2
    | d4 m x d =>
      refine s_if (b := false) (et_is (by walk_at "et") (by rfl)) (fun z => Bool.noConfusion z) fun _ H1 e1 => ?_
      refine s_if (b := false) (et_is (by walk_at "et") (by rfl)) (fun z => Bool.noConfusion z) fun _ H2 e2 => ?_
      refine s_if (b := false) (et_is (by walk_at "et") (by rfl)) (fun z => Bool.noConfusion z) fun _ H3 e3 => ?_
      refine s_if (b := false) (et_is (by walk_at "et") (by rfl)) (fun z => Bool.noConfusion z) fun _ H4 e4 => ?_
      have g := e1.trans (e2.trans (e3.trans e4))
      exact s_chkE (by walk_at "ea") (fun H2 e2 Q E q => ⟨m, x, v, d, rfl, hv.tg.ex (g.trans e2), hv.lok, q⟩) (end2 g).1 (end2 g).2
end


/-! ### _law_called, _law_raised -/
section
variable {P : Program} {w : World} {K : PySem.W.Frag} {mg : Str → Option Value} {base : Heap}
theorem ok_law_called (T : Tx K mg) : FnOk P w K mg base (L2N.CX P w) 9 T.f_law_called T.d_law_called ["door", "many_here", "heavy", "first", "second"] (sp_law_called T) := by
  refine Kit.okN T.F_law_called sc_law_called (fun vs H Q E h => ?_) (fun cdv A outer s H vs Q E hr h => ?_)
  · obtain ⟨w, m, x, v, u, d, e, r, rfl, _⟩ := h
    rfl
  · obtain ⟨w, m, x, v, u, d, e, r, rfl, hv, hu, hA, k⟩ := h
    refine ⟨_, (pss_one (ps_if (pt_cmpR op_lt (pv 0) pe_int (nomark _)) (pss_one (ps_expr (pe_call (ok_law_by_gang T) (hr.mono (by decide)) (by rfl) T.g_law_by_gang T.F_law_by_gang.kp T.b_law_by_gang .nil Kit.passN (pa_cons (pv 0) (pa_cons (pv 1) (pa_cons (pv 2) (pa_cons (pv 3) pa_nil))))))) (pss_one (ps_if (pt_cmpR op_eq (pv 0) pe_int (nomark _)) (pss_one (ps_expr (pe_call (ok_opener_share T) (hr.mono (by decide)) (by rfl) T.g_opener_share T.F_opener_share.kp T.b_opener_share .nil Kit.passN (pa_cons (pv 1) (pa_cons (pv 2) (pa_cons (pv 3) pa_nil)))))) (pss_one (ps_if (pt_cmpR op_eq (pv 0) pe_int (nomark _)) (pss_one (ps_expr (pe_call (ok_last_opener_share T) (hr.mono (by decide)) (by rfl) T.g_last_opener_share T.F_last_opener_share.kp T.b_last_opener_share .nil Kit.passN (pa_cons (pv 1) (pa_cons (pv 2) (pa_cons (pv 3) pa_nil)))))) (pss_one (ps_if (pt_cmpR op_eq (pv 0) pe_int (nomark _)) (pss_one (ps_expr (pe_call (ok_rank_share T) (hr.mono (by decide)) (by rfl) T.g_rank_share T.F_rank_share.kp T.b_rank_share .nil Kit.passN (pa_cons (pv 1) (pa_cons (pv 2) (pa_cons (pv 3) (pa_cons (pv 4) pa_nil))))))) (pss_one (ps_if (pt_cmpR op_eq (pv 0) pe_int (nomark _)) (pss_one (ps_expr (pe_call (ok_home_share T) (hr.mono (by decide)) (by rfl) T.g_home_share T.F_home_share.kp T.b_home_share .nil Kit.passN (pa_cons (pv 1) (pa_cons (pv 2) (pa_cons (pv 3) pa_nil)))))) (pss_one (ps_if (pt_cmpR op_eq (pv 0) pe_int (nomark _)) (pss_one (ps_expr (pe_call (ok_other_share T) (hr.mono (by decide)) (by rfl) T.g_other_share T.F_other_share.kp T.b_other_share .nil Kit.passN (pa_cons (pv 1) (pa_cons (pv 2) (pa_cons (pv 3) pa_nil)))))) (pss_one (ps_if (pt_cmpR op_eq (pv 0) pe_int (nomark _)) (pss_one (ps_expr (pe_call (ok_count_openers T) (hr.mono (by decide)) (by rfl) T.g_count_openers T.F_count_openers.kp T.b_count_openers .nil Kit.passN (pa_cons (pv 1) (pa_cons (pv 3) pa_nil))))) (pss_one (ps_expr (pe_call (ok_given_tables T) (hr.mono (by decide)) (by rfl) T.g_given_tables T.F_given_tables.kp T.b_given_tables .nil Kit.passN (pa_cons (pv 1) (pa_cons (pv 3) (pa_cons (pv 4) pa_nil)))))))))))))))))))), ?_⟩
    have end2 : ∀ {G : Hp}, Ex H G → (r.map (erA T) = none → ∀ H1, Ex G H1 → Q .non H1) ∧ (∀ C, r.map (erA T) = some C → ∀ H1, Ex G H1 → E (.ref C) none H1) := fun g => ⟨fun hd H1 e1 => k.no hd _ _ (g.trans e1), fun C hC H1 e1 => k.yes _ hC _ (g.trans e1)⟩
    cases hA with
    | g w m x d e r hw h =>
      refine s_if (b := true) (et_is (by walk_at "et") (decide_eq_true hw)) (fun _ H1 e1 => ?_) (fun z => Bool.noConfusion z)
      exact s_chkE (by walk_at "ea") (fun H2 e2 Q E q => ⟨w, m, x, v, d, r, rfl, hv.ex (e1.trans e2), h, q⟩) (end2 e1).1 (end2 e1).2
    | d5 m x q e =>
      obtain rfl := tg3_int hv.tg
      refine s_if (b := false) (et_is (by walk_at "et") (by rfl)) (fun z => Bool.noConfusion z) fun _ H1 e1 => ?_
      refine s_if (b := true) (et_is (by walk_at "et") (by rfl)) (fun _ H2 e2 => ?_) (fun z => Bool.noConfusion z)
      have g := e1.trans (e2)
      exact s_chkE (by walk_at "ea") (fun H9 e9 Q E q2 => ⟨m, x, q, rfl, q2⟩) (end2 g).1 (end2 g).2
    | d6 m x q e =>
      obtain rfl := tg3_int hv.tg
      refine s_if (b := false) (et_is (by walk_at "et") (by rfl)) (fun z => Bool.noConfusion z) fun _ H1 e1 => ?_
      refine s_if (b := false) (et_is (by walk_at "et") (by rfl)) (fun z => Bool.noConfusion z) fun _ H2 e2 => ?_
      refine s_if (b := true) (et_is (by walk_at "et") (by rfl)) (fun _ H3 e3 => ?_) (fun z => Bool.noConfusion z)
      have g := e1.trans (e2.trans (e3))
      exact s_chkE (by walk_at "ea") (fun H9 e9 Q E q2 => ⟨m, x, q, rfl, q2⟩) (end2 g).1 (end2 g).2
    | d7 m x u0 q =>
      obtain rfl := tg3_int hv.tg
      obtain rfl := tg3_int hu.tg
      refine s_if (b := false) (et_is (by walk_at "et") (by rfl)) (fun z => Bool.noConfusion z) fun _ H1 e1 => ?_
      refine s_if (b := false) (et_is (by walk_at "et") (by rfl)) (fun z => Bool.noConfusion z) fun _ H2 e2 => ?_
      refine s_if (b := false) (et_is (by walk_at "et") (by rfl)) (fun z => Bool.noConfusion z) fun _ H3 e3 => ?_
      refine s_if (b := true) (et_is (by walk_at "et") (by rfl)) (fun _ H4 e4 => ?_) (fun z => Bool.noConfusion z)
      have g := e1.trans (e2.trans (e3.trans (e4)))
      exact s_chkE (by walk_at "ea") (fun H9 e9 Q E q2 => ⟨m, x, u0, q, rfl, q2⟩) (end2 g).1 (end2 g).2
    | d8 m x q e =>
      obtain rfl := tg3_int hv.tg
      refine s_if (b := false) (et_is (by walk_at "et") (by rfl)) (fun z => Bool.noConfusion z) fun _ H1 e1 => ?_
      refine s_if (b := false) (et_is (by walk_at "et") (by rfl)) (fun z => Bool.noConfusion z) fun _ H2 e2 => ?_
      refine s_if (b := false) (et_is (by walk_at "et") (by rfl)) (fun z => Bool.noConfusion z) fun _ H3 e3 => ?_
      refine s_if (b := false) (et_is (by walk_at "et") (by rfl)) (fun z => Bool.noConfusion z) fun _ H4 e4 => ?_
      refine s_if (b := true) (et_is (by walk_at "et") (by rfl)) (fun _ H5 e5 => ?_) (fun z => Bool.noConfusion z)
      have g := e1.trans (e2.trans (e3.trans (e4.trans (e5))))
      exact s_chkE (by walk_at "ea") (fun H9 e9 Q E q2 => ⟨m, x, q, rfl, q2⟩) (end2 g).1 (end2 g).2
    | d9 m x q e =>
      obtain rfl := tg3_int hv.tg
      refine s_if (b := false) (et_is (by walk_at "et") (by rfl)) (fun z => Bool.noConfusion z) fun _ H1 e1 => ?_
      refine s_if (b := false) (et_is (by walk_at "et") (by rfl)) (fun z => Bool.noConfusion z) fun _ H2 e2 => ?_
      refine s_if (b := false) (et_is (by walk_at "et") (by rfl)) (fun z => Bool.noConfusion z) fun _ H3 e3 => ?_
      refine s_if (b := false) (et_is (by walk_at "et") (by rfl)) (fun z => Bool.noConfusion z) fun _ H4 e4 => ?_
      refine s_if (b := false) (et_is (by walk_at "et") (by rfl)) (fun z => Bool.noConfusion z) fun _ H5 e5 => ?_
      refine s_if (b := true) (et_is (by walk_at "et") (by rfl)) (fun _ H6 e6 => ?_) (fun z => Bool.noConfusion z)
      have g := e1.trans (e2.trans (e3.trans (e4.trans (e5.trans (e6)))))
      exact s_chkE (by walk_at "ea") (fun H9 e9 Q E q2 => ⟨m, x, q, rfl, q2⟩) (end2 g).1 (end2 g).2
    | d10 m x d e =>
      refine s_if (b := false) (et_is (by walk_at "et") (by rfl)) (fun z => Bool.noConfusion z) fun _ H1 e1 => ?_
      refine s_if (b := false) (et_is (by walk_at "et") (by rfl)) (fun z => Bool.noConfusion z) fun _ H2 e2 => ?_
      refine s_if (b := false) (et_is (by walk_at "et") (by rfl)) (fun z => Bool.noConfusion z) fun _ H3 e3 => ?_
      refine s_if (b := false) (et_is (by walk_at "et") (by rfl)) (fun z => Bool.noConfusion z) fun _ H4 e4 => ?_
      refine s_if (b := false) (et_is (by walk_at "et") (by rfl)) (fun z => Bool.noConfusion z) fun _ H5 e5 => ?_
      refine s_if (b := false) (et_is (by walk_at "et") (by rfl)) (fun z => Bool.noConfusion z) fun _ H6 e6 => ?_
      refine s_if (b := true) (et_is (by walk_at "et") (by rfl)) (fun _ H7 e7 => ?_) (fun z => Bool.noConfusion z)
      have g := e1.trans (e2.trans (e3.trans (e4.trans (e5.trans (e6.trans (e7))))))
      exact s_chkE (by walk_at "ea") (fun H9 e9 Q E q2 => ⟨m, v, d, rfl, hv.tg.ex (g.trans e9), hv.lok.1, q2⟩) (end2 g).1 (end2 g).2
    | d11 m x u0 d =>
      obtain rfl := tg3_int hv.tg
      refine s_if (b := false) (et_is (by walk_at "et") (by rfl)) (fun z => Bool.noConfusion z) fun _ H1 e1 => ?_
      refine s_if (b := false) (et_is (by walk_at "et") (by rfl)) (fun z => Bool.noConfusion z) fun _ H2 e2 => ?_
      refine s_if (b := false) (et_is (by walk_at "et") (by rfl)) (fun z => Bool.noConfusion z) fun _ H3 e3 => ?_
      refine s_if (b := false) (et_is (by walk_at "et") (by rfl)) (fun z => Bool.noConfusion z) fun _ H4 e4 => ?_
      refine s_if (b := false) (et_is (by walk_at "et") (by rfl)) (fun z => Bool.noConfusion z) fun _ H5 e5 => ?_
      refine s_if (b := false) (et_is (by walk_at "et") (by rfl)) (fun z => Bool.noConfusion z) fun _ H6 e6 => ?_
      refine s_if (b := false) (et_is (by walk_at "et") (by rfl)) (fun z => Bool.noConfusion z) fun _ H7 e7 => ?_
      have g := e1.trans (e2.trans (e3.trans (e4.trans (e5.trans (e6.trans (e7))))))
      exact s_chkE (by walk_at "ea") (fun H9 e9 Q E q2 => ⟨m, u0, u, _, rfl, hu.tg.ex (g.trans e9), hu.lok.1, q2⟩) (end2 g).1 (end2 g).2
theorem ok_law_raised (T : Tx K mg) : FnOkG P w K mg base 11 T.f_law_raised T.d_law_raised ["door", "many_here", "heavy", "first", "second"] sp_law_raised := by
  refine Kit.funG T.F_law_raised sc_law_raised (fun vs H Q E h => ?_) (fun cdv A outer s H vs Q E hg hr h => ?_)
  · obtain ⟨w, m, x, v, u, d, e, r, rfl, _⟩ := h
    rfl
  · obtain ⟨w, m, x, v, u, d, e, r, rfl, hv, hu, hA, k⟩ := h
    refine ⟨_, (pss_cons (ps_par (i := 5) (j := 6) (by rfl) sc_law_raised.nd rfl rfl (by decide) rfl rfl (pa_cons pe_str (pa_cons (pe_callB (id := "repr") (r := rRepr2 K) (call_repr2 hg hr.units) (by rfl) T.m_repr (by decide +kernel) (pa_cons (pe_lst (pa_cons (pv 3) (pa_cons (pv 4) pa_nil))) pa_nil)) pa_nil)) (by rfl))
      (pss_cons (L2N.ps_try_as (i := 7) (ts := fun a cls d => tAsg (tCallP (sp_law_word_of T) a cls d (tCons (tVar 7) tNil)) (gName 5)) rfl rfl sc_law_raised.nd rfl rfl ⟨rfl, by decide, .inl T.gc_HallError⟩ Kit.takes0N (fun W pn xe tk _ => (pss_one (ps_expr (pe_callS (ok_law_called T) (hr.mono (by decide)) (by rfl) T.g_law_called T.F_law_called.kp T.b_law_called (fun σ => L2N.passAt tk σ) (pa_cons (pv 0) (pa_cons (pv 1) (pa_cons (pv 2) (pa_cons (pv 3) (pa_cons (pv 4) pa_nil))))))))) (fun a oe cls d pn hz hf => (pss_one (ps_set (i := 5) sc_law_raised.nd rfl (Or.inl rfl) (by exact (Kit.pe_callP (p := (a, oe)) (ok_law_word_of T) (Kit.roomS (hr.mono (by decide))) (Kit.hot_suite hz hf) hz.zc List.mem_cons_self (by rfl) T.g_law_word_of T.F_law_word_of.kp T.b_law_word_of (pa_cons (pv 7) pa_nil)))))))
      (pss_one (ps_ret (pe_ifExp (pt_cmpR op_eq (pe_callB (id := "repr") (r := rRepr2 K) (call_repr2 hg hr.units) (by rfl) T.m_repr (by decide +kernel) (pa_cons (pe_lst (pa_cons (pv 3) (pa_cons (pv 4) pa_nil))) pa_nil)) (pv 6) (nomark _)) (pv 5) pe_str))))), ?_⟩
    have rp : ∀ {σ : L2.St} {G : Hp}, Ex H G → σ[3]? = some (some v) → σ[4]? = some (some u) → Ev (tCB (rRepr2 K) (tCons (tLst (tCons (tVar 3) (tCons (tVar 4) tNil))) tNil)) σ G (.str (PyData.list [d, e]).shown) := fun g h1 h3 => ev_repr2 (ev_var h1) (ev_var h3) (hv.tg.ex g).dq (hu.tg.ex g).dq hv.sh.shw hu.sh.shw (by have := hv.sh.dep; omega) (by have := hu.sh.dep; omega) (hv.sh.pair hu.sh)
    refine q_par (ea_cons ev_c (ea_cons (rp (Ex.refl _) rfl rfl) ea_nil)) fun H1 e1 => ?_
    refine unseq ?_
    have last : ∀ (z : Str) (y : Option V) (H2 : Hp) (D : Ends), Ex H H2 → D.rt = Q → RetV (.str z) H Q → tRet (tIf (tTest (tOp rEq (tCB (rRepr2 K) (tCons (tLst (tCons (tVar 3) (tCons (tVar 4) tNil))) tNil)) (tVar 6))) (tVar 5) (tC (.str "changed"))) D [some (.int w), some (.int m), some (.int x), some v, some u, some (.str z), some (.str (PyData.list [d, e]).shown), y] H2 := by
      intro z y H2 D e2 hD hk
      refine s_ret (v := .str z) (ev_if (b := true) (et_is (et_test (ev_op (rp e2 rfl rfl) (ev_var rfl) (rv_eq (H := H2) rfl))) (decide_eq_true rfl)) (fun _ => ev_var rfl) fun z => Bool.noConfusion z) fun H3 e3 => ?_
      rw [hD]
      exact hk _ (e2.trans e3)
    have lt := hA.lt
    refine s_chkS (due := r.map (erA T)) (by walk_at "ea") (fun H3 e3 Q E q => ⟨w, m, x, v, u, d, e, r, rfl, hv.ex (e1.trans e3), hu.ex (e1.trans e3), hA, q⟩) (fun hd H3 e3 => ?_) fun C hC H3 e3 => ?_
    · have k0 : RetV (.str "fine") H Q := by
        cases r with
        | none => exact k
        | some i => cases hd
      exact last _ none H3 _ (e1.trans e3) rfl k0
    · cases r with
      | none => cases hC
      | some i =>
        cases hC
        obtain ⟨_, hx, _⟩ := er_is T (lt i rfl)
        refine ⟨true, hx, fun _ a ha => ⟨_, rfl, i, lt i rfl, rfl, rfl, rfl, fun H4 e4 => ?_⟩, fun z => nomatch z⟩
        exact last (erW i) none H4 _ (e1.trans (e3.trans e4)) rfl k
end


/-! ### things that are no groups -/
def flatD : V → PyData
  | .bl b => .bool b
  | .int i => .int i
  | .str x => .str x
  | _ => .none
def FlatS : V → Prop
  | .non => True
  | .bl _ => True
  | .int i => i.natAbs < 2 ^ 1900
  | .str x => x = "0"
  | _ => False
theorem flatS_fl {v : V} (h : FlatS v) : Flat v (flatD v) := by
  cases v with
  | non => exact .non
  | bl b => exact .bl b
  | int i => exact .int i
  | str x =>
    have h : x = "0" := h
    subst h
    exact .str _ (by decide +kernel)
  | _ => exact (show False from h).elim
theorem flatS_shn {v : V} (h : FlatS v) : ShN (flatD v) 2000 ∧ (flatD v).depth ≤ 19 := by
  cases v with
  | non => exact ⟨⟨rfl, rfl, by decide +kernel, Nat.zero_le _⟩, Nat.zero_le _⟩
  | bl b => exact ⟨⟨rfl, rfl, by cases b <;> decide +kernel, Nat.zero_le _⟩, Nat.zero_le _⟩
  | int i =>
    obtain ⟨a, b, c, d⟩ := shn_int2 (i := i) h
    exact ⟨⟨a, b, Nat.le_trans c (by decide), d⟩, Nat.zero_le _⟩
  | str x =>
    have h : x = "0" := h
    subst h
    exact ⟨⟨by decide +kernel, rfl, by decide +kernel, Nat.zero_le _⟩, Nat.zero_le _⟩
  | _ => exact (show False from h).elim
theorem flat_tks {n : Nat} {H : Hp} : ∀ {xs : List V}, (∀ v ∈ xs, FlatS v) → Paired (Tk n H) xs (xs.map flatD)
  | [], _ => .nil
  | x :: r, h => .cons (Tk.flat (flatS_fl (h x List.mem_cons_self))) (flat_tks fun v hv => h v (List.mem_cons_of_mem _ hv))
theorem flat_shn {xs : List V} (h : ∀ v ∈ xs, FlatS v) : ∀ d ∈ xs.map flatD, ShN d 2000 ∧ d.depth ≤ 19 := fun d hd => by
  obtain ⟨v, hv, rfl⟩ := List.mem_map.mp hd
  exact flatS_shn (h v hv)
theorem shT_of {d : PyData} {n : Nat} (h : ShN d n) (hn : n ≤ 400000) : ShT d := ⟨h.shw, Nat.le_trans h.len hn, h.dep⟩
theorem flat_nv {s : List Nat} (h : ∀ x ∈ s, x ≤ 20) : ∀ v ∈ nv s, FlatS v := fun v hv => by
  rw [nv_eq] at hv
  obtain ⟨x, hx, rfl⟩ := List.mem_map.mp hv
  show ((x : Int)).natAbs < 2 ^ 1900
  have := h x hx
  exact Nat.lt_of_lt_of_le (show ((x : Int)).natAbs < 2 ^ 10 by omega) (Nat.pow_le_pow_right (by decide) (by decide))
theorem flat_app {xs ys : List V} (h : ∀ v ∈ xs, FlatS v) (h2 : ∀ v ∈ ys, FlatS v) : ∀ v ∈ xs ++ ys, FlatS v := fun v hv => (List.mem_append.mp hv).elim (h v) (h2 v)
theorem flat_int {i : Int} (h : i.natAbs < 2 ^ 200) : FlatS (.int i) := Nat.lt_of_lt_of_le (show i.natAbs < 2 ^ 200 from h) (Nat.pow_le_pow_right (by decide) (by decide))
theorem flat_one {v : V} (h : FlatS v) : ∀ x ∈ [v], FlatS x := fun x hx => by
  rw [List.mem_singleton.mp hx]
  exact h
theorem flat_two {v u : V} (h : FlatS v) (h2 : FlatS u) : ∀ x ∈ [v, u], FlatS x := fun x hx => by
  rcases List.mem_cons.mp hx with e | hx
  · rw [e]
    exact h
  · rw [List.mem_singleton.mp hx]
    exact h2
theorem flat_ints (s : List Nat) : (nv s).map flatD = (iz s).map PyData.int := by
  rw [nv_eq, List.map_map]
  unfold iz
  rw [List.map_map]
  rfl
theorem lenOk_flat (v : V) : LenOk (flatD v) := by cases v <;> exact Nat.zero_le _
theorem lenOk2_flat {xs : List V} (h : xs.length ≤ 60) : LenOk2 (.list (xs.map flatD)) := ⟨by show (xs.map flatD).length ≤ 60; simpa using h, fun e he => by
  obtain ⟨v, _, rfl⟩ := List.mem_map.mp (show e ∈ xs.map flatD from he)
  exact lenOk_flat v⟩
theorem lenOk2_no {d : PyData} (h : lsO d = none) : LenOk2 d := by
  unfold LenOk2 LenOk
  rw [h]
  exact ⟨Nat.zero_le _, fun e he => absurd he (by simp)⟩
theorem flat_dep0 : ∀ xs : List V, PyData.depthAll (xs.map flatD) = 0
  | [] => rfl
  | x :: r => by
    have h := flat_dep0 r
    have d : (flatD x).depth = 0 := by cases x <;> rfl
    simp only [List.map_cons, PyData.depthAll, h, d]
    rfl
theorem flat_dep (xs : List V) : (PyData.list (xs.map flatD)).depth ≤ 19 := by
  simp only [PyData.depth, flat_dep0]
  decide
def AB (J : PyData → Prop) (H : Hp) (v : V) : Prop := ∃ d, Gv H v d ∧ J d
theorem AB.ex {J : PyData → Prop} {H H' : Hp} {v : V} (h : AB J H v) (e : Ex H H') : AB J H' v := h.imp fun d x => ⟨x.1.ex e, x.2⟩
section
variable {K : PySem.W.Frag} {σ : L2.St} {H H' : Hp} {te ta tb : TE} {t tr : TA} {J : PyData → Prop} {D : Ends} {tz : TS}
def EvB (J : PyData → Prop) (K : PySem.W.Frag) (te : TE) (σ : L2.St) (H : Hp) : Prop := ∀ H1, Ex H H1 → ∀ Q : VK, (∀ v H2, Ex H1 H2 → AB J H2 v → Q v H2) → te σ H1 Q
def EvBA (J : PyData → Prop) (K : PySem.W.Frag) (ta : TA) (σ : L2.St) (H : Hp) (n : Nat) : Prop := ∀ H1, Ex H H1 → ∀ Q : List V → Hp → Prop, (∀ vs H2, Ex H1 H2 → vs.length = n → (∀ v ∈ vs, AB J H2 v) → Q vs H2) → ta σ H1 Q
def EvBL (J : PyData → Prop) (K : PySem.W.Frag) (te : TE) (σ : L2.St) (H : Hp) (n : Nat) : Prop := ∀ H1, Ex H H1 → ∀ Q : VK, (∀ l vs H2, H1 l = none → Ex H1 H2 → H2 l = some (.lst vs) → vs.length = n → (∀ v ∈ vs, AB J H2 v) → Q (.ref l) H2) → te σ H1 Q
theorem oba_nil : EvBA J K tNil σ H 0 := fun H1 _ _ q => q [] H1 (Ex.refl H1) rfl (by simp)
theorem oba_cons {n : Nat} (h : EvB J K te σ H) (hr : EvBA J K tr σ H n) : EvBA J K (tCons te tr) σ H (n + 1) := fun H1 e _ q =>
  h H1 e _ fun v H2 e2 hv => hr H2 (e.trans e2) _ fun vs H3 e3 hl hvs => q (v :: vs) H3 (e2.trans e3) (by simp [hl]) fun x hx => by
    rcases List.mem_cons.mp hx with z | z
    · rw [z]
      exact hv.ex e3
    · exact hvs x z
theorem obl_lst {n : Nat} (h : EvBA J K t σ H n) (hn : n ≤ 100000) : EvBL J K (tLst t) σ H n := fun H1 e Q q =>
  h H1 e _ fun vs H2 e2 hl hv => ⟨sz_of (by omega), fun l hl' => q l vs _ (fresh_back e2 hl') (e2.trans (Ex.new hl')) upd_same hl fun v z => (hv v z).ex (Ex.new hl')⟩
theorem obl_cat {a : Addr} {xs : List V} {n : Nat} (h : Ev ta σ H (.ref a)) (ha : H a = some (.lst xs)) (hx : ∀ v ∈ xs, AB J H v) (h2 : EvBL J K tb σ H n) (hz : xs.length + n ≤ 1000) : EvBL J K (tOp rCat ta tb) σ H (xs.length + n) := fun H1 e Q q =>
  h H1 e _ fun H2 e2 => h2 H2 (e.trans e2) _ fun b vs H3 _ e3 h3 hl hv =>
    ⟨a, b, xs, vs, rfl, rfl, e3 a _ (e2 a _ (e a _ ha)), h3, sz_of (by omega), fun l hl' => q l _ _ (fresh_back (e2.trans e3) hl') ((e2.trans e3).trans (Ex.new hl')) upd_same (by rw [List.length_append, hl]) fun v z => by
      rcases List.mem_append.mp z with z | z
      · exact (hx v z).ex (e.trans (e2.trans (e3.trans (Ex.new hl'))))
      · exact (hv v z).ex (Ex.new hl')⟩
theorem q_asgOBL {i n : Nat} (h : EvBL J K te σ H n) (q : ∀ b vs H1, H b = none → Ex H H1 → H1 b = some (.lst vs) → vs.length = n → (∀ v ∈ vs, AB J H1 v) → tz D (σ.set i (some (.ref b))) H1) : tSeq (tAsg te (gName i)) tz D σ H := h H (Ex.refl H) _ q
theorem s_retOBL {n : Nat} (h : EvBL J K te σ H n) (q : ∀ b vs H1, H b = none → Ex H H1 → H1 b = some (.lst vs) → vs.length = n → (∀ v ∈ vs, AB J H1 v) → D.rt (.ref b) H1) : tRet te D σ H := h H (Ex.refl H) _ q
theorem ob_of {v : V} {d : PyData} (h : Ev te σ H v) (x : ∀ H, Gv H v d) (j : J d) : EvB J K te σ H := fun H1 e Q q => h H1 e Q fun H2 e2 => q v H2 e2 ⟨d, x H2, j⟩
theorem gv_flat {v : V} (h : FlatS v) {H : Hp} : Gv H v (flatD v) := ⟨.inl (Tk.flat (flatS_fl h)), lenOk2_no (by cases v <;> rfl), shT_of (flatS_shn h).1 (by decide)⟩
theorem gv_empty {H : Hp} : Gv H (.str "") (.str "") := ⟨.inl (Tk.flat (.str _ (by decide +kernel))), lenOk2_no rfl, ⟨by decide +kernel, by decide +kernel, Nat.zero_le _⟩⟩
theorem gv_L {a : Addr} {xs : List V} (ha : H a = some (.lst xs)) (hf : ∀ v ∈ xs, FlatS v) (hl : xs.length ≤ 60) : Gv H (.ref a) (.list (xs.map flatD)) :=
  ⟨.inl (tk_lst (n := 3) ha (flat_tks hf) (by rw [List.length_map]; omega)), lenOk2_flat hl, shT_of (shn_list (flat_shn hf)) (by simp; omega)⟩
theorem ob_L {xs : List V} (h : EvL te σ H xs) (hf : ∀ v ∈ xs, FlatS v) (hl : xs.length ≤ 60) (j : J (.list (xs.map flatD))) : EvB J K te σ H := fun H1 e Q q => h H1 e Q fun p H2 _ e2 h2 => q _ H2 e2 ⟨_, gv_L h2 hf hl, j⟩
theorem ob_V {a : Addr} {xs : List V} (h : Ev te σ H (.ref a)) (ha : H a = some (.lst xs)) (hf : ∀ v ∈ xs, FlatS v) (hl : xs.length ≤ 60) (j : J (.list (xs.map flatD))) : EvB J K te σ H := fun H1 e Q q => h H1 e Q fun H2 e2 => q _ H2 e2 ⟨_, gv_L (e2 a _ (e a _ ha)) hf hl, j⟩
theorem ob_U {xs : List V} (h : EvU te σ H xs) (hf : ∀ v ∈ xs, FlatS v) (hl : xs.length ≤ 60) (j : J (.tuple (xs.map flatD))) : EvB J K te σ H := fun H1 e Q q => h H1 e Q fun p H2 _ e2 h2 =>
  q _ H2 e2 ⟨_, ⟨.inl (tk_tup (n := 3) h2 (flat_tks hf) (by rw [List.length_map]; omega)), lenOk2_no rfl, shT_of (shn_tup (flat_shn hf)) (by simp; omega)⟩, j⟩
theorem ob_dnew (j : J (.dict [])) : EvB J K tDNewK σ H := fun H1 e Q q l hl => q _ _ (Ex.new hl) ⟨_, ⟨.inr ⟨l, [], rfl, rfl, upd_same⟩, lenOk2_no rfl, ⟨by decide +kernel, by decide +kernel, by decide +kernel⟩⟩, j⟩
theorem ob_disp (j : J (.dict (pairsS [("0", 1)]))) : EvB J K (tDisp [(tC (.str "0"), tC (.int 1))]) σ H := fun H1 e Q q l hl =>
  ⟨upd_same, [(.inr "0", .int 1)], rfl, Nat.le_of_ble_eq_true rfl, q _ _ (Ex.mut (Ex.new hl) hl) ⟨_, ⟨.inr ⟨l, [("0", 1)], rfl, rfl, upd_same⟩, lenOk2_no rfl, ⟨by decide +kernel, by decide +kernel, by decide +kernel⟩⟩, j⟩⟩
/-- an item of a list of lists -/
structure Nt (d : PyData) : Prop where
  sh : ShN d 42045
  dp : d.depth ≤ 19
  ln : LenOk d
theorem nt_L {xs : List V} (hf : ∀ v ∈ xs, FlatS v) (hl : xs.length ≤ 20) : Nt (.list (xs.map flatD)) := by
  obtain ⟨a, b, c, d⟩ := shn_list (flat_shn hf)
  rw [List.length_map] at c
  exact ⟨⟨a, b, by omega, d⟩, flat_dep _, (lenOk2_flat (by omega)).1⟩
theorem nt_U {xs : List V} (hf : ∀ v ∈ xs, FlatS v) (hl : xs.length ≤ 20) : Nt (.tuple (xs.map flatD)) := by
  obtain ⟨a, b, c, d⟩ := shn_tup (flat_shn hf)
  rw [List.length_map] at c
  exact ⟨⟨a, b, by omega, d⟩, by simp only [PyData.depth, flat_dep0]; decide, (lenOk2_no rfl).1⟩
theorem nt_flat {v : V} (h : FlatS v) : Nt (flatD v) := by
  obtain ⟨⟨a, b, c, d⟩, e⟩ := flatS_shn h
  exact ⟨⟨a, b, by omega, d⟩, e, lenOk_flat v⟩
theorem ek_flat {n : Nat} {v : V} (h : Ev te σ H v) (hf : FlatS v) : EvK n te σ H (flatD v) := ek_of h (Tk.flat (flatS_fl hf))
theorem ek_Lf {n : Nat} {xs : List V} (h : EvL te σ H xs) (hf : ∀ v ∈ xs, FlatS v) (hl : xs.length ≤ 60) : EvK (n + 1) te σ H (.list (xs.map flatD)) := ek_L h (flat_tks hf) (by rw [List.length_map]; omega)
theorem ek_Uf {n : Nat} {xs : List V} (h : EvU te σ H xs) (hf : ∀ v ∈ xs, FlatS v) (hl : xs.length ≤ 60) : EvK (n + 1) te σ H (.tuple (xs.map flatD)) := ek_U h (flat_tks hf) (by rw [List.length_map]; omega)
theorem ek_Vf {n : Nat} {a : Addr} {xs : List V} (h : Ev te σ H (.ref a)) (ha : H a = some (.lst xs)) (hf : ∀ v ∈ xs, FlatS v) (hl : xs.length ≤ 60) : EvK (n + 1) te σ H (.list (xs.map flatD)) := ek_of h (tk_lst ha (flat_tks hf) (by rw [List.length_map]; omega))
theorem ob_N {ds : List PyData} (h : EvKA 3 t σ H ds) (hs : ∀ d ∈ ds, Nt d) (hl : ds.length ≤ 5) (j : J (.list ds)) : EvB J K (tLst t) σ H := fun H1 e Q q =>
  ek_lst h (by omega) H1 e Q fun v H2 e2 k => q v H2 e2 ⟨_, ⟨.inl k, ⟨by show ds.length ≤ 60; omega, fun d hd => (hs d hd).ln⟩, shT_of (shn_list (n := 42045) fun d hd => ⟨(hs d hd).sh, (hs d hd).dp⟩) (by omega)⟩, j⟩
theorem ob_NU {ds : List PyData} (h : EvKA 3 t σ H ds) (hs : ∀ d ∈ ds, Nt d) (hl : ds.length ≤ 5) (j : J (.tuple ds)) : EvB J K (tTup t) σ H := fun H1 e Q q =>
  ek_tup h (by omega) H1 e Q fun v H2 e2 k => q v H2 e2 ⟨_, ⟨.inl k, lenOk2_no rfl, shT_of (shn_tup (n := 42045) fun d hd => ⟨(hs d hd).sh, (hs d hd).dp⟩) (by omega)⟩, j⟩
theorem nt_one {d : PyData} (h : Nt d) : ∀ x ∈ [d], Nt x := fun x hx => by
  rw [List.mem_singleton.mp hx]
  exact h
theorem nt_two {d f : PyData} (h : Nt d) (h2 : Nt f) : ∀ x ∈ [d, f], Nt x := fun x hx => by
  rcases List.mem_cons.mp hx with e | hx
  · rw [e]
    exact h
  · rw [List.mem_singleton.mp hx]
    exact h2
end
theorem cut_last (xs : List V) (h : 1 ≤ xs.length) : cutV xs none (some (-1)) = xs.dropLast := by
  unfold cutV
  have e1 : HT.sIx xs.length 0 none = 0 := rfl
  have e2 : HT.sIx xs.length xs.length (some (-1)) = xs.length - 1 := by
    simp only [HT.sIx]
    split <;> omega
  rw [e1, e2, List.drop_zero, Nat.sub_zero, List.dropLast_eq_take]
theorem cut_one {ws : List V} (h : 1 ≤ ws.length) : cutV ws (some 1) none = ws.drop 1 := by
  unfold cutV
  have e1 : HT.sIx ws.length 0 (some 1) = 1 := by
    simp only [HT.sIx]
    split <;> omega
  have e2 : HT.sIx ws.length ws.length none = ws.length := rfl
  rw [e1, e2]
  exact List.take_of_length_le (by rw [List.length_drop]; omega)


/-! ### _law_bad_gangs -/
def J1 (n : Nat) (d : PyData) : Prop := judgeG ((n : Int) - 1) (lsO d) = false
theorem g_badD {n : Nat} {ds : List PyData} (d : PyData) (hd : d ∈ ds) (h : inD 0 ((n : Int) - 1) d = false) : J1 n (.list ds) := by
  show (_ && (ds.all (inD 0 ((n : Int) - 1)) && _)) = false
  have : ds.all (inD 0 ((n : Int) - 1)) = false := by
    rw [← Bool.not_eq_true, List.all_eq_true]
    intro z
    have := z d hd
    rw [h] at this
    exact Bool.noConfusion this
  rw [this]
  simp
theorem g_bad {n : Nat} {xs : List V} (v : V) (hv : v ∈ xs) (h : inD 0 ((n : Int) - 1) (flatD v) = false) : J1 n (.list (xs.map flatD)) := g_badD (flatD v) (List.mem_map.mpr ⟨v, hv, rfl⟩) h
theorem g_dup {n : Nat} {ds : List PyData} (h : ¬ (intsOf ds).Pairwise (· < ·)) : J1 n (.list ds) := by
  show (_ && (_ && decide ((intsOf ds).Pairwise (· < ·)))) = false
  rw [decide_eq_false h]
  simp
theorem inD_big {n : Nat} {x : Int} (h : (n : Int) ≤ x) : inD 0 ((n : Int) - 1) (.int x) = false := by
  show (decide ((0 : Int) ≤ x) && decide (x ≤ (n : Int) - 1)) = false
  rw [decide_eq_false (show ¬ x ≤ (n : Int) - 1 by omega)]
  simp
theorem inD_neg {n : Nat} {x : Int} (h : x < 0) : inD 0 ((n : Int) - 1) (.int x) = false := by
  show (decide ((0 : Int) ≤ x) && decide (x ≤ (n : Int) - 1)) = false
  rw [decide_eq_false (show ¬ (0 : Int) ≤ x by omega)]
  simp
theorem ints_app (xs ys : List V) : intsOf ((xs ++ ys).map flatD) = intsOf (xs.map flatD) ++ intsOf (ys.map flatD) := by simp [intsOf]
theorem ints_nv (g : List Nat) : intsOf ((nv g).map flatD) = iz g := by rw [flat_ints, ints_iz]
theorem cut_end (xs : List V) (h : 1 ≤ xs.length) : cutV xs (some (-1)) none = xs.drop (xs.length - 1) := by
  unfold cutV
  have e1 : HT.sIx xs.length 0 (some (-1)) = xs.length - 1 := by
    simp only [HT.sIx]
    split <;> omega
  have e2 : HT.sIx xs.length xs.length none = xs.length := rfl
  rw [e1, e2]
  exact List.take_of_length_le (by rw [List.length_drop]; omega)
theorem cut_first {ws : List V} (h : 1 ≤ ws.length) : cutV ws none (some 1) = ws.take 1 := by
  unfold cutV
  have e1 : HT.sIx ws.length 0 none = 0 := rfl
  have e2 : HT.sIx ws.length ws.length (some 1) = 1 := by
    simp only [HT.sIx]
    split <;> omega
  rw [e1, e2, List.drop_zero, Nat.sub_zero]
theorem rg21 : RgOk 0 21 := by
  unfold RgOk
  decide
def sp_bad1 (K : PySem.W.Frag) : Sp := fun vs H Q _ => ∃ (a : Addr) (g : List Nat) (n : Nat), vs = [.int (n : Int), .ref a] ∧ H a = some (.lst (nv g)) ∧ Gang n g ∧ n ≤ 20 ∧ ∀ l ws H', H l = none → Ex H H' → H' l = some (.lst ws) → ws.length = 29 → (∀ v ∈ ws, AB (J1 n) H' v) → Q (.ref l) H'
section
variable {P : Program} {w : World} {K : PySem.W.Frag} {mg : Str → Option Value} {base : Heap}
theorem ok_law_bad_gangs (T : Tx K mg) : FnOk P w K mg base CX0 1 T.f_law_bad_gangs T.d_law_bad_gangs ["many_here", "gang"] (sp_bad1 K) := by
  refine T.F_law_bad_gangs.ok sc_law_bad_gangs (fun vs H Q E h => ?_) (fun cdv A outer s H vs Q E hr h => ?_)
  · obtain ⟨a, g, n, rfl, _⟩ := h
    rfl
  · obtain ⟨a, g, n, rfl, ha, og, hn, k⟩ := h
    refine ⟨_, (pss_cons (ps_set (i := 2) sc_law_bad_gangs.nd rfl (Or.inl rfl) (pe_lst (pa_cons pe_non (pa_cons pe_int (pa_cons pe_bl (pa_cons pe_str (pa_cons pe_str (pa_cons (pe_tup pa_nil) (pa_cons (pe_lst pa_nil) (pa_cons pe_dnewK (pa_cons (pe_callTy call_tupR (by rfl) T.m_tuple (by decide +kernel) (pa_cons (pv 1) pa_nil)) (pa_cons (pe_lst (pa_cons (pv 1) pa_nil)) (pa_cons (pe_lst (pa_cons pe_non pa_nil)) (pa_cons (pe_lst (pa_cons pe_bl pa_nil)) (pa_cons (pe_lst (pa_cons pe_str pa_nil)) (pa_cons (pe_lst (pa_cons (pe_un un_neg pe_int) pa_nil)) (pa_cons (pe_lst (pa_cons (pv 0) pa_nil)) (pa_cons (pe_lst (pa_cons (pe_lst (pa_cons pe_int pa_nil)) pa_nil)) pa_nil))))))))))))))))))
      (pss_cons (ps_set (i := 2) sc_law_bad_gangs.nd rfl (Or.inl rfl) (pe_op op_cat (pv 2) (pe_lst (pa_cons (pe_op op_cat (pv 1) (pe_slice sl_list (pv 1) (po_some (pe_un un_neg pe_int)) po_none)) (pa_cons (pe_op op_cat (pe_lst (pa_cons (pe_un un_neg pe_int) pa_nil)) (pv 1)) (pa_cons (pe_op op_cat (pv 1) (pe_lst (pa_cons (pv 0) pa_nil))) (pa_cons (pe_op op_cat (pe_slice sl_list (pv 1) po_none (po_some (pe_un un_neg pe_int))) (pe_lst (pa_cons (pe_op op_powX pe_int pe_int) pa_nil))) (pa_cons (pe_op op_cat (pv 1) (pe_lst (pa_cons pe_non pa_nil))) (pa_cons (pe_disp (pps_cons pe_str pe_int pps_nil) rfl rfl (by simp) (by decide)) pa_nil)))))))))
      (pss_one (ps_ret (pe_op op_cat (pv 2) (pe_lst (pa_cons (pe_lst (pa_cons pe_int (pa_cons pe_int pa_nil))) (pa_cons (pe_lst (pa_cons pe_int (pa_cons pe_int pa_nil))) (pa_cons (pe_lst (pa_cons pe_bl pa_nil)) (pa_cons (pe_lst (pa_cons pe_int (pa_cons pe_bl pa_nil))) (pa_cons (pe_listRg rfl (by rfl) T.m_list (prg_1 (by rfl) T.m_range pe_int)) (pa_cons (pe_lst (pa_cons (pe_tup (pa_cons pe_int pa_nil)) pa_nil)) (pa_cons (pe_tup (pa_cons (pe_tup (pa_cons pe_int pa_nil)) pa_nil)) pa_nil))))))))))))), ?_⟩
    have gl := og.len
    have gp := og.pos
    have nl := nv_len g
    have lt20 : ∀ x ∈ g, x ≤ 20 := fun x hx => by have := og.lt x hx; omega
    have fs := flat_nv lt20
    obtain ⟨i, z, hiz⟩ : ∃ i z, g = i ++ [z] := ⟨_, _, (List.dropLast_concat_getLast og.ne).symm⟩
    have nz : nv g = nv i ++ [.int (z : Int)] := by rw [hiz, nv_app]; rfl
    have il : g.length = i.length + 1 := by rw [hiz]; simp
    have nii := nv_len i
    have zg : z ∈ g := by rw [hiz]; simp
    have zl : z ≤ 20 := lt20 z zg
    have fi : ∀ v ∈ nv i, FlatS v := flat_nv fun y hy => lt20 y (by rw [hiz]; exact List.mem_append_left _ hy)
    have ig : ∀ {m : Int}, m.natAbs < 2 ^ 200 → FlatS (.int m) := fun h => flat_int h
    have neg : ∀ {σ : L2.St} {G : Hp}, Ev (tUn (rU fun i => .int (-i)) (tC (.int 1))) σ G (.int (-1)) := ev_un ev_c ru_neg
    have p30 : ∀ {σ : L2.St} {G : Hp}, Ev (tOp (rI CPowX fun i j => .int (i ^ j.toNat)) (tC (.int 10)) (tC (.int 30))) σ G (.int 1000000000000000000000000000000) := ev_op ev_c ev_c (rv_I (by constructor <;> decide +kernel))
    have one : ∀ {te : TE} {σ : L2.St} {G : Hp} {v : V}, Ev te σ G v → EvL (tLst (tCons te tNil)) σ G [v] := fun h => el_lst (ea_cons h ea_nil) (Nat.le_of_ble_eq_true rfl)
    have two : ∀ {te tf : TE} {σ : L2.St} {G : Hp} {v u : V}, Ev te σ G v → Ev tf σ G u → EvL (tLst (tCons te (tCons tf tNil))) σ G [v, u] := fun h h2 => el_lst (ea_cons h (ea_cons h2 ea_nil)) (Nat.le_of_ble_eq_true rfl)
    have cat : ∀ {te : TE} {σ : L2.St} {G : Hp} {v : V}, σ[1]? = some (some (.ref a)) → Ex H G → Ev te σ G v → EvL (tOp rCat (tVar 1) (tLst (tCons te tNil))) σ G (nv g ++ [v]) := fun h0 e h => el_catL (ev_var h0) (e a _ ha) (one h) (by rw [nl]; show g.length + 1 ≤ 1000; omega)
    have cut : ∀ {te : TE} {σ : L2.St} {G : Hp} {v : V}, σ[1]? = some (some (.ref a)) → Ex H G → Ev te σ G v → EvL (tOp rCat (tSl (rSlL K) (tVar 1) tNoPart (tPart (tUn (rU fun i => .int (-i)) (tC (.int 1))))) (tLst (tCons te tNil))) σ G (nv i ++ [v]) := fun {te σ G v} h0 e h => by
      have c := el_sl (K := K) (te := tVar 1) (tl := tNoPart) (th := tPart (tUn (rU fun i => .int (-i)) (tC (.int 1)))) (σ := σ) (H := G) (ev_var h0) eo_none (eo_some neg) (sq_of (e a _ ha))
      rw [cut_last _ (by rw [nl]; exact gp), nz, List.dropLast_concat] at c
      exact el_cat c (one h) (by show _ + 1 ≤ _; omega)
    have twice : ∀ {σ : L2.St} {G : Hp}, σ[1]? = some (some (.ref a)) → Ex H G → EvL (tOp rCat (tVar 1) (tSl (rSlL K) (tVar 1) (tPart (tUn (rU fun i => .int (-i)) (tC (.int 1)))) tNoPart)) σ G (nv g ++ [.int (z : Int)]) := fun {σ G} h0 e => by
      have c := el_sl (K := K) (te := tVar 1) (tl := tPart (tUn (rU fun i => .int (-i)) (tC (.int 1)))) (th := tNoPart) (σ := σ) (H := G) (ev_var h0) (eo_some neg) eo_none (sq_of (e a _ ha))
      rw [cut_end _ (by rw [nl]; exact gp)] at c
      have dz : (nv g).drop ((nv g).length - 1) = [.int (z : Int)] := by
        rw [nz]
        simp
      rw [dz] at c
      exact el_catL (ev_var h0) (e a _ ha) c (by rw [nl]; show g.length + 1 ≤ 1000; omega)
    have dupz : ¬ (intsOf ((nv g ++ [V.int (z : Int)]).map flatD)).Pairwise (· < ·) := by
      rw [ints_app, ints_nv]
      intro h
      have := (List.pairwise_append.mp h).2.2 (z : Int) (List.mem_map.mpr ⟨z, zg, rfl⟩) (z : Int) (List.mem_singleton.mpr rfl)
      omega
    have bad : ∀ {xs : List V} (v : V), inD 0 ((n : Int) - 1) (flatD v) = false → J1 n (.list ((xs ++ [v]).map flatD)) := fun v h => g_bad v (by simp) h
    have f0 : ∀ v ∈ [V.int 0], FlatS v := flat_one (ig (by decide))
    refine q_asgOBL (J := J1 n) (K := K) (obl_lst
      (oba_cons (ob_of ev_c (fun _ => gv_flat (v := .non) trivial) rfl)
      (oba_cons (ob_of ev_c (fun _ => gv_flat (ig (by decide))) rfl)
      (oba_cons (ob_of ev_c (fun _ => gv_flat (v := .bl true) trivial) rfl)
      (oba_cons (ob_of ev_c (fun _ => gv_empty) rfl)
      (oba_cons (ob_of ev_c (fun _ => gv_flat (v := .str "0") rfl) rfl)
      (oba_cons (ob_U (xs := []) (eu_tup ea_nil (Nat.le_of_ble_eq_true rfl)) (by simp) (by decide) rfl)
      (oba_cons (ob_L (xs := []) (el_lst ea_nil (Nat.le_of_ble_eq_true rfl)) (by simp) (by decide) rfl)
      (oba_cons (ob_dnew rfl)
      (oba_cons (ob_U (eu_tupOf (ev_var rfl) (sq_of ha)) fs (by omega) rfl)
      (oba_cons (ob_N (eka_cons (ek_Vf (ev_var rfl) ha fs (by omega)) eka_nil) (nt_one (nt_L fs (by omega))) (Nat.le_of_ble_eq_true rfl) (g_badD (.list ((nv g).map flatD)) (by simp) rfl))
      (oba_cons (ob_L (one ev_c) (flat_one trivial) (by decide) (g_bad .non (by simp) rfl))
      (oba_cons (ob_L (one ev_c) (flat_one trivial) (by decide) (g_bad (.bl true) (by simp) rfl))
      (oba_cons (ob_L (one ev_c) (flat_one rfl) (by decide) (g_bad (.str "0") (by simp) rfl))
      (oba_cons (ob_L (one neg) (flat_one (ig (by decide))) (by decide) (g_bad (.int (-1)) (by simp) (inD_neg (by decide))))
      (oba_cons (ob_L (one (ev_var rfl)) (flat_one (ig (by omega))) (Nat.le_of_ble_eq_true rfl) (g_bad (.int (n : Int)) (by simp) (inD_big (by omega))))
      (oba_cons (ob_N (eka_cons (ek_Lf (one ev_c) f0 (by decide)) eka_nil) (nt_one (nt_L f0 (by decide))) (by decide) (g_badD (.list ([V.int 0].map flatD)) (by simp) rfl))
      oba_nil)))))))))))))))) (by decide)) fun b ws H1 nb e1 hb hl hw => ?_
    refine q_asgOBL (J := J1 n) (K := K) (obl_cat (ev_var rfl) hb hw (obl_lst
      (oba_cons (ob_L (twice rfl e1) (flat_app fs (flat_one (ig (by omega)))) (by simp; omega) (g_dup dupz))
      (oba_cons (ob_L (el_catR (one neg) (ev_var rfl) (e1 a _ ha) (by show 1 + _ ≤ 1000; omega)) (flat_app (flat_one (ig (by decide))) fs) (by simp; omega) (g_bad (.int (-1)) (by simp) (inD_neg (by decide))))
      (oba_cons (ob_L (cat rfl e1 (ev_var rfl)) (flat_app fs (flat_one (ig (by omega)))) (by simp; omega) (bad _ (inD_big (by omega))))
      (oba_cons (ob_L (cut rfl e1 p30) (flat_app fi (flat_one (ig (by decide)))) (by simp; omega) (bad _ (inD_big (by omega))))
      (oba_cons (ob_L (cat rfl e1 ev_c) (flat_app fs (flat_one trivial)) (by simp; omega) (bad _ rfl))
      (oba_cons (ob_disp rfl)
      oba_nil)))))) (by decide)) (by omega)) fun b2 ws2 H2 nb2 e2 hb2 hl2 hw2 => ?_
    have e02 := e1.trans e2
    refine s_retOBL (J := J1 n) (K := K) (obl_cat (ev_var rfl) hb2 hw2 (obl_lst
      (oba_cons (ob_L (two ev_c ev_c) (flat_two (ig (by decide)) (ig (by decide))) (by decide) (g_dup (by decide)))
      (oba_cons (ob_L (two ev_c ev_c) (flat_two (ig (by decide)) (ig (by decide))) (by decide) (g_dup (by decide)))
      (oba_cons (ob_L (one ev_c) (flat_one trivial) (by decide) (g_bad (.bl false) (by simp) rfl))
      (oba_cons (ob_L (two ev_c ev_c) (flat_two (ig (by decide)) trivial) (by decide) (g_bad (.bl true) (by simp) rfl))
      (oba_cons (ob_L (el_rg1 (b := 21) ev_c rg21) (fun v hv => by
        unfold rgV at hv
        obtain ⟨j, hj, rfl⟩ := List.mem_map.mp hv
        have := List.mem_range.mp hj
        exact ig (by omega)) (by decide) (g_bad (.int 20) (by decide +kernel) (inD_big (by omega))))
      (oba_cons (ob_N (eka_cons (ek_Uf (eu_tup (ea_cons ev_c ea_nil) (Nat.le_of_ble_eq_true rfl)) f0 (by decide)) eka_nil) (nt_one (nt_U f0 (by decide))) (by decide) (g_badD (.tuple ([V.int 0].map flatD)) (by simp) rfl))
      (oba_cons (ob_NU (eka_cons (ek_Uf (eu_tup (ea_cons ev_c ea_nil) (Nat.le_of_ble_eq_true rfl)) f0 (by decide)) eka_nil) (nt_one (nt_U f0 (by decide))) (by decide) rfl)
      oba_nil))))))) (by decide)) (by omega)) fun b3 ws3 H3 nb3 e3 hb3 hl3 hw3 => ?_
    exact k b3 ws3 H3 (fresh_back e02 nb3) (e02.trans e3) hb3 (by rw [hl3, hl2, hl]) hw3
end


/-! ### _law_bad_lots -/
def J2 (n : Nat) (d : PyData) : Prop := judgeGs ((n : Int) - 1) (lsO d) = false
theorem l_badD {n : Nat} {ds : List PyData} (d : PyData) (hd : d ∈ ds) (h : judgeG ((n : Int) - 1) (lsO d) = false) : J2 n (.list ds) := by
  show (ds.all (fun d => judgeG ((n : Int) - 1) (lsO d)) && _) = false
  have : ds.all (fun d => judgeG ((n : Int) - 1) (lsO d)) = false := by
    rw [← Bool.not_eq_true, List.all_eq_true]
    intro z
    have := z d hd
    rw [h] at this
    exact Bool.noConfusion this
  rw [this]
  rfl
theorem l_dup {n : Nat} {ds : List PyData} (h : ¬ (memb ds).Nodup) : J2 n (.list ds) := by
  show (_ && (_ && decide ((memb ds).Nodup))) = false
  rw [decide_eq_false h]
  simp
theorem memb_two (xs ys : List V) : memb [.list (xs.map flatD), .list (ys.map flatD)] = intsOf (xs.map flatD) ++ intsOf (ys.map flatD) := by
  show [intsOf (xs.map flatD), intsOf (ys.map flatD)].flatten = _
  simp
theorem nodup_no {l m : List Int} (x : Int) (h : x ∈ l) (h2 : x ∈ m) : ¬ (l ++ m).Nodup := fun q => (List.nodup_append.mp q).2.2 x h x h2 rfl
def sp_bad2 (K : PySem.W.Frag) : Sp := fun vs H Q _ => ∃ (a : Addr) (g : List Nat) (n : Nat), vs = [.int (n : Int), .ref a] ∧ H a = some (.lst (nv g)) ∧ Gang n g ∧ n ≤ 20 ∧ ∀ l ws H', H l = none → Ex H H' → H' l = some (.lst ws) → ws.length = 20 → (∀ v ∈ ws, AB (J2 n) H' v) → Q (.ref l) H'
section
variable {P : Program} {w : World} {K : PySem.W.Frag} {mg : Str → Option Value} {base : Heap}
theorem ok_law_bad_lots (T : Tx K mg) : FnOk P w K mg base CX0 1 T.f_law_bad_lots T.d_law_bad_lots ["many_here", "gang"] (sp_bad2 K) := by
  refine T.F_law_bad_lots.ok sc_law_bad_lots (fun vs H Q E h => ?_) (fun cdv A outer s H vs Q E hr h => ?_)
  · obtain ⟨a, g, n, rfl, _⟩ := h
    rfl
  · obtain ⟨a, g, n, rfl, ha, og, hn, k⟩ := h
    refine ⟨_, (pss_cons (ps_set (i := 2) sc_law_bad_lots.nd rfl (Or.inl rfl) (pe_lst (pa_cons pe_non (pa_cons pe_int (pa_cons pe_str (pa_cons (pe_tup pa_nil) (pa_cons (pe_lst pa_nil) (pa_cons pe_dnewK (pa_cons (pv 1) (pa_cons (pe_tup (pa_cons (pv 1) pa_nil)) (pa_cons (pe_lst (pa_cons (pe_lst pa_nil) pa_nil)) (pa_cons (pe_lst (pa_cons (pv 1) (pa_cons (pe_lst pa_nil) pa_nil))) (pa_cons (pe_lst (pa_cons (pv 1) (pa_cons (pv 1) pa_nil))) (pa_cons (pe_lst (pa_cons (pv 1) (pa_cons pe_non pa_nil))) (pa_cons (pe_lst (pa_cons (pe_callTy call_tupR (by rfl) T.m_tuple (by decide +kernel) (pa_cons (pv 1) pa_nil)) pa_nil)) pa_nil)))))))))))))))
      (pss_one (ps_ret (pe_op op_cat (pv 2) (pe_lst (pa_cons (pe_lst (pa_cons (pv 1) (pa_cons (pe_lst (pa_cons (pv 0) pa_nil)) pa_nil))) (pa_cons (pe_lst (pa_cons (pe_lst (pa_cons pe_int pa_nil)) (pa_cons (pe_lst (pa_cons pe_int pa_nil)) pa_nil))) (pa_cons (pe_lst (pa_cons (pv 1) (pa_cons (pe_lst (pa_cons (pe_un un_neg pe_int) pa_nil)) pa_nil))) (pa_cons (pe_lst (pa_cons (pe_lst (pa_cons pe_int (pa_cons pe_int pa_nil))) pa_nil)) (pa_cons (pe_lst (pa_cons (pe_lst (pa_cons pe_bl pa_nil)) pa_nil)) (pa_cons (pe_lst (pa_cons (pv 1) (pa_cons (pe_slice sl_list (pv 1) po_none (po_some pe_int)) pa_nil))) (pa_cons (pe_lst (pa_cons (pe_lst (pa_cons pe_int (pa_cons pe_int pa_nil))) pa_nil)) pa_nil)))))))))))), ?_⟩
    have gl := og.len
    have gp := og.pos
    have nl := nv_len g
    have lt20 : ∀ x ∈ g, x ≤ 20 := fun x hx => by have := og.lt x hx; omega
    have fs := flat_nv lt20
    obtain ⟨x, r, hxr⟩ : ∃ x r, g = x :: r := by
      cases g with
      | nil => exact absurd rfl og.ne
      | cons x r => exact ⟨x, r, rfl⟩
    have nx : nv g = .int (x : Int) :: nv r := by rw [hxr]; rfl
    have xg : (x : Int) ∈ iz g := List.mem_map.mpr ⟨x, by rw [hxr]; simp, rfl⟩
    have xl : x ≤ 20 := lt20 x (by rw [hxr]; simp)
    have ig : ∀ {m : Int}, m.natAbs < 2 ^ 200 → FlatS (.int m) := fun h => flat_int h
    have neg : ∀ {σ : L2.St} {G : Hp}, Ev (tUn (rU fun i => .int (-i)) (tC (.int 1))) σ G (.int (-1)) := ev_un ev_c ru_neg
    have one : ∀ {te : TE} {σ : L2.St} {G : Hp} {v : V}, Ev te σ G v → EvL (tLst (tCons te tNil)) σ G [v] := fun h => el_lst (ea_cons h ea_nil) (Nat.le_of_ble_eq_true rfl)
    have two : ∀ {te tf : TE} {σ : L2.St} {G : Hp} {v u : V}, Ev te σ G v → Ev tf σ G u → EvL (tLst (tCons te (tCons tf tNil))) σ G [v, u] := fun h h2 => el_lst (ea_cons h (ea_cons h2 ea_nil)) (Nat.le_of_ble_eq_true rfl)
    have first : ∀ {σ : L2.St} {G : Hp}, σ[1]? = some (some (.ref a)) → Ex H G → EvL (tSl (rSlL K) (tVar 1) tNoPart (tPart (tC (.int 1)))) σ G [.int (x : Int)] := fun {σ G} h0 e => by
      have c := el_sl (K := K) (te := tVar 1) (tl := tNoPart) (th := tPart (tC (.int 1))) (σ := σ) (H := G) (ev_var h0) eo_none (eo_some ev_c) (sq_of (e a _ ha))
      rw [cut_first (by rw [nl]; exact gp), nx] at c
      exact c
    have f0 : ∀ v ∈ [V.int 0], FlatS v := flat_one (ig (by decide))
    have fn : ∀ v ∈ ([] : List V), FlatS v := by simp
    have fx : ∀ v ∈ [V.int (x : Int)], FlatS v := flat_one (ig (by omega))
    have nil : ∀ {σ : L2.St} {G : Hp}, EvL (tLst tNil) σ G [] := el_lst ea_nil (Nat.le_of_ble_eq_true rfl)
    have gg : ∀ {σ : L2.St} {G : Hp} {m : Nat}, σ[1]? = some (some (.ref a)) → Ex H G → EvK (m + 1) (tVar 1) σ G (.list ((nv g).map flatD)) := fun h0 e => ek_Vf (ev_var h0) (e a _ ha) fs (by omega)
    have ng : Nt (.list ((nv g).map flatD)) := nt_L fs (by omega)
    refine q_asgOBL (J := J2 n) (K := K) (obl_lst
      (oba_cons (ob_of ev_c (fun _ => gv_flat (v := .non) trivial) rfl)
      (oba_cons (ob_of ev_c (fun _ => gv_flat (ig (by decide))) rfl)
      (oba_cons (ob_of ev_c (fun _ => gv_empty) rfl)
      (oba_cons (ob_U (xs := []) (eu_tup ea_nil (Nat.le_of_ble_eq_true rfl)) (by simp) (by decide) rfl)
      (oba_cons (ob_L (xs := []) nil (by simp) (by decide) rfl)
      (oba_cons (ob_dnew rfl)
      (oba_cons (ob_V (ev_var rfl) ha fs (by omega) (l_badD (flatD (.int (x : Int))) (by rw [nx]; simp) rfl))
      (oba_cons (ob_NU (eka_cons (gg rfl (Ex.refl _)) eka_nil) (nt_one ng) (Nat.le_of_ble_eq_true rfl) rfl)
      (oba_cons (ob_N (eka_cons (ek_Lf nil fn (by decide)) eka_nil) (nt_one (nt_L fn (by decide))) (by decide) (l_badD (.list (([] : List V).map flatD)) (by simp) rfl))
      (oba_cons (ob_N (eka_cons (gg rfl (Ex.refl _)) (eka_cons (ek_Lf nil fn (by decide)) eka_nil)) (nt_two ng (nt_L fn (by decide))) (Nat.le_of_ble_eq_true rfl) (l_badD (.list (([] : List V).map flatD)) (by simp) rfl))
      (oba_cons (ob_N (eka_cons (gg rfl (Ex.refl _)) (eka_cons (gg rfl (Ex.refl _)) eka_nil)) (nt_two ng ng) (Nat.le_of_ble_eq_true rfl) (l_dup (by rw [memb_two, ints_nv]; exact nodup_no (x : Int) xg xg)))
      (oba_cons (ob_N (eka_cons (gg rfl (Ex.refl _)) (eka_cons (ek_flat ev_c (show FlatS .non from trivial)) eka_nil)) (nt_two ng (nt_flat (v := .non) trivial)) (Nat.le_of_ble_eq_true rfl) (l_badD .none (by simp [flatD]) rfl))
      (oba_cons (ob_N (eka_cons (ek_Uf (eu_tupOf (ev_var rfl) (sq_of ha)) fs (by omega)) eka_nil) (nt_one (nt_U fs (by omega))) (Nat.le_of_ble_eq_true rfl) (l_badD (.tuple ((nv g).map flatD)) (by simp) rfl))
      oba_nil))))))))))))) (by decide)) fun b ws H1 nb e1 hb hl hw => ?_
    refine s_retOBL (J := J2 n) (K := K) (obl_cat (ev_var rfl) hb hw (obl_lst
      (oba_cons (ob_N (eka_cons (gg rfl e1) (eka_cons (ek_Lf (one (ev_var rfl)) (flat_one (ig (by omega))) (Nat.le_of_ble_eq_true rfl)) eka_nil)) (nt_two ng (nt_L (flat_one (ig (by omega))) (Nat.le_of_ble_eq_true rfl))) (Nat.le_of_ble_eq_true rfl) (l_badD (.list ([V.int (n : Int)].map flatD)) (by simp) (g_bad (.int (n : Int)) (by simp) (inD_big (by omega)))))
      (oba_cons (ob_N (eka_cons (ek_Lf (one ev_c) f0 (by decide)) (eka_cons (ek_Lf (one ev_c) f0 (by decide)) eka_nil)) (nt_two (nt_L f0 (by decide)) (nt_L f0 (by decide))) (Nat.le_of_ble_eq_true rfl) (l_dup (by rw [memb_two]; decide)))
      (oba_cons (ob_N (eka_cons (gg rfl e1) (eka_cons (ek_Lf (one neg) (flat_one (ig (by decide))) (by decide)) eka_nil)) (nt_two ng (nt_L (flat_one (ig (by decide))) (by decide))) (Nat.le_of_ble_eq_true rfl) (l_badD (.list ([V.int (-1)].map flatD)) (by simp) (g_bad (.int (-1)) (by simp) (inD_neg (by decide)))))
      (oba_cons (ob_N (eka_cons (ek_Lf (two ev_c ev_c) (flat_two (ig (by decide)) (ig (by decide))) (by decide)) eka_nil) (nt_one (nt_L (flat_two (ig (by decide)) (ig (by decide))) (by decide))) (Nat.le_of_ble_eq_true rfl) (l_badD (.list ([V.int 1, .int 0].map flatD)) (by simp) (g_dup (by decide))))
      (oba_cons (ob_N (eka_cons (ek_Lf (one ev_c) (flat_one trivial) (by decide)) eka_nil) (nt_one (nt_L (flat_one trivial) (by decide))) (Nat.le_of_ble_eq_true rfl) (l_badD (.list ([V.bl true].map flatD)) (by simp) (g_bad (.bl true) (by simp) rfl)))
      (oba_cons (ob_N (eka_cons (gg rfl e1) (eka_cons (ek_Lf (first rfl e1) fx (Nat.le_of_ble_eq_true rfl)) eka_nil)) (nt_two ng (nt_L fx (Nat.le_of_ble_eq_true rfl))) (Nat.le_of_ble_eq_true rfl) (l_dup (by rw [memb_two, ints_nv]; exact nodup_no (x : Int) xg (List.mem_singleton.mpr rfl))))
      (oba_cons (ob_N (eka_cons (ek_Lf (two ev_c ev_c) (flat_two (ig (by decide)) (ig (by decide))) (by decide)) eka_nil) (nt_one (nt_L (flat_two (ig (by decide)) (ig (by decide))) (by decide))) (Nat.le_of_ble_eq_true rfl) (l_badD (.list ([V.int 0, .int 0].map flatD)) (by simp) (g_dup (by decide))))
      oba_nil))))))) (by decide)) (by omega)) fun b3 ws3 H3 nb3 e3 hb3 hl3 hw3 => ?_
    exact k b3 ws3 H3 (fresh_back e1 nb3) (e1.trans e3) hb3 (by rw [hl3, hl]) hw3
end


/-! ### data -/
def di (r : List Nat) : PyData := .list ((iz r).map PyData.int)
theorem shaped_di (r : List Nat) : SeqAt.shaped (di r) = true := shaped_ints _
section
variable {K : PySem.W.Frag} {σ : L2.St} {H : Hp} {te : TE}
theorem dpa_nv (r : List Nat) : DpAll K H (nv r) ((iz r).map PyData.int) := dpa_ints _
theorem dp_L {a : Addr} {r : List Nat} (h : H a = some (.lst (nv r))) : Dp K H (.ref a) (di r) := .lst (sq_of h) (dpa_nv r)
theorem ed_L {r : List Nat} (h : EvL te σ H (nv r)) : EvD K te σ H (di r) := ed_ofL h (dpa_nv r)
end

/-! ### the law's helpers -/
/-! ### drawn lists -/
def EvPA (p : Addr) (k : Nat) (ta : TA) (σ : L2.St) (H0 : Hp) (C : List V → Prop) : Prop := ∀ n H1, Ex H0 H1 → Po p n H1 → n + k ≤ 1000000000 →
  ∀ Q : List V → Hp → Prop, (∀ vs H2, C vs → Po p (n + k) H2 → Ex (Hm p H1) H2 → Q vs H2) → ta σ H1 Q
section
variable {K : PySem.W.Frag} {σ : L2.St} {H0 H : Hp} {p : Addr} {k k1 k2 : Nat} {te ta tb : TE} {R Ra Rb : V → Hp → Prop} {tr : TA} {A : V → Prop} {B C : List V → Prop}
theorem epa_nil : EvPA p 0 tNil σ H0 (fun vs => vs = []) := fun n H1 e hp _ Q q => q [] H1 rfl hp (hm_of (Ex.refl _))
theorem epa_cons (h0 : H0 p = none) (h : EvP p k1 te σ H0 (fun v _ => A v)) (hr : EvPA p k2 tr σ H0 B) : EvPA p (k1 + k2) (tCons te tr) σ H0 (fun vs => ∃ v r, vs = v :: r ∧ A v ∧ B r) := fun n H1 e hp hn Q q =>
  h n H1 e hp (by omega) _ fun v H2 hv p2 e2 => hr (n + k1) H2 (hm_next h0 e e2) p2 (by omega) _ fun vs H3 hvs p3 e3 => q (v :: vs) H3 ⟨v, vs, rfl, hv, hvs⟩ (by rw [← Nat.add_assoc]; exact p3) (hm_trans e2 e3)
theorem epa_pure {v : V} (h0 : H0 p = none) (h : Ev te σ H0 v) (hr : EvPA p k2 tr σ H0 B) : EvPA p (0 + k2) (tCons te tr) σ H0 (fun vs => ∃ x r, vs = x :: r ∧ x = v ∧ B r) := epa_cons (A := fun x => x = v) h0 (ep_ev h) hr
theorem ep_lst (h : EvPA p k tr σ H0 C) (hs : ∀ vs, C vs → vs.length ≤ 100000) : EvP p k (tLst tr) σ H0 (fun x H => ∃ l vs, l ≠ p ∧ x = .ref l ∧ H l = some (.lst vs) ∧ C vs) := fun n H1 e hp hn Q q =>
  h n H1 e hp hn _ fun vs H2 c p2 e2 => ⟨sz_of (hs vs c), fun l hl => q _ _ ⟨l, vs, p2.ne hl, rfl, upd_same, c⟩ (p2.ex (Ex.new hl)) (hm_trans e2 (hm_of (Ex.new hl)))⟩
theorem stb_lst : Stb p (fun x H => ∃ l vs, l ≠ p ∧ x = .ref l ∧ H l = some (.lst vs) ∧ C vs) := fun v H H' ⟨l, vs, ne, e, h, c⟩ s => ⟨l, vs, ne, e, hm_at s ne h, c⟩
theorem ep_ix (h0 : H0 p = none) {ix : V → Prop} (ha : EvP p k1 (tLst tr) σ H0 (fun x H => ∃ l vs, l ≠ p ∧ x = .ref l ∧ H l = some (.lst vs) ∧ C vs)) (hb : EvP p k2 tb σ H0 (fun v _ => ix v)) (hat : ∀ vs v, C vs → ix v → ∃ i z, v = .int i ∧ atI vs i = some z ∧ A z) :
    EvP p (k1 + k2) (tOp (rIxL K) (tLst tr) tb) σ H0 (fun v _ => A v) := ep_op h0 ha hb stb_lst stb_c fun x y H hx hy => by
  obtain ⟨l, vs, ne, rfl, hl, c⟩ := hx
  obtain ⟨i, z, rfl, hz, az⟩ := hat vs y c hy
  exact ⟨z, az, rv_ixL (sq_of hl) hz⟩
theorem ep_isZ (h0 : H0 p = none) (h : EvP p k te σ H0 (fun v _ => ∃ r, v = .int r ∧ 0 ≤ r)) : EvP p (k + 0) (tCB rIntB (tCons (tOp rEq te (tC (.int 0))) tNil)) σ H0 (fun v _ => v = .int 0 ∨ v = .int 1) := fun n H1 e hp hn Q q =>
  (ep_op (k1 := k) (k2 := 0) (R := fun v _ => ∃ b, v = .bl b) h0 h (ep_ev (v := .int 0) ev_c) stb_c stb_c fun x y H ⟨r, e1, _⟩ e2 => ⟨.bl (decide (x = y)), ⟨_, rfl⟩, by
    subst e1
    subst e2
    exact rv_eq rfl⟩) n H1 e hp hn _ fun v H2 ⟨b, hb⟩ p2 e2 => ⟨b, by rw [hb], q _ H2 (by cases b <;> simp) p2 e2⟩
theorem pq_parL {n i j : Nat} {D : Ends} {tz : TS} {ys : List V} (h : EvP p k ta σ H0 R) (e : Ex H0 H) (hp : Po p n H) (hn : n + k ≤ 1000000000) (hb : ∀ H1, EvL tb σ H1 ys) (q : ∀ v l H2 H3, R v H2 → H2 l = none → Ex H2 H3 → H3 l = some (.lst ys) → Po p (n + k) H3 → Ex (Hm p H) H2 → tz D ((σ.set i (some v)).set j (some (.ref l))) H3) :
    tSeq (tPar i j (tCons ta (tCons tb tNil))) tz D σ H := h n H e hp hn _ fun v H2 hv p2 e2 => hb H2 H2 (Ex.refl _) _ fun l H3 hl e3 h3 => ⟨_, _, rfl, q v l H2 H3 hv hl e3 h3 (p2.ex e3) e2⟩
end

/-! ### the weight, the law's case -/
def sp_law_heavy : Sp := fun vs H Q _ => ∃ (p : Addr) (n : Nat), vs = [.ref p] ∧ Po p n H ∧ n + 3 < 1000000000 ∧ ∀ (w : Int) H', 1 ≤ w → w ≤ 1000000000000 → Po p (n + 3) H' → Ex (Hm p H) H' → Q (.int w) H'
theorem p_ret {σ : L2.St} {H0 H : Hp} {p : Addr} {k n : Nat} {te : TE} {R : V → Hp → Prop} {D : Ends} (h : EvP p k te σ H0 R) (e : Ex H0 H) (hp : Po p n H) (hn : n + k ≤ 1000000000) (q : ∀ v H2, R v H2 → Po p (n + k) H2 → Ex (Hm p H) H2 → D.rt v H2) : tRet te D σ H := h n H e hp hn _ q
section
variable {K : PySem.W.Frag} {σ : L2.St} {H0 H : Hp} {p : Addr} {k k1 k2 : Nat} {te ta tb : TE} {R : V → Hp → Prop} {D : Ends} {tu tz : TS}
/-- a - b, b drawn -/
theorem ep_sub {a : Int} {C : Int → Prop} (h0 : H0 p = none) (ha : Ev ta σ H0 (.int a)) (hb : EvP p k tb σ H0 (fun v _ => ∃ r, v = .int r ∧ C r)) : EvP p (0 + k) (tOp (rI0 fun i j => .int (i - j)) ta tb) σ H0 (fun v _ => ∃ r, v = .int (a - r) ∧ C r) :=
  ep_op h0 (ep_ev ha) hb stb_c stb_c fun x y H e ⟨r, e2, c⟩ => ⟨.int (a - r), ⟨r, rfl, c⟩, by
    subst e
    subst e2
    exact rv_I0⟩
/-- for i in range(a drawn number) -/
theorem pq_forR1 {n j : Nat} {C : Nat → Prop} (h : EvP p k te σ H0 (fun v _ => ∃ m : Nat, v = .int (m : Int) ∧ C m)) (e : Ex H0 H) (hp : Po p n H) (hn : n + k ≤ 1000000000)
    (q : ∀ (m : Nat) H2, C m → Po p (n + k) H2 → Ex (Hm p H) H2 → tSeq (tFor (iRng1 (tCons (tC (.int (m : Int))) tNil)) (gName j) tu) tz D σ H2) : tSeq (tFor (iRng1 (tCons te tNil)) (gName j) tu) tz D σ H := h n H e hp hn _ fun v H2 ⟨m, ev, hm⟩ p2 e2 => by
  subst ev
  exact q m H2 hm p2 e2
end
section
variable {P : Program} {w : World} {K : PySem.W.Frag} {mg : Str → Option Value} {base : Heap}
theorem ok_law_heavy (T : Tx K mg) : FnOk P w K mg base CX0 2 T.f_law_heavy T.d_law_heavy ["store"] sp_law_heavy := by
  refine T.F_law_heavy.ok sc_law_heavy (fun vs H Q E h => ?_) (fun cdv A outer s H vs Q E hr h => ?_)
  · obtain ⟨p, n, rfl, _⟩ := h
    rfl
  · obtain ⟨p, n, rfl, hpo, hn, k⟩ := h
    refine ⟨_, (pss_one (ps_ret (pe_ix ix_list (pe_lst (pa_cons pe_int (pa_cons pe_int (pa_cons (pe_op op_add pe_int (pe_call (ok_law_pick T) (hr.mono (by decide)) (by rfl) T.g_law_pick T.F_law_pick.kp T.b_law_pick .nil pass0 (pa_cons (pv 0) (pa_cons pe_int pa_nil)))) (pa_cons (pe_op op_sub (pe_op op_powX pe_int pe_int) (pe_call (ok_law_pick T) (hr.mono (by decide)) (by rfl) T.g_law_pick T.F_law_pick.kp T.b_law_pick .nil pass0 (pa_cons (pv 0) (pa_cons (pe_op op_powX pe_int pe_int) pa_nil)))) pa_nil))))) (pe_call (ok_law_pick T) (hr.mono (by decide)) (by rfl) T.g_law_pick T.F_law_pick.kp T.b_law_pick .nil pass0 (pa_cons (pv 0) (pa_cons pe_int pa_nil))) (fun _ _ => rfl)))), ?_⟩
    have ten : Ev (tOp (rI CPowX fun i j => .int (i ^ j.toNat)) (tC (.int 10)) (tC (.int 12))) (start n_law_heavy [.ref p]) (Hm p H) (.int 1000000000000) := ev_op ev_c ev_c (rv_I (by constructor <;> decide +kernel))
    refine p_ret (p := p) (k := ((0 + (0 + ((0 + 1) + ((0 + 1) + 0))))) + 1) (H0 := Hm p H) (R := fun v _ => ∃ w : Int, v = .int w ∧ 1 ≤ w ∧ w ≤ 1000000000000) (ep_ix (A := fun v => ∃ w : Int, v = .int w ∧ 1 ≤ w ∧ w ≤ 1000000000000) (ix := fun v => ∃ r, v = .int r ∧ 0 ≤ r ∧ r < 4) (C := fun vs => ∃ a b : Int, vs = [.int 1, .int 2, .int (1 + a), .int (1000000000000 - b)] ∧ (0 ≤ a ∧ a < 9) ∧ (0 ≤ b ∧ b < 1000000000000)) hm_p
        (ep_is (ep_lst (epa_pure hm_p ev_c (epa_pure hm_p ev_c (epa_cons (A := fun v => ∃ a : Int, v = .int (1 + a) ∧ (0 ≤ a ∧ a < 9)) hm_p (ep_add (C := fun r => 0 ≤ r ∧ r < 9) hm_p ev_c (ep_dipI (w := 9) hm_p (ev_var rfl) ev_c (by decide) (by decide))) (epa_cons (A := fun v => ∃ b : Int, v = .int (1000000000000 - b) ∧ (0 ≤ b ∧ b < 1000000000000)) hm_p (ep_sub (C := fun r => 0 ≤ r ∧ r < 1000000000000) hm_p ten (ep_dipI (w := 1000000000000) hm_p (ev_var rfl) ten (by decide) (by decide))) epa_nil)))) ?_) ?_) (ep_dipI (w := 4) hm_p (ev_var rfl) ev_c (by decide) (by decide)) ?_) hm_sub hpo (by omega) ?_
    · rintro vs ⟨_, _, rfl, _, _, _, rfl, _, _, _, rfl, _, _, _, rfl, _, rfl⟩
      exact Nat.le_of_ble_eq_true rfl
    · rintro v H4 ⟨l, vs, ne, rfl, hl, _, _, rfl, rfl, _, _, rfl, rfl, _, _, rfl, ⟨a, rfl, ha⟩, _, _, rfl, ⟨b, rfl, hb⟩, rfl⟩
      exact ⟨l, _, ne, rfl, hl, a, b, rfl, ha, hb⟩
    · rintro vs v ⟨a, b, rfl, ⟨a0, a1⟩, ⟨b0, b1⟩⟩ ⟨i, rfl, i0, i1⟩
      have : i = 0 ∨ i = 1 ∨ i = 2 ∨ i = 3 := by omega
      rcases this with rfl | rfl | rfl | rfl
      · exact ⟨0, .int 1, rfl, rfl, 1, rfl, by decide, by decide⟩
      · exact ⟨1, .int 2, rfl, rfl, 2, rfl, by decide, by decide⟩
      · exact ⟨2, .int (1 + a), rfl, rfl, _, rfl, by omega, by omega⟩
      · exact ⟨3, .int (1000000000000 - b), rfl, rfl, _, rfl, by omega, by omega⟩
    · rintro v H2 ⟨x, rfl, x0, x1⟩ p2 e2
      exact k x H2 x0 x1 (p2.mono (by omega)) e2
end

section
variable {K : PySem.W.Frag} {σ : L2.St} {H0 H : Hp} {ta tb tc te tm tw : TE} {t : TT} {p : Addr} {k k1 k2 : Nat} {R : V → Hp → Prop}
theorem ep_if {b : Bool} (ht : EvT t σ H0 b) (h1 : b = true → EvP p k ta σ H0 R) (h2 : b = false → EvP p k tb σ H0 R) : EvP p k (tIf t ta tb) σ H0 R := fun n H1 e hp hn Q q => ht H1 e _ fun H2 e2 => by
  cases b with
  | true =>
    show ta σ H2 Q
    exact h1 rfl n H2 (e.trans e2) (hp.ex e2) hn Q fun v H3 hv p3 e3 => q v H3 hv p3 (hm_trans (hm_of e2) e3)
  | false =>
    show tb σ H2 Q
    exact h2 rfl n H2 (e.trans e2) (hp.ex e2) hn Q fun v H3 hv p3 e3 => q v H3 hv p3 (hm_trans (hm_of e2) e3)
theorem ep_mono (h : EvP p k te σ H0 R) (hk : k ≤ k1) : EvP p k1 te σ H0 R := fun n H1 e hp hn Q q => h n H1 e hp (by omega) Q fun v H2 hv p2 e2 => q v H2 hv (p2.mono (by omega)) e2

end
theorem Po.upd {p l : Addr} {n : Nat} {H : Hp} {o : HO} (h : Po p n H) (ne : l ≠ p) : Po p n (upd H l o) := by
  obtain ⟨a, b, c, h1, h2⟩ := h
  exact ⟨a, b, c, by rw [upd_ne (Ne.symm ne)]; exact h1, h2⟩
section
variable {K : PySem.W.Frag} {σ : L2.St} {H0 H : Hp} {ta tb tc te t0 : TE} {tn : TA} {p : Addr} {k k1 k2 : Nat} {R : V → Hp → Prop} {D : Ends} {tz : TS}
/-- [i for i in range(m) if a draw says so] -/
theorem pq_lcT {n m ke i j : Nat} {vs : List Nat} (h0 : H0 p = none) (hn : EvA tn σ H [.int (m : Int)]) (hm : m ≤ 1000) (hw : ∀ x, wipe ((wipe σ vs).set j (some x)) vs = wipe σ vs) (hj : ∀ x, ((wipe σ vs).set j (some x))[j]? = some (some x))
    (he : ∀ c : Nat, c < m → EvP p ke t0 ((wipe σ vs).set j (some (.int (c : Int)))) H0 (fun v _ => ∃ b, v = .bl b)) (e : Ex H0 H) (hp : Po p n H) (hb : n + ke * m ≤ 1000000000)
    (q : ∀ l g H2, H l = none → l ≠ p → H2 l = some (.lst (nv g)) → g.Pairwise (· < ·) → (∀ x ∈ g, x < m) → Po p (n + ke * m) H2 → Ex (Hm p H) H2 → tz D (σ.set i (some (.ref l))) H2) :
    tSeq (tAsg (tLc (iRng1 tn) (gName j) (tTest t0) (tVar j) vs) (gName i)) tz D σ H := hn H (Ex.refl H) _ fun H1 e1 => ⟨(m : Int), rfl, by omega, by omega, fun Dl hD => by
  have p1 := hp.ex e1
  have Dp := p1.ne hD
  have mono : ∀ i, i ≤ m → ke * i ≤ ke * m := fun i hi => Nat.mul_le_mul_left _ (by omega)
  refine lc_range (lo := 0) (n := ((m : Int)).toNat) (fun i H' => Ex (Hm p H1) H' ∧ Po p (n + ke * i) H' ∧ ∃ g : List Nat, H' Dl = some (.lst (nv g)) ∧ g.Pairwise (· < ·) ∧ (∀ x ∈ g, x < i) ∧ g.length ≤ i) ⟨hm_of (Ex.new hD), (p1.ex (Ex.new hD)).mono (by omega), [], upd_same, List.Pairwise.nil, fun v hv => by simp at hv, Nat.le_refl _⟩ (fun i H' hi z => ?_) fun H' z => ?_
  · obtain ⟨e2, p2, g, hu, gp, gl, gn⟩ := z
    rw [Int.toNat_natCast] at hi
    have z0 : (0 : Int) + (i : Int) = (i : Int) := Int.zero_add _
    have m1 := mono (i + 1) (by omega)
    rw [Nat.mul_add, Nat.mul_one] at m1
    show wipe ((wipe σ vs).set j (some (.int ((0 : Int) + (i : Int))))) vs = wipe σ vs ∧ t0 ((wipe σ vs).set j (some (.int ((0 : Int) + (i : Int))))) H' fun v H3 => ∃ b, v = .bl b ∧ (if b = true then (tVar j) ((wipe σ vs).set j (some (.int ((0 : Int) + (i : Int))))) H3 fun y H4 => ∃ acc, H4 Dl = some (.lst acc) ∧ acc.length < sizeLine ∧ (Ex (Hm p H1) (upd H4 Dl (.lst (acc ++ [y]))) ∧ Po p (n + ke * (i + 1)) (upd H4 Dl (.lst (acc ++ [y]))) ∧ ∃ g : List Nat, (upd H4 Dl (.lst (acc ++ [y]))) Dl = some (.lst (nv g)) ∧ g.Pairwise (· < ·) ∧ (∀ x ∈ g, x < i + 1) ∧ g.length ≤ i + 1) else (Ex (Hm p H1) H3 ∧ Po p (n + ke * (i + 1)) H3 ∧ ∃ g : List Nat, H3 Dl = some (.lst (nv g)) ∧ g.Pairwise (· < ·) ∧ (∀ x ∈ g, x < i + 1) ∧ g.length ≤ i + 1))
    rw [z0]
    refine ⟨hw _, he i (by omega) (n + ke * i) H' (hm_next h0 (e.trans e1) e2) p2 (by omega) _ fun v H3 ⟨b, hb2⟩ p4 e4 => ⟨b, hb2, ?_⟩⟩
    have hu3 := hm_at e4 Dp hu
    cases b with
    | true =>
      rw [if_pos rfl]
      refine ⟨.int (i : Int), hj _, nv g, hu3, sz_lt (by rw [nv_len]; omega), Ex.mut (hm_trans e2 e4) (by unfold Hm; rw [if_neg Dp]; exact hD), ?_, g ++ [i], ?_, ?_, ?_, ?_⟩
      · rw [Nat.mul_add, Nat.mul_one, ← Nat.add_assoc]
        exact p4.upd Dp
      · rw [upd_same, nv_app]
        rfl
      · rw [List.pairwise_append]
        exact ⟨gp, List.pairwise_singleton _ _, fun x hx y hy => by rw [List.mem_singleton.mp hy]; exact gl x hx⟩
      · intro x hx
        rcases List.mem_append.mp hx with z | z
        · have := gl x z
          omega
        · rw [List.mem_singleton.mp z]
          omega
      · rw [List.length_append]
        show g.length + 1 ≤ i + 1
        omega
    | false =>
      rw [if_neg (by simp)]
      refine ⟨hm_trans e2 e4, ?_, g, hu3, gp, fun x hx => by have := gl x hx; omega, by omega⟩
      rw [Nat.mul_add, Nat.mul_one, ← Nat.add_assoc]
      exact p4
  · obtain ⟨e2, p2, g, hu, gp, gl, gn⟩ := z
    rw [Int.toNat_natCast] at gl p2
    exact q Dl g H' (fresh_back e1 hD) Dp hu gp gl p2 (hm_trans (hm_of e1) e2)⟩
end
theorem ep_evH {σ : L2.St} {H0 : Hp} {p l : Addr} {te : TE} {v : V} {o : HO} (h : Ev te σ H0 v) (hl : H0 l = some o) : EvP p 0 te σ H0 (fun x H => x = v ∧ H l = some o) := fun n H1 e hp _ Q q =>
  h H1 e _ fun H2 e2 => q _ H2 ⟨rfl, e2 l _ (e l _ hl)⟩ (hp.ex e2) (hm_of e2)
def sp_law_gang : Sp := fun vs H Q _ => ∃ (p : Addr) (n m : Nat), vs = [.ref p, .int (m : Int)] ∧ Po p n H ∧ n + 100 < 1000000000 ∧ 1 ≤ m ∧ m ≤ 20 ∧ ∀ l g H', l ≠ p → H' l = some (.lst (nv g)) → Gang m g → Po p (n + 30) H' → Ex (Hm p H) H' → Q (.ref l) H'
section
variable {P : Program} {w : World} {K : PySem.W.Frag} {mg : Str → Option Value} {base : Heap}
theorem ok_law_gang (T : Tx K mg) : FnOk P w K mg base CX0 2 T.f_law_gang T.d_law_gang ["store", "many_here"] sp_law_gang := by
  refine T.F_law_gang.ok sc_law_gang (fun vs H Q E h => ?_) (fun cdv A outer s H vs Q E hr h => ?_)
  · obtain ⟨p, n, m, rfl, _⟩ := h
    rfl
  · obtain ⟨p, n, m, rfl, hpo, hn, m1, m20, k⟩ := h
    refine ⟨_, (pss_cons (ps_setLc (i := 3) (own := [("who", 2)]) (g := (gName 2)) rfl sc_law_gang.nd rfl rfl (sw_true rfl rfl rfl (by decide +kernel)) (pi_range1 (by rfl) T.m_range (pa_cons (pv 1) pa_nil)) (blkOk_by (own := [("who", 2)]) (N := n_law_gang) (sc := defScope s_law_gang) (by decide +kernel)) (fun _ _ _ _ _ => (pg_name (i := 2) sc_law_gang.nd rfl (Or.inl rfl))) (fun _ _ _ _ _ => (pts_one (pt_cmpR op_eq (pe_call (ok_law_pick T) (hr.mono (by decide)) (by rfl) T.g_law_pick T.F_law_pick.kp T.b_law_pick .nil pass0 (pa_cons (pv 0) (pa_cons pe_int pa_nil))) pe_int (nomark _)))) (fun _ _ _ _ _ => (pv 2)))
      (pss_one (ps_ret (pe_ifExp (pt_cmpR (op_neD hr.units) (pv 3) (pe_lst pa_nil) (nomark _)) (pv 3) (pe_lst (pa_cons (pe_call (ok_law_pick T) (hr.mono (by decide)) (by rfl) T.g_law_pick T.F_law_pick.kp T.b_law_pick .nil pass0 (pa_cons (pv 0) (pa_cons (pv 1) pa_nil))) pa_nil)))))), ?_⟩
    refine pq_lcT (p := p) (H0 := Hm p H) (m := m) (ke := 1 + 0) hm_p (ea_cons (ev_var rfl) ea_nil) (by omega) (fun _ => rfl) (fun _ => rfl) (fun c _ => ?_) hm_sub hpo (by omega) ?_
    · exact ep_op hm_p (ep_dipI (w := 2) hm_p (ev_var rfl) ev_c (by decide) (by decide)) (ep_ev (v := .int 0) ev_c) stb_c stb_c fun x y H4 ⟨r, ex, _⟩ ey => ⟨.bl (decide (V.int r = V.int 0)), ⟨_, rfl⟩, by
        subst ex ey
        exact rv_eq rfl⟩
    rintro l g H2 nl lp hl2 gp gl p2 e2
    have hlm : Hm p H2 l = some (.lst (nv g)) := by
      unfold Hm
      rw [if_neg lp]
      exact hl2
    refine p_ret (p := p) (k := (0 + 1) + 0) (H0 := Hm p H2) (R := fun v H' => ∃ l' g', v = .ref l' ∧ l' ≠ p ∧ H' l' = some (.lst (nv g')) ∧ Gang m g') (ep_if (b := !PyData.eqv (di g) (.list [])) (et_test (ev_neD (ed_of (ev_var rfl) (dp_L hlm)) (ed_lst eda_nil (Nat.le_of_ble_eq_true rfl)) (shaped_di g) (by decide +kernel))) (fun hb => ?_) (fun hb => ?_)) hm_sub p2 (by omega) ?_
    · have ne : g ≠ [] := fun z => by
        subst z
        exact absurd hb (by decide +kernel)
      exact ep_mono (ep_is (ep_evH (v := .ref l) (ev_var rfl) hlm) fun v H4 ⟨hv, h4⟩ => ⟨l, g, hv, lp, h4, ⟨ne, gp, gl⟩⟩) (by omega)
    · refine ep_is (ep_lst (epa_cons (A := fun v => ∃ c : Nat, v = .int (c : Int) ∧ c < m) hm_p (ep_is (ep_dipI (w := (m : Int)) hm_p (ev_var rfl) (ev_var rfl) (by omega) (by omega)) ?_) epa_nil) ?_) ?_
      · rintro v _ ⟨r, rfl, r0, r1⟩
        exact ⟨r.toNat, by congr 1; omega, by omega⟩
      · rintro vs ⟨_, _, rfl, _, rfl⟩
        exact Nat.le_of_ble_eq_true rfl
      · rintro v H4 ⟨l', vs, ne, rfl, hl', _, _, rfl, ⟨c, rfl, hc⟩, rfl⟩
        exact ⟨l', [c], rfl, ne, hl', ⟨by simp, List.pairwise_singleton _ _, fun x hx => by rw [List.mem_singleton.mp hx]; exact hc⟩⟩
    · rintro v H4 ⟨l', g', rfl, lp', hl', o⟩ p4 e4
      exact k l' g' H4 lp' hl' o (p4.mono (by omega)) (hm_trans e2 e4)
end


/-! ### helps for the law's own defs -/
theorem dpa_strs {K : PySem.W.Frag} {H : Hp} : ∀ l : List Str, DpAll K H (l.map V.str) (l.map PyData.str)
  | [] => .nil
  | _ :: r => .cons (.str _) (dpa_strs r)
theorem given_all {n : Nat} (v : Nat → V) : given n (fun _ => true) v = (List.range n).map v := by
  unfold given
  rw [List.filter_eq_self.mpr fun _ _ => rfl]
theorem rep_str (n : Nat) (z : Str) : (List.range n).map (fun _ => V.str z) = (List.replicate n z).map V.str := by
  rw [List.map_const', List.length_range, List.map_replicate]
def gD (g : List Nat) : PyData := .list ((iz g).map PyData.int)
theorem gang_ok {n : Nat} {g : List Nat} (o : Gang n g) : judgeG ((n : Int) - 1) (lsO (gD g)) = true := by
  show (!decide (((iz g).map PyData.int).length = 0) && (((iz g).map PyData.int).all (inD 0 ((n : Int) - 1)) && decide ((intsOf ((iz g).map PyData.int)).Pairwise (· < ·)))) = true
  have gp := o.pos
  have h1 : ((iz g).map PyData.int).length ≠ 0 := by
    unfold iz
    rw [List.length_map, List.length_map]
    omega
  have h2 : ((iz g).map PyData.int).all (inD 0 ((n : Int) - 1)) = true := by
    rw [List.all_eq_true]
    intro d hd
    obtain ⟨i, hi, rfl⟩ := List.mem_map.mp hd
    unfold iz at hi
    obtain ⟨x, hx, rfl⟩ := List.mem_map.mp hi
    have := o.lt x hx
    show (decide ((0 : Int) ≤ (x : Int)) && decide ((x : Int) ≤ (n : Int) - 1)) = true
    rw [decide_eq_true (show (0 : Int) ≤ (x : Int) by omega), decide_eq_true (show (x : Int) ≤ (n : Int) - 1 by omega)]
    rfl
  rw [decide_eq_false h1, h2, ints_iz, decide_eq_true (iz_up o.up)]
  rfl
theorem gang_open {n : Nat} {g : List Nat} (o : Gang n g) : judgeO ((n : Int) - 1) (gD g) = decide (g.head? = some 0) := by
  unfold judgeO
  rw [gang_ok o]
  show (true && decide ((intsOf ((iz g).map PyData.int)).head? = some 0)) = _
  rw [ints_iz, Bool.true_and, Bool.eq_iff_iff, decide_eq_true_iff, decide_eq_true_iff]
  cases g with
  | nil => exact absurd rfl o.ne
  | cons x r =>
    show some (x : Int) = some 0 ↔ some x = some 0
    constructor
    · intro h
      have : (x : Int) = 0 := Option.some.inj h
      congr 1
      omega
    · intro h
      rw [Option.some.inj h]
      rfl
theorem gang_lots {n : Nat} {g : List Nat} (o : Gang n g) : judgeGs ((n : Int) - 1) (lsO (.list [gD g])) = true := by
  show ([gD g].all (fun d => judgeG ((n : Int) - 1) (lsO d)) && (decide (0 < [gD g].length) && decide ((memb [gD g]).Nodup))) = true
  have m : memb [gD g] = iz g := by
    show [intsOf ((iz g).map PyData.int)].flatten = _
    rw [ints_iz]
    simp
  have nd : (iz g).Nodup := (iz_up o.up).imp fun z => by omega
  rw [List.all_cons, gang_ok o, m, decide_eq_true nd]
  rfl
theorem gv_gang {H : Hp} {a : Addr} {n : Nat} {g : List Nat} (ha : H a = some (.lst (nv g))) (o : Gang n g) (hn : n ≤ 20) : Gv H (.ref a) (gD g) := by
  have gl := o.len
  have := gv_L ha (flat_nv fun x hx => by have := o.lt x hx; omega) (by rw [nv_len]; omega)
  rw [flat_ints] at this
  exact this
theorem nt_gang {n : Nat} {g : List Nat} (o : Gang n g) (hn : n ≤ 20) : Nt (gD g) := by
  have gl := o.len
  have := nt_L (xs := nv g) (flat_nv fun x hx => by have := o.lt x hx; omega) (by rw [nv_len]; omega)
  rw [flat_ints] at this
  exact this
section
variable {K : PySem.W.Frag} {σ : L2.St} {H0 H : Hp} {ta tb tc td te tl : TE} {D : Ends} {tz : TS} {t tr : TA} {p : Addr} {k : Nat}
theorem el_lcNU {xs : List V} {j : Nat} {ns : List Nat} (f : Nat → V) (h : EvU tl σ H xs) (hz : xs.length ≤ 40000) (hw : ∀ x, wipe ((wipe σ ns).set j (some x)) ns = wipe σ ns)
    (he : ∀ (i : Nat) (x : V) H1, Ex H H1 → xs[i]? = some x → Ev te ((wipe σ ns).set j (some x)) H1 (f i)) : EvL (tLc (iTup K tl) (gName j) tYes te ns) σ H ((List.range xs.length).map f) := by
  rw [← given_all]
  exact fun H0 e Q q => h H0 e _ fun a H1 ha e1 hx => ⟨a, rfl, ⟨xs, st_of hx⟩, fun L hL => lc_tup (xs := xs) (Cw H1 (fun _ => true) f L) ⟨hL, Ex.new hL, upd_same⟩ (fun i G _ c => st_of (c.2.1 a _ hx))
    (fun i x G hi c => ⟨hw x, cw_turn c (by have := (List.getElem?_eq_some_iff.mp hi).1; omega) et_yes fun _ => he i x H1 (e.trans e1) hi⟩) fun G c => q L G (fresh_back e1 c.1) (e1.trans c.2.1) c.2.2⟩
theorem el_repS {z : Str} {n : Int} (h : Ev te σ H (.str z)) (hb : Ev tb σ H (.int n)) (h0 : 0 ≤ n) (h1 : n ≤ 1000) : EvL (tOp rRep (tLst (tCons te tNil)) tb) σ H ((List.replicate n.toNat z).map V.str) := by
  have g := el_rep (el_lst (ea_cons h ea_nil) (Nat.le_of_ble_eq_true rfl)) hb h0 h1 (Nat.le_of_ble_eq_true rfl)
  have e : (List.replicate n.toNat [V.str z]).flatten = (List.replicate n.toNat z).map V.str := by
    generalize n.toNat = k
    induction k with
    | zero => rfl
    | succ k ih => rw [List.replicate_succ, List.replicate_succ, List.flatten_cons, List.map_cons, ih]; rfl
  rw [e] at g
  exact g
theorem ed_strs {l : List Str} (h : EvL te σ H (l.map V.str)) : EvD K te σ H (.list (l.map PyData.str)) := ed_ofL h (dpa_strs l)
/-- one call of _law_raised that ends so -/
def Told (t : TA) (σ : L2.St) (H : Hp) (z : Str) : Prop := ∃ (w m x : Int) (v u : V) (d e : PyData) (r : Option Nat), EvA t σ H [.int w, .int m, .int x, v, u] ∧ Gv H v d ∧ Gv H u e ∧ Asked w m x d e r ∧ wordO r = z
theorem ev_told {E : XK} {z : Str} (h : Told t σ H z) : Ev (tCall sp_law_raised [] E t) σ H (.str z) := by
  obtain ⟨w, m, x, v, u, d, e, r, ea, g1, g2, as, rfl⟩ := h
  exact ev_call ea (sv_told g1 g2 as)
theorem el_toldR {n : Nat} {z : Str} {j : Nat} {ns : List Nat} {E : XK} (hn : n ≤ 100) (hw : ∀ x, wipe ((wipe σ ns).set j (some x)) ns = wipe σ ns) (he : ∀ (i : Nat) H1, Ex H H1 → i < n → Told t ((wipe σ ns).set j (some (.int (i : Int)))) H1 z) :
    EvL (tLc (iRng1 (tCons (tC (.int (n : Int))) tNil)) (gName j) tYes (tCall sp_law_raised [] E t) ns) σ H ((List.replicate n z).map V.str) := by
  have g := el_lcR1 (t := tYes) (te := tCall sp_law_raised [] E t) (σ := σ) (H := H) (j := j) (vs := ns) (n := (n : Int)) (fun _ => true) (fun _ => V.str z) (ea_cons ev_c ea_nil) (by omega) hw (fun _ _ _ _ => et_yes) fun i H1 e1 hi _ => ev_told (he i H1 e1 (by omega))
  rw [given_all, Int.toNat_natCast, rep_str] at g
  exact g
theorem el_toldR2 {lo hi : Nat} {z : Str} {j : Nat} {ns : List Nat} {E : XK} (h1 : lo ≤ hi) (h2 : hi ≤ 100) (hw : ∀ x, wipe ((wipe σ ns).set j (some x)) ns = wipe σ ns) (he : ∀ (i : Nat) H1, Ex H H1 → lo ≤ i → i < hi → Told t ((wipe σ ns).set j (some (.int (i : Int)))) H1 z) :
    EvL (tLc (iRng2 (tCons (tC (.int (lo : Int))) (tCons (tC (.int (hi : Int))) tNil))) (gName j) tYes (tCall sp_law_raised [] E t) ns) σ H ((List.replicate (hi - lo) z).map V.str) := by
  have g := el_lcR2 (t := tYes) (te := tCall sp_law_raised [] E t) (σ := σ) (H := H) (j := j) (vs := ns) (lo := (lo : Int)) (n := (hi : Int)) (fun _ => true) (fun _ => V.str z) (ea_cons ev_c (ea_cons ev_c ea_nil)) (by omega) hw (fun _ _ _ _ => et_yes) fun i H1 e1 hi' _ => ev_told (by
    have := he (lo + i) H1 e1 (by omega) (by omega)
    rw [show ((lo + i : Nat) : Int) = (lo : Int) + (i : Int) by omega] at this
    exact this)
  rw [given_all, show ((hi : Int) - (lo : Int)).toNat = hi - lo by omega, rep_str] at g
  exact g
theorem el_toldU {xs : List V} {z : Str} {j : Nat} {ns : List Nat} {E : XK} (h : EvU tl σ H xs) (hz : xs.length ≤ 40) (hw : ∀ x, wipe ((wipe σ ns).set j (some x)) ns = wipe σ ns) (he : ∀ (i : Nat) (x : V) H1, Ex H H1 → xs[i]? = some x → Told t ((wipe σ ns).set j (some x)) H1 z) :
    EvL (tLc (iTup K tl) (gName j) tYes (tCall sp_law_raised [] E t) ns) σ H ((List.replicate xs.length z).map V.str) := by
  rw [← rep_str]
  exact el_lcNU (fun _ => V.str z) h (by omega) hw fun i x H1 e1 hi => ev_told (he i x H1 e1 hi)
/-- the first thing new -/
theorem ev_toldB {J : PyData → Prop} {w m x : Int} {u : V} {e : PyData} {z : Str} {E : XK} (h1 : Ev ta σ H (.int w)) (h2 : Ev tb σ H (.int m)) (h3 : Ev tc σ H (.int x)) (h4 : EvB J K tl σ H) (h5 : Ev td σ H u) (gu : Gv H u e) (hA : ∀ d, J d → ∃ r, Asked w m x d e r ∧ wordO r = z) :
    Ev (tCall sp_law_raised [] E (tCons ta (tCons tb (tCons tc (tCons tl (tCons td tNil)))))) σ H (.str z) := fun G1 g1 Q q =>
  h1 G1 g1 _ fun G2 g2 => h2 G2 (g1.trans g2) _ fun G3 g3 => h3 G3 (g1.trans (g2.trans g3)) _ fun G4 g4 => h4 G4 (g1.trans (g2.trans (g3.trans g4))) _ fun v G5 g5 ⟨d, gd, jd⟩ => h5 G5 (g1.trans (g2.trans (g3.trans (g4.trans g5)))) _ fun G6 g6 => by
    obtain ⟨r, as, rfl⟩ := hA d jd
    exact ⟨w, m, x, v, u, d, e, r, rfl, gd.ex g6, gu.ex (g1.trans (g2.trans (g3.trans (g4.trans (g5.trans g6))))), as, fun G7 g7 => q G7 (g2.trans (g3.trans (g4.trans (g5.trans (g6.trans g7)))))⟩
end


/-! ### _law_let_right -/
def sp_law_let_right : Sp := fun vs H Q _ => ∃ (m : Nat) (x : Int) (a : Addr) (g : List Nat), vs = [.int (m : Int), .int x, .ref a] ∧ H a = some (.lst (nv g)) ∧ Gang m g ∧ (1 ≤ m ∧ m ≤ 20) ∧ (1 ≤ x ∧ x ≤ 1000000000000) ∧ RetV (.bl true) H Q
theorem sv_let {H : Hp} {m : Nat} {x : Int} {a : Addr} {g : List Nat} (ha : H a = some (.lst (nv g))) (o : Gang m g) (hm : 1 ≤ m ∧ m ≤ 20) (hx : 1 ≤ x ∧ x ≤ 1000000000000) : SpV sp_law_let_right ([.int (m : Int), .int x, .ref a] ++ []) H (.bl true) := fun H1 e Q q E => ⟨m, x, a, g, rfl, e a _ ha, o, hm, hx, q⟩
section
variable {P : Program} {w : World} {K : PySem.W.Frag} {mg : Str → Option Value} {base : Heap}
theorem ok_law_let_right (T : Tx K mg) : FnOkG P w K mg base 12 T.f_law_let_right T.d_law_let_right ["many_here", "heavy", "gang"] sp_law_let_right := by
  refine Kit.funG T.F_law_let_right sc_law_let_right (fun vs H Q E h => ?_) (fun cdv A outer s H vs Q E hg hr h => ?_)
  · obtain ⟨m, x, a, g, rfl, _⟩ := h
    rfl
  · obtain ⟨m, x, a, g, rfl, ha, o, hm, hx, k⟩ := h
    refine ⟨_, (pss_cons (ps_set (i := 3) sc_law_let_right.nd rfl (Or.inl rfl) (pe_ix ix_list (pe_lst (pa_cons pe_str (pa_cons pe_str pa_nil))) (pe_callTy call_intB (by rfl) T.m_int (by decide +kernel) (pa_cons (pe_cmpR op_eq (pe_ix ix_list (pv 2) pe_int (fun _ _ => rfl)) pe_int (nomark _)) pa_nil)) (fun _ _ => rfl)))
      (pss_cons (ps_set (i := 4) sc_law_let_right.nd rfl (Or.inl rfl) (pe_lst (pa_cons (pe_callG (ok_law_raised T) hg (hr.mono (by decide)) (by rfl) T.g_law_raised T.F_law_raised.kp T.b_law_raised (pa_cons pe_int (pa_cons (pv 0) (pa_cons (pv 1) (pa_cons (pv 2) (pa_cons pe_int pa_nil)))))) (pa_cons (pe_callG (ok_law_raised T) hg (hr.mono (by decide)) (by rfl) T.g_law_raised T.F_law_raised.kp T.b_law_raised (pa_cons pe_int (pa_cons (pv 0) (pa_cons (pv 1) (pa_cons (pv 2) (pa_cons pe_int pa_nil)))))) pa_nil))))
      (pss_cons (ps_if (pt_cmpR (op_neD hr.units) (pe_op op_cat (pv 4) (pe_lc (own := [("door", 5)]) (g := (gName 5)) (tt := tYes) rfl sc_law_let_right.nd (pi_range1 (by rfl) T.m_range (pa_cons pe_int pa_nil)) (blkOk_by (own := [("door", 5)]) (N := n_law_let_right) (sc := defScope s_law_let_right) (by decide +kernel)) (fun _ _ _ _ _ => (pg_name (i := 5) sc_law_let_right.nd rfl (Or.inl rfl))) (fun _ _ _ _ _ => pts_nil) (fun _ _ _ _ _ => (pe_callG (ok_law_raised T) hg (hr.mono (by decide)) (by rfl) T.g_law_raised T.F_law_raised.kp T.b_law_raised (pa_cons (pv 5) (pa_cons (pv 0) (pa_cons (pv 1) (pa_cons (pv 2) (pa_cons pe_int pa_nil))))))))) (pe_op op_cat (pe_op op_rep (pe_lst (pa_cons (pv 3) pa_nil)) pe_int) (pe_op op_rep (pe_lst (pa_cons pe_str pa_nil)) pe_int)) (nomark _)) (pss_one (ps_ret pe_bl)) pss_nil)
      (pss_cons (ps_setLc (i := 4) (own := [("door", 5)]) (g := (gName 5)) (tt := tYes) rfl sc_law_let_right.nd rfl rfl (sw_true rfl rfl rfl (by decide +kernel)) (pi_tup (pe_tup (pa_cons pe_int (pa_cons pe_int (pa_cons pe_int (pa_cons pe_int (pa_cons pe_int pa_nil))))))) (blkOk_by (own := [("door", 5)]) (N := n_law_let_right) (sc := defScope s_law_let_right) (by decide +kernel)) (fun _ _ _ _ _ => (pg_name (i := 5) sc_law_let_right.nd rfl (Or.inl rfl))) (fun _ _ _ _ _ => pts_nil) (fun _ _ _ _ _ => (pe_callG (ok_law_raised T) hg (hr.mono (by decide)) (by rfl) T.g_law_raised T.F_law_raised.kp T.b_law_raised (pa_cons (pv 5) (pa_cons (pv 0) (pa_cons (pv 1) (pa_cons (pe_op op_sub (pv 0) pe_int) (pa_cons pe_int pa_nil))))))))
      (pss_cons (ps_set (i := 4) sc_law_let_right.nd rfl (Or.inl rfl) (pe_op op_cat (pv 4) (pe_lst (pa_cons (pe_callG (ok_law_raised T) hg (hr.mono (by decide)) (by rfl) T.g_law_raised T.F_law_raised.kp T.b_law_raised (pa_cons pe_int (pa_cons (pv 0) (pa_cons (pv 1) (pa_cons (pv 0) (pa_cons (pv 2) pa_nil)))))) (pa_cons (pe_callG (ok_law_raised T) hg (hr.mono (by decide)) (by rfl) T.g_law_raised T.F_law_raised.kp T.b_law_raised (pa_cons pe_int (pa_cons (pv 0) (pa_cons (pv 1) (pa_cons (pe_lst (pa_cons (pv 2) pa_nil)) (pa_cons pe_int pa_nil)))))) pa_nil)))))
      (pss_one (ps_ret (pe_cmpR (op_eqD hr.units) (pv 4) (pe_op op_rep (pe_lst (pa_cons pe_str pa_nil)) pe_int) (nomark _))))))))), ?_⟩
    have hm' : (1 : Int) ≤ (m : Int) ∧ (m : Int) ≤ 20 := by omega
    have gk := gang_ok o
    have gop := gang_open o
    have glt := gang_lots o
    have gg : ∀ {G : Hp}, Ex H G → Gv G (.ref a) (gD g) := fun e => gv_gang (e a _ ha) o hm.2
    have i0 : ∀ {G : Hp}, Gv G (.int 0) (.int 0) := gv_flat (v := .int 0) (flat_int (by decide))
    have iz1 : ∀ {G : Hp} (c : Int), c.natAbs < 2 ^ 200 → Gv G (.int c) (.int c) := fun c hc => gv_flat (v := .int c) (flat_int hc)
    have dG : dGrp m x (gD g) = none := by unfold dGrp; rw [if_pos hm', if_pos hx, if_pos gk]
    have dO : dOpn m x (gD g) = (if g.head? = some 0 then none else some 3) := by
      unfold dOpn
      rw [if_pos hm', if_pos hx, gop]
      by_cases h : g.head? = some 0
      · rw [if_pos h, decide_eq_true h]; rfl
      · rw [if_neg h, decide_eq_false h]; rfl
    have dC : dCnt m (gD g) = (if g.head? = some 0 then none else some 3) := by
      unfold dCnt
      rw [if_pos hm', gop]
      by_cases h : g.head? = some 0
      · rw [if_pos h, decide_eq_true h]; rfl
      · rw [if_neg h, decide_eq_false h]; rfl
    obtain ⟨x0, r0, hxr⟩ : ∃ x0 r0, g = x0 :: r0 := by
      cases g with
      | nil => exact absurd rfl o.ne
      | cons x r => exact ⟨x, r, rfl⟩
    have at0 : atI (nv g) 0 = some (.int (x0 : Int)) := atI_nat (xs := nv g) (j := 0) (by rw [hxr]; rfl)
    have hd : (g.head? = some 0) ↔ x0 = 0 := by
      rw [hxr]
      show some x0 = some 0 ↔ _
      exact ⟨fun h => Option.some.inj h, fun h => by rw [h]⟩
    -- the word for openers
    obtain ⟨dz, hz, hzc⟩ : ∃ dz : Str, dz = wordO (if g.head? = some 0 then none else some 3) ∧ ((dz = "fine" ∧ x0 = 0) ∨ (dz = "gang" ∧ x0 ≠ 0)) := by
      by_cases h : g.head? = some 0
      · exact ⟨"fine", by rw [if_pos h]; rfl, .inl ⟨rfl, hd.mp h⟩⟩
      · exact ⟨"gang", by rw [if_neg h]; rfl, .inr ⟨rfl, fun z => h (hd.mpr z)⟩⟩
    refine q_asg (v := .str dz) (ev_opL1 (xs := [.str "gang", .str "fine"]) (el_lst (ea_cons ev_c (ea_cons ev_c ea_nil)) (Nat.le_of_ble_eq_true rfl)) (fun H1 e1 => ev_intB (b := decide (x0 = 0)) (ev_is (ev_op (ev_op (ev_var rfl) ev_c (rv_ixL (K := K) (sq_of (e1 a _ ha)) at0)) ev_c (rv_eq rfl)) (congrArg V.bl ?_))) fun p H1 hp _ => rv_ixL (sq_of hp) ?_) fun H1 e1 => ?_
    · rw [Bool.eq_iff_iff, decide_eq_true_iff, decide_eq_true_iff]
      constructor
      · intro h
        have : (x0 : Int) = 0 := V.int.inj h
        omega
      · intro h
        rw [h]
        rfl
    · rcases hzc with ⟨rfl, h⟩ | ⟨rfl, h⟩
      · rw [decide_eq_true h]
        exact atI_nat (j := 1) rfl
      · rw [decide_eq_false h]
        exact atI_nat (j := 0) rfl
    refine q_asgL (xs := [dz, dz].map V.str) (el_lst (ea_cons (ev_told ⟨3, m, x, .ref a, .int 0, _, _, _, ea_cons ev_c (ea_cons (ev_var rfl) (ea_cons (ev_var rfl) (ea_cons (ev_var rfl) (ea_cons ev_c ea_nil)))), gg e1, i0, .g _ _ _ _ _ _ (by decide) (.d3 _ _ _), by rw [dO, ← hz]⟩) (ea_cons (ev_told ⟨10, m, x, .ref a, .int 0, _, _, _, ea_cons ev_c (ea_cons (ev_var rfl) (ea_cons (ev_var rfl) (ea_cons (ev_var rfl) (ea_cons ev_c ea_nil)))), gg e1, i0, .d10 _ _ _ _, by rw [dC, ← hz]⟩) ea_nil)) (Nat.le_of_ble_eq_true rfl)) fun f H2 nf e2 hf => ?_
    have e12 := e1.trans e2
    have fines := el_toldR (n := 3) (z := "fine") (j := 5) (ns := [5]) (E := E0) (t := tCons (tVar 5) (tCons (tVar 0) (tCons (tVar 1) (tCons (tVar 2) (tCons (tC (.int 0)) tNil))))) (σ := [some (.int (m : Int)), some (.int x), some (.ref a), some (.str dz), some (.ref f), none]) (H := H2) (by decide) (fun _ => rfl) fun i G e hi => by
      have : i = 0 ∨ i = 1 ∨ i = 2 := by omega
      rcases this with rfl | rfl | rfl
      · exact ⟨0, m, x, .ref a, .int 0, _, _, _, ea_cons (ev_var rfl) (ea_cons (ev_var rfl) (ea_cons (ev_var rfl) (ea_cons (ev_var rfl) (ea_cons ev_c ea_nil)))), gg (e12.trans e), i0, .g _ _ _ _ _ _ (by decide) (.d0 _ _ _), by rw [dG]; rfl⟩
      · exact ⟨1, m, x, .ref a, .int 0, _, _, _, ea_cons (ev_var rfl) (ea_cons (ev_var rfl) (ea_cons (ev_var rfl) (ea_cons (ev_var rfl) (ea_cons ev_c ea_nil)))), gg (e12.trans e), i0, .g _ _ _ _ _ _ (by decide) (.d1 _ _ _), by rw [dG]; rfl⟩
      · exact ⟨2, m, x, .ref a, .int 0, _, _, _, ea_cons (ev_var rfl) (ea_cons (ev_var rfl) (ea_cons (ev_var rfl) (ea_cons (ev_var rfl) (ea_cons ev_c ea_nil)))), gg (e12.trans e), i0, .g _ _ _ _ _ _ (by decide) (.d2 _ _ _), by rw [dG]; rfl⟩
    have shd : SeqAt.shaped (.list ([dz, dz, "fine", "fine", "fine"].map PyData.str)) = true := by
      rcases hzc with ⟨rfl, _⟩ | ⟨rfl, _⟩ <;> decide +kernel
    refine q_when (b := false) (et_is (et_test (ev_neD (ed_strs (l := [dz, dz, "fine", "fine", "fine"]) (el_catL (ys := [("fine" : Str), "fine", "fine"].map V.str) (ev_var rfl) hf fines (Nat.le_of_ble_eq_true rfl))) (ed_strs (l := [dz, dz, "fine", "fine", "fine"]) (el_cat (xs := [dz, dz].map V.str) (ys := [("fine" : Str), "fine", "fine"].map V.str) (el_repS (n := 2) (ev_var rfl) ev_c (by decide) (by decide)) (el_repS (z := "fine") (n := 3) ev_c ev_c (by decide) (by decide)) (Nat.le_of_ble_eq_true rfl))) shd shd)) (by rw [eqv_same shd]; rfl)) (fun hb => Bool.noConfusion hb) fun _ H3 e3 => ?_
    have e13 := e12.trans e3
    have dS : dGst m x ((m : Int) - 1) = none := by unfold dGst; rw [if_pos hm', if_pos hx, if_pos (by omega)]
    have dR : dRnk m x ((m : Int) - 1) 0 = none := by unfold dRnk; rw [if_pos hm', if_pos hx, if_pos (by omega), if_pos (by omega)]
    have dH : dHom m x = none := by unfold dHom; rw [if_pos hm', if_pos hx]
    have dV : dGiv m m (gD g) = none := by unfold dGiv; rw [if_pos hm', if_pos (by omega), if_pos gk]
    have dL : dSpl m x (.list [gD g]) = none := by unfold dSpl; rw [if_pos hm', if_pos hx, if_pos glt]
    have im1 : ∀ {G : Hp}, Gv G (.int ((m : Int) - 1)) (.int ((m : Int) - 1)) := iz1 _ (by omega)
    have ea5 : ∀ {σ : L2.St} {G : Hp} {i : Int}, σ[5]? = some (some (.int i)) → σ[0]? = some (some (.int (m : Int))) → σ[1]? = some (some (.int x)) → EvA (tCons (tVar 5) (tCons (tVar 0) (tCons (tVar 1) (tCons (tOp (rI0 fun i j => .int (i - j)) (tVar 0) (tC (.int 1))) (tCons (tC (.int 0)) tNil))))) σ G [.int i, .int (m : Int), .int x, .int ((m : Int) - 1), .int 0] := fun h5 h0 h1 => ea_cons (ev_var h5) (ea_cons (ev_var h0) (ea_cons (ev_var h1) (ea_cons (ev_op (ev_var h0) ev_c rv_I0) (ea_cons ev_c ea_nil))))
    refine q_asgL (xs := (List.replicate 5 ("fine" : Str)).map V.str) (el_toldU (xs := [.int 5, .int 6, .int 7, .int 8, .int 9]) (eu_tup (ea_cons ev_c (ea_cons ev_c (ea_cons ev_c (ea_cons ev_c (ea_cons ev_c ea_nil))))) (Nat.le_of_ble_eq_true rfl)) (by decide) (fun _ => rfl) fun i y G e hi => ?_) fun f2 H4 nf2 e4 hf2 => ?_
    · have i5 : i < 5 := (List.getElem?_eq_some_iff.mp hi).1
      have : i = 0 ∨ i = 1 ∨ i = 2 ∨ i = 3 ∨ i = 4 := by omega
      rcases this with rfl | rfl | rfl | rfl | rfl <;> cases Option.some.inj hi
      · exact ⟨_, _, _, _, _, _, _, _, ea5 rfl rfl rfl, im1, i0, .d5 _ _ _ _, by rw [dS]; rfl⟩
      · exact ⟨_, _, _, _, _, _, _, _, ea5 rfl rfl rfl, im1, i0, .d6 _ _ _ _, by rw [dS]; rfl⟩
      · exact ⟨_, _, _, _, _, _, _, _, ea5 rfl rfl rfl, im1, i0, .d7 _ _ _ _, by rw [dR]; rfl⟩
      · exact ⟨_, _, _, _, _, _, _, _, ea5 rfl rfl rfl, im1, i0, .d8 _ _ _ _, by rw [dH]; rfl⟩
      · exact ⟨_, _, _, _, _, _, _, _, ea5 rfl rfl rfl, im1, i0, .d9 _ _ _ _, by rw [dH]; rfl⟩
    have e14 := e13.trans e4
    refine q_asgL (xs := (List.replicate 5 ("fine" : Str)).map V.str ++ [V.str "fine", .str "fine"]) (el_catL (ev_var rfl) hf2 (el_lst (ea_cons (ev_told ⟨11, m, x, .int (m : Int), .ref a, _, _, _, ea_cons ev_c (ea_cons (ev_var rfl) (ea_cons (ev_var rfl) (ea_cons (ev_var rfl) (ea_cons (ev_var rfl) ea_nil)))), iz1 _ (by omega), gg e14, .d11 _ _ _ _, by rw [dV]; rfl⟩) (ea_cons (ev_toldB (K := K) (J := fun d => d = .list [gD g]) (w := 4) (z := "fine") ev_c (ev_var rfl) (ev_var rfl) (ob_N (eka_cons (ek_of (ev_var rfl) ?_) eka_nil) (nt_one (nt_gang o hm.2)) (Nat.le_of_ble_eq_true rfl) rfl) ev_c i0 fun d hd => ⟨_, .g _ _ _ _ _ _ (by decide) (.d4 _ _ _), by rw [hd, dL]; rfl⟩) ea_nil)) (Nat.le_of_ble_eq_true rfl)) (by decide)) fun f3 H5 nf3 e5 hf3 => ?_
    · have gl := o.len
      exact tk_lst (n := 2) (e14 a _ ha) (tk_ints (iz g)) (by unfold iz; rw [List.length_map, List.length_map]; omega)
    exact s_ret (ev_is (ev_eqD (d := .list ((List.replicate 7 ("fine" : Str)).map PyData.str)) (e := .list ((List.replicate 7 ("fine" : Str)).map PyData.str)) (ed_of (ev_var rfl) (.lst (sq_of hf3) (dpa_strs (List.replicate 7 ("fine" : Str))))) (ed_strs (el_repS (z := "fine") (n := 7) ev_c ev_c (by decide) (by decide))) (by decide +kernel) (by decide +kernel)) (by decide +kernel)) fun H6 e6 => k H6 (e14.trans (e5.trans e6))
end


/-! ### _law_right -/
def sp_law_right : Sp := fun vs H Q _ => ∃ (p : Addr) (n m : Nat) (x : Int), vs = [.ref p, .int (m : Int), .int x] ∧ Po p n H ∧ n + 200 < 1000000000 ∧ (1 ≤ m ∧ m ≤ 20) ∧ (1 ≤ x ∧ x ≤ 1000000000000) ∧ ∀ H', Po p (n + 30) H' → Ex (Hm p H) H' → Q (.bl true) H'
section
variable {P : Program} {w : World} {K : PySem.W.Frag} {mg : Str → Option Value} {base : Heap}
theorem ok_law_right (T : Tx K mg) : FnOkG P w K mg base 13 T.f_law_right T.d_law_right ["store", "many_here", "heavy"] sp_law_right := by
  refine Kit.funG T.F_law_right sc_law_right (fun vs H Q E h => ?_) (fun cdv A outer s H vs Q E hg hr h => ?_)
  · obtain ⟨p, n, m, x, rfl, _⟩ := h
    rfl
  · obtain ⟨p, n, m, x, rfl, hpo, hn, hm, hx, k⟩ := h
    refine ⟨_, (pss_cons (ps_set (i := 3) sc_law_right.nd rfl (Or.inl rfl) (pe_call (ok_law_gang T) (hr.mono (by decide)) (by rfl) T.g_law_gang T.F_law_gang.kp T.b_law_gang .nil pass0 (pa_cons (pv 0) (pa_cons (pv 1) pa_nil))))
      (pss_cons (ps_for PassesOwn.never rfl (pi_tup (pe_tup (pa_cons pe_int (pa_cons (pe_un un_neg pe_int) (pa_cons pe_int (pa_cons (pe_op op_powX pe_int pe_int) (pa_cons (pe_op op_sub pe_int (pe_op op_powX pe_int pe_int)) pa_nil))))))) (pg_name (i := 4) sc_law_right.nd rfl (Or.inr rfl)) (pss_cons (ps_setLc (i := 6) (own := [("door", 5)]) (g := (gName 5)) (tt := tYes) rfl sc_law_right.nd rfl rfl (sw_true rfl rfl rfl (by decide +kernel)) (pi_tup (pe_tup (pa_cons pe_int (pa_cons pe_int (pa_cons pe_int (pa_cons pe_int (pa_cons pe_int (pa_cons pe_int pa_nil)))))))) (blkOk_by (own := [("door", 5)]) (N := n_law_right) (sc := defScope s_law_right) (by decide +kernel)) (fun _ _ _ _ _ => (pg_name (i := 5) sc_law_right.nd rfl (Or.inl rfl))) (fun _ _ _ _ _ => pts_nil) (fun _ _ _ _ _ => (pe_callG (ok_law_raised T) hg (hr.mono (by decide)) (by rfl) T.g_law_raised T.F_law_raised.kp T.b_law_raised (pa_cons (pv 5) (pa_cons (pv 4) (pa_cons pe_int (pa_cons pe_non (pa_cons pe_non pa_nil))))))))
      (pss_cons (ps_if (pt_cmpR (op_neD hr.units) (pe_op op_cat (pv 6) (pe_lc (own := [("door", 5)]) (g := (gName 5)) (tt := tYes) rfl sc_law_right.nd (pi_tup (pe_tup (pa_cons pe_int (pa_cons pe_int (pa_cons pe_int (pa_cons pe_int (pa_cons pe_int pa_nil))))))) (blkOk_by (own := [("door", 5)]) (N := n_law_right) (sc := defScope s_law_right) (by decide +kernel)) (fun _ _ _ _ _ => (pg_name (i := 5) sc_law_right.nd rfl (Or.inl rfl))) (fun _ _ _ _ _ => pts_nil) (fun _ _ _ _ _ => (pe_callG (ok_law_raised T) hg (hr.mono (by decide)) (by rfl) T.g_law_raised T.F_law_raised.kp T.b_law_raised (pa_cons (pv 5) (pa_cons (pv 4) (pa_cons pe_int (pa_cons (pe_un un_neg pe_int) (pa_cons (pe_un un_neg pe_int) pa_nil))))))))) (pe_op op_rep (pe_lst (pa_cons pe_str pa_nil)) pe_int) (nomark _)) (pss_one (ps_ret pe_bl)) pss_nil)
      (pss_one (ps_if (pt_cmpR op_ne (pe_callG (ok_law_raised T) hg (hr.mono (by decide)) (by rfl) T.g_law_raised T.F_law_raised.kp T.b_law_raised (pa_cons pe_int (pa_cons (pv 4) (pa_cons pe_int (pa_cons pe_int (pa_cons pe_non pa_nil)))))) pe_str (nomark _)) (pss_one (ps_ret pe_bl)) pss_nil)))))
      (pss_cons (ps_for PassesOwn.never rfl (pi_tup (pe_tup (pa_cons pe_int (pa_cons (pe_un un_neg pe_int) (pa_cons (pe_op op_add (pe_op op_powX pe_int pe_int) pe_int) (pa_cons (pe_op op_powX pe_int pe_int) pa_nil)))))) (pg_name (i := 4) sc_law_right.nd rfl (Or.inr rfl)) (pss_cons (ps_setLc (i := 6) (own := [("door", 5)]) (g := (gName 5)) (tt := tYes) rfl sc_law_right.nd rfl rfl (sw_true rfl rfl rfl (by decide +kernel)) (pi_range1 (by rfl) T.m_range (pa_cons pe_int pa_nil)) (blkOk_by (own := [("door", 5)]) (N := n_law_right) (sc := defScope s_law_right) (by decide +kernel)) (fun _ _ _ _ _ => (pg_name (i := 5) sc_law_right.nd rfl (Or.inl rfl))) (fun _ _ _ _ _ => pts_nil) (fun _ _ _ _ _ => (pe_callG (ok_law_raised T) hg (hr.mono (by decide)) (by rfl) T.g_law_raised T.F_law_raised.kp T.b_law_raised (pa_cons (pv 5) (pa_cons (pv 1) (pa_cons (pv 4) (pa_cons pe_non (pa_cons pe_non pa_nil))))))))
      (pss_one (ps_if (pt_cmpR (op_neD hr.units) (pe_op op_cat (pv 6) (pe_lc (own := [("door", 5)]) (g := (gName 5)) (tt := tYes) rfl sc_law_right.nd (pi_range2 (by rfl) T.m_range (pa_cons pe_int (pa_cons pe_int pa_nil))) (blkOk_by (own := [("door", 5)]) (N := n_law_right) (sc := defScope s_law_right) (by decide +kernel)) (fun _ _ _ _ _ => (pg_name (i := 5) sc_law_right.nd rfl (Or.inl rfl))) (fun _ _ _ _ _ => pts_nil) (fun _ _ _ _ _ => (pe_callG (ok_law_raised T) hg (hr.mono (by decide)) (by rfl) T.g_law_raised T.F_law_raised.kp T.b_law_raised (pa_cons (pv 5) (pa_cons (pv 1) (pa_cons (pv 4) (pa_cons (pe_un un_neg pe_int) (pa_cons (pe_un un_neg pe_int) pa_nil))))))))) (pe_op op_rep (pe_lst (pa_cons pe_str pa_nil)) pe_int) (nomark _)) (pss_one (ps_ret pe_bl)) pss_nil))))
      (pss_cons (ps_for PassesOwn.never rfl (pi_list (pe_call (ok_law_bad_gangs T) (hr.mono (by decide)) (by rfl) T.g_law_bad_gangs T.F_law_bad_gangs.kp T.b_law_bad_gangs .nil pass0 (pa_cons (pv 1) (pa_cons (pv 3) pa_nil)))) (pg_name (i := 4) sc_law_right.nd rfl (Or.inr rfl)) (pss_cons (ps_setLc (i := 6) (own := [("door", 5)]) (g := (gName 5)) (tt := tYes) rfl sc_law_right.nd rfl rfl (sw_true rfl rfl rfl (by decide +kernel)) (pi_tup (pe_tup (pa_cons pe_int (pa_cons pe_int (pa_cons pe_int (pa_cons pe_int (pa_cons pe_int pa_nil))))))) (blkOk_by (own := [("door", 5)]) (N := n_law_right) (sc := defScope s_law_right) (by decide +kernel)) (fun _ _ _ _ _ => (pg_name (i := 5) sc_law_right.nd rfl (Or.inl rfl))) (fun _ _ _ _ _ => pts_nil) (fun _ _ _ _ _ => (pe_callG (ok_law_raised T) hg (hr.mono (by decide)) (by rfl) T.g_law_raised T.F_law_raised.kp T.b_law_raised (pa_cons (pv 5) (pa_cons (pv 1) (pa_cons (pv 2) (pa_cons (pv 4) (pa_cons pe_non pa_nil))))))))
      (pss_one (ps_if (pt_cmpR (op_neD hr.units) (pe_op op_cat (pv 6) (pe_lst (pa_cons (pe_callG (ok_law_raised T) hg (hr.mono (by decide)) (by rfl) T.g_law_raised T.F_law_raised.kp T.b_law_raised (pa_cons pe_int (pa_cons (pv 1) (pa_cons (pv 2) (pa_cons (pv 1) (pa_cons (pv 4) pa_nil)))))) pa_nil))) (pe_op op_rep (pe_lst (pa_cons pe_str pa_nil)) pe_int) (nomark _)) (pss_one (ps_ret pe_bl)) pss_nil))))
      (pss_cons (ps_for PassesOwn.never rfl (pi_list (pe_call (ok_law_bad_lots T) (hr.mono (by decide)) (by rfl) T.g_law_bad_lots T.F_law_bad_lots.kp T.b_law_bad_lots .nil pass0 (pa_cons (pv 1) (pa_cons (pv 3) pa_nil)))) (pg_name (i := 4) sc_law_right.nd rfl (Or.inr rfl)) (pss_one (ps_if (pt_cmpR op_ne (pe_callG (ok_law_raised T) hg (hr.mono (by decide)) (by rfl) T.g_law_raised T.F_law_raised.kp T.b_law_raised (pa_cons pe_int (pa_cons (pv 1) (pa_cons (pv 2) (pa_cons (pv 4) (pa_cons pe_non pa_nil)))))) pe_str (nomark _)) (pss_one (ps_ret pe_bl)) pss_nil)))
      (pss_cons (ps_for PassesOwn.never rfl (pi_tup (pe_tup (pa_cons (pe_un un_neg pe_int) (pa_cons (pv 1) (pa_cons (pe_op op_powX pe_int pe_int) (pa_cons (pe_op op_sub pe_int (pe_op op_powX pe_int pe_int)) pa_nil)))))) (pg_name (i := 4) sc_law_right.nd rfl (Or.inr rfl)) (pss_cons (ps_setLc (i := 6) (own := [("door", 5)]) (g := (gName 5)) (tt := tYes) rfl sc_law_right.nd rfl rfl (sw_true rfl rfl rfl (by decide +kernel)) (pi_tup (pe_tup (pa_cons pe_int (pa_cons pe_int pa_nil)))) (blkOk_by (own := [("door", 5)]) (N := n_law_right) (sc := defScope s_law_right) (by decide +kernel)) (fun _ _ _ _ _ => (pg_name (i := 5) sc_law_right.nd rfl (Or.inl rfl))) (fun _ _ _ _ _ => pts_nil) (fun _ _ _ _ _ => (pe_callG (ok_law_raised T) hg (hr.mono (by decide)) (by rfl) T.g_law_raised T.F_law_raised.kp T.b_law_raised (pa_cons (pv 5) (pa_cons (pv 1) (pa_cons (pv 2) (pa_cons (pv 4) (pa_cons pe_int pa_nil))))))))
      (pss_cons (ps_set (i := 6) sc_law_right.nd rfl (Or.inl rfl) (pe_op op_cat (pv 6) (pe_lst (pa_cons (pe_callG (ok_law_raised T) hg (hr.mono (by decide)) (by rfl) T.g_law_raised T.F_law_raised.kp T.b_law_raised (pa_cons pe_int (pa_cons (pv 1) (pa_cons (pv 2) (pa_cons (pv 4) (pa_cons (pv 4) pa_nil)))))) (pa_cons (pe_callG (ok_law_raised T) hg (hr.mono (by decide)) (by rfl) T.g_law_raised T.F_law_raised.kp T.b_law_raised (pa_cons pe_int (pa_cons (pv 1) (pa_cons (pv 2) (pa_cons pe_int (pa_cons (pv 4) pa_nil)))))) pa_nil)))))
      (pss_cons (ps_expr (pe_bm PySem.F.plainAttrs_list PySem.F.slot_list_append PySem.F.type_list_append mt_append (pv 6) (pa_cons (pe_callG (ok_law_raised T) hg (hr.mono (by decide)) (by rfl) T.g_law_raised T.F_law_raised.kp T.b_law_raised (pa_cons pe_int (pa_cons (pv 1) (pa_cons (pv 2) (pa_cons (pe_op op_add (pv 4) (pe_callTy call_intB (by rfl) T.m_int (by decide +kernel) (pa_cons (pe_cmpR op_ge (pv 4) (pv 1) (nomark _)) pa_nil))) (pa_cons pe_non pa_nil)))))) pa_nil)))
      (pss_one (ps_if (pt_cmpR (op_neD hr.units) (pv 6) (pe_lst (pa_cons pe_str (pa_cons pe_str (pa_cons pe_str (pa_cons pe_str (pa_cons pe_str pa_nil)))))) (nomark _)) (pss_one (ps_ret pe_bl)) pss_nil))))))
      (pss_one (ps_ret (pe_and (pe_cmpR op_eq (pe_callG (ok_law_raised T) hg (hr.mono (by decide)) (by rfl) T.g_law_raised T.F_law_raised.kp T.b_law_raised (pa_cons pe_int (pa_cons (pv 1) (pa_cons (pv 2) (pa_cons pe_int (pa_cons (pv 3) pa_nil)))))) pe_str (nomark _)) (pe_one (pe_callG (ok_law_let_right T) hg (hr.mono (by decide)) (by rfl) T.g_law_let_right T.F_law_let_right.kp T.b_law_let_right (pa_cons (pv 1) (pa_cons (pv 2) (pa_cons (pv 3) pa_nil)))))))))))))), ?_⟩
    have hm' : (1 : Int) ≤ (m : Int) ∧ (m : Int) ≤ 20 := by omega
    have neg : ∀ {σ : L2.St} {G : Hp}, Ev (tUn (rU fun i => .int (-i)) (tC (.int 1))) σ G (.int (-1)) := ev_un ev_c ru_neg
    have p12 : ∀ {σ : L2.St} {G : Hp}, Ev (tOp (rI CPowX fun i j => .int (i ^ j.toNat)) (tC (.int 10)) (tC (.int 12))) σ G (.int 1000000000000) := ev_op ev_c ev_c (rv_I (by constructor <;> decide +kernel))
    have p30 : ∀ {σ : L2.St} {G : Hp}, Ev (tOp (rI CPowX fun i j => .int (i ^ j.toNat)) (tC (.int 10)) (tC (.int 30))) σ G (.int 1000000000000000000000000000000) := ev_op ev_c ev_c (rv_I (by constructor <;> decide +kernel))
    have m30 : ∀ {σ : L2.St} {G : Hp}, Ev (tOp (rI0 fun i j => .int (i - j)) (tC (.int 0)) (tOp (rI CPowX fun i j => .int (i ^ j.toNat)) (tC (.int 10)) (tC (.int 30)))) σ G (.int (-1000000000000000000000000000000)) := ev_op ev_c p30 rv_I0
    have gi : ∀ {G : Hp} {c : Int}, c.natAbs < 2 ^ 200 → Gv G (.int c) (.int c) := fun hc => gv_flat (v := .int _) (flat_int hc)
    have gn : ∀ {G : Hp}, Gv G .non .none := gv_flat (v := .non) trivial
    have g1 : ∀ {G : Hp}, Gv G (.int (-1)) (.int (-1)) := gi (by decide)
    refine q_asgCall (ea_cons (ev_var rfl) (ea_cons (ev_var rfl) ea_nil)) fun H1 e1 => ⟨p, n, m, rfl, hpo.ex e1, by omega, hm.1, hm.2, fun l g H2 lp hl o p2 e2 => ?_⟩
    have E2 : Ex (Hm p H) H2 := hm_trans (hm_of e1) e2
    have gg : ∀ {G : Hp}, Ex H2 G → Gv G (.ref l) (gD g) := fun e => gv_gang (e l _ hl) o hm.2
    -- the numbers of guests that are none
    refine q_forNU (xs := [.int 0, .int (-1), .int 21, .int 1000000000000000000000000000000, .int (-1000000000000000000000000000000)]) (eu_tup (ea_cons ev_c (ea_cons neg (ea_cons ev_c (ea_cons p30 (ea_cons m30 ea_nil))))) (Nat.le_of_ble_eq_true rfl))
      (fun q _ σ' H' => ∃ y4 y6 : Option V, σ' = [some (.ref p), some (.int (m : Int)), some (.int x), some (.ref l), y4, none, y6] ∧ Ex H2 H' ∧ H' q = some (.tup [.int 0, .int (-1), .int 21, .int 1000000000000000000000000000000, .int (-1000000000000000000000000000000)])) (fun q H5 _ e5 hq => ⟨_, _, rfl, e5, hq⟩) (fun q j σ' H' _ ⟨_, _, _, _, hq⟩ => st_of hq) ?_ ?_
    · rintro q j v σ' H' hi ⟨y4, y6, rfl, e, hq⟩
      obtain ⟨b, rfl, hb⟩ : ∃ b : Int, v = .int b ∧ ¬ (1 ≤ b ∧ b ≤ 20) := by
        have j5 : j < 5 := (List.getElem?_eq_some_iff.mp hi).1
        have : j = 0 ∨ j = 1 ∨ j = 2 ∨ j = 3 ∨ j = 4 := by omega
        rcases this with rfl | rfl | rfl | rfl | rfl <;> cases Option.some.inj hi <;> exact ⟨_, rfl, by decide⟩
      refine q_asgL (xs := (List.replicate 6 ("halls" : Str)).map V.str) (el_toldU (xs := [.int 0, .int 1, .int 2, .int 3, .int 4, .int 10]) (eu_tup (ea_cons ev_c (ea_cons ev_c (ea_cons ev_c (ea_cons ev_c (ea_cons ev_c (ea_cons ev_c ea_nil)))))) (Nat.le_of_ble_eq_true rfl)) (by decide) (fun _ => rfl) fun i y G eG hi => ?_) fun f H3 nf e3 hf => ?_
      · have ea : ∀ {σ : L2.St} {i : Int}, σ[5]? = some (some (.int i)) → σ[4]? = some (some (.int b)) → EvA (tCons (tVar 5) (tCons (tVar 4) (tCons (tC (.int 0)) (tCons (tC .non) (tCons (tC .non) tNil))))) σ G [.int i, .int b, .int 0, .non, .non] := fun h5 h4 => ea_cons (ev_var h5) (ea_cons (ev_var h4) (ea_cons ev_c (ea_cons ev_c (ea_cons ev_c ea_nil))))
        have i6 : i < 6 := (List.getElem?_eq_some_iff.mp hi).1
        have : i = 0 ∨ i = 1 ∨ i = 2 ∨ i = 3 ∨ i = 4 ∨ i = 5 := by omega
        rcases this with rfl | rfl | rfl | rfl | rfl | rfl <;> cases Option.some.inj hi
        · exact ⟨_, _, _, _, _, _, _, _, ea rfl rfl, gn, gn, .g _ _ _ _ _ _ (by decide) (.d0 _ _ _), by unfold dGrp; rw [if_neg hb]; rfl⟩
        · exact ⟨_, _, _, _, _, _, _, _, ea rfl rfl, gn, gn, .g _ _ _ _ _ _ (by decide) (.d1 _ _ _), by unfold dGrp; rw [if_neg hb]; rfl⟩
        · exact ⟨_, _, _, _, _, _, _, _, ea rfl rfl, gn, gn, .g _ _ _ _ _ _ (by decide) (.d2 _ _ _), by unfold dGrp; rw [if_neg hb]; rfl⟩
        · exact ⟨_, _, _, _, _, _, _, _, ea rfl rfl, gn, gn, .g _ _ _ _ _ _ (by decide) (.d3 _ _ _), by unfold dOpn; rw [if_neg hb]; rfl⟩
        · exact ⟨_, _, _, _, _, _, _, _, ea rfl rfl, gn, gn, .g _ _ _ _ _ _ (by decide) (.d4 _ _ _), by unfold dSpl; rw [if_neg hb]; rfl⟩
        · exact ⟨_, _, _, _, _, _, _, _, ea rfl rfl, gn, gn, .d10 _ _ _ _, by unfold dCnt; rw [if_neg hb]; rfl⟩
      have five := el_toldU (xs := [.int 5, .int 6, .int 7, .int 8, .int 9]) (z := "halls") (j := 5) (ns := [5]) (E := E0) (t := tCons (tVar 5) (tCons (tVar 4) (tCons (tC (.int 0)) (tCons (tUn (rU fun i => .int (-i)) (tC (.int 1))) (tCons (tUn (rU fun i => .int (-i)) (tC (.int 1))) tNil))))) (tl := tTup (tCons (tC (.int 5)) (tCons (tC (.int 6)) (tCons (tC (.int 7)) (tCons (tC (.int 8)) (tCons (tC (.int 9)) tNil)))))) (K := K) (σ := [some (.ref p), some (.int (m : Int)), some (.int x), some (.ref l), some (.int b), none, some (.ref f)]) (H := H3) (eu_tup (ea_cons ev_c (ea_cons ev_c (ea_cons ev_c (ea_cons ev_c (ea_cons ev_c ea_nil))))) (Nat.le_of_ble_eq_true rfl)) (by decide) (fun _ => rfl) fun i y G eG hi => by
        have ea : ∀ {σ : L2.St} {i : Int}, σ[5]? = some (some (.int i)) → σ[4]? = some (some (.int b)) → EvA (tCons (tVar 5) (tCons (tVar 4) (tCons (tC (.int 0)) (tCons (tUn (rU fun i => .int (-i)) (tC (.int 1))) (tCons (tUn (rU fun i => .int (-i)) (tC (.int 1))) tNil))))) σ G [.int i, .int b, .int 0, .int (-1), .int (-1)] := fun h5 h4 => ea_cons (ev_var h5) (ea_cons (ev_var h4) (ea_cons ev_c (ea_cons neg (ea_cons neg ea_nil))))
        have i5 : i < 5 := (List.getElem?_eq_some_iff.mp hi).1
        have : i = 0 ∨ i = 1 ∨ i = 2 ∨ i = 3 ∨ i = 4 := by omega
        rcases this with rfl | rfl | rfl | rfl | rfl <;> cases Option.some.inj hi
        · exact ⟨_, _, _, _, _, _, _, _, ea rfl rfl, g1, g1, .d5 _ _ _ _, by unfold dGst; rw [if_neg hb]; rfl⟩
        · exact ⟨_, _, _, _, _, _, _, _, ea rfl rfl, g1, g1, .d6 _ _ _ _, by unfold dGst; rw [if_neg hb]; rfl⟩
        · exact ⟨_, _, _, _, _, _, _, _, ea rfl rfl, g1, g1, .d7 _ _ _ _, by unfold dRnk; rw [if_neg hb]; rfl⟩
        · exact ⟨_, _, _, _, _, _, _, _, ea rfl rfl, g1, g1, .d8 _ _ _ _, by unfold dHom; rw [if_neg hb]; rfl⟩
        · exact ⟨_, _, _, _, _, _, _, _, ea rfl rfl, g1, g1, .d9 _ _ _ _, by unfold dHom; rw [if_neg hb]; rfl⟩
      refine q_when (b := false) (et_is (et_test (ev_neD (ed_strs (l := List.replicate 11 "halls") (el_catL (ev_var rfl) hf five (Nat.le_of_ble_eq_true rfl))) (ed_strs (el_repS (z := "halls") (n := 11) ev_c ev_c (by decide) (by decide))) (by decide +kernel) (by decide +kernel))) (by decide +kernel)) (fun hb => Bool.noConfusion hb) fun _ H4 e4 => ?_
      refine s_if (b := false) (et_is (et_test (ev_op (ev_told (z := "halls") ⟨11, b, 1, .int 0, .non, _, _, _, ea_cons ev_c (ea_cons (ev_var rfl) (ea_cons ev_c (ea_cons ev_c (ea_cons ev_c ea_nil)))), gi (by decide), gn, .d11 _ _ _ _, by unfold dGiv; rw [if_neg hb]; rfl⟩) ev_c (rv_ne rfl))) (by decide +kernel)) (fun hb => Bool.noConfusion hb) fun _ H5 e5 => ?_
      have e35 := e3.trans (e4.trans e5)
      exact ⟨_, _, rfl, e.trans e35, e35 q _ hq⟩
    rintro q σ' H3 ⟨y4, y6, rfl, e3, _⟩
    -- the weights that are none
    refine q_forNU (xs := [.int 0, .int (-1), .int (1000000000000 + 1), .int 1000000000000000000000000000000]) (eu_tup (ea_cons ev_c (ea_cons neg (ea_cons (ev_op p12 ev_c rv_I0) (ea_cons p30 ea_nil)))) (Nat.le_of_ble_eq_true rfl))
      (fun q _ σ' H' => ∃ y4 y6 : Option V, σ' = [some (.ref p), some (.int (m : Int)), some (.int x), some (.ref l), y4, none, y6] ∧ Ex H3 H' ∧ H' q = some (.tup [.int 0, .int (-1), .int (1000000000000 + 1), .int 1000000000000000000000000000000])) (fun q H5 _ e5 hq => ⟨_, _, rfl, e5, hq⟩) (fun q j σ' H' _ ⟨_, _, _, _, hq⟩ => st_of hq) ?_ ?_
    · rintro q j v σ' H' hi ⟨y4, y6, rfl, e, hq⟩
      obtain ⟨b, rfl, hb⟩ : ∃ b : Int, v = .int b ∧ ¬ (1 ≤ b ∧ b ≤ 1000000000000) := by
        have j5 : j < 4 := (List.getElem?_eq_some_iff.mp hi).1
        have : j = 0 ∨ j = 1 ∨ j = 2 ∨ j = 3 := by omega
        rcases this with rfl | rfl | rfl | rfl <;> cases Option.some.inj hi <;> exact ⟨_, rfl, by decide⟩
      refine q_asgL (xs := (List.replicate 5 ("heavy" : Str)).map V.str) (el_toldR (n := 5) (by decide) (fun _ => rfl) fun i G eG hi => ?_) fun f H4 nf e4 hf => ?_
      · have ea : ∀ {σ : L2.St} {i : Int}, σ[5]? = some (some (.int i)) → σ[1]? = some (some (.int (m : Int))) → σ[4]? = some (some (.int b)) → EvA (tCons (tVar 5) (tCons (tVar 1) (tCons (tVar 4) (tCons (tC .non) (tCons (tC .non) tNil))))) σ G [.int i, .int (m : Int), .int b, .non, .non] := fun h5 h1 h4 => ea_cons (ev_var h5) (ea_cons (ev_var h1) (ea_cons (ev_var h4) (ea_cons ev_c (ea_cons ev_c ea_nil))))
        have : i = 0 ∨ i = 1 ∨ i = 2 ∨ i = 3 ∨ i = 4 := by omega
        rcases this with rfl | rfl | rfl | rfl | rfl
        · exact ⟨0, _, _, _, _, _, _, _, ea rfl rfl rfl, gn, gn, .g _ _ _ _ _ _ (by decide) (.d0 _ _ _), by unfold dGrp; rw [if_pos hm', if_neg hb]; rfl⟩
        · exact ⟨1, _, _, _, _, _, _, _, ea rfl rfl rfl, gn, gn, .g _ _ _ _ _ _ (by decide) (.d1 _ _ _), by unfold dGrp; rw [if_pos hm', if_neg hb]; rfl⟩
        · exact ⟨2, _, _, _, _, _, _, _, ea rfl rfl rfl, gn, gn, .g _ _ _ _ _ _ (by decide) (.d2 _ _ _), by unfold dGrp; rw [if_pos hm', if_neg hb]; rfl⟩
        · exact ⟨3, _, _, _, _, _, _, _, ea rfl rfl rfl, gn, gn, .g _ _ _ _ _ _ (by decide) (.d3 _ _ _), by unfold dOpn; rw [if_pos hm', if_neg hb]; rfl⟩
        · exact ⟨4, _, _, _, _, _, _, _, ea rfl rfl rfl, gn, gn, .g _ _ _ _ _ _ (by decide) (.d4 _ _ _), by unfold dSpl; rw [if_pos hm', if_neg hb]; rfl⟩
      have five := el_toldR2 (lo := 5) (hi := 10) (z := "heavy") (j := 5) (ns := [5]) (E := E0) (t := tCons (tVar 5) (tCons (tVar 1) (tCons (tVar 4) (tCons (tUn (rU fun i => .int (-i)) (tC (.int 1))) (tCons (tUn (rU fun i => .int (-i)) (tC (.int 1))) tNil))))) (σ := [some (.ref p), some (.int (m : Int)), some (.int x), some (.ref l), some (.int b), none, some (.ref f)]) (H := H4) (by decide) (by decide) (fun _ => rfl) fun i G eG hlo hhi => by
        have ea : ∀ {σ : L2.St} {i : Int}, σ[5]? = some (some (.int i)) → σ[1]? = some (some (.int (m : Int))) → σ[4]? = some (some (.int b)) → EvA (tCons (tVar 5) (tCons (tVar 1) (tCons (tVar 4) (tCons (tUn (rU fun i => .int (-i)) (tC (.int 1))) (tCons (tUn (rU fun i => .int (-i)) (tC (.int 1))) tNil))))) σ G [.int i, .int (m : Int), .int b, .int (-1), .int (-1)] := fun h5 h1 h4 => ea_cons (ev_var h5) (ea_cons (ev_var h1) (ea_cons (ev_var h4) (ea_cons neg (ea_cons neg ea_nil))))
        have : i = 5 ∨ i = 6 ∨ i = 7 ∨ i = 8 ∨ i = 9 := by omega
        rcases this with rfl | rfl | rfl | rfl | rfl
        · exact ⟨5, _, _, _, _, _, _, _, ea rfl rfl rfl, g1, g1, .d5 _ _ _ _, by unfold dGst; rw [if_pos hm', if_neg hb]; rfl⟩
        · exact ⟨6, _, _, _, _, _, _, _, ea rfl rfl rfl, g1, g1, .d6 _ _ _ _, by unfold dGst; rw [if_pos hm', if_neg hb]; rfl⟩
        · exact ⟨7, _, _, _, _, _, _, _, ea rfl rfl rfl, g1, g1, .d7 _ _ _ _, by unfold dRnk; rw [if_pos hm', if_neg hb]; rfl⟩
        · exact ⟨8, _, _, _, _, _, _, _, ea rfl rfl rfl, g1, g1, .d8 _ _ _ _, by unfold dHom; rw [if_pos hm', if_neg hb]; rfl⟩
        · exact ⟨9, _, _, _, _, _, _, _, ea rfl rfl rfl, g1, g1, .d9 _ _ _ _, by unfold dHom; rw [if_pos hm', if_neg hb]; rfl⟩
      exact s_if (b := false) (et_is (et_test (ev_neD (ed_strs (l := List.replicate 10 "heavy") (el_catL (ev_var rfl) hf five (Nat.le_of_ble_eq_true rfl))) (ed_strs (el_repS (z := "heavy") (n := 10) ev_c ev_c (by decide) (by decide))) (by decide +kernel) (by decide +kernel))) (by decide +kernel)) (fun hb => Bool.noConfusion hb) fun _ H5 e5 => ⟨_, _, rfl, e.trans (e4.trans e5), (e4.trans e5) q _ hq⟩
    rintro q σ' H4 ⟨y4, y6, rfl, e4, _⟩
    have e24 := e3.trans e4
    -- the groups that are none
    refine q_forCall (ea_cons (ev_var rfl) (ea_cons (ev_var rfl) ea_nil)) fun H5 e5 => ⟨l, g, m, rfl, (e24.trans e5) l _ hl, o, hm.2, fun c ws H6 nc e6 hc hlen hall => ?_⟩
    have e26 := e24.trans (e5.trans e6)
    refine forQ_of (xs := ws) (fun _ σ' H' => ∃ y4 y6 : Option V, σ' = [some (.ref p), some (.int (m : Int)), some (.int x), some (.ref l), y4, none, y6] ∧ Ex H6 H') ⟨_, _, rfl, Ex.refl _⟩ (fun j σ' H' _ ⟨_, _, _, e⟩ => sq_of (e c _ hc)) ?_ ?_
    · rintro j v σ' H' hi ⟨y4, y6, rfl, e⟩
      obtain ⟨dd, gd, jd⟩ := (hall v (List.mem_of_getElem? hi)).ex e
      have jd : judgeG ((m : Int) - 1) (lsO dd) = false := jd
      have jo : judgeO ((m : Int) - 1) dd = false := by unfold judgeO; rw [jd]; rfl
      have x1 : dGrp m x dd = some 3 := by unfold dGrp; rw [if_pos hm', if_pos hx, jd]; rfl
      have x2 : dOpn m x dd = some 3 := by unfold dOpn; rw [if_pos hm', if_pos hx, jo]; rfl
      have x3 : dCnt m dd = some 3 := by unfold dCnt; rw [if_pos hm', jo]; rfl
      have x4 : dGiv m m dd = some 3 := by unfold dGiv; rw [if_pos hm', if_pos (by omega), jd]; rfl
      refine q_asgL (xs := (List.replicate 5 ("gang" : Str)).map V.str) (el_toldU (xs := [.int 0, .int 1, .int 2, .int 3, .int 10]) (eu_tup (ea_cons ev_c (ea_cons ev_c (ea_cons ev_c (ea_cons ev_c (ea_cons ev_c ea_nil))))) (Nat.le_of_ble_eq_true rfl)) (by decide) (fun _ => rfl) fun i y G eG hi => ?_) fun f H7 nf e7 hf => ?_
      · have ea : ∀ {σ : L2.St} {i : Int}, σ[5]? = some (some (.int i)) → σ[1]? = some (some (.int (m : Int))) → σ[2]? = some (some (.int x)) → σ[4]? = some (some v) → EvA (tCons (tVar 5) (tCons (tVar 1) (tCons (tVar 2) (tCons (tVar 4) (tCons (tC .non) tNil))))) σ G [.int i, .int (m : Int), .int x, v, .non] := fun h5 h1 h2 h4 => ea_cons (ev_var h5) (ea_cons (ev_var h1) (ea_cons (ev_var h2) (ea_cons (ev_var h4) (ea_cons ev_c ea_nil))))
        have i5 : i < 5 := (List.getElem?_eq_some_iff.mp hi).1
        have : i = 0 ∨ i = 1 ∨ i = 2 ∨ i = 3 ∨ i = 4 := by omega
        rcases this with rfl | rfl | rfl | rfl | rfl <;> cases Option.some.inj hi
        · exact ⟨_, _, _, _, _, _, _, _, ea rfl rfl rfl rfl, gd.ex eG, gn, .g _ _ _ _ _ _ (by decide) (.d0 _ _ _), by rw [x1]; rfl⟩
        · exact ⟨_, _, _, _, _, _, _, _, ea rfl rfl rfl rfl, gd.ex eG, gn, .g _ _ _ _ _ _ (by decide) (.d1 _ _ _), by rw [x1]; rfl⟩
        · exact ⟨_, _, _, _, _, _, _, _, ea rfl rfl rfl rfl, gd.ex eG, gn, .g _ _ _ _ _ _ (by decide) (.d2 _ _ _), by rw [x1]; rfl⟩
        · exact ⟨_, _, _, _, _, _, _, _, ea rfl rfl rfl rfl, gd.ex eG, gn, .g _ _ _ _ _ _ (by decide) (.d3 _ _ _), by rw [x2]; rfl⟩
        · exact ⟨_, _, _, _, _, _, _, _, ea rfl rfl rfl rfl, gd.ex eG, gn, .d10 _ _ _ _, by rw [x3]; rfl⟩
      exact s_if (b := false) (et_is (et_test (ev_neD (ed_strs (l := List.replicate 6 "gang") (el_catL (ev_var rfl) hf (el_lst (ea_cons (ev_told (z := "gang") ⟨11, m, x, .int (m : Int), v, _, _, _, ea_cons ev_c (ea_cons (ev_var rfl) (ea_cons (ev_var rfl) (ea_cons (ev_var rfl) (ea_cons (ev_var rfl) ea_nil)))), gi (by omega), gd.ex e7, .d11 _ _ _ _, by rw [x4]; rfl⟩) ea_nil) (Nat.le_of_ble_eq_true rfl)) (Nat.le_of_ble_eq_true rfl))) (ed_strs (el_repS (z := "gang") (n := 6) ev_c ev_c (by decide) (by decide))) (by decide +kernel) (by decide +kernel))) (by decide +kernel)) (fun hb => Bool.noConfusion hb) fun _ H8 e8 => ⟨_, _, rfl, e.trans (e7.trans e8)⟩
    rintro σ' H7 ⟨y4, y6, rfl, e7⟩
    have e27 := e26.trans e7
    -- the lists of groups that are none
    refine q_forCall (ea_cons (ev_var rfl) (ea_cons (ev_var rfl) ea_nil)) fun H8 e8 => ⟨l, g, m, rfl, (e27.trans e8) l _ hl, o, hm.2, fun c2 ws2 H9 nc2 e9 hc2 hlen2 hall2 => ?_⟩
    have e29 := e27.trans (e8.trans e9)
    refine forQ_of (xs := ws2) (fun _ σ' H' => ∃ y4 : Option V, σ' = [some (.ref p), some (.int (m : Int)), some (.int x), some (.ref l), y4, none, y6] ∧ Ex H9 H') ⟨_, rfl, Ex.refl _⟩ (fun j σ' H' _ ⟨_, _, e⟩ => sq_of (e c2 _ hc2)) ?_ ?_
    · rintro j v σ' H' hi ⟨y4, rfl, e⟩
      obtain ⟨dd, gd, jd⟩ := (hall2 v (List.mem_of_getElem? hi)).ex e
      have jd : judgeGs ((m : Int) - 1) (lsO dd) = false := jd
      have x1 : dSpl m x dd = some 4 := by unfold dSpl; rw [if_pos hm', if_pos hx, jd]; rfl
      exact s_if (b := false) (et_is (et_test (ev_op (ev_told (z := "lots") ⟨4, m, x, v, .non, _, _, _, ea_cons ev_c (ea_cons (ev_var rfl) (ea_cons (ev_var rfl) (ea_cons (ev_var rfl) (ea_cons ev_c ea_nil)))), gd, gn, .g _ _ _ _ _ _ (by decide) (.d4 _ _ _), by rw [x1]; rfl⟩) ev_c (rv_ne rfl))) (by decide +kernel)) (fun hb => Bool.noConfusion hb) fun _ H10 e10 => ⟨_, rfl, e.trans e10⟩
    rintro σ' H10 ⟨y4b, rfl, e10⟩
    have e210 := e29.trans e10
    -- the guests, ranks and numbers of tables that are none
    refine q_forNU (xs := [.int (-1), .int (m : Int), .int 1000000000000000000000000000000, .int (-1000000000000000000000000000000)]) (eu_tup (ea_cons neg (ea_cons (ev_var rfl) (ea_cons p30 (ea_cons m30 ea_nil)))) (Nat.le_of_ble_eq_true rfl))
      (fun q _ σ' H' => ∃ y4 y6 : Option V, σ' = [some (.ref p), some (.int (m : Int)), some (.int x), some (.ref l), y4, none, y6] ∧ Ex H10 H' ∧ H' q = some (.tup [.int (-1), .int (m : Int), .int 1000000000000000000000000000000, .int (-1000000000000000000000000000000)])) (fun q H5 _ e5 hq => ⟨_, _, rfl, e5, hq⟩) (fun q j σ' H' _ ⟨_, _, _, _, hq⟩ => st_of hq) ?_ ?_
    · rintro q j v σ' H' hi ⟨y4, y6, rfl, e, hq⟩
      obtain ⟨b, rfl, hb, hbz, hb2⟩ : ∃ b : Int, v = .int b ∧ ¬ (0 ≤ b ∧ b < (m : Int)) ∧ b.natAbs < 2 ^ 199 ∧ ¬ (1 ≤ b + (if decide ((m : Int) ≤ b) then 1 else 0) ∧ b + (if decide ((m : Int) ≤ b) then 1 else 0) ≤ (m : Int)) := by
        have j5 : j < 4 := (List.getElem?_eq_some_iff.mp hi).1
        have : j = 0 ∨ j = 1 ∨ j = 2 ∨ j = 3 := by omega
        rcases this with rfl | rfl | rfl | rfl <;> cases Option.some.inj hi
        · exact ⟨_, rfl, by omega, by omega, by rw [decide_eq_false (by omega)]; simp⟩
        · exact ⟨_, rfl, by omega, by omega, by rw [decide_eq_true (Int.le_refl _)]; simp; omega⟩
        · exact ⟨_, rfl, by omega, by omega, by rw [decide_eq_true (by omega)]; simp; omega⟩
        · exact ⟨_, rfl, by omega, by omega, by rw [decide_eq_false (by omega)]; simp⟩
      have gb : ∀ {G : Hp}, Gv G (.int b) (.int b) := gi (by omega)
      have x1 : dGst m x b = some 2 := by unfold dGst; rw [if_pos hm', if_pos hx, if_neg hb]
      have x2 : dRnk m x b b = some 5 := by unfold dRnk; rw [if_pos hm', if_pos hx, if_neg (by omega)]
      have x3 : dRnk m x 0 b = some 2 := by unfold dRnk; rw [if_pos hm', if_pos hx, if_pos (by omega), if_neg hb]
      have x4 : dGiv m (b + (if decide ((m : Int) ≤ b) then 1 else 0)) .none = some 5 := by unfold dGiv; rw [if_pos hm', if_neg hb2]
      refine q_asgL (xs := (List.replicate 2 ("who" : Str)).map V.str) (el_toldU (xs := [.int 5, .int 6]) (eu_tup (ea_cons ev_c (ea_cons ev_c ea_nil)) (Nat.le_of_ble_eq_true rfl)) (by decide) (fun _ => rfl) fun i y G eG hi => ?_) fun f H11 nf e11 hf => ?_
      · have i2 : i < 2 := (List.getElem?_eq_some_iff.mp hi).1
        have : i = 0 ∨ i = 1 := by omega
        rcases this with rfl | rfl <;> cases Option.some.inj hi
        · exact ⟨_, _, _, _, _, _, _, _, ea_cons (ev_var rfl) (ea_cons (ev_var rfl) (ea_cons (ev_var rfl) (ea_cons (ev_var rfl) (ea_cons ev_c ea_nil)))), gb, gi (by decide), .d5 _ _ _ _, by rw [x1]; rfl⟩
        · exact ⟨_, _, _, _, _, _, _, _, ea_cons (ev_var rfl) (ea_cons (ev_var rfl) (ea_cons (ev_var rfl) (ea_cons (ev_var rfl) (ea_cons ev_c ea_nil)))), gb, gi (by decide), .d6 _ _ _ _, by rw [x1]; rfl⟩
      refine q_asgL (xs := (List.replicate 2 ("who" : Str)).map V.str ++ [V.str "far", .str "who"]) (el_catL (ev_var rfl) hf (el_lst (ea_cons (ev_told ⟨7, m, x, .int b, .int b, _, _, _, ea_cons ev_c (ea_cons (ev_var rfl) (ea_cons (ev_var rfl) (ea_cons (ev_var rfl) (ea_cons (ev_var rfl) ea_nil)))), gb, gb, .d7 _ _ _ _, by rw [x2]; rfl⟩) (ea_cons (ev_told ⟨7, m, x, .int 0, .int b, _, _, _, ea_cons ev_c (ea_cons (ev_var rfl) (ea_cons (ev_var rfl) (ea_cons ev_c (ea_cons (ev_var rfl) ea_nil)))), gi (by decide), gb, .d7 _ _ _ _, by rw [x3]; rfl⟩) ea_nil)) (Nat.le_of_ble_eq_true rfl)) (by decide)) fun f2 H12 nf2 e12 hf2 => ?_
      refine q_app (v := .str "far") hf2 (ev_var rfl) (ev_told ⟨11, m, x, .int (b + (if decide ((m : Int) ≤ b) then 1 else 0)), .non, _, _, _, ea_cons ev_c (ea_cons (ev_var rfl) (ea_cons (ev_var rfl) (ea_cons (ev_op (ev_var rfl) (ev_intB (ev_op (ev_var rfl) (ev_var rfl) rv_I0)) ?_) (ea_cons ev_c ea_nil)))), gi ?_, gn, .d11 _ _ _ _, by rw [x4]; rfl⟩) (by decide) fun H13 e13 => ?_
      · exact rv_I0
      · split <;> omega
      have nff : H' f2 = none := fresh_back e11 nf2
      have em : Ex H' (upd H13 f2 (.lst (((List.replicate 2 ("who" : Str)).map V.str ++ [V.str "far", .str "who"]) ++ [.str "far"]))) := Ex.mut (e11.trans (e12.trans e13)) nff
      exact s_if (b := false) (et_is (et_test (ev_neD (d := .list ([("who" : Str), "who", "far", "who", "far"].map PyData.str)) (ed_of (ev_var rfl) (.lst (sq_of upd_same) (dpa_strs [("who" : Str), "who", "far", "who", "far"]))) (ed_strs (l := [("who" : Str), "who", "far", "who", "far"]) (el_lst (ea_cons ev_c (ea_cons ev_c (ea_cons ev_c (ea_cons ev_c (ea_cons ev_c ea_nil))))) (Nat.le_of_ble_eq_true rfl))) (by decide +kernel) (by decide +kernel))) (by decide +kernel)) (fun hb => Bool.noConfusion hb) fun _ H14 e14 => ⟨_, _, rfl, e.trans (em.trans e14), (em.trans e14) q _ hq⟩
    rintro q σ' H11 ⟨y11, y12, rfl, e11, _⟩
    have e211 := e210.trans e11
    have xf : dGiv m 0 (gD g) = some 5 := by unfold dGiv; rw [if_pos hm', if_neg (by omega)]
    refine s_ret (v := .bl true) (ev_is (ev_andV (a := true) (b := true) (ev_is (ev_op (ev_told (z := "far") ⟨11, m, x, .int 0, .ref l, _, _, _, ea_cons ev_c (ea_cons (ev_var rfl) (ea_cons (ev_var rfl) (ea_cons ev_c (ea_cons (ev_var rfl) ea_nil)))), gi (by decide), gg e211, .d11 _ _ _ _, by rw [xf]; rfl⟩) ev_c (rv_eq rfl)) (by decide +kernel)) fun _ => ev_call (ea_cons (ev_var rfl) (ea_cons (ev_var rfl) (ea_cons (ev_var rfl) ea_nil))) (sv_let (e211 l _ hl) o hm hx)) rfl) fun H12 e12 => ?_
    exact k H12 (p2.ex (e211.trans e12)) (hm_trans E2 (hm_of (e211.trans e12)))
end


/-! ### a new list of new lists -/
theorem paired_imp {α β : Type} {F G : α → β → Prop} (f : ∀ a b, F a b → G a b) : ∀ {l : List α} {m : List β}, Paired F l m → Paired G l m
  | _, _, .nil => .nil
  | _, _, .cons h t => .cons (f _ _ h) (paired_imp f t)
def EvLB (te : TE) (σ : L2.St) (H : Hp) (rs : List (List Nat)) : Prop := ∀ H1, Ex H H1 → ∀ Q : VK, (∀ p vs H2, H1 p = none → Ex H1 H2 → H2 p = some (.lst vs) → Paired (Lb H2) vs rs → Q (.ref p) H2) → te σ H1 Q
theorem s_retLB {te : TE} {σ : L2.St} {H : Hp} {D : Ends} {rs : List (List Nat)} (h : EvLB te σ H rs) (k : ∀ p vs H1, H p = none → Ex H H1 → H1 p = some (.lst vs) → Paired (Lb H1) vs rs → D.rt (.ref p) H1) : tRet te D σ H := h H (Ex.refl H) _ k
def Lc (Dl : Addr) (H : Hp) (v : V) (r : List Nat) : Prop := ∃ b, v = .ref b ∧ b ≠ Dl ∧ H b = some (.lst (nv r))
theorem Lc.ex {Dl : Addr} {H H' : Hp} {v : V} {r : List Nat} (e : Ex H H') (h : Lc Dl H v r) : Lc Dl H' v r := by
  obtain ⟨b, rfl, n, h⟩ := h
  exact ⟨b, rfl, n, e b _ h⟩
theorem Lc.upd {Dl : Addr} {H : Hp} {o : HO} {v : V} {r : List Nat} (h : Lc Dl H v r) : Lc Dl (upd H Dl o) v r := by
  obtain ⟨b, rfl, n, h⟩ := h
  exact ⟨b, rfl, n, by rw [upd_ne n]; exact h⟩
theorem Lc.lb {Dl : Addr} {H : Hp} {v : V} {r : List Nat} (h : Lc Dl H v r) : Lb H v r := by
  obtain ⟨b, rfl, n, h⟩ := h
  exact ⟨b, rfl, h⟩
section
variable {K : PySem.W.Frag} {σ : L2.St} {H : Hp} {ta tb te : TE} {t : TT} {D : Ends} {tz : TS}
/-- [a new list for i in range(n) if t] -/
theorem elb_R1f {tn : TA} {j : Nat} {vs : List Nat} {n : Int} (f : Nat → Bool) (F : Nat → List Nat) (h : EvA tn σ H [.int n]) (hn : 0 ≤ n ∧ n ≤ 40000) (hw : ∀ x, wipe ((wipe σ vs).set j (some x)) vs = wipe σ vs)
    (ht : ∀ (i : Nat) H1, Ex H H1 → (i : Int) < n → EvT t ((wipe σ vs).set j (some (.int (i : Int)))) H1 (f i)) (he : ∀ (i : Nat) H1, Ex H H1 → (i : Int) < n → f i = true → EvL te ((wipe σ vs).set j (some (.int (i : Int)))) H1 (nv (F i))) :
    EvLB (tLc (iRng1 tn) (gName j) t te vs) σ H (((List.range n.toNat).filter f).map F) := fun H0 e Q q => h H0 e _ fun H1 e1 => ⟨n, rfl, by omega, by omega, fun Dl hD =>
  lc_range (lo := 0) (n := n.toNat) (fun i H' => Ex H1 H' ∧ ∃ us, H' Dl = some (.lst us) ∧ Paired (Lc Dl H') us (((List.range i).filter f).map F)) ⟨Ex.new hD, [], upd_same, .nil⟩ (fun i H' hi p => by
    obtain ⟨p1, us, p2, p3⟩ := p
    have e0 : (0 : Int) + (i : Int) = (i : Int) := Int.zero_add _
    have ul : us.length ≤ i := by
      have := Paired.length p3
      rw [List.length_map] at this
      have := List.length_filter_le f (List.range i)
      rw [List.length_range] at this
      omega
    show wipe ((wipe σ vs).set j (some (.int ((0 : Int) + (i : Int))))) vs = wipe σ vs ∧ t ((wipe σ vs).set j (some (.int ((0 : Int) + (i : Int))))) H' fun b H3 => if b = true then te ((wipe σ vs).set j (some (.int ((0 : Int) + (i : Int))))) H3 fun y H4 => ∃ acc, H4 Dl = some (.lst acc) ∧ acc.length < sizeLine ∧ (Ex H1 (upd H4 Dl (.lst (acc ++ [y]))) ∧ ∃ us, (upd H4 Dl (.lst (acc ++ [y]))) Dl = some (.lst us) ∧ Paired (Lc Dl (upd H4 Dl (.lst (acc ++ [y])))) us (((List.range (i + 1)).filter f).map F)) else (Ex H1 H3 ∧ ∃ us, H3 Dl = some (.lst us) ∧ Paired (Lc Dl H3) us (((List.range (i + 1)).filter f).map F))
    rw [e0]
    refine ⟨hw _, ht i H1 (e.trans e1) (by omega) H' p1 _ fun H3 e3 => ?_⟩
    have nx : ((List.range (i + 1)).filter f).map F = ((List.range i).filter f).map F ++ (([i].filter f).map F) := by rw [List.range_succ, List.filter_append, List.map_append]
    rw [nx]
    cases hf : f i with
    | true =>
      rw [if_pos rfl]
      refine he i H1 (e.trans e1) (by omega) hf H3 (p1.trans e3) _ fun l H4 hl4 e4 h4 => ?_
      have lD : l ≠ Dl := fun z => by
        subst z
        rw [e3 l _ p2] at hl4
        cases hl4
      refine ⟨us, e4 Dl _ (e3 Dl _ p2), sz_lt (by omega), Ex.mut (p1.trans (e3.trans e4)) hD, _, upd_same, ?_⟩
      have : [i].filter f = [i] := by simp [hf]
      rw [this]
      exact Paired.snoc (paired_imp (fun _ _ z => (z.ex (e3.trans e4)).upd) p3) ⟨l, rfl, lD, by rw [upd_ne lD]; exact h4⟩
    | false =>
      rw [if_neg (by simp)]
      refine ⟨p1.trans e3, us, e3 Dl _ p2, ?_⟩
      have : [i].filter f = [] := by simp [hf]
      rw [this, List.map_nil, List.append_nil]
      exact paired_imp (fun _ _ z => z.ex e3) p3) (fun H' p => by
      obtain ⟨p1, us, p2, p3⟩ := p
      exact q Dl us H' (fresh_back e1 hD) (e1.trans p1) p2 (paired_imp (fun _ _ z => z.lb) p3))⟩
end


/-! ### law -/
section
variable {K : PySem.W.Frag} {σ : L2.St} {H0 H : Hp} {ta tb tc te tl tm tw th : TE} {t : TT} {p : Addr} {k k1 k2 : Nat} {R : V → Hp → Prop} {J : PyData → Prop}
theorem ep_right {E E1 E2 : XK} {b : Int} (ha : ∀ G, Ev ta σ G (.ref p)) (hb : ∀ G, Ev tb σ G (.int b)) (b0 : 1 ≤ b) (b1 : b ≤ 20) : EvP p 300 (tCall sp_law_right [] E (tCons ta (tCons (tOp (rI0 fun i j => .int (i + j)) (tC (.int 1)) (tCall sp_law_pick [] E1 (tCons ta (tCons tb tNil)))) (tCons (tCall sp_law_heavy [] E2 (tCons ta tNil)) tNil)))) σ H (fun v _ => v = .bl true) := fun n H1 e hp hn Q q =>
  ha H1 H1 (Ex.refl _) _ fun H2 e2 => ha H2 H2 (Ex.refl _) _ fun H3 e3 => hb H3 H3 (Ex.refl _) _ fun H4 e4 => ⟨p, n, b, rfl, hp.ex (e2.trans (e3.trans e4)), by omega, by omega, by omega, fun r H5 r0 r1 p5 e5 => ⟨1, r, rfl, rfl, ha H5 H5 (Ex.refl _) _ fun H6 e6 => ⟨p, n + 1, rfl, p5.ex e6, by omega, fun x H7 x1 x2 p7 e7 =>
    ⟨p, n + 1 + 3, (1 + r).toNat, x, by rw [show (((1 + r).toNat : Nat) : Int) = 1 + r by omega]; rfl, p7, by omega, by omega, ⟨x1, x2⟩, fun H8 p8 e8 => q _ H8 rfl (p8.mono (by omega)) (hm_trans (hm_of (e2.trans (e3.trans e4))) (hm_trans e5 (hm_trans (hm_of e6) (hm_trans e7 e8))))⟩⟩⟩⟩
theorem q_asgLB {D : Ends} {tz : TS} {te : TE} {i : Nat} {rs : List (List Nat)} (h : EvLB te σ H rs) (k : ∀ p vs H1, H p = none → Ex H H1 → H1 p = some (.lst vs) → Paired (Lb H1) vs rs → tz D (σ.set i (some (.ref p))) H1) : tSeq (tAsg te (gName i)) tz D σ H := h H (Ex.refl H) _ k
/-- a list of lists, one more behind -/
theorem ob_catN {a : Addr} {us : List V} {ds : List PyData} {d : PyData} (ha : Ev ta σ H (.ref a)) (hx : H a = some (.lst us)) (pl : Paired (Tk 3 H) us ds) (hl : ds.length ≤ 50) (h : EvK 3 te σ H d) (lk : LenOk2 (.list (ds ++ [d]))) (sh : ShT (.list (ds ++ [d]))) (j : J (.list (ds ++ [d]))) : EvB J K (tOp rCat ta (tLst (tCons te tNil))) σ H := fun H1 e Q q =>
  ha H1 e _ fun H2 e2 => h H2 (e.trans e2) _ fun v H3 e3 hv => ⟨sz_of (Nat.le_of_ble_eq_true rfl), fun b hb => by
    have e13 := e2.trans e3
    have ul : us.length = ds.length := Paired.length pl
    have app : ∀ {xs : List V} {es : List PyData}, Paired (Tk 3 H3) xs es → Paired (Tk 3 H3) (xs ++ [v]) (es ++ [d]) := fun {xs es} h => by
      induction h with
      | nil => exact .cons hv .nil
      | cons a _ ih => exact .cons a ih
    refine ⟨a, b, us, [v], rfl, rfl, by
      rw [upd_ne (ne_of_none (e13 a _ (e a _ hx)) hb)]
      exact e13 a _ (e a _ hx), upd_same, sz_of (by simp; omega), fun l hl' => q _ _ (e13.trans ((Ex.new hb).trans (Ex.new hl'))) ⟨_, ⟨.inl (tk_lst (n := 3) upd_same (tk_imp (fun _ _ => Tk.ex ((Ex.new hb).trans (Ex.new hl'))) (app (tk_imp (fun _ _ => Tk.ex (e.trans e13)) pl))) (by rw [List.length_append]; show ds.length + 1 ≤ _; omega)), lk, sh⟩, j⟩⟩⟩
end
theorem pl_tks {H : Hp} : ∀ {us : List V} {gs : List (List Nat)}, Paired (Lb H) us gs → (∀ g ∈ gs, g.length ≤ 60) → Paired (Tk 3 H) us (gs.map gD)
  | _, _, .nil, _ => .nil
  | _, _, .cons h t, hz => by
    obtain ⟨b, rfl, hb⟩ := h
    exact .cons (tk_lst (n := 2) hb (tk_ints _) (by
      have := hz _ List.mem_cons_self
      unfold iz
      rw [List.length_map, List.length_map]
      omega)) (pl_tks t fun g hg => hz g (List.mem_cons_of_mem _ hg))
def ones : List (List Nat) := (List.range 20).map fun i => [i]
def lenB (d : PyData) : Bool := decide (((lsO d).getD []).length ≤ 60) && ((lsO d).getD []).all fun e => decide (((lsO e).getD []).length ≤ 60)
theorem lenB_ok {d : PyData} (h : lenB d = true) : LenOk2 d := by
  unfold lenB at h
  rw [Bool.and_eq_true, decide_eq_true_iff, List.all_eq_true] at h
  exact ⟨h.1, fun e he => by
    show ((lsO e).getD []).length ≤ 60
    exact of_decide_eq_true (h.2 e he)⟩
theorem sh_ones : ShT (.list (ones.map gD)) := ⟨by decide +kernel, by decide +kernel, by decide +kernel⟩
theorem sh_ones1 : ShT (.list (ones.map gD ++ [gD [20]])) := ⟨by decide +kernel, by decide +kernel, by decide +kernel⟩
theorem d_ones : dSpl 20 1000000000000 (.list (ones.map gD)) = none := by decide +kernel
theorem d_ones1 : dSpl 20 1 (.list (ones.map gD ++ [gD [20]])) = some 4 := by decide +kernel
theorem d_rg : dGrp 20 1000000000000 (.list ((rgV 0 20).map flatD)) = none := by decide +kernel
theorem rg20 : RgOk 0 20 := by
  unfold RgOk
  decide
theorem max_min4 {m : Int} (h0 : 0 ≤ m) : 0 ≤ (if (if m < 4 then m else 4) > 1 then (if m < 4 then m else 4) else 1) ∧ (if (if m < 4 then m else 4) > 1 then (if m < 4 then m else 4) else 1) ≤ (4 : Int) := by
  split <;> split <;> omega
def sp_law (K : PySem.W.Frag) : Sp := fun vs H Q _ => ∃ (a : Addr) (ns : List Int), vs = [.ref a] ∧ SqL K H a (ns.map V.int) ∧ ns.length ≤ 63 ∧ ∀ H', Q (.bl true) H'
section
variable {P : Program} {w : World} {K : PySem.W.Frag} {mg : Str → Option Value} {base : Heap}
theorem ok_law (T : Tx K mg) : FnOkG P w K mg base 15 T.f_law T.d_law ["script"] (sp_law K) := by
  refine funG T.F_law sc_law (fun vs H Q E h => ?_) (fun cdv A outer s H vs Q E hg hr h => ?_)
  · obtain ⟨a, ns, rfl, _⟩ := h
    rfl
  · obtain ⟨a, ns, rfl, hs, hl, k⟩ := h
    refine ⟨_, (pss_cons (ps_for PassesOwn.never rfl (pi_range1 (by rfl) T.m_range (pa_cons (pe_callB (call_maxR rfl) (by rfl) T.m_max (by decide +kernel) (pa_cons pe_int (pa_cons (pe_callB (call_minR rfl) (by rfl) T.m_min (by decide +kernel) (pa_cons pe_int (pa_cons (pe_callB call_lenR (by rfl) T.m_len (by decide +kernel) (pa_cons (pv 0) pa_nil)) pa_nil))) pa_nil))) pa_nil)) (pg_name (i := 1) sc_law.nd rfl (Or.inl rfl)) (pss_cons (ps_set (i := 2) sc_law.nd rfl (Or.inl rfl) (pe_call (ok_law_store T) (hr.mono (by decide)) (by rfl) T.g_law_store T.F_law_store.kp T.b_law_store .nil pass0 (pa_cons (pv 0) (pa_cons (pv 1) pa_nil))))
      (pss_one (ps_for PassesOwn.never rfl (pi_tup (pe_tup (pa_cons pe_int (pa_cons pe_int pa_nil)))) (pg_name (i := 3) sc_law.nd rfl (Or.inl rfl)) (pss_one (ps_if (pt_not (pt_val (pe_callG (ok_law_right T) hg (hr.mono (by decide)) (by rfl) T.g_law_right T.F_law_right.kp T.b_law_right (pa_cons (pv 2) (pa_cons (pe_op op_add pe_int (pe_call (ok_law_pick T) (hr.mono (by decide)) (by rfl) T.g_law_pick T.F_law_pick.kp T.b_law_pick .nil pass0 (pa_cons (pv 2) (pa_cons (pv 3) pa_nil)))) (pa_cons (pe_call (ok_law_heavy T) (hr.mono (by decide)) (by rfl) T.g_law_heavy T.F_law_heavy.kp T.b_law_heavy .nil pass0 (pa_cons (pv 2) pa_nil)) pa_nil)))))) (pss_one (ps_ret pe_bl)) pss_nil))))))
      (pss_cons (ps_setLc (i := 5) (own := [("who", 4)]) (g := (gName 4)) (tt := tYes) rfl sc_law.nd rfl rfl (sw_true rfl rfl rfl (by decide +kernel)) (pi_range1 (by rfl) T.m_range (pa_cons pe_int pa_nil)) (blkOk_by (own := [("who", 4)]) (N := n_law) (sc := defScope s_law) (by decide +kernel)) (fun _ _ _ _ _ => (pg_name (i := 4) sc_law.nd rfl (Or.inl rfl))) (fun _ _ _ _ _ => pts_nil) (fun _ _ _ _ _ => (pe_lst (pa_cons (pv 4) pa_nil))))
      (pss_cons (ps_set (i := 6) sc_law.nd rfl (Or.inl rfl) (pe_lst (pa_cons (pe_callG (ok_law_raised T) hg (hr.mono (by decide)) (by rfl) T.g_law_raised T.F_law_raised.kp T.b_law_raised (pa_cons pe_int (pa_cons pe_int (pa_cons (pe_op op_powX pe_int pe_int) (pa_cons (pv 5) (pa_cons pe_int pa_nil)))))) (pa_cons (pe_callG (ok_law_raised T) hg (hr.mono (by decide)) (by rfl) T.g_law_raised T.F_law_raised.kp T.b_law_raised (pa_cons pe_int (pa_cons pe_int (pa_cons (pe_op op_powX pe_int pe_int) (pa_cons (pe_listRg rfl (by rfl) T.m_list (prg_1 (by rfl) T.m_range pe_int)) (pa_cons pe_int pa_nil)))))) pa_nil))))
      (pss_cons (ps_set (i := 6) sc_law.nd rfl (Or.inl rfl) (pe_op op_cat (pv 6) (pe_lst (pa_cons (pe_callG (ok_law_raised T) hg (hr.mono (by decide)) (by rfl) T.g_law_raised T.F_law_raised.kp T.b_law_raised (pa_cons pe_int (pa_cons pe_int (pa_cons pe_int (pa_cons (pe_op op_powX pe_int pe_int) (pa_cons pe_int pa_nil)))))) (pa_cons (pe_callG (ok_law_raised T) hg (hr.mono (by decide)) (by rfl) T.g_law_raised T.F_law_raised.kp T.b_law_raised (pa_cons pe_int (pa_cons pe_int (pa_cons pe_int (pa_cons (pe_op op_sub pe_int (pe_op op_powX pe_int pe_int)) (pa_cons pe_int pa_nil)))))) pa_nil)))))
      (pss_one (ps_ret (pe_and (pe_cmpR (op_eqD hr.units) (pe_op op_cat (pv 6) (pe_lst (pa_cons (pe_callG (ok_law_raised T) hg (hr.mono (by decide)) (by rfl) T.g_law_raised T.F_law_raised.kp T.b_law_raised (pa_cons pe_int (pa_cons pe_int (pa_cons pe_int (pa_cons pe_int (pa_cons pe_int pa_nil)))))) pa_nil))) (pe_op op_rep (pe_lst (pa_cons pe_str pa_nil)) pe_int) (nomark _)) (pe_one (pe_cmpR op_eq (pe_callG (ok_law_raised T) hg (hr.mono (by decide)) (by rfl) T.g_law_raised T.F_law_raised.kp T.b_law_raised (pa_cons pe_int (pa_cons pe_int (pa_cons pe_int (pa_cons (pe_op op_cat (pv 5) (pe_lst (pa_cons (pe_lst (pa_cons pe_int pa_nil)) pa_nil))) (pa_cons pe_int pa_nil)))))) pe_str (nomark _)))))))))), ?_⟩
    have mm := max_min4 (m := ((ns.map V.int).length : Int)) (by omega)
    refine q_forR1 (by walk_at "ea") ⟨mm.1, Int.le_trans mm.2 (by decide)⟩ (fun i σ' H' => ∃ y1 y2 y3, σ' = [some (.ref a), y1, y2, y3, none, none, none] ∧ Ex H H') (fun H1 e1 => ⟨none, none, none, rfl, e1⟩) ?_ ?_
    · rintro i σ' H' hi ⟨y1, y2, y3, rfl, e⟩
      have hi3 : (i : Int) < 4 := Int.lt_of_lt_of_le hi mm.2
      refine pq_pouch (by walk_at "ea") (ex_l e hs) (by omega) fun p H1 hp e1 hpo => ?_
      refine s_forNU (xs := [.int 20, .int 3]) (eu_tup (ea_cons ev_c (ea_cons ev_c ea_nil)) (Nat.le_of_ble_eq_true rfl)) (fun q j σ' H2 => ∃ z3, σ' = [some (.ref a), some (.int (i : Int)), some (.ref p), z3, none, none, none] ∧ Ex H' H2 ∧ Po p (300 * j) H2 ∧ H2 q = some (.tup [.int 20, .int 3]) ∧ q ≠ p) (fun q H2 nq e2 hq => ⟨y3, rfl, e1.trans e2, hpo.ex e2, hq, hpo.ne nq⟩) (fun q j σ' H2 _ ⟨_, _, _, _, hq, _⟩ => st_of hq) ?_ ?_
      · rintro q j v σ' H2 hj ⟨z3, rfl, e2, p2, hq, qp⟩
        have j2 : j < 2 := (List.getElem?_eq_some_iff.mp hj).1
        obtain ⟨b, rfl, b0, b1⟩ : ∃ b : Int, v = .int b ∧ 1 ≤ b ∧ b ≤ 20 := by
          have : j = 0 ∨ j = 1 := by omega
          rcases this with rfl | rfl <;> cases Option.some.inj hj <;> exact ⟨_, rfl, by decide, by decide⟩
        refine ps_no (p := p) (k := 300) (H0 := H2) (tp_is (b := !true) (tp_not (tp_B (ep_right (fun G => ev_var rfl) (fun G => ev_var rfl) b0 b1))) rfl) (Ex.refl _) p2 (by omega) fun H4 p4 e4 => ?_
        exact ⟨_, rfl, hm_next hp e2 e4, p4.mono (by omega), hm_at e4 qp hq, qp⟩
      · rintro q σ' H2 ⟨z3, rfl, e2, p2, _⟩
        exact ⟨_, _, _, rfl, e.trans e2⟩
    · rintro σ' H' ⟨y1, y2, y3, rfl, e⟩
      have one : ∀ {te : TE} {σ : L2.St} {G : Hp} {v : V}, Ev te σ G v → EvL (tLst (tCons te tNil)) σ G [v] := fun h => el_lst (ea_cons h ea_nil) (Nat.le_of_ble_eq_true rfl)
      have p12 : ∀ {σ : L2.St} {G : Hp}, Ev (tOp (rI CPowX fun i j => .int (i ^ j.toNat)) (tC (.int 10)) (tC (.int 12))) σ G (.int 1000000000000) := ev_op ev_c ev_c (rv_I (by constructor <;> decide +kernel))
      have p30 : ∀ {σ : L2.St} {G : Hp}, Ev (tOp (rI CPowX fun i j => .int (i ^ j.toNat)) (tC (.int 10)) (tC (.int 30))) σ G (.int 1000000000000000000000000000000) := ev_op ev_c ev_c (rv_I (by constructor <;> decide +kernel))
      have m30 : ∀ {σ : L2.St} {G : Hp}, Ev (tOp (rI0 fun i j => .int (i - j)) (tC (.int 0)) (tOp (rI CPowX fun i j => .int (i ^ j.toNat)) (tC (.int 10)) (tC (.int 30)))) σ G (.int (-1000000000000000000000000000000)) := ev_op ev_c p30 rv_I0
      have i0 : ∀ {G : Hp}, Gv G (.int 0) (.int 0) := gv_flat (v := .int 0) (flat_int (by decide))
      have gi : ∀ {G : Hp} {c : Int}, c.natAbs < 2 ^ 200 → Gv G (.int c) (.int c) := fun hc => gv_flat (v := .int _) (flat_int hc)
      have lb := elb_R1f (t := tYes) (te := tLst (tCons (tVar 4) tNil)) (tn := tCons (tC (.int 20)) tNil) (j := 4) (vs := [4]) (H := H') (σ := [some (.ref a), y1, y2, y3, none, none, none]) (n := 20) (fun _ => true) (fun i => [i]) (ea_cons ev_c ea_nil) (by decide) (fun _ => rfl) (fun _ _ _ _ => et_yes) (fun i G eG hi _ => one (ev_var rfl))
      have eo : (((List.range (Int.toNat 20)).filter fun _ => true).map fun i => [i]) = ones := by decide
      rw [eo] at lb
      refine q_asgLB lb fun sg us H1 nsg e1 hsg pl => ?_
      have tks : ∀ {G : Hp}, Ex H1 G → Paired (Tk 3 G) us (ones.map gD) := fun e => tk_imp (fun _ _ => Tk.ex e) (pl_tks pl (by decide))
      have gsg : ∀ {G : Hp}, Ex H1 G → Gv G (.ref sg) (.list (ones.map gD)) := fun e => ⟨.inl (tk_lst (n := 3) (e sg _ hsg) (tks e) (by decide)), lenB_ok (by decide +kernel), sh_ones⟩
      refine q_asgL (xs := [V.str "fine", .str "fine"]) (el_lst (ea_cons
        (ev_told ⟨4, 20, 1000000000000, .ref sg, .int 0, _, _, _, ea_cons ev_c (ea_cons ev_c (ea_cons p12 (ea_cons (ev_var rfl) (ea_cons ev_c ea_nil)))), gsg (Ex.refl _), i0, .g _ _ _ _ _ _ (by decide) (.d4 _ _ _), by rw [d_ones]; rfl⟩) (ea_cons
        (ev_toldB (K := K) (J := fun d => d = .list ((rgV 0 20).map flatD)) (w := 0) (m := 20) (x := 1000000000000) (z := "fine") ev_c ev_c p12 (ob_L (el_rg1 (b := 20) ev_c rg20) (fun v hv => by
          unfold rgV at hv
          obtain ⟨j, hj, rfl⟩ := List.mem_map.mp hv
          have := List.mem_range.mp hj
          exact flat_int (by omega)) (by decide) rfl) ev_c i0 fun d hd => ⟨_, .g _ _ _ _ _ _ (by decide) (.d0 _ _ _), by rw [hd, d_rg]; rfl⟩) ea_nil)) (Nat.le_of_ble_eq_true rfl)) fun f H2 nf e2 hf => ?_
      refine q_asgL (xs := [V.str "fine", .str "fine"] ++ [V.str "fine", .str "fine"]) (el_catL (ev_var rfl) hf (el_lst (ea_cons
        (ev_told ⟨8, 1, 1, .int 1000000000000000000000000000000, .int 0, _, _, _, ea_cons ev_c (ea_cons ev_c (ea_cons ev_c (ea_cons p30 (ea_cons ev_c ea_nil)))), gi (by decide), i0, .d8 _ _ _ _, by rw [show dHom 1 1 = none by decide]; rfl⟩) (ea_cons
        (ev_told ⟨9, 20, 1, .int (-1000000000000000000000000000000), .int 0, _, _, _, ea_cons ev_c (ea_cons ev_c (ea_cons ev_c (ea_cons m30 (ea_cons ev_c ea_nil)))), gi (by decide), i0, .d9 _ _ _ _, by rw [show dHom 20 1 = none by decide]; rfl⟩) ea_nil)) (Nat.le_of_ble_eq_true rfl)) (by decide)) fun f2 H3 nf2 e3 hf2 => ?_
      have e13 := e2.trans e3
      refine s_ret (v := .bl true) (ev_is (ev_andV (a := true) (b := true) (ev_is (ev_eqD (d := .list ((List.replicate 5 ("fine" : Str)).map PyData.str)) (e := .list ((List.replicate 5 ("fine" : Str)).map PyData.str)) (ed_strs (l := List.replicate 5 "fine") (el_catL (ys := [V.str "fine"]) (ev_var rfl) hf2 (one (ev_told ⟨7, 1, 1, .int 0, .int 0, _, _, _, ea_cons ev_c (ea_cons ev_c (ea_cons ev_c (ea_cons ev_c (ea_cons ev_c ea_nil)))), i0, i0, .d7 _ _ _ _, by rw [show dRnk 1 1 0 0 = none by decide]; rfl⟩)) (by decide))) (ed_strs (el_repS (z := "fine") (n := 5) ev_c ev_c (by decide) (by decide))) (by decide +kernel) (by decide +kernel)) (by decide +kernel)) fun _ =>
        ev_is (ev_op (ev_toldB (K := K) (J := fun d => d = .list (ones.map gD ++ [gD [20]])) (w := 4) (m := 20) (x := 1) (z := "lots") ev_c ev_c ev_c (ob_catN (ev_var rfl) (e13 sg _ hsg) (tks e13) (by decide) (ek_L (n := 2) (one (ev_c (v := .int 20))) (tk_ints [20]) (by decide)) (lenB_ok (by decide +kernel)) sh_ones1 rfl) ev_c i0 fun d hd => ⟨_, .g _ _ _ _ _ _ (by decide) (.d4 _ _ _), by rw [hd, d_ones1]; rfl⟩) ev_c (rv_eq rfl)) (by decide +kernel)) rfl) fun H4 e4 => k H4
end


theorem all_mk {l : PySem.W.OpenLaw} {w : World} {K : PySem.W.Frag} {h : Heap} {mg : Str → Option Value} {fa : Addr} (X : K.In h) (G : h.Ns mainGlobals mg) (hfa : mg "law" = some (.ref fa))
    {f1 : Addr} {od1 an1 : Option Addr} {sl1 : Array (Option Value)} {oc1 kV1 dc1 pm1 cd1 ct1 : Value}
    {f2 : Addr} {od2 an2 : Option Addr} {sl2 : Array (Option Value)} {oc2 kV2 dc2 pm2 cd2 ct2 : Value}
    {f3 : Addr} {od3 an3 : Option Addr} {sl3 : Array (Option Value)} {oc3 kV3 dc3 pm3 cd3 ct3 : Value}
    {f4 : Addr} {od4 an4 : Option Addr} {sl4 : Array (Option Value)} {oc4 kV4 dc4 pm4 cd4 ct4 : Value}
    {f5 : Addr} {od5 an5 : Option Addr} {sl5 : Array (Option Value)} {oc5 kV5 dc5 pm5 cd5 ct5 : Value}
    {f6 : Addr} {od6 an6 : Option Addr} {sl6 : Array (Option Value)} {oc6 kV6 dc6 pm6 cd6 ct6 : Value}
    {f7 : Addr} {od7 an7 : Option Addr} {sl7 : Array (Option Value)} {oc7 kV7 dc7 pm7 cd7 ct7 : Value}
    {f8 : Addr} {od8 an8 : Option Addr} {sl8 : Array (Option Value)} {oc8 kV8 dc8 pm8 cd8 ct8 : Value}
    {f9 : Addr} {od9 an9 : Option Addr} {sl9 : Array (Option Value)} {oc9 kV9 dc9 pm9 cd9 ct9 : Value}
    {f10 : Addr} {od10 an10 : Option Addr} {sl10 : Array (Option Value)} {oc10 kV10 dc10 pm10 cd10 ct10 : Value}
    {f11 : Addr} {od11 an11 : Option Addr} {sl11 : Array (Option Value)} {oc11 kV11 dc11 pm11 cd11 ct11 : Value}
    {f12 : Addr} {od12 an12 : Option Addr} {sl12 : Array (Option Value)} {oc12 kV12 dc12 pm12 cd12 ct12 : Value}
    {f13 : Addr} {od13 an13 : Option Addr} {sl13 : Array (Option Value)} {oc13 kV13 dc13 pm13 cd13 ct13 : Value}
    {f14 : Addr} {od14 an14 : Option Addr} {sl14 : Array (Option Value)} {oc14 kV14 dc14 pm14 cd14 ct14 : Value}
    {f15 : Addr} {od15 an15 : Option Addr} {sl15 : Array (Option Value)} {oc15 kV15 dc15 pm15 cd15 ct15 : Value}
    {f16 : Addr} {od16 an16 : Option Addr} {sl16 : Array (Option Value)} {oc16 kV16 dc16 pm16 cd16 ct16 : Value}
    {f17 : Addr} {od17 an17 : Option Addr} {sl17 : Array (Option Value)} {oc17 kV17 dc17 pm17 cd17 ct17 : Value}
    {f18 : Addr} {od18 an18 : Option Addr} {sl18 : Array (Option Value)} {oc18 kV18 dc18 pm18 cd18 ct18 : Value}
    {f19 : Addr} {od19 an19 : Option Addr} {sl19 : Array (Option Value)} {oc19 kV19 dc19 pm19 cd19 ct19 : Value}
    {f20 : Addr} {od20 an20 : Option Addr} {sl20 : Array (Option Value)} {oc20 kV20 dc20 pm20 cd20 ct20 : Value}
    {f21 : Addr} {od21 an21 : Option Addr} {sl21 : Array (Option Value)} {oc21 kV21 dc21 pm21 cd21 ct21 : Value}
    {f22 : Addr} {od22 an22 : Option Addr} {sl22 : Array (Option Value)} {oc22 kV22 dc22 pm22 cd22 ct22 : Value}
    {f23 : Addr} {od23 an23 : Option Addr} {sl23 : Array (Option Value)} {oc23 kV23 dc23 pm23 cd23 ct23 : Value}
    {f24 : Addr} {od24 an24 : Option Addr} {sl24 : Array (Option Value)} {oc24 kV24 dc24 pm24 cd24 ct24 : Value}
    {f25 : Addr} {od25 an25 : Option Addr} {sl25 : Array (Option Value)} {oc25 kV25 dc25 pm25 cd25 ct25 : Value}
    {f26 : Addr} {od26 an26 : Option Addr} {sl26 : Array (Option Value)} {oc26 kV26 dc26 pm26 cd26 ct26 : Value}
    {f27 : Addr} {od27 an27 : Option Addr} {sl27 : Array (Option Value)} {oc27 kV27 dc27 pm27 cd27 ct27 : Value}
    {f28 : Addr} {od28 an28 : Option Addr} {sl28 : Array (Option Value)} {oc28 kV28 dc28 pm28 cd28 ct28 : Value}
    {f29 : Addr} {od29 an29 : Option Addr} {sl29 : Array (Option Value)} {oc29 kV29 dc29 pm29 cd29 ct29 : Value}
    {f30 : Addr} {od30 an30 : Option Addr} {sl30 : Array (Option Value)} {oc30 kV30 dc30 pm30 cd30 ct30 : Value}
    {f31 : Addr} {od31 an31 : Option Addr} {sl31 : Array (Option Value)} {oc31 kV31 dc31 pm31 cd31 ct31 : Value}
    {f32 : Addr} {od32 an32 : Option Addr} {sl32 : Array (Option Value)} {oc32 kV32 dc32 pm32 cd32 ct32 : Value}
    {f33 : Addr} {od33 an33 : Option Addr} {sl33 : Array (Option Value)} {oc33 kV33 dc33 pm33 cd33 ct33 : Value}
    {f34 : Addr} {od34 an34 : Option Addr} {sl34 : Array (Option Value)} {oc34 kV34 dc34 pm34 cd34 ct34 : Value}
    {f35 : Addr} {od35 an35 : Option Addr} {sl35 : Array (Option Value)} {oc35 kV35 dc35 pm35 cd35 ct35 : Value}
    {f36 : Addr} {od36 an36 : Option Addr} {sl36 : Array (Option Value)} {oc36 kV36 dc36 pm36 cd36 ct36 : Value}
    {f37 : Addr} {od37 an37 : Option Addr} {sl37 : Array (Option Value)} {oc37 kV37 dc37 pm37 cd37 ct37 : Value}
    {f38 : Addr} {od38 an38 : Option Addr} {sl38 : Array (Option Value)} {oc38 kV38 dc38 pm38 cd38 ct38 : Value}
    {f39 : Addr} {od39 an39 : Option Addr} {sl39 : Array (Option Value)} {oc39 kV39 dc39 pm39 cd39 ct39 : Value}
    {f40 : Addr} {od40 an40 : Option Addr} {sl40 : Array (Option Value)} {oc40 kV40 dc40 pm40 cd40 ct40 : Value}
    {f41 : Addr} {od41 an41 : Option Addr} {sl41 : Array (Option Value)} {oc41 kV41 dc41 pm41 cd41 ct41 : Value}
    {f42 : Addr} {od42 an42 : Option Addr} {sl42 : Array (Option Value)} {oc42 kV42 dc42 pm42 cd42 ct42 : Value}
    {f43 : Addr} {od43 an43 : Option Addr} {sl43 : Array (Option Value)} {oc43 kV43 dc43 pm43 cd43 ct43 : Value}
    {f44 : Addr} {od44 an44 : Option Addr} {sl44 : Array (Option Value)} {oc44 kV44 dc44 pm44 cd44 ct44 : Value}
    {f45 : Addr} {od45 an45 : Option Addr} {sl45 : Array (Option Value)} {oc45 kV45 dc45 pm45 cd45 ct45 : Value}
    {f46 : Addr} {od46 an46 : Option Addr} {sl46 : Array (Option Value)} {oc46 kV46 dc46 pm46 cd46 ct46 : Value}
    {f47 : Addr} {od47 an47 : Option Addr} {sl47 : Array (Option Value)} {oc47 kV47 dc47 pm47 cd47 ct47 : Value}
    {f48 : Addr} {od48 an48 : Option Addr} {sl48 : Array (Option Value)} {oc48 kV48 dc48 pm48 cd48 ct48 : Value}
    {c_HallError : Addr}
    {c_InvalidGuests : Addr}
    {c_InvalidWeight : Addr}
    {c_InvalidGuest : Addr}
    {c_InvalidSeating : Addr}
    {c_InvalidComing : Addr}
    {c_InvalidNames : Addr}
    {c_InvalidTables : Addr}
    {c_InvalidSizes : Addr}
    {c_InvalidGroup : Addr}
    {c_InvalidGroups : Addr}
    {c_InvalidFacts : Addr}
    {c_InvalidDistances : Addr}
    {c_InvalidNumber : Addr}
    {c_InvalidIndex : Addr}
    {c_NoSeating : Addr}
    {c_NothingToUndo : Addr}
    {c_Refused : Addr}
    {c_InvalidText : Addr}
    {t_MOST_GUESTS : Tok}
    {t_MOST_WEIGHT : Tok}
    (a1 : PySem.W.nsIn K mainGlobals "is_whole" = some (some (.ref f1))) (l1 : K.lookup f1 = some ⟨oc1, od1, .func (PySem.W.fnOf "is_whole" "is_whole" (defArgs s_is_whole) (defBody s_is_whole) (defScope s_is_whole) .none kV1 dc1 pm1 an1 cd1 ct1), sl1⟩) (c1 : PySem.W.codeIn K cd1 "is_whole" = true) (k1 : PySem.W.keepIn K (.ref f1) = true)
    (a2 : PySem.W.nsIn K mainGlobals "is_within" = some (some (.ref f2))) (l2 : K.lookup f2 = some ⟨oc2, od2, .func (PySem.W.fnOf "is_within" "is_within" (defArgs s_is_within) (defBody s_is_within) (defScope s_is_within) .none kV2 dc2 pm2 an2 cd2 ct2), sl2⟩) (c2 : PySem.W.codeIn K cd2 "is_within" = true) (k2 : PySem.W.keepIn K (.ref f2) = true)
    (a3 : PySem.W.nsIn K mainGlobals "is_ascending" = some (some (.ref f3))) (l3 : K.lookup f3 = some ⟨oc3, od3, .func (PySem.W.fnOf "is_ascending" "is_ascending" (defArgs s_is_ascending) (defBody s_is_ascending) (defScope s_is_ascending) .none kV3 dc3 pm3 an3 cd3 ct3), sl3⟩) (c3 : PySem.W.codeIn K cd3 "is_ascending" = true) (k3 : PySem.W.keepIn K (.ref f3) = true)
    (a4 : PySem.W.nsIn K mainGlobals "check_guests" = some (some (.ref f4))) (l4 : K.lookup f4 = some ⟨oc4, od4, .func (PySem.W.fnOf "check_guests" "check_guests" (defArgs s_check_guests) (defBody s_check_guests) (defScope s_check_guests) .none kV4 dc4 pm4 an4 cd4 ct4), sl4⟩) (c4 : PySem.W.codeIn K cd4 "check_guests" = true) (k4 : PySem.W.keepIn K (.ref f4) = true)
    (a5 : PySem.W.nsIn K mainGlobals "check_weight" = some (some (.ref f5))) (l5 : K.lookup f5 = some ⟨oc5, od5, .func (PySem.W.fnOf "check_weight" "check_weight" (defArgs s_check_weight) (defBody s_check_weight) (defScope s_check_weight) .none kV5 dc5 pm5 an5 cd5 ct5), sl5⟩) (c5 : PySem.W.codeIn K cd5 "check_weight" = true) (k5 : PySem.W.keepIn K (.ref f5) = true)
    (a6 : PySem.W.nsIn K mainGlobals "check_guest" = some (some (.ref f6))) (l6 : K.lookup f6 = some ⟨oc6, od6, .func (PySem.W.fnOf "check_guest" "check_guest" (defArgs s_check_guest) (defBody s_check_guest) (defScope s_check_guest) .none kV6 dc6 pm6 an6 cd6 ct6), sl6⟩) (c6 : PySem.W.codeIn K cd6 "check_guest" = true) (k6 : PySem.W.keepIn K (.ref f6) = true)
    (a7 : PySem.W.nsIn K mainGlobals "check_number" = some (some (.ref f7))) (l7 : K.lookup f7 = some ⟨oc7, od7, .func (PySem.W.fnOf "check_number" "check_number" (defArgs s_check_number) (defBody s_check_number) (defScope s_check_number) .none kV7 dc7 pm7 an7 cd7 ct7), sl7⟩) (c7 : PySem.W.codeIn K cd7 "check_number" = true) (k7 : PySem.W.keepIn K (.ref f7) = true)
    (a8 : PySem.W.nsIn K mainGlobals "check_any_number" = some (some (.ref f8))) (l8 : K.lookup f8 = some ⟨oc8, od8, .func (PySem.W.fnOf "check_any_number" "check_any_number" (defArgs s_check_any_number) (defBody s_check_any_number) (defScope s_check_any_number) .none kV8 dc8 pm8 an8 cd8 ct8), sl8⟩) (c8 : PySem.W.codeIn K cd8 "check_any_number" = true) (k8 : PySem.W.keepIn K (.ref f8) = true)
    (a9 : PySem.W.nsIn K mainGlobals "raised" = some (some (.ref f9))) (l9 : K.lookup f9 = some ⟨oc9, od9, .func (PySem.W.fnOf "raised" "raised" (defArgs s_raised) (defBody s_raised) (defScope s_raised) .none kV9 dc9 pm9 an9 cd9 ct9), sl9⟩) (c9 : PySem.W.codeIn K cd9 "raised" = true) (k9 : PySem.W.keepIn K (.ref f9) = true)
    (a10 : PySem.W.nsIn K mainGlobals "rising" = some (some (.ref f10))) (l10 : K.lookup f10 = some ⟨oc10, od10, .func (PySem.W.fnOf "rising" "rising" (defArgs s_rising) (defBody s_rising) (defScope s_rising) .none kV10 dc10 pm10 an10 cd10 ct10), sl10⟩) (c10 : PySem.W.codeIn K cd10 "rising" = true) (k10 : PySem.W.keepIn K (.ref f10) = true)
    (a11 : PySem.W.nsIn K mainGlobals "sums_by_tables" = some (some (.ref f11))) (l11 : K.lookup f11 = some ⟨oc11, od11, .func (PySem.W.fnOf "sums_by_tables" "sums_by_tables" (defArgs s_sums_by_tables) (defBody s_sums_by_tables) (defScope s_sums_by_tables) .none kV11 dc11 pm11 an11 cd11 ct11), sl11⟩) (c11 : PySem.W.codeIn K cd11 "sums_by_tables" = true) (k11 : PySem.W.keepIn K (.ref f11) = true)
    (a12 : PySem.W.nsIn K mainGlobals "sum_at" = some (some (.ref f12))) (l12 : K.lookup f12 = some ⟨oc12, od12, .func (PySem.W.fnOf "sum_at" "sum_at" (defArgs s_sum_at) (defBody s_sum_at) (defScope s_sum_at) .none kV12 dc12 pm12 an12 cd12 ct12), sl12⟩) (c12 : PySem.W.codeIn K cd12 "sum_at" = true) (k12 : PySem.W.keepIn K (.ref f12) = true)
    (a13 : PySem.W.nsIn K mainGlobals "fraction" = some (some (.ref f13))) (l13 : K.lookup f13 = some ⟨oc13, od13, .func (PySem.W.fnOf "fraction" "fraction" (defArgs s_fraction) (defBody s_fraction) (defScope s_fraction) .none kV13 dc13 pm13 an13 cd13 ct13), sl13⟩) (c13 : PySem.W.codeIn K cd13 "fraction" = true) (k13 : PySem.W.keepIn K (.ref f13) = true)
    (a14 : PySem.W.nsIn K mainGlobals "tables_weight" = some (some (.ref f14))) (l14 : K.lookup f14 = some ⟨oc14, od14, .func (PySem.W.fnOf "tables_weight" "tables_weight" (defArgs s_tables_weight) (defBody s_tables_weight) (defScope s_tables_weight) .none kV14 dc14 pm14 an14 cd14 ct14), sl14⟩) (c14 : PySem.W.codeIn K cd14 "tables_weight" = true) (k14 : PySem.W.keepIn K (.ref f14) = true)
    (a15 : PySem.W.nsIn K mainGlobals "weight_with_size" = some (some (.ref f15))) (l15 : K.lookup f15 = some ⟨oc15, od15, .func (PySem.W.fnOf "weight_with_size" "weight_with_size" (defArgs s_weight_with_size) (defBody s_weight_with_size) (defScope s_weight_with_size) .none kV15 dc15 pm15 an15 cd15 ct15), sl15⟩) (c15 : PySem.W.codeIn K cd15 "weight_with_size" = true) (k15 : PySem.W.keepIn K (.ref f15) = true)
    (a16 : PySem.W.nsIn K mainGlobals "weights_by_tables" = some (some (.ref f16))) (l16 : K.lookup f16 = some ⟨oc16, od16, .func (PySem.W.fnOf "weights_by_tables" "weights_by_tables" (defArgs s_weights_by_tables) (defBody s_weights_by_tables) (defScope s_weights_by_tables) .none kV16 dc16 pm16 an16 cd16 ct16), sl16⟩) (c16 : PySem.W.codeIn K cd16 "weights_by_tables" = true) (k16 : PySem.W.keepIn K (.ref f16) = true)
    (a17 : PySem.W.nsIn K mainGlobals "opener_share" = some (some (.ref f17))) (l17 : K.lookup f17 = some ⟨oc17, od17, .func (PySem.W.fnOf "opener_share" "opener_share" (defArgs s_opener_share) (defBody s_opener_share) (defScope s_opener_share) .none kV17 dc17 pm17 an17 cd17 ct17), sl17⟩) (c17 : PySem.W.codeIn K cd17 "opener_share" = true) (k17 : PySem.W.keepIn K (.ref f17) = true)
    (a18 : PySem.W.nsIn K mainGlobals "count_openers" = some (some (.ref f18))) (l18 : K.lookup f18 = some ⟨oc18, od18, .func (PySem.W.fnOf "count_openers" "count_openers" (defArgs s_count_openers) (defBody s_count_openers) (defScope s_count_openers) .none kV18 dc18 pm18 an18 cd18 ct18), sl18⟩) (c18 : PySem.W.codeIn K cd18 "count_openers" = true) (k18 : PySem.W.keepIn K (.ref f18) = true)
    (a19 : PySem.W.nsIn K mainGlobals "openers_share" = some (some (.ref f19))) (l19 : K.lookup f19 = some ⟨oc19, od19, .func (PySem.W.fnOf "openers_share" "openers_share" (defArgs s_openers_share) (defBody s_openers_share) (defScope s_openers_share) .none kV19 dc19 pm19 an19 cd19 ct19), sl19⟩) (c19 : PySem.W.codeIn K cd19 "openers_share" = true) (k19 : PySem.W.keepIn K (.ref f19) = true)
    (a20 : PySem.W.nsIn K mainGlobals "last_opener_share" = some (some (.ref f20))) (l20 : K.lookup f20 = some ⟨oc20, od20, .func (PySem.W.fnOf "last_opener_share" "last_opener_share" (defArgs s_last_opener_share) (defBody s_last_opener_share) (defScope s_last_opener_share) .none kV20 dc20 pm20 an20 cd20 ct20), sl20⟩) (c20 : PySem.W.codeIn K cd20 "last_opener_share" = true) (k20 : PySem.W.keepIn K (.ref f20) = true)
    (a21 : PySem.W.nsIn K mainGlobals "rank_share" = some (some (.ref f21))) (l21 : K.lookup f21 = some ⟨oc21, od21, .func (PySem.W.fnOf "rank_share" "rank_share" (defArgs s_rank_share) (defBody s_rank_share) (defScope s_rank_share) .none kV21 dc21 pm21 an21 cd21 ct21), sl21⟩) (c21 : PySem.W.codeIn K cd21 "rank_share" = true) (k21 : PySem.W.keepIn K (.ref f21) = true)
    (a22 : PySem.W.nsIn K mainGlobals "together_share" = some (some (.ref f22))) (l22 : K.lookup f22 = some ⟨oc22, od22, .func (PySem.W.fnOf "together_share" "together_share" (defArgs s_together_share) (defBody s_together_share) (defScope s_together_share) .none kV22 dc22 pm22 an22 cd22 ct22), sl22⟩) (c22 : PySem.W.codeIn K cd22 "together_share" = true) (k22 : PySem.W.keepIn K (.ref f22) = true)
    (a23 : PySem.W.nsIn K mainGlobals "just_share" = some (some (.ref f23))) (l23 : K.lookup f23 = some ⟨oc23, od23, .func (PySem.W.fnOf "just_share" "just_share" (defArgs s_just_share) (defBody s_just_share) (defScope s_just_share) .none kV23 dc23 pm23 an23 cd23 ct23), sl23⟩) (c23 : PySem.W.codeIn K cd23 "just_share" = true) (k23 : PySem.W.keepIn K (.ref f23) = true)
    (a24 : PySem.W.nsIn K mainGlobals "tables_shares" = some (some (.ref f24))) (l24 : K.lookup f24 = some ⟨oc24, od24, .func (PySem.W.fnOf "tables_shares" "tables_shares" (defArgs s_tables_shares) (defBody s_tables_shares) (defScope s_tables_shares) .none kV24 dc24 pm24 an24 cd24 ct24), sl24⟩) (c24 : PySem.W.codeIn K cd24 "tables_shares" = true) (k24 : PySem.W.keepIn K (.ref f24) = true)
    (a25 : PySem.W.nsIn K mainGlobals "split_share" = some (some (.ref f25))) (l25 : K.lookup f25 = some ⟨oc25, od25, .func (PySem.W.fnOf "split_share" "split_share" (defArgs s_split_share) (defBody s_split_share) (defScope s_split_share) .none kV25 dc25 pm25 an25 cd25 ct25), sl25⟩) (c25 : PySem.W.codeIn K cd25 "split_share" = true) (k25 : PySem.W.keepIn K (.ref f25) = true)
    (a26 : PySem.W.nsIn K mainGlobals "given_tables" = some (some (.ref f26))) (l26 : K.lookup f26 = some ⟨oc26, od26, .func (PySem.W.fnOf "given_tables" "given_tables" (defArgs s_given_tables) (defBody s_given_tables) (defScope s_given_tables) .none kV26 dc26 pm26 an26 cd26 ct26), sl26⟩) (c26 : PySem.W.codeIn K cd26 "given_tables" = true) (k26 : PySem.W.keepIn K (.ref f26) = true)
    (a27 : PySem.W.nsIn K mainGlobals "home_share" = some (some (.ref f27))) (l27 : K.lookup f27 = some ⟨oc27, od27, .func (PySem.W.fnOf "home_share" "home_share" (defArgs s_home_share) (defBody s_home_share) (defScope s_home_share) .none kV27 dc27 pm27 an27 cd27 ct27), sl27⟩) (c27 : PySem.W.codeIn K cd27 "home_share" = true) (k27 : PySem.W.keepIn K (.ref f27) = true)
    (a28 : PySem.W.nsIn K mainGlobals "other_share" = some (some (.ref f28))) (l28 : K.lookup f28 = some ⟨oc28, od28, .func (PySem.W.fnOf "other_share" "other_share" (defArgs s_other_share) (defBody s_other_share) (defScope s_other_share) .none kV28 dc28 pm28 an28 cd28 ct28), sl28⟩) (c28 : PySem.W.codeIn K cd28 "other_share" = true) (k28 : PySem.W.keepIn K (.ref f28) = true)
    (a29 : PySem.W.nsIn K mainGlobals "check_group" = some (some (.ref f29))) (l29 : K.lookup f29 = some ⟨oc29, od29, .func (PySem.W.fnOf "check_group" "check_group" (defArgs s_check_group) (defBody s_check_group) (defScope s_check_group) .none kV29 dc29 pm29 an29 cd29 ct29), sl29⟩) (c29 : PySem.W.codeIn K cd29 "check_group" = true) (k29 : PySem.W.keepIn K (.ref f29) = true)
    (a30 : PySem.W.nsIn K mainGlobals "check_openers" = some (some (.ref f30))) (l30 : K.lookup f30 = some ⟨oc30, od30, .func (PySem.W.fnOf "check_openers" "check_openers" (defArgs s_check_openers) (defBody s_check_openers) (defScope s_check_openers) .none kV30 dc30 pm30 an30 cd30 ct30), sl30⟩) (c30 : PySem.W.codeIn K cd30 "check_openers" = true) (k30 : PySem.W.keepIn K (.ref f30) = true)
    (a31 : PySem.W.nsIn K mainGlobals "check_groups" = some (some (.ref f31))) (l31 : K.lookup f31 = some ⟨oc31, od31, .func (PySem.W.fnOf "check_groups" "check_groups" (defArgs s_check_groups) (defBody s_check_groups) (defScope s_check_groups) .none kV31 dc31 pm31 an31 cd31 ct31), sl31⟩) (c31 : PySem.W.codeIn K cd31 "check_groups" = true) (k31 : PySem.W.keepIn K (.ref f31) = true)
    (a32 : PySem.W.nsIn K mainGlobals "are_groups" = some (some (.ref f32))) (l32 : K.lookup f32 = some ⟨oc32, od32, .func (PySem.W.fnOf "are_groups" "are_groups" (defArgs s_are_groups) (defBody s_are_groups) (defScope s_are_groups) .none kV32 dc32 pm32 an32 cd32 ct32), sl32⟩) (c32 : PySem.W.codeIn K cd32 "are_groups" = true) (k32 : PySem.W.keepIn K (.ref f32) = true)
    (a33 : PySem.W.nsIn K mainGlobals "ways_of_openers" = some (some (.ref f33))) (l33 : K.lookup f33 = some ⟨oc33, od33, .func (PySem.W.fnOf "ways_of_openers" "ways_of_openers" (defArgs s_ways_of_openers) (defBody s_ways_of_openers) (defScope s_ways_of_openers) .none kV33 dc33 pm33 an33 cd33 ct33), sl33⟩) (c33 : PySem.W.codeIn K cd33 "ways_of_openers" = true) (k33 : PySem.W.keepIn K (.ref f33) = true)
    (a34 : PySem.W.nsIn K mainGlobals "table_weight" = some (some (.ref f34))) (l34 : K.lookup f34 = some ⟨oc34, od34, .func (PySem.W.fnOf "table_weight" "table_weight" (defArgs s_table_weight) (defBody s_table_weight) (defScope s_table_weight) .none kV34 dc34 pm34 an34 cd34 ct34), sl34⟩) (c34 : PySem.W.codeIn K cd34 "table_weight" = true) (k34 : PySem.W.keepIn K (.ref f34) = true)
    (a35 : PySem.W.nsIn K mainGlobals "home_weight" = some (some (.ref f35))) (l35 : K.lookup f35 = some ⟨oc35, od35, .func (PySem.W.fnOf "home_weight" "home_weight" (defArgs s_home_weight) (defBody s_home_weight) (defScope s_home_weight) .none kV35 dc35 pm35 an35 cd35 ct35), sl35⟩) (c35 : PySem.W.codeIn K cd35 "home_weight" = true) (k35 : PySem.W.keepIn K (.ref f35) = true)
    (a36 : PySem.W.nsIn K mainGlobals "_law_store" = some (some (.ref f36))) (l36 : K.lookup f36 = some ⟨oc36, od36, .func (PySem.W.fnOf "_law_store" "_law_store" (defArgs s_law_store) (defBody s_law_store) (defScope s_law_store) .none kV36 dc36 pm36 an36 cd36 ct36), sl36⟩) (c36 : PySem.W.codeIn K cd36 "_law_store" = true) (k36 : PySem.W.keepIn K (.ref f36) = true)
    (a37 : PySem.W.nsIn K mainGlobals "_law_pick" = some (some (.ref f37))) (l37 : K.lookup f37 = some ⟨oc37, od37, .func (PySem.W.fnOf "_law_pick" "_law_pick" (defArgs s_law_pick) (defBody s_law_pick) (defScope s_law_pick) .none kV37 dc37 pm37 an37 cd37 ct37), sl37⟩) (c37 : PySem.W.codeIn K cd37 "_law_pick" = true) (k37 : PySem.W.keepIn K (.ref f37) = true)
    (a38 : PySem.W.nsIn K mainGlobals "_law_heavy" = some (some (.ref f38))) (l38 : K.lookup f38 = some ⟨oc38, od38, .func (PySem.W.fnOf "_law_heavy" "_law_heavy" (defArgs s_law_heavy) (defBody s_law_heavy) (defScope s_law_heavy) .none kV38 dc38 pm38 an38 cd38 ct38), sl38⟩) (c38 : PySem.W.codeIn K cd38 "_law_heavy" = true) (k38 : PySem.W.keepIn K (.ref f38) = true)
    (a39 : PySem.W.nsIn K mainGlobals "_law_gang" = some (some (.ref f39))) (l39 : K.lookup f39 = some ⟨oc39, od39, .func (PySem.W.fnOf "_law_gang" "_law_gang" (defArgs s_law_gang) (defBody s_law_gang) (defScope s_law_gang) .none kV39 dc39 pm39 an39 cd39 ct39), sl39⟩) (c39 : PySem.W.codeIn K cd39 "_law_gang" = true) (k39 : PySem.W.keepIn K (.ref f39) = true)
    (a40 : PySem.W.nsIn K mainGlobals "_law_word_of" = some (some (.ref f40))) (l40 : K.lookup f40 = some ⟨oc40, od40, .func (PySem.W.fnOf "_law_word_of" "_law_word_of" (defArgs s_law_word_of) (defBody s_law_word_of) (defScope s_law_word_of) .none kV40 dc40 pm40 an40 cd40 ct40), sl40⟩) (c40 : PySem.W.codeIn K cd40 "_law_word_of" = true) (k40 : PySem.W.keepIn K (.ref f40) = true)
    (a41 : PySem.W.nsIn K mainGlobals "_law_bad_gangs" = some (some (.ref f41))) (l41 : K.lookup f41 = some ⟨oc41, od41, .func (PySem.W.fnOf "_law_bad_gangs" "_law_bad_gangs" (defArgs s_law_bad_gangs) (defBody s_law_bad_gangs) (defScope s_law_bad_gangs) .none kV41 dc41 pm41 an41 cd41 ct41), sl41⟩) (c41 : PySem.W.codeIn K cd41 "_law_bad_gangs" = true) (k41 : PySem.W.keepIn K (.ref f41) = true)
    (a42 : PySem.W.nsIn K mainGlobals "_law_by_gang" = some (some (.ref f42))) (l42 : K.lookup f42 = some ⟨oc42, od42, .func (PySem.W.fnOf "_law_by_gang" "_law_by_gang" (defArgs s_law_by_gang) (defBody s_law_by_gang) (defScope s_law_by_gang) .none kV42 dc42 pm42 an42 cd42 ct42), sl42⟩) (c42 : PySem.W.codeIn K cd42 "_law_by_gang" = true) (k42 : PySem.W.keepIn K (.ref f42) = true)
    (a43 : PySem.W.nsIn K mainGlobals "_law_called" = some (some (.ref f43))) (l43 : K.lookup f43 = some ⟨oc43, od43, .func (PySem.W.fnOf "_law_called" "_law_called" (defArgs s_law_called) (defBody s_law_called) (defScope s_law_called) .none kV43 dc43 pm43 an43 cd43 ct43), sl43⟩) (c43 : PySem.W.codeIn K cd43 "_law_called" = true) (k43 : PySem.W.keepIn K (.ref f43) = true)
    (a44 : PySem.W.nsIn K mainGlobals "_law_raised" = some (some (.ref f44))) (l44 : K.lookup f44 = some ⟨oc44, od44, .func (PySem.W.fnOf "_law_raised" "_law_raised" (defArgs s_law_raised) (defBody s_law_raised) (defScope s_law_raised) .none kV44 dc44 pm44 an44 cd44 ct44), sl44⟩) (c44 : PySem.W.codeIn K cd44 "_law_raised" = true) (k44 : PySem.W.keepIn K (.ref f44) = true)
    (a45 : PySem.W.nsIn K mainGlobals "_law_bad_lots" = some (some (.ref f45))) (l45 : K.lookup f45 = some ⟨oc45, od45, .func (PySem.W.fnOf "_law_bad_lots" "_law_bad_lots" (defArgs s_law_bad_lots) (defBody s_law_bad_lots) (defScope s_law_bad_lots) .none kV45 dc45 pm45 an45 cd45 ct45), sl45⟩) (c45 : PySem.W.codeIn K cd45 "_law_bad_lots" = true) (k45 : PySem.W.keepIn K (.ref f45) = true)
    (a46 : PySem.W.nsIn K mainGlobals "_law_right" = some (some (.ref f46))) (l46 : K.lookup f46 = some ⟨oc46, od46, .func (PySem.W.fnOf "_law_right" "_law_right" (defArgs s_law_right) (defBody s_law_right) (defScope s_law_right) .none kV46 dc46 pm46 an46 cd46 ct46), sl46⟩) (c46 : PySem.W.codeIn K cd46 "_law_right" = true) (k46 : PySem.W.keepIn K (.ref f46) = true)
    (a47 : PySem.W.nsIn K mainGlobals "_law_let_right" = some (some (.ref f47))) (l47 : K.lookup f47 = some ⟨oc47, od47, .func (PySem.W.fnOf "_law_let_right" "_law_let_right" (defArgs s_law_let_right) (defBody s_law_let_right) (defScope s_law_let_right) .none kV47 dc47 pm47 an47 cd47 ct47), sl47⟩) (c47 : PySem.W.codeIn K cd47 "_law_let_right" = true) (k47 : PySem.W.keepIn K (.ref f47) = true)
    (a48 : PySem.W.nsIn K mainGlobals "law" = some (some (.ref f48))) (l48 : K.lookup f48 = some ⟨oc48, od48, .func (PySem.W.fnOf "law" "law" (defArgs s_law) (defBody s_law) (defScope s_law) .none kV48 dc48 pm48 an48 cd48 ct48), sl48⟩) (c48 : PySem.W.codeIn K cd48 "law" = true) (k48 : PySem.W.keepIn K (.ref f48) = true)
    (q_HallError : PySem.W.nsIn K mainGlobals "HallError" = some (some (.ref c_HallError)))
    (q_InvalidGuests : PySem.W.nsIn K mainGlobals "InvalidGuests" = some (some (.ref c_InvalidGuests)))
    (q_InvalidWeight : PySem.W.nsIn K mainGlobals "InvalidWeight" = some (some (.ref c_InvalidWeight)))
    (q_InvalidGuest : PySem.W.nsIn K mainGlobals "InvalidGuest" = some (some (.ref c_InvalidGuest)))
    (q_InvalidSeating : PySem.W.nsIn K mainGlobals "InvalidSeating" = some (some (.ref c_InvalidSeating)))
    (q_InvalidComing : PySem.W.nsIn K mainGlobals "InvalidComing" = some (some (.ref c_InvalidComing)))
    (q_InvalidNames : PySem.W.nsIn K mainGlobals "InvalidNames" = some (some (.ref c_InvalidNames)))
    (q_InvalidTables : PySem.W.nsIn K mainGlobals "InvalidTables" = some (some (.ref c_InvalidTables)))
    (q_InvalidSizes : PySem.W.nsIn K mainGlobals "InvalidSizes" = some (some (.ref c_InvalidSizes)))
    (q_InvalidGroup : PySem.W.nsIn K mainGlobals "InvalidGroup" = some (some (.ref c_InvalidGroup)))
    (q_InvalidGroups : PySem.W.nsIn K mainGlobals "InvalidGroups" = some (some (.ref c_InvalidGroups)))
    (q_InvalidFacts : PySem.W.nsIn K mainGlobals "InvalidFacts" = some (some (.ref c_InvalidFacts)))
    (q_InvalidDistances : PySem.W.nsIn K mainGlobals "InvalidDistances" = some (some (.ref c_InvalidDistances)))
    (q_InvalidNumber : PySem.W.nsIn K mainGlobals "InvalidNumber" = some (some (.ref c_InvalidNumber)))
    (q_InvalidIndex : PySem.W.nsIn K mainGlobals "InvalidIndex" = some (some (.ref c_InvalidIndex)))
    (q_NoSeating : PySem.W.nsIn K mainGlobals "NoSeating" = some (some (.ref c_NoSeating)))
    (q_NothingToUndo : PySem.W.nsIn K mainGlobals "NothingToUndo" = some (some (.ref c_NothingToUndo)))
    (q_Refused : PySem.W.nsIn K mainGlobals "Refused" = some (some (.ref c_Refused)))
    (q_InvalidText : PySem.W.nsIn K mainGlobals "InvalidText" = some (some (.ref c_InvalidText)))
    (e_InvalidGuests : Kit.excB K c_InvalidGuests = true) (x_InvalidGuests : PySem.W.exmOne K (.ref c_InvalidGuests) (.ref c_HallError) = some true) (t_InvalidGuests : Kit.isRow K c_InvalidGuests [((.ref c_InvalidGuests : Value), true), ((.ref c_InvalidWeight : Value), false), ((.ref c_InvalidGuest : Value), false), ((.ref c_InvalidGroup : Value), false), ((.ref c_InvalidGroups : Value), false), ((.ref c_InvalidFacts : Value), false), ((.ref c_InvalidSizes : Value), false), ((.ref c_InvalidNumber : Value), false), ((.ref c_InvalidIndex : Value), false), ((.ref c_NoSeating : Value), false), ((.ref c_InvalidSeating : Value), false), ((.ref c_InvalidComing : Value), false), ((.ref c_InvalidDistances : Value), false), ((.ref c_InvalidNames : Value), false), ((.ref c_InvalidTables : Value), false), ((.ref c_InvalidText : Value), false), ((.ref c_NothingToUndo : Value), false), ((.ref c_Refused : Value), false), ((.ref c_HallError : Value), true), ((.type "ValueError" : Value), true)] = true)
    (e_InvalidWeight : Kit.excB K c_InvalidWeight = true) (x_InvalidWeight : PySem.W.exmOne K (.ref c_InvalidWeight) (.ref c_HallError) = some true) (t_InvalidWeight : Kit.isRow K c_InvalidWeight [((.ref c_InvalidGuests : Value), false), ((.ref c_InvalidWeight : Value), true), ((.ref c_InvalidGuest : Value), false), ((.ref c_InvalidGroup : Value), false), ((.ref c_InvalidGroups : Value), false), ((.ref c_InvalidFacts : Value), false), ((.ref c_InvalidSizes : Value), false), ((.ref c_InvalidNumber : Value), false), ((.ref c_InvalidIndex : Value), false), ((.ref c_NoSeating : Value), false), ((.ref c_InvalidSeating : Value), false), ((.ref c_InvalidComing : Value), false), ((.ref c_InvalidDistances : Value), false), ((.ref c_InvalidNames : Value), false), ((.ref c_InvalidTables : Value), false), ((.ref c_InvalidText : Value), false), ((.ref c_NothingToUndo : Value), false), ((.ref c_Refused : Value), false), ((.ref c_HallError : Value), true), ((.type "ValueError" : Value), true)] = true)
    (e_InvalidNumber : Kit.excB K c_InvalidNumber = true) (x_InvalidNumber : PySem.W.exmOne K (.ref c_InvalidNumber) (.ref c_HallError) = some true) (t_InvalidNumber : Kit.isRow K c_InvalidNumber [((.ref c_InvalidGuests : Value), false), ((.ref c_InvalidWeight : Value), false), ((.ref c_InvalidGuest : Value), false), ((.ref c_InvalidGroup : Value), false), ((.ref c_InvalidGroups : Value), false), ((.ref c_InvalidFacts : Value), false), ((.ref c_InvalidSizes : Value), false), ((.ref c_InvalidNumber : Value), true), ((.ref c_InvalidIndex : Value), false), ((.ref c_NoSeating : Value), false), ((.ref c_InvalidSeating : Value), false), ((.ref c_InvalidComing : Value), false), ((.ref c_InvalidDistances : Value), false), ((.ref c_InvalidNames : Value), false), ((.ref c_InvalidTables : Value), false), ((.ref c_InvalidText : Value), false), ((.ref c_NothingToUndo : Value), false), ((.ref c_Refused : Value), false), ((.ref c_HallError : Value), true), ((.type "ValueError" : Value), true)] = true)
    (e_InvalidGuest : Kit.excB K c_InvalidGuest = true) (x_InvalidGuest : PySem.W.exmOne K (.ref c_InvalidGuest) (.ref c_HallError) = some true) (t_InvalidGuest : Kit.isRow K c_InvalidGuest [((.ref c_InvalidGuests : Value), false), ((.ref c_InvalidWeight : Value), false), ((.ref c_InvalidGuest : Value), true), ((.ref c_InvalidGroup : Value), false), ((.ref c_InvalidGroups : Value), false), ((.ref c_InvalidFacts : Value), false), ((.ref c_InvalidSizes : Value), false), ((.ref c_InvalidNumber : Value), false), ((.ref c_InvalidIndex : Value), false), ((.ref c_NoSeating : Value), false), ((.ref c_InvalidSeating : Value), false), ((.ref c_InvalidComing : Value), false), ((.ref c_InvalidDistances : Value), false), ((.ref c_InvalidNames : Value), false), ((.ref c_InvalidTables : Value), false), ((.ref c_InvalidText : Value), false), ((.ref c_NothingToUndo : Value), false), ((.ref c_Refused : Value), false), ((.ref c_HallError : Value), true), ((.type "ValueError" : Value), true)] = true)
    (e_InvalidGroup : Kit.excB K c_InvalidGroup = true) (x_InvalidGroup : PySem.W.exmOne K (.ref c_InvalidGroup) (.ref c_HallError) = some true) (t_InvalidGroup : Kit.isRow K c_InvalidGroup [((.ref c_InvalidGuests : Value), false), ((.ref c_InvalidWeight : Value), false), ((.ref c_InvalidGuest : Value), false), ((.ref c_InvalidGroup : Value), true), ((.ref c_InvalidGroups : Value), false), ((.ref c_InvalidFacts : Value), false), ((.ref c_InvalidSizes : Value), false), ((.ref c_InvalidNumber : Value), false), ((.ref c_InvalidIndex : Value), false), ((.ref c_NoSeating : Value), false), ((.ref c_InvalidSeating : Value), false), ((.ref c_InvalidComing : Value), false), ((.ref c_InvalidDistances : Value), false), ((.ref c_InvalidNames : Value), false), ((.ref c_InvalidTables : Value), false), ((.ref c_InvalidText : Value), false), ((.ref c_NothingToUndo : Value), false), ((.ref c_Refused : Value), false), ((.ref c_HallError : Value), true), ((.type "ValueError" : Value), true)] = true)
    (e_InvalidGroups : Kit.excB K c_InvalidGroups = true) (x_InvalidGroups : PySem.W.exmOne K (.ref c_InvalidGroups) (.ref c_HallError) = some true) (t_InvalidGroups : Kit.isRow K c_InvalidGroups [((.ref c_InvalidGuests : Value), false), ((.ref c_InvalidWeight : Value), false), ((.ref c_InvalidGuest : Value), false), ((.ref c_InvalidGroup : Value), false), ((.ref c_InvalidGroups : Value), true), ((.ref c_InvalidFacts : Value), false), ((.ref c_InvalidSizes : Value), false), ((.ref c_InvalidNumber : Value), false), ((.ref c_InvalidIndex : Value), false), ((.ref c_NoSeating : Value), false), ((.ref c_InvalidSeating : Value), false), ((.ref c_InvalidComing : Value), false), ((.ref c_InvalidDistances : Value), false), ((.ref c_InvalidNames : Value), false), ((.ref c_InvalidTables : Value), false), ((.ref c_InvalidText : Value), false), ((.ref c_NothingToUndo : Value), false), ((.ref c_Refused : Value), false), ((.ref c_HallError : Value), true), ((.type "ValueError" : Value), true)] = true)
    (z_ValueError : PySem.W.nsIn K mainGlobals "ValueError" = some none)
    (z_abs : PySem.W.nsIn K mainGlobals "abs" = some none)
    (z_all : PySem.W.nsIn K mainGlobals "all" = some none)
    (z_int : PySem.W.nsIn K mainGlobals "int" = some none)
    (z_isinstance : PySem.W.nsIn K mainGlobals "isinstance" = some none)
    (z_len : PySem.W.nsIn K mainGlobals "len" = some none)
    (z_list : PySem.W.nsIn K mainGlobals "list" = some none)
    (z_max : PySem.W.nsIn K mainGlobals "max" = some none)
    (z_min : PySem.W.nsIn K mainGlobals "min" = some none)
    (z_range : PySem.W.nsIn K mainGlobals "range" = some none)
    (z_repr : PySem.W.nsIn K mainGlobals "repr" = some none)
    (z_set : PySem.W.nsIn K mainGlobals "set" = some none)
    (z_sorted : PySem.W.nsIn K mainGlobals "sorted" = some none)
    (z_sum : PySem.W.nsIn K mainGlobals "sum" = some none)
    (z_tuple : PySem.W.nsIn K mainGlobals "tuple" = some none)
    (z_type : PySem.W.nsIn K mainGlobals "type" = some none)
    (z_zip : PySem.W.nsIn K mainGlobals "zip" = some none)
    (y_MOST_GUESTS : PySem.W.nsIn K mainGlobals "MOST_GUESTS" = some (some (.int 20 t_MOST_GUESTS)))
    (y_MOST_WEIGHT : PySem.W.nsIn K mainGlobals "MOST_WEIGHT" = some (some (.int 1000000000000 t_MOST_WEIGHT)))
    (x_factorial : PySem.W.nsIn K mainGlobals "factorial" = some (some (.builtin "math.factorial")))
    (x_gcd : PySem.W.nsIn K mainGlobals "gcd" = some (some (.builtin "math.gcd")))
    (x_perm : PySem.W.nsIn K mainGlobals "perm" = some (some (.builtin "math.perm")))
    : ∃ fd : FuncData, (∀ (s : Shared) (v : Value), BindsTo s fd ⟨[v], []⟩ [("script", v)]) ∧ ∀ base : Heap, K.In base → base.Ns mainGlobals mg → FnOkG l.prog w K mg base 15 fa fd ["script"] (sp_law K) := by
  have e := hfa.symm.trans (PySem.W.mg_of X G a48)
  cases e
  have F1 := fun_mk (st := s_is_whole) l1 c1 k1
  have F2 := fun_mk (st := s_is_within) l2 c2 k2
  have F3 := fun_mk (st := s_is_ascending) l3 c3 k3
  have F4 := fun_mk (st := s_check_guests) l4 c4 k4
  have F5 := fun_mk (st := s_check_weight) l5 c5 k5
  have F6 := fun_mk (st := s_check_guest) l6 c6 k6
  have F7 := fun_mk (st := s_check_number) l7 c7 k7
  have F8 := fun_mk (st := s_check_any_number) l8 c8 k8
  have F9 := fun_mk (st := s_raised) l9 c9 k9
  have F10 := fun_mk (st := s_rising) l10 c10 k10
  have F11 := fun_mk (st := s_sums_by_tables) l11 c11 k11
  have F12 := fun_mk (st := s_sum_at) l12 c12 k12
  have F13 := fun_mk (st := s_fraction) l13 c13 k13
  have F14 := fun_mk (st := s_tables_weight) l14 c14 k14
  have F15 := fun_mk (st := s_weight_with_size) l15 c15 k15
  have F16 := fun_mk (st := s_weights_by_tables) l16 c16 k16
  have F17 := fun_mk (st := s_opener_share) l17 c17 k17
  have F18 := fun_mk (st := s_count_openers) l18 c18 k18
  have F19 := fun_mk (st := s_openers_share) l19 c19 k19
  have F20 := fun_mk (st := s_last_opener_share) l20 c20 k20
  have F21 := fun_mk (st := s_rank_share) l21 c21 k21
  have F22 := fun_mk (st := s_together_share) l22 c22 k22
  have F23 := fun_mk (st := s_just_share) l23 c23 k23
  have F24 := fun_mk (st := s_tables_shares) l24 c24 k24
  have F25 := fun_mk (st := s_split_share) l25 c25 k25
  have F26 := fun_mk (st := s_given_tables) l26 c26 k26
  have F27 := fun_mk (st := s_home_share) l27 c27 k27
  have F28 := fun_mk (st := s_other_share) l28 c28 k28
  have F29 := fun_mk (st := s_check_group) l29 c29 k29
  have F30 := fun_mk (st := s_check_openers) l30 c30 k30
  have F31 := fun_mk (st := s_check_groups) l31 c31 k31
  have F32 := fun_mk (st := s_are_groups) l32 c32 k32
  have F33 := fun_mk (st := s_ways_of_openers) l33 c33 k33
  have F34 := fun_mk (st := s_table_weight) l34 c34 k34
  have F35 := fun_mk (st := s_home_weight) l35 c35 k35
  have F36 := fun_mk (st := s_law_store) l36 c36 k36
  have F37 := fun_mk (st := s_law_pick) l37 c37 k37
  have F38 := fun_mk (st := s_law_heavy) l38 c38 k38
  have F39 := fun_mk (st := s_law_gang) l39 c39 k39
  have F40 := fun_mk (st := s_law_word_of) l40 c40 k40
  have F41 := fun_mk (st := s_law_bad_gangs) l41 c41 k41
  have F42 := fun_mk (st := s_law_by_gang) l42 c42 k42
  have F43 := fun_mk (st := s_law_called) l43 c43 k43
  have F44 := fun_mk (st := s_law_raised) l44 c44 k44
  have F45 := fun_mk (st := s_law_bad_lots) l45 c45 k45
  have F46 := fun_mk (st := s_law_right) l46 c46 k46
  have F47 := fun_mk (st := s_law_let_right) l47 c47 k47
  have F48 := fun_mk (st := s_law) l48 c48 k48
  let T : Tx K mg :=
    { f_is_whole := f1, d_is_whole := _, F_is_whole := F1, g_is_whole := PySem.W.mg_of X G a1, b_is_whole := F1.binds (ps := ["thing"]) fun _ _ _ _ _ _ us hl => match us, hl with | [_], _ => rfl,
      f_is_within := f2, d_is_within := _, F_is_within := F2, g_is_within := PySem.W.mg_of X G a2, b_is_within := F2.binds (ps := ["thing", "least", "most"]) fun _ _ _ _ _ _ us hl => match us, hl with | [_, _, _], _ => rfl,
      f_is_ascending := f3, d_is_ascending := _, F_is_ascending := F3, g_is_ascending := PySem.W.mg_of X G a3, b_is_ascending := F3.binds (ps := ["thing", "least", "most"]) fun _ _ _ _ _ _ us hl => match us, hl with | [_, _, _], _ => rfl,
      f_check_guests := f4, d_check_guests := _, F_check_guests := F4, g_check_guests := PySem.W.mg_of X G a4, b_check_guests := F4.binds (ps := ["guests"]) fun _ _ _ _ _ _ us hl => match us, hl with | [_], _ => rfl,
      f_check_weight := f5, d_check_weight := _, F_check_weight := F5, g_check_weight := PySem.W.mg_of X G a5, b_check_weight := F5.binds (ps := ["weight"]) fun _ _ _ _ _ _ us hl => match us, hl with | [_], _ => rfl,
      f_check_guest := f6, d_check_guest := _, F_check_guest := F6, g_check_guest := PySem.W.mg_of X G a6, b_check_guest := F6.binds (ps := ["guest", "guests"]) fun _ _ _ _ _ _ us hl => match us, hl with | [_, _], _ => rfl,
      f_check_number := f7, d_check_number := _, F_check_number := F7, g_check_number := PySem.W.mg_of X G a7, b_check_number := F7.binds (ps := ["number", "least", "most"]) fun _ _ _ _ _ _ us hl => match us, hl with | [_, _, _], _ => rfl,
      f_check_any_number := f8, d_check_any_number := _, F_check_any_number := F8, g_check_any_number := PySem.W.mg_of X G a8, b_check_any_number := F8.binds (ps := ["number"]) fun _ _ _ _ _ _ us hl => match us, hl with | [_], _ => rfl,
      f_raised := f9, d_raised := _, F_raised := F9, g_raised := PySem.W.mg_of X G a9, b_raised := F9.binds (ps := ["base", "times"]) fun _ _ _ _ _ _ us hl => match us, hl with | [_, _], _ => rfl,
      f_rising := f10, d_rising := _, F_rising := F10, g_rising := PySem.W.mg_of X G a10, b_rising := F10.binds (ps := ["weight", "guests"]) fun _ _ _ _ _ _ us hl => match us, hl with | [_, _], _ => rfl,
      f_sums_by_tables := f11, d_sums_by_tables := _, F_sums_by_tables := F11, g_sums_by_tables := PySem.W.mg_of X G a11, b_sums_by_tables := F11.binds (ps := ["factors"]) fun _ _ _ _ _ _ us hl => match us, hl with | [_], _ => rfl,
      f_sum_at := f12, d_sum_at := _, F_sum_at := F12, g_sum_at := PySem.W.mg_of X G a12, b_sum_at := F12.binds (ps := ["factors", "number"]) fun _ _ _ _ _ _ us hl => match us, hl with | [_, _], _ => rfl,
      f_fraction := f13, d_fraction := _, F_fraction := F13, g_fraction := PySem.W.mg_of X G a13, b_fraction := F13.binds (ps := ["top", "bottom"]) fun _ _ _ _ _ _ us hl => match us, hl with | [_, _], _ => rfl,
      f_tables_weight := f14, d_tables_weight := _, F_tables_weight := F14, g_tables_weight := PySem.W.mg_of X G a14, b_tables_weight := F14.binds (ps := ["guests", "weight", "size"]) fun _ _ _ _ _ _ us hl => match us, hl with | [_, _, _], _ => rfl,
      f_weight_with_size := f15, d_weight_with_size := _, F_weight_with_size := F15, g_weight_with_size := PySem.W.mg_of X G a15, b_weight_with_size := F15.binds (ps := ["guests", "weight", "size"]) fun _ _ _ _ _ _ us hl => match us, hl with | [_, _, _], _ => rfl,
      f_weights_by_tables := f16, d_weights_by_tables := _, F_weights_by_tables := F16, g_weights_by_tables := PySem.W.mg_of X G a16, b_weights_by_tables := F16.binds (ps := ["guests", "weight"]) fun _ _ _ _ _ _ us hl => match us, hl with | [_, _], _ => rfl,
      f_opener_share := f17, d_opener_share := _, F_opener_share := F17, g_opener_share := PySem.W.mg_of X G a17, b_opener_share := F17.binds (ps := ["guests", "weight", "guest"]) fun _ _ _ _ _ _ us hl => match us, hl with | [_, _, _], _ => rfl,
      f_count_openers := f18, d_count_openers := _, F_count_openers := F18, g_count_openers := PySem.W.mg_of X G a18, b_count_openers := F18.binds (ps := ["guests", "group"]) fun _ _ _ _ _ _ us hl => match us, hl with | [_, _], _ => rfl,
      f_openers_share := f19, d_openers_share := _, F_openers_share := F19, g_openers_share := PySem.W.mg_of X G a19, b_openers_share := F19.binds (ps := ["guests", "weight", "group"]) fun _ _ _ _ _ _ us hl => match us, hl with | [_, _, _], _ => rfl,
      f_last_opener_share := f20, d_last_opener_share := _, F_last_opener_share := F20, g_last_opener_share := PySem.W.mg_of X G a20, b_last_opener_share := F20.binds (ps := ["guests", "weight", "guest"]) fun _ _ _ _ _ _ us hl => match us, hl with | [_, _, _], _ => rfl,
      f_rank_share := f21, d_rank_share := _, F_rank_share := F21, g_rank_share := PySem.W.mg_of X G a21, b_rank_share := F21.binds (ps := ["guests", "weight", "rank", "guest"]) fun _ _ _ _ _ _ us hl => match us, hl with | [_, _, _, _], _ => rfl,
      f_together_share := f22, d_together_share := _, F_together_share := F22, g_together_share := PySem.W.mg_of X G a22, b_together_share := F22.binds (ps := ["guests", "weight", "group"]) fun _ _ _ _ _ _ us hl => match us, hl with | [_, _, _], _ => rfl,
      f_just_share := f23, d_just_share := _, F_just_share := F23, g_just_share := PySem.W.mg_of X G a23, b_just_share := F23.binds (ps := ["guests", "weight", "group"]) fun _ _ _ _ _ _ us hl => match us, hl with | [_, _, _], _ => rfl,
      f_tables_shares := f24, d_tables_shares := _, F_tables_shares := F24, g_tables_shares := PySem.W.mg_of X G a24, b_tables_shares := F24.binds (ps := ["guests", "weight", "group"]) fun _ _ _ _ _ _ us hl => match us, hl with | [_, _, _], _ => rfl,
      f_split_share := f25, d_split_share := _, F_split_share := F25, g_split_share := PySem.W.mg_of X G a25, b_split_share := F25.binds (ps := ["guests", "weight", "groups"]) fun _ _ _ _ _ _ us hl => match us, hl with | [_, _, _], _ => rfl,
      f_given_tables := f26, d_given_tables := _, F_given_tables := F26, g_given_tables := PySem.W.mg_of X G a26, b_given_tables := F26.binds (ps := ["guests", "number", "group"]) fun _ _ _ _ _ _ us hl => match us, hl with | [_, _, _], _ => rfl,
      f_home_share := f27, d_home_share := _, F_home_share := F27, g_home_share := PySem.W.mg_of X G a27, b_home_share := F27.binds (ps := ["guests", "weight", "steps"]) fun _ _ _ _ _ _ us hl => match us, hl with | [_, _, _], _ => rfl,
      f_other_share := f28, d_other_share := _, F_other_share := F28, g_other_share := PySem.W.mg_of X G a28, b_other_share := F28.binds (ps := ["guests", "weight", "steps"]) fun _ _ _ _ _ _ us hl => match us, hl with | [_, _, _], _ => rfl,
      f_check_group := f29, d_check_group := _, F_check_group := F29, g_check_group := PySem.W.mg_of X G a29, b_check_group := F29.binds (ps := ["group", "guests"]) fun _ _ _ _ _ _ us hl => match us, hl with | [_, _], _ => rfl,
      f_check_openers := f30, d_check_openers := _, F_check_openers := F30, g_check_openers := PySem.W.mg_of X G a30, b_check_openers := F30.binds (ps := ["group", "guests"]) fun _ _ _ _ _ _ us hl => match us, hl with | [_, _], _ => rfl,
      f_check_groups := f31, d_check_groups := _, F_check_groups := F31, g_check_groups := PySem.W.mg_of X G a31, b_check_groups := F31.binds (ps := ["groups", "guests"]) fun _ _ _ _ _ _ us hl => match us, hl with | [_, _], _ => rfl,
      f_are_groups := f32, d_are_groups := _, F_are_groups := F32, g_are_groups := PySem.W.mg_of X G a32, b_are_groups := F32.binds (ps := ["thing", "guests"]) fun _ _ _ _ _ _ us hl => match us, hl with | [_, _], _ => rfl,
      f_ways_of_openers := f33, d_ways_of_openers := _, F_ways_of_openers := F33, g_ways_of_openers := PySem.W.mg_of X G a33, b_ways_of_openers := F33.binds (ps := ["guests", "group"]) fun _ _ _ _ _ _ us hl => match us, hl with | [_, _], _ => rfl,
      f_table_weight := f34, d_table_weight := _, F_table_weight := F34, g_table_weight := PySem.W.mg_of X G a34, b_table_weight := F34.binds (ps := ["weight", "group"]) fun _ _ _ _ _ _ us hl => match us, hl with | [_, _], _ => rfl,
      f_home_weight := f35, d_home_weight := _, F_home_weight := F35, g_home_weight := PySem.W.mg_of X G a35, b_home_weight := F35.binds (ps := ["guests", "weight", "steps"]) fun _ _ _ _ _ _ us hl => match us, hl with | [_, _, _], _ => rfl,
      f_law_store := f36, d_law_store := _, F_law_store := F36, g_law_store := PySem.W.mg_of X G a36, b_law_store := F36.binds (ps := ["script", "k"]) fun _ _ _ _ _ _ us hl => match us, hl with | [_, _], _ => rfl,
      f_law_pick := f37, d_law_pick := _, F_law_pick := F37, g_law_pick := PySem.W.mg_of X G a37, b_law_pick := F37.binds (ps := ["store", "bound"]) fun _ _ _ _ _ _ us hl => match us, hl with | [_, _], _ => rfl,
      f_law_heavy := f38, d_law_heavy := _, F_law_heavy := F38, g_law_heavy := PySem.W.mg_of X G a38, b_law_heavy := F38.binds (ps := ["store"]) fun _ _ _ _ _ _ us hl => match us, hl with | [_], _ => rfl,
      f_law_gang := f39, d_law_gang := _, F_law_gang := F39, g_law_gang := PySem.W.mg_of X G a39, b_law_gang := F39.binds (ps := ["store", "many_here"]) fun _ _ _ _ _ _ us hl => match us, hl with | [_, _], _ => rfl,
      f_law_word_of := f40, d_law_word_of := _, F_law_word_of := F40, g_law_word_of := PySem.W.mg_of X G a40, b_law_word_of := F40.binds (ps := ["e"]) fun _ _ _ _ _ _ us hl => match us, hl with | [_], _ => rfl,
      f_law_bad_gangs := f41, d_law_bad_gangs := _, F_law_bad_gangs := F41, g_law_bad_gangs := PySem.W.mg_of X G a41, b_law_bad_gangs := F41.binds (ps := ["many_here", "gang"]) fun _ _ _ _ _ _ us hl => match us, hl with | [_, _], _ => rfl,
      f_law_by_gang := f42, d_law_by_gang := _, F_law_by_gang := F42, g_law_by_gang := PySem.W.mg_of X G a42, b_law_by_gang := F42.binds (ps := ["door", "many_here", "heavy", "gang"]) fun _ _ _ _ _ _ us hl => match us, hl with | [_, _, _, _], _ => rfl,
      f_law_called := f43, d_law_called := _, F_law_called := F43, g_law_called := PySem.W.mg_of X G a43, b_law_called := F43.binds (ps := ["door", "many_here", "heavy", "first", "second"]) fun _ _ _ _ _ _ us hl => match us, hl with | [_, _, _, _, _], _ => rfl,
      f_law_raised := f44, d_law_raised := _, F_law_raised := F44, g_law_raised := PySem.W.mg_of X G a44, b_law_raised := F44.binds (ps := ["door", "many_here", "heavy", "first", "second"]) fun _ _ _ _ _ _ us hl => match us, hl with | [_, _, _, _, _], _ => rfl,
      f_law_bad_lots := f45, d_law_bad_lots := _, F_law_bad_lots := F45, g_law_bad_lots := PySem.W.mg_of X G a45, b_law_bad_lots := F45.binds (ps := ["many_here", "gang"]) fun _ _ _ _ _ _ us hl => match us, hl with | [_, _], _ => rfl,
      f_law_right := f46, d_law_right := _, F_law_right := F46, g_law_right := PySem.W.mg_of X G a46, b_law_right := F46.binds (ps := ["store", "many_here", "heavy"]) fun _ _ _ _ _ _ us hl => match us, hl with | [_, _, _], _ => rfl,
      f_law_let_right := f47, d_law_let_right := _, F_law_let_right := F47, g_law_let_right := PySem.W.mg_of X G a47, b_law_let_right := F47.binds (ps := ["many_here", "heavy", "gang"]) fun _ _ _ _ _ _ us hl => match us, hl with | [_, _, _], _ => rfl,
      f_law := fa, d_law := _, F_law := F48, g_law := PySem.W.mg_of X G a48, b_law := F48.binds (ps := ["script"]) fun _ _ _ _ _ _ us hl => match us, hl with | [_], _ => rfl,
      cl_HallError := c_HallError, gc_HallError := PySem.W.mg_of X G q_HallError,
      cl_InvalidGuests := c_InvalidGuests, gc_InvalidGuests := PySem.W.mg_of X G q_InvalidGuests,
      cl_InvalidWeight := c_InvalidWeight, gc_InvalidWeight := PySem.W.mg_of X G q_InvalidWeight,
      cl_InvalidGuest := c_InvalidGuest, gc_InvalidGuest := PySem.W.mg_of X G q_InvalidGuest,
      cl_InvalidSeating := c_InvalidSeating, gc_InvalidSeating := PySem.W.mg_of X G q_InvalidSeating,
      cl_InvalidComing := c_InvalidComing, gc_InvalidComing := PySem.W.mg_of X G q_InvalidComing,
      cl_InvalidNames := c_InvalidNames, gc_InvalidNames := PySem.W.mg_of X G q_InvalidNames,
      cl_InvalidTables := c_InvalidTables, gc_InvalidTables := PySem.W.mg_of X G q_InvalidTables,
      cl_InvalidSizes := c_InvalidSizes, gc_InvalidSizes := PySem.W.mg_of X G q_InvalidSizes,
      cl_InvalidGroup := c_InvalidGroup, gc_InvalidGroup := PySem.W.mg_of X G q_InvalidGroup,
      cl_InvalidGroups := c_InvalidGroups, gc_InvalidGroups := PySem.W.mg_of X G q_InvalidGroups,
      cl_InvalidFacts := c_InvalidFacts, gc_InvalidFacts := PySem.W.mg_of X G q_InvalidFacts,
      cl_InvalidDistances := c_InvalidDistances, gc_InvalidDistances := PySem.W.mg_of X G q_InvalidDistances,
      cl_InvalidNumber := c_InvalidNumber, gc_InvalidNumber := PySem.W.mg_of X G q_InvalidNumber,
      cl_InvalidIndex := c_InvalidIndex, gc_InvalidIndex := PySem.W.mg_of X G q_InvalidIndex,
      cl_NoSeating := c_NoSeating, gc_NoSeating := PySem.W.mg_of X G q_NoSeating,
      cl_NothingToUndo := c_NothingToUndo, gc_NothingToUndo := PySem.W.mg_of X G q_NothingToUndo,
      cl_Refused := c_Refused, gc_Refused := PySem.W.mg_of X G q_Refused,
      cl_InvalidText := c_InvalidText, gc_InvalidText := PySem.W.mg_of X G q_InvalidText,
      e_InvalidGuests := Kit.excD_of e_InvalidGuests, x_InvalidGuests := x_InvalidGuests, t_InvalidGuests := t_InvalidGuests,
      e_InvalidWeight := Kit.excD_of e_InvalidWeight, x_InvalidWeight := x_InvalidWeight, t_InvalidWeight := t_InvalidWeight,
      e_InvalidNumber := Kit.excD_of e_InvalidNumber, x_InvalidNumber := x_InvalidNumber, t_InvalidNumber := t_InvalidNumber,
      e_InvalidGuest := Kit.excD_of e_InvalidGuest, x_InvalidGuest := x_InvalidGuest, t_InvalidGuest := t_InvalidGuest,
      e_InvalidGroup := Kit.excD_of e_InvalidGroup, x_InvalidGroup := x_InvalidGroup, t_InvalidGroup := t_InvalidGroup,
      e_InvalidGroups := Kit.excD_of e_InvalidGroups, x_InvalidGroups := x_InvalidGroups, t_InvalidGroups := t_InvalidGroups,
      m_ValueError := PySem.W.mg_none_of X G z_ValueError,
      m_abs := PySem.W.mg_none_of X G z_abs,
      m_all := PySem.W.mg_none_of X G z_all,
      m_int := PySem.W.mg_none_of X G z_int,
      m_isinstance := PySem.W.mg_none_of X G z_isinstance,
      m_len := PySem.W.mg_none_of X G z_len,
      m_list := PySem.W.mg_none_of X G z_list,
      m_max := PySem.W.mg_none_of X G z_max,
      m_min := PySem.W.mg_none_of X G z_min,
      m_range := PySem.W.mg_none_of X G z_range,
      m_repr := PySem.W.mg_none_of X G z_repr,
      m_set := PySem.W.mg_none_of X G z_set,
      m_sorted := PySem.W.mg_none_of X G z_sorted,
      m_sum := PySem.W.mg_none_of X G z_sum,
      m_tuple := PySem.W.mg_none_of X G z_tuple,
      m_type := PySem.W.mg_none_of X G z_type,
      m_zip := PySem.W.mg_none_of X G z_zip,
      c_MOST_GUESTS := ⟨_, PySem.W.mg_of X G y_MOST_GUESTS, ⟨_, rfl⟩⟩,
      c_MOST_WEIGHT := ⟨_, PySem.W.mg_of X G y_MOST_WEIGHT, ⟨_, rfl⟩⟩,
      i_factorial := PySem.W.mg_of X G x_factorial,
      i_gcd := PySem.W.mg_of X G x_gcd,
      i_perm := PySem.W.mg_of X G x_perm }
  exact ⟨PySem.W.fnOf "law" "law" (defArgs s_law) (defBody s_law) (defScope s_law) .none kV48 dc48 pm48 an48 cd48 ct48, fun s v => .of_eq rfl, fun base _ _ => ok_law T⟩
end K23
open PySem PySem.W PyProof.Rows
set_option maxRecDepth 100000 in
set_option maxHeartbeats 0 in
theorem PySem.Challenge.cw_newtables_k23_errors_of_events_holds : PySem.Challenge.rw_newtables_k23_errors_of_events.Holds := by
  w_on; o_law; k_head; (case hw => w_witness2)
  k_fill
  refine Kit.walk_G (l := PySem.Challenge.rw_newtables_k23_errors_of_events) (m := 63) (n := 15) (x := "script") (want := fun w => K23.sp_law _) rfl (by decide) rfl ⟨rfl, by decide, by decide⟩ (fun w h Y => PySem.W.kIn_of Y) ?F (fun _ _ a ns hl _ hS => ⟨a, ns, rfl, hS, hl, fun _ => rfl⟩)
  case F =>
    intro w mg fa h KX G hmg
    refine' K23.all_mk KX G hmg ?a1 ?l1 ?c1 ?k1 ?a2 ?l2 ?c2 ?k2 ?a3 ?l3 ?c3 ?k3 ?a4 ?l4 ?c4 ?k4 ?a5 ?l5 ?c5 ?k5 ?a6 ?l6 ?c6 ?k6 ?a7 ?l7 ?c7 ?k7 ?a8 ?l8 ?c8 ?k8 ?a9 ?l9 ?c9 ?k9 ?a10 ?l10 ?c10 ?k10 ?a11 ?l11 ?c11 ?k11 ?a12 ?l12 ?c12 ?k12 ?a13 ?l13 ?c13 ?k13 ?a14 ?l14 ?c14 ?k14 ?a15 ?l15 ?c15 ?k15 ?a16 ?l16 ?c16 ?k16 ?a17 ?l17 ?c17 ?k17 ?a18 ?l18 ?c18 ?k18 ?a19 ?l19 ?c19 ?k19 ?a20 ?l20 ?c20 ?k20 ?a21 ?l21 ?c21 ?k21 ?a22 ?l22 ?c22 ?k22 ?a23 ?l23 ?c23 ?k23 ?a24 ?l24 ?c24 ?k24 ?a25 ?l25 ?c25 ?k25 ?a26 ?l26 ?c26 ?k26 ?a27 ?l27 ?c27 ?k27 ?a28 ?l28 ?c28 ?k28 ?a29 ?l29 ?c29 ?k29 ?a30 ?l30 ?c30 ?k30 ?a31 ?l31 ?c31 ?k31 ?a32 ?l32 ?c32 ?k32 ?a33 ?l33 ?c33 ?k33 ?a34 ?l34 ?c34 ?k34 ?a35 ?l35 ?c35 ?k35 ?a36 ?l36 ?c36 ?k36 ?a37 ?l37 ?c37 ?k37 ?a38 ?l38 ?c38 ?k38 ?a39 ?l39 ?c39 ?k39 ?a40 ?l40 ?c40 ?k40 ?a41 ?l41 ?c41 ?k41 ?a42 ?l42 ?c42 ?k42 ?a43 ?l43 ?c43 ?k43 ?a44 ?l44 ?c44 ?k44 ?a45 ?l45 ?c45 ?k45 ?a46 ?l46 ?c46 ?k46 ?a47 ?l47 ?c47 ?k47 ?a48 ?l48 ?c48 ?k48 ?q_HallError ?q_InvalidGuests ?q_InvalidWeight ?q_InvalidGuest ?q_InvalidSeating ?q_InvalidComing ?q_InvalidNames ?q_InvalidTables ?q_InvalidSizes ?q_InvalidGroup ?q_InvalidGroups ?q_InvalidFacts ?q_InvalidDistances ?q_InvalidNumber ?q_InvalidIndex ?q_NoSeating ?q_NothingToUndo ?q_Refused ?q_InvalidText ?e_InvalidGuests ?x_InvalidGuests ?t_InvalidGuests ?e_InvalidWeight ?x_InvalidWeight ?t_InvalidWeight ?e_InvalidNumber ?x_InvalidNumber ?t_InvalidNumber ?e_InvalidGuest ?x_InvalidGuest ?t_InvalidGuest ?e_InvalidGroup ?x_InvalidGroup ?t_InvalidGroup ?e_InvalidGroups ?x_InvalidGroups ?t_InvalidGroups ?z_ValueError ?z_abs ?z_all ?z_int ?z_isinstance ?z_len ?z_list ?z_max ?z_min ?z_range ?z_repr ?z_set ?z_sorted ?z_sum ?z_tuple ?z_type ?z_zip ?y_MOST_GUESTS ?y_MOST_WEIGHT ?x_factorial ?x_gcd ?x_perm
    (case a1 => k_is); (case l1 => k_is); (case c1 => k_is); (case k1 => k_is); (case a2 => k_is); (case l2 => k_is)
    (case c2 => k_is); (case k2 => k_is); (case a3 => k_is); (case l3 => k_is); (case c3 => k_is); (case k3 => k_is)
    (case a4 => k_is); (case l4 => k_is); (case c4 => k_is); (case k4 => k_is); (case a5 => k_is); (case l5 => k_is)
    (case c5 => k_is); (case k5 => k_is); (case a6 => k_is); (case l6 => k_is); (case c6 => k_is); (case k6 => k_is)
    (case a7 => k_is); (case l7 => k_is); (case c7 => k_is); (case k7 => k_is); (case a8 => k_is); (case l8 => k_is)
    (case c8 => k_is); (case k8 => k_is); (case a9 => k_is); (case l9 => k_is); (case c9 => k_is); (case k9 => k_is)
    (case a10 => k_is); (case l10 => k_is); (case c10 => k_is); (case k10 => k_is); (case a11 => k_is); (case l11 => k_is)
    (case c11 => k_is); (case k11 => k_is); (case a12 => k_is); (case l12 => k_is); (case c12 => k_is); (case k12 => k_is)
    (case a13 => k_is); (case l13 => k_is); (case c13 => k_is); (case k13 => k_is); (case a14 => k_is); (case l14 => k_is)
    (case c14 => k_is); (case k14 => k_is); (case a15 => k_is); (case l15 => k_is); (case c15 => k_is); (case k15 => k_is)
    (case a16 => k_is); (case l16 => k_is); (case c16 => k_is); (case k16 => k_is); (case a17 => k_is); (case l17 => k_is)
    (case c17 => k_is); (case k17 => k_is); (case a18 => k_is); (case l18 => k_is); (case c18 => k_is); (case k18 => k_is)
    (case a19 => k_is); (case l19 => k_is); (case c19 => k_is); (case k19 => k_is); (case a20 => k_is); (case l20 => k_is)
    (case c20 => k_is); (case k20 => k_is); (case a21 => k_is); (case l21 => k_is); (case c21 => k_is); (case k21 => k_is)
    (case a22 => k_is); (case l22 => k_is); (case c22 => k_is); (case k22 => k_is); (case a23 => k_is); (case l23 => k_is)
    (case c23 => k_is); (case k23 => k_is); (case a24 => k_is); (case l24 => k_is); (case c24 => k_is); (case k24 => k_is)
    (case a25 => k_is); (case l25 => k_is); (case c25 => k_is); (case k25 => k_is); (case a26 => k_is); (case l26 => k_is)
    (case c26 => k_is); (case k26 => k_is); (case a27 => k_is); (case l27 => k_is); (case c27 => k_is); (case k27 => k_is)
    (case a28 => k_is); (case l28 => k_is); (case c28 => k_is); (case k28 => k_is); (case a29 => k_is); (case l29 => k_is)
    (case c29 => k_is); (case k29 => k_is); (case a30 => k_is); (case l30 => k_is); (case c30 => k_is); (case k30 => k_is)
    (case a31 => k_is); (case l31 => k_is); (case c31 => k_is); (case k31 => k_is); (case a32 => k_is); (case l32 => k_is)
    (case c32 => k_is); (case k32 => k_is); (case a33 => k_is); (case l33 => k_is); (case c33 => k_is); (case k33 => k_is)
    (case a34 => k_is); (case l34 => k_is); (case c34 => k_is); (case k34 => k_is); (case a35 => k_is); (case l35 => k_is)
    (case c35 => k_is); (case k35 => k_is); (case a36 => k_is); (case l36 => k_is); (case c36 => k_is); (case k36 => k_is)
    (case a37 => k_is); (case l37 => k_is); (case c37 => k_is); (case k37 => k_is); (case a38 => k_is); (case l38 => k_is)
    (case c38 => k_is); (case k38 => k_is); (case a39 => k_is); (case l39 => k_is); (case c39 => k_is); (case k39 => k_is)
    (case a40 => k_is); (case l40 => k_is); (case c40 => k_is); (case k40 => k_is); (case a41 => k_is); (case l41 => k_is)
    (case c41 => k_is); (case k41 => k_is); (case a42 => k_is); (case l42 => k_is); (case c42 => k_is); (case k42 => k_is)
    (case a43 => k_is); (case l43 => k_is); (case c43 => k_is); (case k43 => k_is); (case a44 => k_is); (case l44 => k_is)
    (case c44 => k_is); (case k44 => k_is); (case a45 => k_is); (case l45 => k_is); (case c45 => k_is); (case k45 => k_is)
    (case a46 => k_is); (case l46 => k_is); (case c46 => k_is); (case k46 => k_is); (case a47 => k_is); (case l47 => k_is)
    (case c47 => k_is); (case k47 => k_is); (case a48 => k_is); (case l48 => k_is); (case c48 => k_is); (case k48 => k_is)
    (case q_HallError => k_is); (case q_InvalidGuests => k_is); (case q_InvalidWeight => k_is); (case q_InvalidGuest => k_is); (case q_InvalidSeating => k_is); (case q_InvalidComing => k_is)
    (case q_InvalidNames => k_is); (case q_InvalidTables => k_is); (case q_InvalidSizes => k_is); (case q_InvalidGroup => k_is); (case q_InvalidGroups => k_is); (case q_InvalidFacts => k_is)
    (case q_InvalidDistances => k_is); (case q_InvalidNumber => k_is); (case q_InvalidIndex => k_is); (case q_NoSeating => k_is); (case q_NothingToUndo => k_is); (case q_Refused => k_is)
    (case q_InvalidText => k_is); (case e_InvalidGuests => kernel_rfl); (case x_InvalidGuests => kernel_rfl); (case t_InvalidGuests => kernel_rfl); (case e_InvalidWeight => kernel_rfl); (case x_InvalidWeight => kernel_rfl)
    (case t_InvalidWeight => kernel_rfl); (case e_InvalidNumber => kernel_rfl); (case x_InvalidNumber => kernel_rfl); (case t_InvalidNumber => kernel_rfl); (case e_InvalidGuest => kernel_rfl); (case x_InvalidGuest => kernel_rfl)
    (case t_InvalidGuest => kernel_rfl); (case e_InvalidGroup => kernel_rfl); (case x_InvalidGroup => kernel_rfl); (case t_InvalidGroup => kernel_rfl); (case e_InvalidGroups => kernel_rfl); (case x_InvalidGroups => kernel_rfl)
    (case t_InvalidGroups => kernel_rfl); (case z_ValueError => k_is); (case z_abs => k_is); (case z_all => k_is); (case z_int => k_is); (case z_isinstance => k_is)
    (case z_len => k_is); (case z_list => k_is); (case z_max => k_is); (case z_min => k_is); (case z_range => k_is); (case z_repr => k_is)
    (case z_set => k_is); (case z_sorted => k_is); (case z_sum => k_is); (case z_tuple => k_is); (case z_type => k_is); (case z_zip => k_is)
    (case y_MOST_GUESTS => k_is); (case y_MOST_WEIGHT => k_is); (case x_factorial => k_is); (case x_gcd => k_is); (case x_perm => k_is)