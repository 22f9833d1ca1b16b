import PyProof.Rows.All
import HandS.Evl
import HandS.DictTup
import HandS.DictSubView
import KE.KDictWalk
import KE.KDictDisplayH
import Wide.All
import OpenK.AllK
import Wide.FinOn
import PyProof.TypeEq
import HandS.ForMost
import HandS.Wide
import HandS.WideBits
import HandS.Gcd
import HandS.Codes
import HandS.Conv
import HandS.IsInst
import HandS.More
import HandS.Walk
import HandS.Style
import PyProof.InstEq
import HandS.Sort
import KE.DataMinMax
import KE.GoesEnum
import KE.GoesMore
import HandS.Iter
import HandS.WordsDict
import PyProof.ReprLen
import PyProof.Rows.RegStrFacts
import KE.KMathGC
import HandS.RevRange
import HandS.Deep
import HandS.Exc
import HandS.ExcOwn
import HandS.ExcCtx
import HandS.HotCalls
import HandS.ExcIs
import HandS.FStr
import HandS.RaiseMore
import HandS.Defaults
import HandS.CallSlots
import HandS.ListItems
import HandS.SortOrd
import HandS.SortRule
import KE.KItemsList
import KE.KTupSum
import HandS.SetKeys
import PySem.Challenge.RW_newtables_k49_errors_of_powers
set_option Elab.async false
set_option linter.all false
set_option maxRecDepth 100000
set_option maxHeartbeats 4000000
namespace Kit
open PySem PySem.Spec PyProof.Rows L2 Evl
/-! rules that the layer lacks -/
section
variable {X : Cx} {a b c d : Expr} {ta tb tc td : TE} {pos : Pos}
def CPowX (i j : Int) : Prop := 0 ≤ j ∧ (Builtin.Int.intBits i : Int) * j ≤ 2 ^ 27
theorem op_powX : OpR X (binaryOp .Pow) (rI CPowX fun i j => .int (i ^ j.toNat)) := opI fun _ _ _ _ _ _ _ hc q => pow_int hc.1 hc.2 q
/-- the types that are compared by == -/
def Meta (n : String) : Prop := ∀ s : Shared, s.TypeIs (.type n) "type"
def rEqTy : R2 := fun x y H Q => ∃ m n, x = .ty m ∧ y = .ty n ∧ Meta m ∧ Meta n ∧ Q (.bl (decide (m = n))) H
theorem op_eqTy : OpR X (compareOp .Eq) rEqTy := by
  intro pins s σ H x y v u Q I rx ry h
  obtain ⟨m, n, rfl, rfl, hm, hn, q⟩ := h
  cases (show v = Value.type m from rx)
  cases (show u = Value.type n from ry)
  by_cases e : m = n
  · subst e
    exact PySem.TypeEq.eq_type_same hm ⟨.bl true, H, I, rfl, by simpa using q⟩
  · exact PySem.TypeEq.eq_type_other hm hn (by rw [beq_eq_false_iff_ne]; exact fun z => e (Value.type.inj z)) ⟨.bl false, H, I, rfl, by simpa [e] using q⟩
/-- a op b op c op d -/
def tChain3 (r r' r'' : R2) (ta tb tc td : TE) : TE := fun σ H Q => ta σ H fun x H1 => tb σ H1 fun y H2 => r x y H2 fun z H3 => ∃ k, z = .bl k ∧
  (if k = true then tc σ H3 fun w' H4 => r' y w' H4 fun z' H5 => ∃ k', z' = .bl k' ∧ (if k' = true then td σ H5 fun w'' H6 => r'' w' w'' H6 Q else Q (.bl false) H5) else Q (.bl false) H3)
theorem pe_chain3 {op op' op'' : CmpOp} {r r' r'' : R2} (ho : OpR X (compareOp op) r) (ho' : OpR X (compareOp op') r') (ho'' : OpR X (compareOp op'') r'') (ha : PE X a ta) (hb : PE X b tb) (hc : PE X c tc) (hd : PE X d td)
    (hm : lastMarks [op, op', op''] [b, c, d] = false := by with_unfolding_all rfl) : PE X (.Compare a [op, op', op''] [b, c, d] pos) (tChain3 r r' r'' ta tb tc td) := by
  refine ⟨fun pins s σ H Q I h => ?_⟩
  refine Compare_chain (thn (ha.run pins s σ H _ I h) fun v s1 ⟨x, H1, I1, r1, q1⟩ => chain_link (thn (hb.run pins s1 σ H1 _ I1 q1) fun u s2 ⟨y, H2, I2, r2, q2⟩ =>
    thn (ho pins s2 σ H2 x y v u _ I2 r1 r2 q2) fun d s3 ⟨z, H3, I3, r3, k, e, q3⟩ => ?_)) hm
  subst e
  cases r3
  refine wpAny_truthy_bool ?_
  cases k with
  | false => exact ite_ff ⟨.bl false, H3, I3, rfl, q3⟩
  | true =>
    refine ite_tt (chain_link (thn (hc.run pins s3 σ H3 _ I3 q3) fun w' s4 ⟨z', H4, I4, r4, q4⟩ => thn (ho' pins s4 σ H4 y z' u w' _ I4 r2 r4 q4) fun d' s5 ⟨z5, H5, I5, r5, k5, e5, q5⟩ => ?_))
    subst e5
    cases r5
    refine wpAny_truthy_bool ?_
    cases k5 with
    | false => exact ite_ff ⟨.bl false, H5, I5, rfl, q5⟩
    | true => exact ite_tt (chain_last (thn (hd.run pins s5 σ H5 _ I5 q5) fun w6 s6 ⟨z6, H6, I6, r6, q6⟩ => ho'' pins s6 σ H6 z' z6 w' w6 Q I6 r4 r6 q6))
theorem pt_chain3 {op op' op'' : CmpOp} {r r' r'' : R2} (ho : OpR X (compareOp op) r) (ho' : OpR X (compareOp op') r') (ho'' : OpR X (compareOp op'') r'') (ha : PE X a ta) (hb : PE X b tb) (hc : PE X c tc) (hd : PE X d td)
    (hm : lastMarks [op, op', op''] [b, c, d] = false := by with_unfolding_all rfl) : PT X (.Compare a [op, op', op''] [b, c, d] pos) (tTest (tChain3 r r' r'' ta tb tc td)) := by
  refine ⟨fun pins s σ H Q I h => ?_⟩
  refine isTrue_chain (thn (ha.run pins s σ H _ I h) fun v s1 ⟨x, H1, I1, r1, q1⟩ => test_link (thn (hb.run pins s1 σ H1 _ I1 q1) fun u s2 ⟨y, H2, I2, r2, q2⟩ =>
    thn (ho pins s2 σ H2 x y v u _ I2 r1 r2 q2) fun d s3 ⟨z, H3, I3, r3, k, e, q3⟩ => ?_)) hm
  subst e
  cases r3
  refine wpAny_truthy_bool ?_
  cases k with
  | false =>
    obtain ⟨k', e', q'⟩ := q3
    cases e'
    exact ite_ff ⟨H3, I3, q'⟩
  | true =>
    refine ite_tt (test_link (thn (hc.run pins s3 σ H3 _ I3 q3) fun w' s4 ⟨z', H4, I4, r4, q4⟩ => thn (ho' pins s4 σ H4 y z' u w' _ I4 r2 r4 q4) fun d' s5 ⟨z5, H5, I5, r5, k5, e5, q5⟩ => ?_))
    subst e5
    cases r5
    refine wpAny_truthy_bool ?_
    cases k5 with
    | false =>
      obtain ⟨k', e', q'⟩ := q5
      cases e'
      exact ite_ff ⟨H5, I5, q'⟩
    | true =>
      refine ite_tt (test_last (thn (hd.run pins s5 σ H5 _ I5 q5) fun w6 s6 ⟨z6, H6, I6, r6, q6⟩ => thn (ho'' pins s6 σ H6 z' z6 w' w6 _ I6 r4 r6 q6) fun d7 s7 ⟨z7, H7, I7, r7, k7, e7, q7⟩ => ?_))
      subst e7
      cases r7
      exact wpAny_truthy_bool ⟨H7, I7, q7⟩
end
/-! f(k = v, ..): keywords alone -/
section
variable {X : Cx} {CX : CXT} {k : Nat} {f C : Addr} {fd : FuncData} {ps ks : List Str} {sp : Sp} {E : XK} {x m : Str} {p pos apos kpos : Pos} {kws : List Keyword} {tk : TA}
variable {g : List Value → List Value → List Value} {gV : List V → List V → List V}
theorem pe_callK0 (F : FnOk X.prog X.w X.K X.mg X.base CX k f fd ps sp) (hr : Room k X.A) (hg : Gl X x) (hm : X.mg x = some (.ref f)) (hk : PySem.W.keepIn X.K (.ref f) = true) (hb : KBinds X.K fd ps ks g gV) (hx : Passes CX X E)
    (hkw : PK X kws tk) (hall : (backToKw pos (keywordEach kws X.env)).all (·.1.isSome) = true := by rfl) (hks : (backToKw pos (keywordEach kws X.env)).filterMap (·.1) = ks := by rfl)
    (hdb : (x == ("__debug__" : Str)) = false := by decide)
    (hpl : ((backTo pos (starEach [] X.env)).any (·.1) || (backToKw pos (keywordEach kws X.env)).any (·.1.isNone)) = false := by rfl) :
    PE X (.Call (.Name x p) [] kws pos) (tCallK sp gV E tNil tk) := by
  refine ⟨fun pins s σ H Q I h => ?_⟩
  refine wpAny_Call_Name_kw (ld_glob I hg hm ?_ hdb)
  refine PySem.W.callWith_KW0 (h₀ := X.base) I.ok.mod.kin hk hall ?_ hpl
  refine thn (hkw.run pos pins s σ H _ I h) fun ws s2 ⟨zs, H2, I2, rz, q2⟩ => ⟨I2.kIn, ?_⟩
  rw [hks]
  exact run_fnk F hr hb hx I2 (us := []) (vs := []) .nil rz q2
end
theorem pe_gc {X : Cx} {x : Str} {pos : Pos} {v : V} (hg : Gl X x) (h : ∃ u, X.mg x = some u ∧ RelV v u) (hd : (x == ("__debug__" : Str)) = false := by decide) : PE X (.Name x pos) (tC v) := by
  obtain ⟨u, hm, r⟩ := h
  exact pe_glob hg hm r hd
/-! built-ins by name, with readings that have names -/
section
variable {X : Cx}
def rAbs : List V → Hp → VK → Prop := fun xs H Q => ∃ i, xs = [.int i] ∧ Q (.int (if i < 0 then -i else i)) H
def rMin2 : List V → Hp → VK → Prop := fun xs H Q => ∃ i j, xs = [.int i, .int j] ∧ Q (.int (if j < i then j else i)) H
def rIntI : List V → Hp → VK → Prop := fun xs H Q => ∃ i, xs = [.int i] ∧ Q (.int i) H
def rIntB : List V → Hp → VK → Prop := fun xs H Q => ∃ b, xs = [.bl b] ∧ Q (.int (if b then 1 else 0)) H
theorem call_absR : CallR X (.builtin "abs") rAbs := call_abs
theorem call_maxR (hc : X.calm = true) : CallR X (.builtin "max") rMax2 := call_max2 hc
theorem call_minR (hc : X.calm = true) : CallR X (.builtin "min") rMin2 := call_min2 hc
theorem call_intI : CallR X (.type "int") rIntI := by
  intro pins s σ H xs us Q I r h
  obtain ⟨i, e, q⟩ := h
  exact call_int1 pins s σ H xs us Q I r (.inl ⟨i, e, q⟩)
theorem call_intB : CallR X (.type "int") rIntB := by
  intro pins s σ H xs us Q I r h
  obtain ⟨i, e, q⟩ := h
  exact call_int1 pins s σ H xs us Q I r (.inr ⟨i, e, q⟩)
theorem call_lenR : CallR X (.builtin "len") (rLenS X.K) := call_len_seq
theorem call_listR : CallR X (.type "list") (rListS X.K) := call_list_of
def rTupS (K : PySem.W.Frag) : List V → Hp → VK → Prop := fun xs H Q => ∃ p ys, xs = [.ref p] ∧ SqL K H p ys ∧ ∀ l, H l = none → Q (.ref l) (upd H l (.tup ys))
theorem call_tupR : CallR X (.type "tuple") (rTupS X.K) := by
  intro pins s σ H xs us Q I r h
  obtain ⟨p, ys, e, hs, q⟩ := h
  exact call_tuple_of pins s σ H xs us Q I r ⟨p, ys, e, .inl ⟨hs, q⟩⟩
def rIsN1 : R2 := fun x y H Q => y = .non ∧ Q (.bl (decide (x = .non))) H
def rNotN1 : R2 := fun x y H Q => y = .non ∧ Q (.bl (!decide (x = .non))) H
theorem op_isNR : OpR X (compareOp .Is) rIsN1 := op_isN
theorem op_notNR : OpR X (compareOp .IsNot) rNotN1 := op_notN
end
/-! evaluations of these -/
section
variable {K : PySem.W.Frag} {σ : L2.St} {H H' : Hp} {ta tb tc td te : TE} {x y z v : V} {r : R2} {i j : Int}
theorem ev_abs (h : Ev ta σ H (.int i)) : Ev (tCB rAbs (tCons ta tNil)) σ H (.int (if i < 0 then -i else i)) := fun H1 e Q q => h H1 e _ fun H2 e2 => ⟨i, rfl, q H2 e2⟩
theorem ev_min2 (ha : Ev ta σ H (.int i)) (hb : Ev tb σ H (.int j)) : Ev (tCB rMin2 (tCons ta (tCons tb tNil))) σ H (.int (if j < i then j else i)) := fun H1 e Q q =>
  ha H1 e _ fun H2 e2 => hb H2 (e.trans e2) _ fun H3 e3 => ⟨i, j, rfl, q H3 (e2.trans e3)⟩
theorem ev_intI (h : Ev ta σ H (.int i)) : Ev (tCB rIntI (tCons ta tNil)) σ H (.int i) := fun H1 e Q q => h H1 e _ fun H2 e2 => ⟨i, rfl, q H2 e2⟩
theorem ev_intB {b : Bool} (h : Ev ta σ H (.bl b)) : Ev (tCB rIntB (tCons ta tNil)) σ H (.int (if b then 1 else 0)) := fun H1 e Q q => h H1 e _ fun H2 e2 => ⟨b, rfl, q H2 e2⟩
theorem rv_isN : RV rIsN1 x .non H (.bl (decide (x = .non))) := fun H1 _ _ q => ⟨rfl, q H1 (Ex.refl H1)⟩
theorem rv_notN : RV rNotN1 x .non H (.bl (!decide (x = .non))) := fun H1 _ _ q => ⟨rfl, q H1 (Ex.refl H1)⟩
theorem ev_chain {r r' : R2} {k : Bool} {k' : Bool} (ha : Ev ta σ H x) (hb : Ev tb σ H y) (hr : RV r x y H (.bl k)) (hc : k = true → ∃ z, Ev tc σ H z ∧ RV r' y z H (.bl k')) : Ev (tChain r r' ta tb tc) σ H (.bl (k && k')) := fun H1 e Q q =>
  ha H1 e _ fun H2 e2 => hb H2 (e.trans e2) _ fun H3 e3 => hr H3 ((e.trans e2).trans e3) _ fun H4 e4 => ⟨k, rfl, by
    cases k with
    | true =>
      obtain ⟨z, h1, h2⟩ := hc rfl
      exact h1 H4 (((e.trans e2).trans e3).trans e4) _ fun H5 e5 => h2 H5 ((((e.trans e2).trans e3).trans e4).trans e5) _ fun H6 e6 => q H6 ((((e2.trans e3).trans e4).trans e5).trans e6)
    | false => exact q H4 ((e2.trans e3).trans e4)⟩
theorem ev_chainI {C C' : Int → Int → Bool} {i j l : Int} (ha : Ev ta σ H (.int i)) (hb : Ev tb σ H (.int j)) (hc : Ev tc σ H (.int l)) :
    Ev (tChain (rI0 fun i j => .bl (C i j)) (rI0 fun i j => .bl (C' i j)) ta tb tc) σ H (.bl (C i j && C' j l)) := ev_chain ha hb rv_I0 fun _ => ⟨_, hc, rv_I0⟩
theorem ev_chain3I {C C' C'' : Int → Int → Bool} {i j l m : Int} (ha : Ev ta σ H (.int i)) (hb : Ev tb σ H (.int j)) (hc : Ev tc σ H (.int l)) (hd : Ev td σ H (.int m)) :
    Ev (tChain3 (rI0 fun i j => .bl (C i j)) (rI0 fun i j => .bl (C' i j)) (rI0 fun i j => .bl (C'' i j)) ta tb tc td) σ H (.bl (C i j && (C' j l && C'' l m))) := fun H1 e Q q =>
  ha H1 e _ fun H2 e2 => hb H2 (e.trans e2) _ fun H3 e3 => ⟨i, j, rfl, rfl, C i j, rfl, by
    have e23 := e2.trans e3
    generalize C i j = k1 at q ⊢
    cases k1 with
    | false => exact q H3 e23
    | true =>
      refine hc H3 (e.trans e23) _ fun H4 e4 => ⟨j, l, rfl, rfl, C' j l, rfl, ?_⟩
      generalize C' j l = k2 at q ⊢
      cases k2 with
      | false => exact q H4 (e23.trans e4)
      | true => exact hd H4 ((e.trans e23).trans e4) _ fun H5 e5 => ⟨l, m, rfl, rfl, q H5 ((e23.trans e4).trans e5)⟩⟩
theorem rv_eqTy {m n : String} (hm : Meta m) (hn : Meta n) : RV rEqTy (.ty m) (.ty n) H (.bl (decide (m = n))) := fun H1 _ _ q => ⟨m, n, rfl, rfl, hm, hn, q H1 (Ex.refl H1)⟩
theorem ev_typeI (h : Ev ta σ H (.int i)) : Ev (tThenZ ta kTyp) σ H (.ty "int") := fun H1 e Q q => h H1 e _ fun H2 e2 => ⟨"int", rfl, q H2 e2⟩
/-- a tuple that was made is read as two names -/
theorem s_tup2 {D : Ends} {i j : Nat} {p : Addr} (ha : Ev ta σ H (.ref p)) (hp : SqT K H p [x, y]) (k : ∀ H1, Ex H H1 → D.nx ((σ.set i (some x)).set j (some y)) H1) : tAsg ta (gTup K 2 (gCons (gName i) (gCons (gName j) gNil))) D σ H :=
  ha H (Ex.refl H) _ fun H1 e => ⟨p, [x, y], rfl, ex_t e hp, rfl, x, [y], rfl, y, [], rfl, rfl, k H1 e⟩
end
/-- a new tuple that is handed back -/
def RetU (xs : List V) (H : Hp) (Q : VK) : Prop := ∀ p H2, H p = none → Ex H H2 → H2 p = some (.tup xs) → Q (.ref p) H2
def SpU (sp : Sp) (vs : List V) (H : Hp) (xs : List V) : Prop := ∀ H1, Ex H H1 → ∀ Q : VK, (∀ p H2, H1 p = none → Ex H1 H2 → H2 p = some (.tup xs) → Q (.ref p) H2) → ∀ E : XK, sp vs H1 Q E
section
variable {K : PySem.W.Frag} {σ : L2.St} {H : Hp}
theorem eu_call {sp : Sp} {dvs vs xs : List V} {E : XK} {ta : TA} (h : EvA ta σ H vs) (hs : SpU sp (vs ++ dvs) H xs) : EvU (tCall sp dvs E ta) σ H xs := fun H1 e Q q =>
  h H1 e _ fun H2 e2 => hs H2 (e.trans e2) Q (fun p H3 hp e3 h3 => q p H3 (fresh_back e2 hp) (e2.trans e3) h3) E
/-- a, b = f(..), f's answer a new tuple -/
theorem s_tup2U {te : TE} {D : Ends} {i j : Nat} {x y : V} (ha : EvU te σ H [x, y]) (k : ∀ H1, Ex H H1 → D.nx ((σ.set i (some x)).set j (some y)) H1) : tAsg te (gTup K 2 (gCons (gName i) (gCons (gName j) gNil))) D σ H :=
  ha H (Ex.refl H) _ fun p H1 _ e h1 => ⟨p, [x, y], rfl, st_of h1, rfl, x, [y], rfl, y, [], rfl, rfl, k H1 e⟩
theorem q_tup2U {te : TE} {tz : TS} {D : Ends} {i j : Nat} {x y : V} (ha : EvU te σ H [x, y]) (k : ∀ H1, Ex H H1 → tz D ((σ.set i (some x)).set j (some y)) H1) : tSeq (tAsg te (gTup K 2 (gCons (gName i) (gCons (gName j) gNil)))) tz D σ H := s_tup2U (D := { D with nx := tz D }) ha k
theorem q_tup2 {ta : TE} {tz : TS} {D : Ends} {i j : Nat} {p : Addr} {x y : V} (ha : Ev ta σ H (.ref p)) (hp : SqT K H p [x, y]) (k : ∀ H1, Ex H H1 → tz D ((σ.set i (some x)).set j (some y)) H1) : tSeq (tAsg ta (gTup K 2 (gCons (gName i) (gCons (gName j) gNil)))) tz D σ H := s_tup2 (D := { D with nx := tz D }) ha hp k
/-- a, b = x, y -/
theorem s_par {ta : TA} {D : Ends} {i j : Nat} {x y : V} (ha : EvA ta σ H [x, y]) (k : ∀ H1, Ex H H1 → D.nx ((σ.set i (some x)).set j (some y)) H1) : tPar i j ta D σ H := ha H (Ex.refl H) _ fun H1 e => ⟨x, y, rfl, k H1 e⟩
theorem q_par {ta : TA} {tz : TS} {D : Ends} {i j : Nat} {x y : V} (ha : EvA ta σ H [x, y]) (k : ∀ H1, Ex H H1 → tz D ((σ.set i (some x)).set j (some y)) H1) : tSeq (tPar i j ta) tz D σ H := s_par (D := { D with nx := tz D }) ha k
end
theorem natAbs_pow_le {b : Int} {k : Nat} (h : b.natAbs < 2 ^ k) (n : Nat) : (b ^ n).natAbs ≤ 2 ^ (k * n) := by
  rw [Int.natAbs_pow, Nat.pow_mul]
  exact Nat.pow_le_pow_left (Nat.le_of_lt h) n
theorem lt_of_le2 {x k : Nat} (h : x ≤ 2 ^ k) : x < 2 ^ (k + 1) := Nat.lt_of_le_of_lt h (Nat.pow_lt_pow_right (by decide) (Nat.lt_succ_self k))
theorem lt2_mono {x k m : Nat} (h : x < 2 ^ k) (e : k ≤ m) : x < 2 ^ m := Nat.lt_of_lt_of_le h (Nat.pow_le_pow_right (by decide) e)
theorem natAbs_mul_lt {a b : Int} {k m : Nat} (ha : a.natAbs < 2 ^ k) (hb : b.natAbs < 2 ^ m) : (a * b).natAbs < 2 ^ (k + m) := wide_lt ha hb
/-! comprehensions -/
section
variable {K : PySem.W.Frag} {σ : L2.St} {H : Hp} {te tl : TE} {t : TT}
theorem et_yes : EvT tYes σ H true := fun H1 _ _ q => q H1 (Ex.refl H1)
theorem given_map {xs : List V} {F : V → V} : given xs.length (fun _ => true) (fun i => F (xs.getD i .non)) = xs.map F := by
  unfold given
  rw [List.filter_eq_self.mpr (fun _ _ => rfl)]
  refine List.ext_getElem (by simp) fun i h1 h2 => ?_
  simp at h1
  simp [h1]
/-- [e for x in xs] -/
theorem el_map {a : Addr} {xs : List V} {j : Nat} {vs : List Nat} (F : V → V) (h : Ev tl σ H (.ref a)) (hx : SqL K H a xs) (hz : xs.length ≤ 40000) (hw : ∀ x, wipe ((wipe σ vs).set j (some x)) vs = wipe σ vs)
    (he : ∀ (i : Nat) (x : V) H1, Ex H H1 → xs[i]? = some x → Ev te ((wipe σ vs).set j (some x)) H1 (F x)) : EvL (tLc (iList K tl) (gName j) tYes te vs) σ H (xs.map F) := by
  rw [← given_map]
  refine el_lcL _ _ h hx hz hw (fun _ _ _ _ _ => et_yes) fun i x H1 e hi _ => ?_
  have q := he i x H1 e hi
  have g : xs.getD i .non = x := by rw [List.getD_eq_getElem?_getD, hi] <;> rfl
  show Ev _ _ _ (F (xs.getD i .non))
  rw [g]
  exact q
theorem el_mapN {xs : List V} {j : Nat} {vs : List Nat} (F : V → V) (h : EvL tl σ H xs) (hz : xs.length ≤ 40000) (hw : ∀ x, wipe ((wipe σ vs).set j (some x)) vs = wipe σ vs)
    (he : ∀ (i : Nat) (x : V) H1, Ex H H1 → xs[i]? = some x → Ev te ((wipe σ vs).set j (some x)) H1 (F x)) : EvL (tLc (iList K tl) (gName j) tYes te vs) σ H (xs.map F) := by
  rw [← given_map]
  refine el_lcNL _ _ h hz hw (fun _ _ _ _ _ => et_yes) fun i x H1 e hi _ => ?_
  have q := he i x H1 e hi
  have g : xs.getD i .non = x := by rw [List.getD_eq_getElem?_getD, hi] <;> rfl
  show Ev _ _ _ (F (xs.getD i .non))
  rw [g]
  exact q
/-- [e for x in range(lo, hi) if t] -/
theorem el_lcR2 {ta : TA} {j : Nat} {vs : List Nat} {lo n : Int} (f : Nat → Bool) (v : Nat → V) (h : EvA ta σ H [.int lo, .int n]) (hn : 0 ≤ lo ∧ lo ≤ 40000 ∧ -40000 ≤ n ∧ n ≤ 40000) (hw : ∀ x, wipe ((wipe σ vs).set j (some x)) vs = wipe σ vs)
    (ht : ∀ (i : Nat) H1, Ex H H1 → lo + (i : Int) < n → EvT t ((wipe σ vs).set j (some (.int (lo + (i : Int))))) H1 (f i)) (he : ∀ (i : Nat) H1, Ex H H1 → lo + (i : Int) < n → f i = true → Ev te ((wipe σ vs).set j (some (.int (lo + (i : Int))))) H1 (v i)) :
    EvL (tLc (iRng2 ta) (gName j) t te vs) σ H (given (n - lo).toNat f v) := fun H0 e Q q => h H0 e _ fun H1 e1 => ⟨lo, n, rfl, ⟨by omega, by omega, by omega, by omega⟩, fun Dl hD =>
  lc_range (lo := lo) (n := (n - lo).toNat) (Cw H1 f v Dl) ⟨hD, Ex.new hD, upd_same⟩ (fun i H' hi p =>
    ⟨hw _, cw_turn p (by omega) (ht i H1 (e.trans e1) (by omega)) (fun hf => he i H1 (e.trans e1) (by omega) hf)⟩) (fun H' p => q Dl H' (fresh_back e1 p.1) (e1.trans p.2.1) p.2.2)⟩
theorem given_none {n : Nat} {f : Nat → Bool} {v : Nat → V} (h : ∀ i, i < n → f i = false) : given n f v = [] := by
  unfold given
  rw [List.filter_eq_nil_iff.mpr (fun i hi => by simp [h i (List.mem_range.mp hi)])]
  rfl
/-- xs + ys, both new -/
theorem el_cat {ta tb : TE} {xs ys : List V} (ha : EvL ta σ H xs) (hb : EvL tb σ H ys) (hl : xs.length + ys.length ≤ 100000) : EvL (tOp rCat ta tb) σ H (xs ++ ys) := fun H1 e Q q =>
  ha H1 e _ fun p H2 hp e2 h2 => hb H2 (e.trans e2) _ fun p' H3 hp' e3 h3 =>
    ⟨p, p', xs, ys, rfl, rfl, e3 p _ h2, h3, sz_of hl, fun l hl' => q l _ (fresh_back (e2.trans e3) hl') ((e2.trans e3).trans (Ex.new hl')) upd_same⟩
/-- [e for x, y in zip(xs, ys)] -/
theorem el_zip {ta : TA} {i j : Nat} {vs : List Nat} {a b : Addr} {xs ys : List V} (F : V → V → V) (h : EvA ta σ H [.ref a, .ref b]) (hx : SqL K H a xs) (hy : SqL K H b ys) (hl : xs.length = ys.length) (hz : xs.length ≤ 40000)
    (hw : ∀ x y, wipe (((wipe σ vs).set i (some x)).set j (some y)) vs = wipe σ vs)
    (he : ∀ (n : Nat) x y H1, Ex H H1 → xs[n]? = some x → ys[n]? = some y → Ev te (((wipe σ vs).set i (some x)).set j (some y)) H1 (F x y)) :
    EvL (tLc (iZip K ta) (gTup K 2 (gCons (gName i) (gCons (gName j) gNil))) tYes te vs) σ H (List.zipWith F xs ys) := fun H0 e Q q => h H0 e _ fun H1 e1 => ⟨a, b, xs, ys, rfl, ex_l (e.trans e1) hx, ex_l (e.trans e1) hy, fun Dl hD => by
  refine lc_it (walk_zip (n := xs.length) (by omega)) (fun n H' => Ex H1 H' ∧ H' Dl = some (.lst ((List.zipWith F xs ys).take n))) ⟨Ex.new hD, upd_same⟩ (fun n H' _ p => ⟨ex_l ((e.trans e1).trans p.1) hx, ex_l ((e.trans e1).trans p.1) hy⟩) ?_ fun H' p => ?_
  · rintro n v Hh H' hn ⟨p1, p2⟩ ⟨T, x, y, rfl, nT, rfl, g1, g2⟩
    have eT : Ex Hh (upd Hh T (.tup [x, y])) := Ex.new nT
    refine ⟨T, [x, y], rfl, st_of upd_same, rfl, x, [y], rfl, y, [], rfl, rfl, hw x y, ?_⟩
    show te _ _ _
    refine he n x y H1 (e.trans e1) g1 g2 _ (p1.trans eT) _ fun H4 e4 => ?_
    have k2 := e4 Dl _ (eT Dl _ p2)
    refine ⟨_, k2, sz_lt (by rw [List.length_take]; omega), Ex.mut (p1.trans (eT.trans e4)) hD, ?_⟩
    rw [upd_same]
    have gz : (List.zipWith F xs ys)[n]? = some (F x y) := by
      rw [List.getElem?_zipWith, show xs[n]? = some x from g1, show ys[n]? = some y from g2]
    rw [List.take_add_one, gz]
    rfl
  · obtain ⟨p1, p2⟩ := p
    rw [List.take_of_length_le (by rw [List.length_zipWith]; omega)] at p2
    exact q Dl H' (fresh_back e1 hD) (e1.trans p1) p2⟩
theorem ev_gcd {ta tb : TE} {a b : Int} (ha : Ev ta σ H (.int a)) (hb : Ev tb σ H (.int b)) : Ev (tCB rGcd (tCons ta (tCons tb tNil))) σ H (.int ((Nat.gcd a.natAbs b.natAbs : Nat) : Int)) := fun H1 e Q q =>
  ha H1 e _ fun H2 e2 => hb H2 (e.trans e2) _ fun H3 e3 => ⟨a, b, rfl, q H3 (e2.trans e3)⟩
end
/-! data, compared by == -/
section
variable {K : PySem.W.Frag} {σ : L2.St} {H H' : Hp}
mutual
theorem Dp.ex (e : Ex H H') : ∀ (d : PyData) (v : V), Dp K H v d → Dp K H' v d
  | .none, _, h => by cases h; exact .non
  | .bool _, _, h => by cases h; exact .bl _
  | .int _, _, h => by cases h; exact .int _
  | .str _, _, h => by cases h; exact .str _
  | .list ds, _, h => by
    cases h with
    | lst hs ha => exact .lst (ex_l e hs) (DpAll.ex e ds _ ha)
  | .tuple ds, _, h => by
    cases h with
    | tup hs ha => exact .tup (ex_t e hs) (DpAll.ex e ds _ ha)
  | .dict _, _, h => by cases h
theorem DpAll.ex (e : Ex H H') : ∀ (ds : List PyData) (vs : List V), DpAll K H vs ds → DpAll K H' vs ds
  | [], _, h => by cases h; exact .nil
  | d :: ds, _, h => by
    cases h with
    | cons h1 h2 => exact .cons (Dp.ex e d _ h1) (DpAll.ex e ds _ h2)
end
theorem DpAll.len : ∀ {ds : List PyData} {vs : List V}, DpAll K H vs ds → vs.length = ds.length
  | [], _, h => by cases h; rfl
  | d :: ds, _, h => by
    cases h with
    | cons h1 h2 => simp [DpAll.len h2]
def EvD (K : PySem.W.Frag) (te : TE) (σ : L2.St) (H : Hp) (d : PyData) : Prop := ∀ H1, Ex H H1 → ∀ Q : VK, (∀ v H2, Ex H1 H2 → Dp K H2 v d → Q v H2) → te σ H1 Q
def EvDA (K : PySem.W.Frag) (ta : TA) (σ : L2.St) (H : Hp) (ds : List PyData) : Prop := ∀ H1, Ex H H1 → ∀ Q : List V → Hp → Prop, (∀ vs H2, Ex H1 H2 → DpAll K H2 vs ds → Q vs H2) → ta σ H1 Q
variable {te ta tb : TE} {d e : PyData} {ds : List PyData}
theorem ed_of {v : V} (h : Ev te σ H v) (k : Dp K H v d) : EvD K te σ H d := fun H1 e1 Q q => h H1 e1 Q fun H2 e2 => q v H2 e2 (Dp.ex (e1.trans e2) d v k)
theorem ed_int {i : Int} (h : Ev te σ H (.int i)) : EvD K te σ H (.int i) := ed_of h (.int i)
theorem ed_bl {i : Bool} (h : Ev te σ H (.bl i)) : EvD K te σ H (.bool i) := ed_of h (.bl i)
theorem ed_non (h : Ev te σ H .non) : EvD K te σ H .none := ed_of h .non
theorem ed_str {i : Str} (h : Ev te σ H (.str i)) : EvD K te σ H (.str i) := ed_of h (.str i)
theorem eda_nil : EvDA K tNil σ H [] := fun H1 _ _ q => q [] H1 (Ex.refl H1) .nil
theorem eda_cons {tr : TA} (h : EvD K te σ H d) (hr : EvDA K tr σ H ds) : EvDA K (tCons te tr) σ H (d :: ds) := fun H1 e _ q =>
  h H1 e _ fun v H2 e2 dv => hr H2 (e.trans e2) _ fun vs H3 e3 dvs => q (v :: vs) H3 (e2.trans e3) (.cons (Dp.ex e3 d v dv) dvs)
theorem ed_lst {t : TA} (h : EvDA K t σ H ds) (hl : ds.length ≤ 100000) : EvD K (tLst t) σ H (.list ds) := fun H1 e _ q =>
  h H1 e _ fun vs H2 e2 dv => ⟨sz_of (by rw [DpAll.len dv]; exact hl), fun p hp => q _ _ (e2.trans (Ex.new hp)) (.lst (sq_of upd_same) (DpAll.ex (Ex.new hp) ds vs dv))⟩
theorem ed_tup {t : TA} (h : EvDA K t σ H ds) (hl : ds.length ≤ 100000) : EvD K (tTup t) σ H (.tuple ds) := fun H1 e _ q =>
  h H1 e _ fun vs H2 e2 dv => ⟨sz_of (by rw [DpAll.len dv]; exact hl), fun p hp => q _ _ (e2.trans (Ex.new hp)) (.tup (st_of upd_same) (DpAll.ex (Ex.new hp) ds vs dv))⟩
theorem ed_ofL {xs : List V} (h : EvL te σ H xs) (k : DpAll K H xs ds) : EvD K te σ H (.list ds) := fun H1 e1 Q q => h H1 e1 Q fun p H2 _ e2 h2 => q _ H2 e2 (.lst (sq_of h2) (DpAll.ex (e1.trans e2) ds xs k))
theorem ed_ofU {xs : List V} (h : EvU te σ H xs) (k : DpAll K H xs ds) : EvD K te σ H (.tuple ds) := fun H1 e1 Q q => h H1 e1 Q fun p H2 _ e2 h2 => q _ H2 e2 (.tup (st_of h2) (DpAll.ex (e1.trans e2) ds xs k))
theorem dpa_ints : ∀ ns : List Int, DpAll K H (ns.map V.int) (ns.map PyData.int)
  | [] => .nil
  | n :: r => .cons (.int n) (dpa_ints r)
theorem ev_eqD (ha : EvD K ta σ H d) (hb : EvD K tb σ H e) (sd : SeqAt.shaped d = true) (se : SeqAt.shaped e = true) : Ev (tOp (rEqD K) ta tb) σ H (.bl (PyData.eqv d e)) := fun H1 e1 Q q =>
  ha H1 e1 _ fun v H2 e2 dv => hb H2 (e1.trans e2) _ fun u H3 e3 du => ⟨d, e, Dp.ex e3 d v dv, du, sd, se, q H3 (e2.trans e3)⟩
theorem ev_neD (ha : EvD K ta σ H d) (hb : EvD K tb σ H e) (sd : SeqAt.shaped d = true) (se : SeqAt.shaped e = true) : Ev (tOp (rNeD K) ta tb) σ H (.bl (!PyData.eqv d e)) := fun H1 e1 Q q =>
  ha H1 e1 _ fun v H2 e2 dv => hb H2 (e1.trans e2) _ fun u H3 e3 du => ⟨d, e, Dp.ex e3 d v dv, du, sd, se, q H3 (e2.trans e3)⟩
theorem shaped_ints : ∀ ns : List Int, SeqAt.shaped (.list (ns.map PyData.int)) = true := fun ns => by
  have h1 : ∀ ms : List Int, PyData.canLayAll0 (ms.map PyData.int) = true := fun ms => by
    induction ms with
    | nil => rfl
    | cons m r ih => simp [PyData.canLayAll0, PyData.canLay0, ih]
  have h2 : ∀ ms : List Int, PyData.depthAll (ms.map PyData.int) = 0 := fun ms => by
    induction ms with
    | nil => rfl
    | cons m r ih => simp [PyData.depthAll, PyData.depth, ih]
  simp [SeqAt.shaped, PyData.canLay0, h1, PyData.depth, h2]
theorem eqv_same {d : PyData} (h : SeqAt.shaped d = true) : PyData.eqv d d = true := by
  have h1 : PyData.canLay0 d = true := (Bool.and_eq_true_iff.mp h).1
  first
    | exact PySem.P3.eqv_refl d h1
    | exact PyData.eqv_refl d h1
    | exact PySem.SeqAt.eqv_refl d h1
/-- f(k = v): a new tuple back -/
theorem eu_callK {sp : Sp} {gV : List V → List V → List V} {E : XK} {t tk : TA} {vs zs xs : List V} (h : EvA t σ H vs) (hk : EvA tk σ H zs) (hs : SpU sp (gV vs zs) H xs) : EvU (tCallK sp gV E t tk) σ H xs := fun H1 e Q q =>
  h H1 e _ fun H2 e2 => hk H2 (e.trans e2) _ fun H3 e3 => hs H3 ((e.trans e2).trans e3) Q (fun p H4 hp e4 h4 => q p H4 (fresh_back (e2.trans e3) hp) ((e2.trans e3).trans e4) h4) E
theorem ev_callK {sp : Sp} {gV : List V → List V → List V} {E : XK} {t tk : TA} {vs zs : List V} {z : V} (h : EvA t σ H vs) (hk : EvA tk σ H zs) (hs : SpV sp (gV vs zs) H z) : Ev (tCallK sp gV E t tk) σ H z := fun H1 e Q q =>
  h H1 e _ fun H2 e2 => hk H2 (e.trans e2) _ fun H3 e3 => hs H3 ((e.trans e2).trans e3) Q (fun H4 e4 => q H4 ((e2.trans e3).trans e4)) E
/-- isinstance(x, tuple) of a tuple; len of a tuple -/
theorem ev_isT {p : Addr} {xs : List V} {n : String} {b : Bool} (h : Ev ta σ H (.ref p)) (hp : H p = some (.tup xs)) (hk : PySem.W.kitOne K (.type "tuple") (.type n) = some b) : Ev (tCB (rIsi K) (tCons ta (tCons (tC (.ty n)) tNil))) σ H (.bl b) := fun H1 e Q q =>
  h H1 e _ fun H2 e2 => ⟨.ref p, .ty n, .type "tuple", .type n, b, rfl, .ty n, .base (.tup (e2 p _ (e p _ hp))), hk, q H2 e2⟩
theorem ev_lenT {p : Addr} {xs : List V} (ha : Ev ta σ H (.ref p)) (h : SqT K H p xs) : Ev (tCB (rLenS K) (tCons ta tNil)) σ H (.int (xs.length : Int)) := fun H1 e Q q =>
  ha H1 e _ fun H2 e2 => ⟨p, xs, rfl, Or.inr (ex_t (e.trans e2) h), q H2 e2⟩
/-- list(range(a, b)) -/
theorem el_rg2 {a b : Int} (ha : Ev ta σ H (.int a)) (hb : Ev tb σ H (.int b)) (h : RgOk a b) : EvL (tLstRg (tRg2 ta tb)) σ H (rgV a b) := fun H1 e Q q =>
  ha H1 e _ fun H2 e2 => hb H2 (e.trans e2) _ fun H3 e3 => ⟨a, b, rfl, rfl, h, fun p hp => q p _ (fresh_back (e2.trans e3) hp) ((e2.trans e3).trans (Ex.new hp)) upd_same⟩
theorem el_rg1 {b : Int} (hb : Ev tb σ H (.int b)) (h : RgOk 0 b) : EvL (tLstRg (tRg1 tb)) σ H (rgV 0 b) := fun H1 e Q q =>
  hb H1 e _ fun H3 e3 => ⟨b, rfl, h, fun p hp => q p _ (fresh_back e3 hp) (e3.trans (Ex.new hp)) upd_same⟩
end
/-! more statements -/
section
variable {K : PySem.W.Frag} {σ : L2.St} {H H' : Hp} {te tl : TE} {t : TT} {D : Ends} {tu tz : TS} {g : TG}
/-- a comprehension over range(lo, n) that keeps nothing -/
theorem el_noneR2 {ta : TA} {j : Nat} {vs : List Nat} {lo n : Int} (h : EvA ta σ H [.int lo, .int n]) (hn : 0 ≤ lo ∧ lo ≤ 40000 ∧ -40000 ≤ n ∧ n ≤ 40000) (hw : ∀ x, wipe ((wipe σ vs).set j (some x)) vs = wipe σ vs)
    (ht : ∀ (i : Nat) H1, Ex H H1 → lo + (i : Int) < n → EvT t ((wipe σ vs).set j (some (.int (lo + (i : Int))))) H1 false) : EvL (tLc (iRng2 ta) (gName j) t te vs) σ H [] := by
  have q := el_lcR2 (te := te) (fun _ => false) (fun _ => .non) h hn hw ht (fun _ _ _ _ hf => Bool.noConfusion hf)
  rw [given_none (fun _ _ => rfl)] at q
  exact q
/-- a for over a new tuple -/
theorem s_forNU {xs : List V} (h : EvU tl σ H xs) (Pv : Addr → Nat → L2.St → Hp → Prop) (h0 : ∀ p H1, H p = none → Ex H H1 → H1 p = some (.tup xs) → Pv p 0 σ H1) (hl : ∀ p i σ' H', i ≤ xs.length → Pv p i σ' H' → SqT K H' p xs)
    (hs : ∀ p i x σ' H', xs[i]? = some x → Pv p i σ' H' → g x σ' H' fun σ2 H2 => tu { D with nx := Pv p (i + 1), ct := Pv p (i + 1), bk := D.nx } σ2 H2) (hd : ∀ p σ' H', Pv p xs.length σ' H' → D.nx σ' H') : tFor (iTup K tl) g tu D σ H :=
  h H (Ex.refl H) _ fun p H1 hp e h1 => ⟨p, rfl, ⟨xs, st_of h1⟩, for_tup (Pv p) (h0 p H1 hp e h1) (hl p) (hs p) (hd p)⟩
theorem q_forNU {xs : List V} (h : EvU tl σ H xs) (Pv : Addr → Nat → L2.St → Hp → Prop) (h0 : ∀ p H1, H p = none → Ex H H1 → H1 p = some (.tup xs) → Pv p 0 σ H1) (hl : ∀ p i σ' H', i ≤ xs.length → Pv p i σ' H' → SqT K H' p xs)
    (hs : ∀ p i x σ' H', xs[i]? = some x → Pv p i σ' H' → g x σ' H' fun σ2 H2 => tu { D with nx := Pv p (i + 1), ct := Pv p (i + 1), bk := tz D } σ2 H2) (hd : ∀ p σ' H', Pv p xs.length σ' H' → tz D σ' H') : tSeq (tFor (iTup K tl) g tu) tz D σ H :=
  s_forNU (D := { D with nx := tz D }) h Pv h0 hl hs hd
theorem s_asgD {i : Nat} {d : PyData} (h : EvD K te σ H d) (k : ∀ v H1, Ex H H1 → Dp K H1 v d → D.nx (σ.set i (some v)) H1) : tAsg te (gName i) D σ H := h H (Ex.refl H) _ fun v H1 e dv => k v H1 e dv
theorem q_asgD {i : Nat} {d : PyData} (h : EvD K te σ H d) (k : ∀ v H1, Ex H H1 → Dp K H1 v d → tz D (σ.set i (some v)) H1) : tSeq (tAsg te (gName i)) tz D σ H := s_asgD (D := { D with nx := tz D }) h k
end
end Kit

set_option Elab.async false
set_option linter.all false
set_option maxRecDepth 100000
set_option maxHeartbeats 4000000
namespace Kit
open PySem PySem.Spec PyProof.Rows L2 Evl
/-! ### dicts of tuple keys: for k, v in d.items(), sum(d.values()), a display -/
theorem frzT2 {X : Cx} {pins : List (Addr × Obj)} {σ : L2.St} {H : Hp} {s : Shared} {d : Addr} {o : Obj} {kvs : List (List L2.Key × V)} (I : Inv X pins σ H s) (h : H d = some (.frz o (.dT kvs))) :
    (d == sysModules) = false ∧ s.heap.get? d = some o ∧ o.ExactDict ∧ ∃ (es : Array DictEntry) (ep : Nat), o.data = .dict es ep ∧ es.size = kvs.length ∧
      ∀ (i : Nat) (k : List L2.Key) (v : V), kvs[i]? = some (k, v) → ∃ (en : DictEntry) (q : Addr), es[i]? = some en ∧ en.key = .ref q ∧ H q = some (.tup (k.map kV)) ∧ RelV v en.val := by
  obtain ⟨hd, z, hs, xs, pr, o', es, ep, ho, hx, hdt, he, _⟩ := I.hok d _ h
  rw [hd] at ho
  cases ho
  refine ⟨hs, hd, hx, es, ep, hdt, ?_, fun i k v e => ?_⟩
  · have l1 : es.size = xs.length := size_of_entries he
    have l2 : kvs.length = xs.length := Paired.length pr
    omega
  · obtain ⟨b, hb, e1, e2, e3⟩ := paired_get pr e
    have q := entry_at he i
    rw [hb] at q
    exact ⟨_, b.2.1, q, rfl, e2, e3⟩
/-- the pairs of a dict of tuple keys, each a new tuple of the key's own tuple and the value -/
def ItiT (d : Addr) (o : Obj) (kvs : List (List L2.Key × V)) : It :=
  ⟨fun i H => H d = some (.frz o (.dT kvs)) ∧ i < kvs.length, fun i H x H' => ∃ T k v q, kvs[i]? = some (k, v) ∧ H q = some (.tup (k.map kV)) ∧ x = .ref T ∧ H T = none ∧ H' = upd H T (.tup [.ref q, v]), fun i H => H d = some (.frz o (.dT kvs)) ∧ kvs.length ≤ i⟩
theorem turn_itemsT {P : Program} {w : World} {K : PySem.W.Frag} {d : Addr} {o : Obj} {es : Array DictEntry} {ep : Nat} {kvs : List (List L2.Key × V)} {elts : List Expr} {kk : Nat} {tpos : Pos} (it : Addr) (hod : o.data = .dict es ep) (hsz0 : es.size = kvs.length) (hxd : o.ExactDict) :
    Turn P w K (.Tuple elts kk tpos) (ItiT d o kvs) [it] it (fun i h => ∃ ok ov, IsItemIter h it d i es.size ep ok ov) where
  mem := by simp
  obj := fun i h st b hb => by
    have e : b = it := by simpa using hb
    subst e
    obtain ⟨ok, ov, e⟩ := st
    exact ⟨_, e, fun v z => nomatch z⟩
  keep := fun i h h' st k => let ⟨ok, ov, e⟩ := st; ⟨ok, ov, k it (by simp) _ e⟩
  item := by
    intro X hP hw hK hc i pins s σ H E I hf st hg
    subst hP hw hK
    obtain ⟨hd, hi⟩ := hg
    obtain ⟨hs, hgd, hx, es', ep', hdt, hsz, ent⟩ := frzT2 I hd
    obtain ⟨rfl, rfl⟩ := dict_ep hod hdt
    obtain ⟨⟨k, v⟩, hkv⟩ : ∃ p, kvs[i]? = some p := ⟨kvs[i], List.getElem?_eq_getElem hi⟩
    obtain ⟨en, q, hen, hkey, hq, rv⟩ := ent i k v hkv
    have hlt0 : i < es'.size := by omega
    have een : es'[i] = en := by
      rw [Array.getElem?_eq_getElem hlt0] at hen
      exact Option.some.inj hen
    obtain ⟨ok, ov, he⟩ := st
    have hlt : it < s.heap.objs.size := Heap.lt_size he
    refine wpAny_pyNext_items_item_raw he ⟨o, hgd, hx, hdt⟩ hlt0 fun h' ho hT hz hk => ?_
    refine ⟨_, rfl, wpAny_letOwnedTupleGo_items (s := { s with heap := h' }) ho fun h'' he' sb => ?_⟩
    rw [een] at hT
    have hT2 : h''.get? s.heap.objs.size = some { cls := .type "tuple", data := .seq #[en.key, en.val] } := (sb.2 _ (Nat.ne_of_gt hlt)).trans hT
    have new : ObjOk X.prog X.w (upd H s.heap.objs.size (.tup [.ref q, v])) h'' s.heap.objs.size (.tup [.ref q, v]) :=
      ⟨by show 2 ≤ sizeLine; decide, [en.key, en.val], .cons hkey (.cons rv .nil), ⟨_, hT2, rfl, _, rfl⟩⟩
    have I1 : Inv X pins σ (upd H s.heap.objs.size (.tup [.ref q, v])) { s with heap := h'' } :=
      I.turnedNew (t' := s.toks) (ch := [it]) (fun b ob hb e => (sb.2 b (by simpa using hb)).trans (hk b ob (by simpa using hb) e)) hf (Nat.le_refl _) new
    refine ⟨.ref s.heap.objs.size, _, I1, rfl, ⟨_, k, v, q, hkv, hq, rfl, I.hok.fresh (Nat.le_refl _), rfl⟩, ⟨_, _, he'⟩, fun b hb => ?_⟩
    have e : b = it := by simpa using hb
    rw [e, upd_ne (Nat.ne_of_lt hlt)]
    exact (hf it (by simp)).1
  done := by
    intro X hP hw hK hc i pins s σ H E I hf st hg
    subst hP hw hK
    obtain ⟨hd, hi⟩ := hg
    obtain ⟨f0, f1, f2, f3, f4, f5⟩ := hf it (by simp)
    obtain ⟨hs, hgd, hx, es', ep', hdt, hsz, ent⟩ := frzT2 I hd
    obtain ⟨rfl, rfl⟩ := dict_ep hod hdt
    obtain ⟨ok, ov, he⟩ := st
    exact wpAny_pyNext_items_end_raw (I.ok.hd hc) he ⟨o, hgd, hx, hdt⟩ (by omega) fun h' eb => ⟨rfl, I.turned (t' := s.toks) (fun b ob hb e => eb b ob hb e) f0 f1 f3 f4 f5⟩
  self := fun A i s Q E st h => let ⟨_, _, e⟩ := st; PySem.W.kcp_self e h
def iItemsT (td : TE) : TI := fun σ H R => td σ H fun x H1 => ∃ d o kvs, x = .ref d ∧ H1 d = some (.frz o (.dT kvs)) ∧ R (ItiT d o kvs) H1
theorem pi_itemsT {X : Cx} {e : Expr} {td : TE} {apos cpos : Pos} {elts : List Expr} {kk : Nat} {tpos : Pos} (he : PE X e td) (hbase : attributeBase e "items" X.env (eval e X.env) = eval e X.env := by rfl) (hline : (apos.endLine == cpos.line) = true := by rfl) :
    PI X (.Tuple elts kk tpos) (.Call (.Attribute e "items" apos) [] [] cpos) (iItemsT td) := by
  refine ⟨fun pins s σ H R I h => ?_⟩
  refine wpAny_Call_method (T := "dict") (id := "dict.items") hbase rfl hline F.plainAttrs_dict F.slot_dict_items F.type_dict_items (thn (he.run pins s σ H _ I h) fun u s1 ⟨x, H1, I1, rx, d, o, kvs, ex, hd, q⟩ => ?_)
  subst ex
  obtain rfl : u = Value.ref d := rx
  obtain ⟨hs, hgd, hx, es, ep, hdt, hsz, ent⟩ := frzT2 I1 hd
  have raw : s1.heap.DictRaw d es ep := ⟨o, hgd, hx, hdt⟩
  refine ⟨raw.typeIs, fun a ea => ?_, ?_⟩
  · cases ea
    exact ⟨o, hgd, hx.2.1⟩
  have I2 : Inv X pins σ H1 { s1 with heap := s1.heap.push { cls := .type "dict_items", data := .fields #[.ref d] } } := I1.kept (t' := s1.toks) fun b ob q => Heap.get?_push_of_some _ q
  have fin : wpAny (model X.prog X.w) X.A (pyIter (.ref s1.heap.objs.size)) (PIE X pins σ (.Tuple elts kk tpos) R) X.xe { s1 with heap := s1.heap.push { cls := .type "dict_items", data := .fields #[.ref d] } } := by
    refine wpAny_pyIter_items_raw (d := d) ⟨_, Heap.get?_push_size _ rfl, rfl, rfl⟩ (raw.at fun o e => Heap.get?_push_of_some _ e) (pi_one (tk := s1.toks) I2 _ (turn_itemsT _ hdt hsz hx) ⟨.none, .none, ?_⟩ q)
    exact Heap.get?_push_size _ rfl
  show wpAny _ _ (callWith cpos (.builtin "dict.items") [.ref d] [] []) _ X.xe s1
  exact method_meetsIn F.slot_dict_items F.entry_dict_items rfl (PySem.evalArgs_none ⟨rfl, raw.typeIs, F.args_dict_items_1 _, _, meets_dict_items_raw d hs, ⟨es, ep, raw⟩, fin⟩)
theorem walk_itemsT {d : Addr} {o : Obj} {kvs : List (List L2.Key × V)} : Walk (ItiT d o kvs) kvs.length (fun H => H d = some (.frz o (.dT kvs))) (fun i H x H' => ∃ T k v q, kvs[i]? = some (k, v) ∧ H q = some (.tup (k.map kV)) ∧ x = .ref T ∧ H T = none ∧ H' = upd H T (.tup [.ref q, v])) :=
  ⟨fun _ _ hi q => ⟨q, hi⟩, fun _ q => ⟨q, Nat.le_refl _⟩, fun _ _ _ _ _ _ y => y⟩
end Kit
namespace Kit
open PySem PySem.Spec PyProof.Rows L2 Evl
theorem preSum_take (ns : List Int) : ∀ n, n ≤ ns.length → preSum (fun i => ns.getD i 0) n = (ns.take n).sum
  | 0, _ => rfl
  | n + 1, h => by
    have hx : ns[n]? = some ns[n] := List.getElem?_eq_getElem h
    show preSum (fun i => ns.getD i 0) n + ns.getD n 0 = _
    rw [preSum_take ns n (Nat.le_of_succ_le h), List.take_succ, hx, List.sum_append, List.getD_eq_getElem?_getD, hx]
    simp
/-- the view d.values() at p -/
def valsO (p d : Addr) : HO := .ext fun h => h.IsValuesView p d
theorem valsO_ok {P : Program} {w : World} {H : Hp} {h : Heap} {p d : Addr} (e : h.get? p = some { cls := .type "dict_values", data := .fields #[.ref d] }) : ObjOk P w H h p (valsO p d) :=
  ⟨⟨_, e, rfl, rfl⟩, ⟨_, e⟩, fun h1 h2 x k => let ⟨o, ho, r⟩ := x; ⟨o, k o ho, r⟩⟩
section
variable {X : Cx}
def rValsT : V → List V → Hp → VK → Prop := fun x xs H Q => ∃ (a : Addr) (kvs : List (List L2.Key × V)), x = .ref a ∧ xs = [] ∧ H a = some (.dT kvs) ∧ ∀ p, H p = none → Q (.ref p) (upd H p (valsO p a))
theorem mt_valsT : MtR X "dict.values" rValsT := by
  intro pins s σ H x xs v us Q I rx rxs h
  obtain ⟨a, kvs, rfl, rfl, ha, q⟩ := h
  cases rx
  cases rxs
  obtain ⟨z, hd, xs', rel, o, es, ep, ho, hx, hdat, _⟩ := dt_of I.hok ha
  have raw : s.heap.DictRaw a es ep := ⟨o, ho, hx, hdat⟩
  have hf : H s.heap.objs.size = none := I.hok.fresh (Nat.le_refl _)
  refine call_meetsIn PySem.F.slot_dict_values raw.typeIs PySem.F.entry_dict_values (PySem.F.args_dict_values_1 _) (meets_dict_values_raw a hd) ⟨⟨es, ep, raw⟩, ?_⟩
  exact ⟨.ref s.heap.objs.size, upd H s.heap.objs.size (valsO s.heap.objs.size a), I.laid (t' := s.toks) (fun b u e => Heap.get?_push_of_some _ e) (Nat.le_refl _) (valsO_ok (Heap.get?_push_size _ rfl)), rfl, q _ hf⟩
def rSumVT : List V → Hp → VK → Prop := fun xs H Q => ∃ (p a : Addr) (kvs : List (List L2.Key × V)) (ns : List Int), xs = [.ref p] ∧ H p = some (valsO p a) ∧ H a = some (.dT kvs) ∧ kvs.map Prod.snd = ns.map V.int ∧ Q (.int ns.sum) H
theorem cr_sumVT (hc : X.calm = true) : CallR X (.builtin "sum") rSumVT := by
  intro pins s σ H xs us Q I rx h
  obtain ⟨p, a, kvs, ns, rfl, hp, ha, hns, q⟩ := h
  rw [Vals.ref1 rx]
  obtain ⟨z, hd, xs', rel, o, es, ep, ho, hx, hdat, he, _⟩ := dt_of I.hok ha
  have raw : s.heap.DictRaw a es ep := ⟨o, ho, hx, hdat⟩
  have hv : s.heap.IsValuesView p a := (show ObjOk X.prog X.w H s.heap p (valsO p a) from I.hok p _ hp).1
  have hkn : kvs.length = ns.length := by
    have e := congrArg List.length hns
    rw [List.length_map, List.length_map] at e
    exact e
  have l1 : es.size = xs'.length := size_of_entries he
  have l2 : kvs.length = xs'.length := Paired.length rel
  have hsz : es.size = ns.length := by omega
  have hP : ∀ (i : Nat) (v : Value), (∃ hi : i < es.size, v = es[i].val) → ∃ t, v = .int (ns.getD i 0) t := fun i v ⟨hi, e⟩ => by
    have hi2 : i < kvs.length := by omega
    have hi3 : i < ns.length := by omega
    obtain ⟨b, hb, e1, e2, e3⟩ := paired_get rel (List.getElem?_eq_getElem hi2)
    have q := entry_at he i
    rw [hb, Array.getElem?_eq_getElem hi] at q
    have e4 : es[i] = entryOfKey (tupleKind (mixKind X.prog X.w)) b := Option.some.inj q
    have e5 : kvs[i].2 = V.int ns[i] := by
      have z : (kvs.map Prod.snd)[i]? = (ns.map V.int)[i]? := by rw [hns]
      rw [List.getElem?_map, List.getElem?_map, List.getElem?_eq_getElem hi2, List.getElem?_eq_getElem hi3] at z
      exact Option.some.inj z
    have e6 : ns.getD i 0 = ns[i] := by rw [List.getD_eq_getElem?_getD, List.getElem?_eq_getElem hi3] <;> rfl
    rw [e5] at e3
    rw [e, e4, e6]
    exact e3
  have la : a < s.heap.objs.size := Heap.lt_size ho
  refine call_sum_walkAnyS (wpAny_pyIter_values_raw hv raw ?_)
  refine ⟨_, _, _, _, _, _, _, fun i => ns.getD i 0, rfl, (Walks.rawValues (prog := X.prog) (w := X.w) (A := X.A.in1) (show X.A.in1.handled = none from I.ok.hd hc) s.heap.objs.size a (Nat.ne_of_lt la) es ep).toS, ⟨⟨_, Heap.get?_push_size _ rfl, rfl, rfl⟩, raw.at fun o e => Heap.get?_push_of_some _ e⟩, fun b hb => ?_, hP, fun s' t' hm => ?_⟩
  · show b < (s.heap.push _).objs.size
    rw [size_push']
    rcases List.mem_cons.mp hb with z | z
    · rw [z]
      exact Nat.lt_succ_self _
    · rw [List.mem_singleton.mp z]
      exact Nat.lt_succ_of_lt la
  · have e : preSum (fun i => ns.getD i 0) es.size = ns.sum := by
      rw [hsz, preSum_take ns ns.length (Nat.le_refl _), List.take_length]
    rw [e, Moved.eq_with hm]
    exact ⟨.int ns.sum, H, I.kept (t' := s'.toks) fun b o e => hm.heap b o (fun hmem => Nat.ne_of_lt (Heap.lt_size e) (List.mem_singleton.mp hmem)) (Heap.get?_push_of_some _ e), ⟨_, rfl⟩, q⟩
end
end Kit

namespace Kit
open PySem PySem.Spec PyProof.Rows L2 Evl
/-! ### {key: value}, the key a tuple -/
def tDisp1 (tk tv : TE) : TE := fun σ H Q => ∀ p, H p = none → tk σ (upd H p (.dT [])) fun x H1 => tv σ H1 fun y H2 => H2 p = some (.dT []) ∧ ∃ (b : Addr) (k : List L2.Key), x = .ref b ∧ H2 b = some (.tup (k.map kV)) ∧ Q (.ref p) (upd H2 p (.dT [(k, y)]))
theorem pe_disp1T {X : Cx} {pos : Pos} {k v : Expr} {tk tv : TE} (hu : X.A.units < cLine) (hk : PE X k tk) (hv : PE X v tv) : PE X (.Dict [some k] [v] pos) (tDisp1 tk tv) := by
  refine ⟨fun pins s σ H Q I q => ?_⟩
  have hn := I.hok.fresh (Nat.le_refl s.heap.objs.size)
  have I1 := I.laid (a := s.heap.objs.size) (o := .dT []) (h' := s.heap.push { cls := .type "dict", data := .dict #[] }) (t' := s.toks) (fun _ _ q => Heap.get?_push_of_some _ q) (Nat.le_refl _) (dt_empty s.heap I.big)
  have hp : PPs X pos [some k] [v] [(tk, tv)] := pps_cons hk hv pps_nil
  rw [arm_eval_Dict, zip_pairTrees [some k] [v] X.env pos rfl rfl, dictDisplay_pairs (pairTrees [some k] [v] X.env pos) (by intro z; cases z) (by rw [pairTrees_length [some k] [v] X.env pos rfl rfl]; show 1 < 17; decide)]
  refine wpAny_bind (wpAny_standAt (wpAny_bind (wpAny_subDictH (knd := tupleKind (mixKind X.prog X.w)) hu (by rw [pairTrees_length [some k] [v] X.env pos rfl rfl]; show 1 ≤ 15; decide) ?_)))
  refine thn (hp.run pins _ σ _ (fun ps H2 => match ps with
    | [(x, y)] => H2 s.heap.objs.size = some (.dT []) ∧ ∃ (b : Addr) (k : List L2.Key), x = .ref b ∧ H2 b = some (.tup (k.map kV)) ∧ Q (.ref s.heap.objs.size) (upd H2 s.heap.objs.size (.dT [(k, y)]))
    | _ => False) I1 (q _ hn)) fun ws s2 ⟨ps, H2, I2, rel, z⟩ => ?_
  match ps, z with
  | [(x, y)], ⟨e, b, kk, ex, hb, q2⟩ =>
    subst ex
    cases rel with
    | @cons a b2 as bs h t =>
      cases t
      obtain ⟨b21, b22⟩ := b2
      obtain ⟨h1, h2⟩ := h
      obtain rfl : b21 = Value.ref b := h1
      obtain ⟨z, hd, xs0, r0, dd⟩ := dt_of I2.hok e
      cases r0
      refine ⟨[(kk, b, b22)], ⟨rfl, rfl, key_of I2.hok hb, True.intro⟩, dd, fun h' tk dd' hs => wpAny_pure ⟨.ref s.heap.objs.size, _, ?_, rfl, q2⟩⟩
      obtain ⟨o, es, ep, hq, h2', h3, h4, _, h5⟩ := dd'
      refine d_write I2 (by rw [e]; exact True.intro) hs ⟨o, hq⟩ ⟨by show 1 ≤ sizeLine; decide, hd, [(kk, b, b22)], .cons ⟨rfl, ?_, h2⟩ .nil, o, es, ep, hq, h2', h3, h4, h5⟩
      rw [upd_ne (ne_of hb e (fun z => nomatch z))]
      exact hb
/-! ### for k, v in d.items(), the keys tuples -/
section
variable {K : PySem.W.Frag} {σ : L2.St} {H : Hp} {D : Ends} {tu : TS} {tz : TS} {td : TE}
theorem s_forItT {i j : Nat} {d : Addr} {kvs : List (List L2.Key × V)} (h : ∀ H1, Ev td σ H1 (.ref d)) (hd : H d = some (.dT kvs)) (Pv : Obj → Nat → L2.St → Hp → Prop) (h0 : ∀ o H1, Ex (upd H d (.frz o (.dT kvs))) H1 → Pv o 0 σ H1) (hl : ∀ o k σ' H', k ≤ kvs.length → Pv o k σ' H' → H' d = some (.frz o (.dT kvs)))
    (hs : ∀ o k key v q σ' H' H2, kvs[k]? = some (key, v) → H' q = some (.tup (key.map kV)) → Pv o k σ' H' → Ex H' H2 → tu { nx := Pv o (k + 1), ct := Pv o (k + 1), bk := fun σ' H' => H' d = some (.frz o (.dT kvs)) ∧ D.nx σ' (upd H' d (.dT kvs)), rt := fun v H' => H' d = some (.frz o (.dT kvs)) ∧ D.rt v (upd H' d (.dT kvs)) } ((σ'.set i (some (.ref q))).set j (some v)) H2) (he : ∀ o σ' H', Pv o kvs.length σ' H' → D.nx σ' (upd H' d (.dT kvs))) :
    tLock (tFor (iItemsT td) (gTup K 2 (gCons (gName i) (gCons (gName j) gNil))) tu) D σ H := ⟨d, .dT kvs, hd, True.intro, fun o => h _ _ (Ex.refl _) _ fun H1 e => ⟨d, o, kvs, rfl, e d _ upd_same, by
  refine for_it (walk_itemsT) (Pv o) (h0 o H1 e) (fun k σ' H' hk p => hl o k σ' H' hk p) ?_ (fun σ' H' p => ⟨hl o _ σ' H' (Nat.le_refl _) p, he o σ' H' p⟩)
  rintro k v σ' Hh H2 hk p ⟨T, key, x, q, g1, g2, rfl, nT, rfl⟩
  exact ⟨T, [.ref q, x], rfl, st_of upd_same, rfl, .ref q, [x], rfl, x, [], rfl, rfl, hs o k key x q σ' Hh _ g1 g2 p (Ex.new nT)⟩⟩⟩
end
end Kit

namespace Kit
open PySem PySem.Spec PyProof.Rows L2 Evl
section
variable {K : PySem.W.Frag} {σ : L2.St} {H : Hp} {ta tb te tx : TE} {D : Ends} {tz : TS}
theorem ev_dget2T {a b : Addr} {kvs : List (List L2.Key × V)} {k : List L2.Key} {v : V} (h : Ev ta σ H (.ref a)) (hx : Ev tb σ H (.ref b)) (hv : Ev tx σ H v) (ha : H a = some (.dT kvs)) (hb : H b = some (.tup (k.map kV))) : Ev (tDGet2 ta tb tx) σ H ((valV kvs k).getD v) := fun H1 e Q q =>
  h H1 e _ fun H2 e2 => ⟨a, rfl, .inr ⟨kvs, .inl (e2 a _ (e a _ ha))⟩, hx H2 (e.trans e2) _ fun H3 e3 => hv H3 (e.trans (e2.trans e3)) _ fun H4 e4 => ⟨_, DGet.t (e4 a _ (e3 a _ (e2 a _ (e a _ ha)))) (e4 b _ (e3 b _ (e2 b _ (e b _ hb)))), q H4 (e2.trans (e3.trans e4))⟩⟩
theorem s_dputT {a b : Addr} {kvs : List (List L2.Key × V)} {k : List L2.Key} {v : V} (h : Ev ta σ H (.ref a)) (hx : Ev tb σ H (.ref b)) (hv : Ev te σ H v) (ha : H a = some (.dT kvs)) (hb : H b = some (.tup (k.map kV))) (hl : kvs.length < 100000) (kk : ∀ H1, Ex H H1 → D.nx σ (upd H1 a (.dT (putK kvs k v)))) : sDPut ta tb te D σ H :=
  hv H (Ex.refl _) _ fun H1 e1 => h H1 e1 _ fun H2 e2 => hx H2 (e1.trans e2) _ fun H3 e3 => ⟨a, _, rfl, DPut.t (k := k) (e3 a _ (e2 a _ (e1 a _ ha))) (e3 b _ (e2 b _ (e1 b _ hb))) (sz_lt hl), kk H3 (e1.trans (e2.trans e3))⟩
theorem q_dnewT {i : Nat} (k : ∀ p H1, H p = none → Ex H H1 → H1 p = some (.dT []) → tz D (σ.set i (some (.ref p))) H1) : tSeq (tAsg tDNewT (gName i)) tz D σ H := fun p hp => k p _ hp (Ex.new hp) upd_same
/-- {key: value}: the key a new tuple -/
theorem q_disp1 {i : Nat} {k : List L2.Key} {v : V} (hk : EvU ta σ H (k.map kV)) (hv : Ev tb σ H v) (kk : ∀ p H1, H p = none → Ex H H1 → H1 p = some (.dT [(k, v)]) → tz D (σ.set i (some (.ref p))) H1) : tSeq (tAsg (tDisp1 ta tb) (gName i)) tz D σ H := fun p hp =>
  hk _ (Ex.new hp) _ fun b H2 nb e2 hb => hv H2 ((Ex.new hp).trans e2) _ fun H3 e3 => ⟨e3 p _ (e2 p _ upd_same), b, k, rfl, e3 b _ hb, kk p _ hp (fun c o ec => by
    by_cases z : c = p
    · subst z
      rw [hp] at ec
      cases ec
    · rw [upd_ne z]
      exact e3 c _ (e2 c _ (Ex.new hp c _ ec))) upd_same⟩
theorem s_retE : True := trivial
end
end Kit

set_option Elab.async false
set_option linter.all false
set_option maxRecDepth 100000
set_option maxHeartbeats 4000000
namespace Kit
open PySem PySem.Spec PyProof.Rows L2 Evl
theorem slot_type_ne : Slot "type" (cmpInfo .NotEq).2.1 "object.__ne__" :=
  .of (owner := "object") (n := "__ne__") (by rw [typeLookup_type, builtinLookup_eq_fast]; kernel_rfl) (by decide +kernel) (by decide +kernel) (by decide +kernel)
    (by first | exact .inl (by decide +kernel) | exact .inr (by decide +kernel)) (by rw [isSubtype_type]; kernel_rfl)
theorem slot_type_eqN : Slot "type" "__eq__" "object.__eq__" :=
  .of (owner := "object") (n := "__eq__") (by rw [typeLookup_type, builtinLookup_eq_fast]; kernel_rfl) (by decide +kernel) (by decide +kernel) (by decide +kernel)
    (by first | exact .inl (by decide +kernel) | exact .inr (by decide +kernel)) (by rw [isSubtype_type]; kernel_rfl)
section
variable {prog : Program} {w : World} {A : Around} {E : Value → Shared → Prop} {s : Shared} {Q : Value → Shared → Prop}
theorem ne_type_same {X : String} (hX : ∀ s' : Shared, s'.TypeIs (.type X) "type") (hu : A.units + 1 < cLine) (h : Q (.bool false) s) : wpAny (model prog w) A (compareOp .NotEq (.type X) (.type X)) Q E s := by
  show wpAny _ A (richCompare .NotEq _ _) Q E s
  refine wpAny_richCompare_same (T := "type") (hX s) (hX s) slot_type_ne ?_
  refine wpAny_call_entry slot_type_ne (hX s) PySem.F.cmpEntry_ne ?_ (PySem.F.cmpArgs_ne _ _)
  unfold Builtin.«object.__ne__»
  have key : wpAny (model prog w) A.in1 (call (.builtin "object.__eq__") [.type X, .type X]) (fun v s' => v = .bool true ∧ s' = s) E s :=
    call_gives slot_type_eqN (hX s) F.entry_object_eq (F.args_object_eq_2 _ _) (PySem.TypeEq.object_eq_same rfl (by simp)) ⟨rfl, rfl⟩
  repeat (first
    | with_reducible refine wpAny_cRoomFor (by show A.units + 1 < cLine; exact hu) ?_
    | (refine wpAny_bind (m := callSpecialIfBound? (.type X) (Str.ofString "__eq__") [.type X])
        (wpAny_callSpecialIfBound?_slot (hX _) slot_type_eqN (wpAny_mono key (fun r s' hr => by
          obtain ⟨rfl, rfl⟩ := hr
          have hq : Q (.bool false) s' := h
          repeat (first | exact ⟨_, rfl, (by intro e; cases e), hq⟩ | exact wpAny_pure ⟨_, rfl, (by intro e; cases e), hq⟩ | (refine wpAny_bind (m := truthy (.bool _)) (wpAny_truthy_bool ?_)) | wp_step)) fun _ _ e => e)))
    | wp_step)
end
end Kit

set_option Elab.async false
set_option linter.all false
set_option maxRecDepth 100000
set_option maxHeartbeats 4000000
namespace Kit
open PySem PySem.Spec PyProof.Rows L2 Evl
section
variable {X : Cx}
def rNeTyS : R2 := fun x y H Q => ∃ m, x = .ty m ∧ y = .ty m ∧ Meta m ∧ Q (.bl false) H
theorem op_neTyS (hu : X.A.units + 1 < cLine) : OpR X (compareOp .NotEq) rNeTyS := by
  intro pins s σ H x y v u Q I rx ry h
  obtain ⟨m, rfl, rfl, hm, q⟩ := h
  cases (show v = Value.type m from rx)
  cases (show u = Value.type m from ry)
  exact ne_type_same hm hu ⟨.bl false, H, I, rfl, q⟩
/-- min of a tuple of ints -/
def rMinT (K : PySem.W.Frag) : List V → Hp → VK → Prop := fun vs H Q => ∃ (a : Addr) (n : Int) (ns : List Int), vs = [V.ref a] ∧ SqT K H a ((n :: ns).map V.int) ∧ Q (.int (ns.foldl min n)) H
theorem alike_ints (ns : List Int) : PySem.W.AlikeAll (ns.map PyData.int) := by
  refine ⟨fun x hx y hy => ?_, fun x hx => ?_⟩
  · obtain ⟨a, _, rfl⟩ := List.mem_map.mp hx
    obtain ⟨b, _, rfl⟩ := List.mem_map.mp hy
    rfl
  · obtain ⟨a, _, rfl⟩ := List.mem_map.mp hx
    exact fun z => by cases z
theorem depth_ints : ∀ ms : List Int, PyData.depthAll (ms.map PyData.int) = 0
  | [] => rfl
  | m :: r => by simp [PyData.depthAll, PyData.depth, depth_ints r]
theorem cr_minT (hc : X.calm = true) (hu : X.A.units + 1 < cLine) : CallR X (.builtin "min") (rMinT X.K) := by
  intro pins s σ H vs us Q I r h
  obtain ⟨a, n, ns, rfl, hs, q⟩ := h
  obtain ⟨its, rv, hl, _⟩ := I.tuple hs
  rw [Vals.ref1 r]
  obtain ⟨as, rd⟩ := Dp.readsAll I (PyData.int n :: ns.map PyData.int) _ its (dpa_ints (n :: ns)) rv
  refine PySem.W.min_tuple_data (I.ok.hd hc) (show s.heap.IsTuple a its.toArray from hl) (by simpa using rd) (alike_ints (n :: ns)) ?_ fun i v h' tk bs hv hr hk => ?_
  · have := depth_ints (n :: ns)
    rw [List.map_cons] at this
    rw [this]
    exact hu
  · rw [PySem.W.minD_ints] at hr
    cases hr with
    | int _ t => exact ⟨.int (ns.foldl min n), H, I.kept (t' := tk) hk, ⟨_, rfl⟩, q⟩
theorem foldl_min_spec : ∀ (ns : List Int) (n : Int), ns.foldl min n ∈ n :: ns ∧ ∀ y ∈ n :: ns, ns.foldl min n ≤ y
  | [], n => ⟨by simp, by simp⟩
  | k :: r, n => by
    obtain ⟨h1, h2⟩ := foldl_min_spec r (min n k)
    refine ⟨?_, fun y hy => ?_⟩
    · rcases List.mem_cons.mp h1 with e | e
      · rw [List.foldl_cons, e]
        rcases Int.le_total n k with h | h
        · rw [Int.min_eq_left h]; simp
        · rw [Int.min_eq_right h]; simp
      · simp [List.foldl_cons, e]
    · have h3 := h2 (min n k) (by simp)
      rw [List.foldl_cons]
      rcases List.mem_cons.mp hy with e | hy
      · omega
      · rcases List.mem_cons.mp hy with e | hy
        · omega
        · exact h2 y (by simp [hy])
end
/-! readings of these -/
section
variable {K : PySem.W.Frag} {σ : L2.St} {H H' : Hp} {ta tb te tl : TE} {D : Ends} {tu tz : TS} {t : TT}
theorem ev_typeL {p : Addr} {xs : List V} (h : Ev ta σ H (.ref p)) (hp : H p = some (.lst xs)) : Ev (tThenZ ta kTyp) σ H (.ty "list") := fun H1 e Q q => h H1 e _ fun H2 e2 => ⟨"list", by
  have := e2 p _ (e p _ hp)
  simp [zTyV, this], q H2 e2⟩
theorem ev_typeT {p : Addr} {xs : List V} (h : Ev ta σ H (.ref p)) (hp : H p = some (.tup xs)) : Ev (tThenZ ta kTyp) σ H (.ty "tuple") := fun H1 e Q q => h H1 e _ fun H2 e2 => ⟨"tuple", by
  have := e2 p _ (e p _ hp)
  simp [zTyV, this], q H2 e2⟩
theorem rv_neTyS {m : String} (hm : Meta m) : RV rNeTyS (.ty m) (.ty m) H (.bl false) := fun H1 _ _ q => ⟨m, rfl, rfl, hm, q H1 (Ex.refl H1)⟩
theorem ev_sumN {ns : List Int} (h : EvL ta σ H (ns.map V.int)) : Ev (tCB (rSum K) (tCons ta tNil)) σ H (.int ns.sum) := fun H1 e Q q => h H1 e _ fun p H2 _ e2 h2 => ⟨p, ns, rfl, sq_of h2, q H2 e2⟩
theorem ev_allN {bs : List Bool} (h : EvL ta σ H (bs.map V.bl)) : Ev (tCB (rAll K) (tCons ta tNil)) σ H (.bl (bs.all id)) := fun H1 e Q q => h H1 e _ fun p H2 _ e2 h2 => ⟨p, bs, rfl, sq_of h2, q H2 e2⟩
theorem ev_minT {p : Addr} {n : Int} {ns : List Int} (h : Ev ta σ H (.ref p)) (hp : SqT K H p ((n :: ns).map V.int)) : Ev (tCB (rMinT K) (tCons ta tNil)) σ H (.int (ns.foldl min n)) := fun H1 e Q q => h H1 e _ fun H2 e2 => ⟨p, n, ns, rfl, ex_t (e.trans e2) hp, q H2 e2⟩
/-- sorted(xs), told by what it is -/
theorem ed_sorted {p : Addr} {ns ms : List Int} (h : Ev ta σ H (.ref p)) (hp : SqL K H p (ns.map V.int)) (hl : ns.length < 64) (hm : ms.Perm ns) (hs : ms.Pairwise (· ≤ ·)) : EvD K (tCB (rSorted K) (tCons ta tNil)) σ H (.list (ms.map PyData.int)) := fun H1 e Q q => h H1 e _ fun H2 e2 =>
  ⟨p, ns, rfl, ex_l (e.trans e2) hp, hl, fun ns' l pm so new => by
    have eq : ns' = ms := by
      exact List.Perm.eq_of_pairwise (le := fun a b : Int => a ≤ b) (fun a b _ _ h1 h2 => Int.le_antisymm h1 h2) so hs (pm.trans hm.symm)
    subst eq
    exact q _ _ (e2.trans (Ex.new new)) (.lst (sq_of upd_same) (dpa_ints _))⟩
/-- a new tuple of a list's items -/
theorem eu_tupOf {p : Addr} {xs : List V} (h : Ev ta σ H (.ref p)) (hp : SqL K H p xs) : EvU (tCB (rTupS K) (tCons ta tNil)) σ H xs := fun H1 e Q q => h H1 e _ fun H2 e2 =>
  ⟨p, xs, rfl, ex_l (e.trans e2) hp, fun l hl => q l _ (fresh_back e2 hl) (e2.trans (Ex.new hl)) upd_same⟩
/-- [0] * n -/
theorem el_rep {xs : List V} {k : Int} (ha : EvL ta σ H xs) (hb : Ev tb σ H (.int k)) (h0 : 0 ≤ k) (h1 : k ≤ 1000) (hx : xs.length ≤ 50) : EvL (tOp rRep ta tb) σ H (List.replicate k.toNat xs).flatten := fun H1 e Q q =>
  ha H1 e _ fun p H2 hp e2 h2 => hb H2 (e.trans e2) _ fun H3 e3 => ⟨p, k, xs, rfl, rfl, e3 p _ h2, by omega, by omega, sz_of (by
    have : xs.length * k.toNat ≤ 50 * 1000 := Nat.mul_le_mul hx (by omega)
    omega), fun l hl => q l _ (fresh_back (e2.trans e3) hl) ((e2.trans e3).trans (Ex.new hl)) upd_same⟩
/-- xs[::-1] -/
theorem el_rev {p : Addr} {xs : List V} (h : Ev ta σ H (.ref p)) (hp : SqL K H p xs) : EvL (tRevL K ta) σ H xs.reverse := fun H1 e Q q => h H1 e _ fun H2 e2 =>
  ⟨p, xs, rfl, ex_l (e.trans e2) hp, fun l hl => q l _ (fresh_back e2 hl) (e2.trans (Ex.new hl)) upd_same⟩
theorem el_revN {xs : List V} (h : EvL ta σ H xs) : EvL (tRevL K ta) σ H xs.reverse := fun H1 e Q q => h H1 e _ fun p H2 _ e2 h2 =>
  ⟨p, xs, rfl, sq_of h2, fun l hl => q l _ (fresh_back e2 hl) (e2.trans (Ex.new hl)) upd_same⟩
/-- for i, x in enumerate(xs): the pair is a new tuple -/
theorem s_forEn {ta : TA} {i j : Nat} {a : Addr} {xs : List V} (h : EvA ta σ H [.ref a]) (hx : SqL K H a xs) (Pv : Nat → L2.St → Hp → Prop) (h0 : ∀ H1, Ex H H1 → Pv 0 σ H1) (hl : ∀ n σ' H', n ≤ xs.length → Pv n σ' H' → SqL K H' a xs)
    (hs : ∀ n x σ' H' H2, xs[n]? = some x → Pv n σ' H' → Ex H' H2 → tu { D with nx := Pv (n + 1), ct := Pv (n + 1), bk := D.nx } ((σ'.set i (some (.int (n : Int)))).set j (some x)) H2) (hd : ∀ σ' H', Pv xs.length σ' H' → D.nx σ' H') :
    tFor (iEnum K ta) (gTup K 2 (gCons (gName i) (gCons (gName j) gNil))) tu D σ H := h H (Ex.refl H) _ fun H1 e => ⟨a, xs, rfl, ex_l e hx, by
  refine for_it walk_enum Pv (h0 H1 e) (fun n σ' H' hn p => hl n σ' H' hn p) ?_ hd
  rintro n v σ' Hh H2 hn p ⟨T, x, y, rfl, nT, rfl, g1, g2⟩
  have ex : V.int (n : Nat) = x := Option.some.inj g1
  subst ex
  exact ⟨T, [.int (n : Nat), y], rfl, st_of upd_same, rfl, _, [y], rfl, y, [], rfl, rfl, hs n y σ' Hh _ g2 p (Ex.new nT)⟩⟩
theorem q_forEn {ta : TA} {i j : Nat} {a : Addr} {xs : List V} (h : EvA ta σ H [.ref a]) (hx : SqL K H a xs) (Pv : Nat → L2.St → Hp → Prop) (h0 : ∀ H1, Ex H H1 → Pv 0 σ H1) (hl : ∀ n σ' H', n ≤ xs.length → Pv n σ' H' → SqL K H' a xs)
    (hs : ∀ n x σ' H' H2, xs[n]? = some x → Pv n σ' H' → Ex H' H2 → tu { D with nx := Pv (n + 1), ct := Pv (n + 1), bk := tz D } ((σ'.set i (some (.int (n : Int)))).set j (some x)) H2) (hd : ∀ σ' H', Pv xs.length σ' H' → tz D σ' H') :
    tSeq (tFor (iEnum K ta) (gTup K 2 (gCons (gName i) (gCons (gName j) gNil))) tu) tz D σ H := s_forEn (D := { D with nx := tz D }) h hx Pv h0 hl hs hd
end
end Kit

set_option Elab.async false
set_option linter.all false
set_option maxRecDepth 100000
set_option maxHeartbeats 4000000
namespace Kit
open PySem PySem.Spec PyProof.Rows L2 Evl
/-! ### new lists of new tuples -/
def TL (H : Hp) (vs : List V) (rs : List (List V)) : Prop := Paired (fun v r => ∃ a, v = .ref a ∧ H a = some (.tup r)) vs rs
theorem TL.imp {H H' : Hp} (f : ∀ a r, H a = some (.tup r) → H' a = some (.tup r)) : ∀ {vs : List V} {rs : List (List V)}, TL H vs rs → TL H' vs rs
  | _, _, .nil => .nil
  | _, _, .cons ⟨a, e, h⟩ t => .cons ⟨a, e, f a _ h⟩ (TL.imp f t)
theorem TL.ex {H H' : Hp} {vs : List V} {rs : List (List V)} (e : Ex H H') (h : TL H vs rs) : TL H' vs rs := h.imp fun a r x => e a _ x
theorem TL.upd {H : Hp} {l : Addr} {xs : List V} {o : HO} {vs : List V} {rs : List (List V)} (hl : H l = some (.lst xs)) (h : TL H vs rs) : TL (upd H l o) vs rs := h.imp fun a r x => by
  rw [upd_ne (ne_of x hl (by intro z; cases z))]
  exact x
theorem TL.len {H : Hp} : ∀ {vs : List V} {rs : List (List V)}, TL H vs rs → vs.length = rs.length
  | _, _, .nil => rfl
  | _, _, .cons _ t => by rw [List.length_cons, List.length_cons, TL.len t]
theorem TL.app {H : Hp} {v : V} {r : List V} (hv : ∃ a, v = .ref a ∧ H a = some (.tup r)) : ∀ {vs : List V} {rs : List (List V)}, TL H vs rs → TL H (vs ++ [v]) (rs ++ [r])
  | _, _, .nil => .cons hv .nil
  | _, _, .cons q t => .cons q (TL.app hv t)
theorem TL.get {H : Hp} : ∀ {vs : List V} {rs : List (List V)} {i : Nat} {v : V}, TL H vs rs → vs[i]? = some v → ∃ a r, v = .ref a ∧ H a = some (.tup r) ∧ rs[i]? = some r
  | _, _, 0, v, .cons ⟨a, e, h⟩ t, hv => ⟨a, _, (Option.some.inj (by simpa using hv)).symm.trans e, h, rfl⟩
  | _, _, i + 1, v, .cons _ t, hv => by
    obtain ⟨a, r, h1, h2, h3⟩ := TL.get (i := i) t (by simpa using hv)
    exact ⟨a, r, h1, h2, by simpa using h3⟩
  | _, _, 0, v, .nil, hv => by simp at hv
  | _, _, i + 1, v, .nil, hv => by simp at hv
theorem TL.rev {H : Hp} : ∀ {vs : List V} {rs : List (List V)}, TL H vs rs → TL H vs.reverse rs.reverse
  | _, _, .nil => .nil
  | _, _, .cons q t => by
    rw [List.reverse_cons, List.reverse_cons]
    exact TL.app q (TL.rev t)
def EvLT (te : TE) (σ : L2.St) (H : Hp) (rs : List (List V)) : Prop := ∀ H1, Ex H H1 → ∀ Q : VK, (∀ p vs H2, H1 p = none → Ex H1 H2 → H2 p = some (.lst vs) → TL H2 vs rs → Q (.ref p) H2) → te σ H1 Q
section
variable {K : PySem.W.Frag} {σ : L2.St} {H H' : Hp} {te tl : TE} {D : Ends} {tz : TS} {t : TT}
/-- [a new tuple for i in range(n)] -/
theorem elt_R1 {ta : TA} {j : Nat} {vs : List Nat} {n : Int} (f : Nat → List V) (h : EvA ta σ H [.int n]) (hn : 0 ≤ n ∧ n ≤ 40000) (hw : ∀ x, wipe ((wipe σ vs).set j (some x)) vs = wipe σ vs)
    (he : ∀ (i : Nat) H1, Ex H H1 → (i : Int) < n → EvU te ((wipe σ vs).set j (some (.int (i : Int)))) H1 (f i)) : EvLT (tLc (iRng1 ta) (gName j) tYes te vs) σ H ((List.range n.toNat).map f) := fun H0 e Q q => h H0 e _ fun H1 e1 => ⟨n, rfl, by omega, by omega, fun Dl hD =>
  lc_range (lo := 0) (n := n.toNat) (fun i H' => Ex H1 H' ∧ ∃ ws, H' Dl = some (.lst ws) ∧ TL H' ws ((List.range i).map f)) ⟨Ex.new hD, [], upd_same, .nil⟩ (fun i H' hi p => by
    obtain ⟨p1, ws, p2, p3⟩ := p
    have e0 : (0 : Int) + (i : Int) = (i : Int) := Int.zero_add _
    show wipe ((wipe σ vs).set j (some (.int ((0 : Int) + (i : Int))))) vs = wipe σ vs ∧ te ((wipe σ vs).set j (some (.int ((0 : Int) + (i : Int))))) H' fun y H4 => ∃ acc, H4 Dl = some (.lst acc) ∧ acc.length < sizeLine ∧ _
    rw [e0]
    refine ⟨hw _, he i H1 (e.trans e1) (by omega) H' p1 _ fun p H4 hp e4 h4 => ⟨ws, e4 Dl _ p2, sz_lt (by
      have := p3.len
      simp at this
      omega), Ex.mut (p1.trans e4) hD, ws ++ [.ref p], upd_same, ?_⟩⟩
    rw [List.range_succ, List.map_append]
    exact ((p3.ex e4).app ⟨p, rfl, h4⟩).upd (e4 Dl _ p2)) (fun H' p => by
      obtain ⟨p1, ws, p2, p3⟩ := p
      exact q Dl ws H' (fresh_back e1 hD) (e1.trans p1) p2 p3)⟩
/-- [a new tuple for x in xs] -/
theorem elt_map {a : Addr} {xs : List V} {j : Nat} {vs : List Nat} (f : Nat → List V) (h : Ev tl σ H (.ref a)) (hx : SqL K H a xs) (hz : xs.length ≤ 40000) (hw : ∀ x, wipe ((wipe σ vs).set j (some x)) vs = wipe σ vs)
    (he : ∀ (i : Nat) (x : V) H1, Ex H H1 → xs[i]? = some x → EvU te ((wipe σ vs).set j (some x)) H1 (f i)) : EvLT (tLc (iList K tl) (gName j) tYes te vs) σ H ((List.range xs.length).map f) := fun H0 e Q q => h H0 e _ fun H1 e1 => ⟨a, rfl, ⟨xs, ex_l (e.trans e1) hx⟩, fun Dl hD =>
  lc_list (xs := xs) (fun i H' => Ex H1 H' ∧ ∃ ws, H' Dl = some (.lst ws) ∧ TL H' ws ((List.range i).map f)) ⟨Ex.new hD, [], upd_same, .nil⟩ (fun i H' _ p => ex_l ((e.trans e1).trans p.1) hx) (fun i x H' hi p => by
    obtain ⟨p1, ws, p2, p3⟩ := p
    show wipe ((wipe σ vs).set j (some x)) vs = wipe σ vs ∧ te ((wipe σ vs).set j (some x)) H' fun y H4 => ∃ acc, H4 Dl = some (.lst acc) ∧ acc.length < sizeLine ∧ _
    refine ⟨hw _, he i x H1 (e.trans e1) hi H' p1 _ fun p H4 hp e4 h4 => ⟨ws, e4 Dl _ p2, sz_lt (by
      have := p3.len
      have := (List.getElem?_eq_some_iff.mp hi).1
      simp at *
      omega), Ex.mut (p1.trans e4) hD, ws ++ [.ref p], upd_same, ?_⟩⟩
    rw [List.range_succ, List.map_append]
    exact ((p3.ex e4).app ⟨p, rfl, h4⟩).upd (e4 Dl _ p2)) (fun H' p => by
      obtain ⟨p1, ws, p2, p3⟩ := p
      exact q Dl ws H' (fresh_back e1 hD) (e1.trans p1) p2 p3)⟩
theorem range_get {α : Type} (rs : List α) (d : α) : rs = (List.range rs.length).map fun i => rs.getD i d := by
  refine List.ext_getElem (by simp) fun i h1 h2 => ?_
  simp [h1]
theorem paired_map {α β γ : Type} {F : β → γ → Prop} (f : α → β) (g : α → γ) : ∀ l : List α, (∀ x ∈ l, F (f x) (g x)) → Paired F (l.map f) (l.map g)
  | [], _ => .nil
  | x :: r, h => .cons (h x (by simp)) (paired_map f g r fun y hy => h y (by simp [hy]))
/-- [x for x in xs if test(x)], xs a list of tuples, the test P of the tuple's items -/
theorem elt_filter {a : Addr} {xs : List V} {rs : List (List V)} {j : Nat} {vs : List Nat} (P : List V → Bool) (h : Ev tl σ H (.ref a)) (hx : SqL K H a xs) (ht : TL H xs rs) (hz : xs.length ≤ 40000) (hw : ∀ x, wipe ((wipe σ vs).set j (some x)) vs = wipe σ vs) (hj : ∀ x, ((wipe σ vs).set j (some x))[j]? = some (some x))
    (he : ∀ (b : Addr) (r : List V) H1, Ex H H1 → r ∈ rs → H1 b = some (.tup r) → EvT t ((wipe σ vs).set j (some (.ref b))) H1 (P r)) : EvLT (tLc (iList K tl) (gName j) t (tVar j) vs) σ H (rs.filter P) := fun H0 e Q q => by
  refine el_lcL (K := K) (f := fun i => P (rs.getD i [])) (v := fun i => xs.getD i .non) h hx hz hw (fun i x H1 e1 hi => ?_) (fun i x H1 e1 hi hf => ?_) H0 e Q fun p H2 hp e2 h2 => ?_
  · obtain ⟨b, r, rfl, hb, hr⟩ := ht.get hi
    have g : rs.getD i [] = r := by rw [List.getD_eq_getElem?_getD, hr] <;> rfl
    show EvT _ _ _ (P (rs.getD i []))
    rw [g]
    exact he b r H1 e1 (List.mem_of_getElem? hr) (e1 b _ hb)
  · have g : xs.getD i .non = x := by rw [List.getD_eq_getElem?_getD, hi] <;> rfl
    show Ev _ _ _ (xs.getD i .non)
    rw [g]
    exact ev_var (hj x)
  · refine q p _ H2 hp e2 h2 ?_
    have e3 : rs.filter P = ((List.range rs.length).filter fun i => P (rs.getD i [])).map fun i => rs.getD i [] := by
      conv => lhs; rw [range_get rs [], List.filter_map]
      rfl
    unfold given
    rw [e3, ht.len]
    refine paired_map _ _ _ fun i hi => ?_
    have hi := List.mem_range.mp (List.mem_filter.mp hi).1
    have hlx : i < xs.length := by rw [ht.len]; exact hi
    obtain ⟨b, r, h1, h2', h3⟩ := ht.get (List.getElem?_eq_getElem hlx)
    refine ⟨b, ?_, ?_⟩
    · rw [List.getD_eq_getElem?_getD, List.getElem?_eq_getElem hlx, h1]
      rfl
    · rw [List.getD_eq_getElem?_getD, h3]
      exact (e.trans e2) b _ h2'
theorem q_asgLT {i : Nat} {rs : List (List V)} (h : EvLT te σ H rs) (k : ∀ p vs H1, H p = none → Ex H H1 → H1 p = some (.lst vs) → TL H1 vs rs → tz D (σ.set i (some (.ref p))) H1) : tSeq (tAsg te (gName i)) tz D σ H := h H (Ex.refl H) _ fun p vs H1 hp e h1 h2 => k p vs H1 hp e h1 h2
theorem s_retLT {rs : List (List V)} (h : EvLT te σ H rs) (k : ∀ p vs H1, H p = none → Ex H H1 → H1 p = some (.lst vs) → TL H1 vs rs → D.rt (.ref p) H1) : tRet te D σ H := h H (Ex.refl H) _ k
end
end Kit

set_option Elab.async false
set_option linter.all false
set_option maxRecDepth 100000
set_option maxHeartbeats 4000000
namespace Kit
open PySem PySem.Spec PyProof.Rows L2 Evl
/-! ### a promise of a def that shows data (repr): no repr may be under way around it -/
structure FnOkG (P : Program) (w : World) (K : PySem.W.Frag) (mg : Str → Option Value) (base : Heap) (n : Nat) (f : Addr) (fd : FuncData) (names : List Str) (want : Sp) : Prop where
  many : ∀ xs H Q E, want xs H Q E → xs.length = names.length
  go : ∀ (A : Around) (frames : List Env) (st : Shared) (H : Hp) (given : Args) (us : List Value) (xs : List V) (Q : VK) (E : XK), A.guards = some [] → Room n A → Env0 P w K mg base A frames st H →
    BindsTo st fd given (names.zip us) → Vals xs us → want xs H Q E → codeAny (model P w) A (.call (.ref f) given) (CR CX0 frames P w H st Q E) st
section
variable {P : Program} {w : World} {K : PySem.W.Frag} {mg : Str → Option Value} {base : Heap}
theorem FnOkG.mono {j n : Nat} {f : Addr} {fd : FuncData} {names : List Str} {want : Sp} (F : FnOkG P w K mg base j f fd names want) (h : j ≤ n) : FnOkG P w K mg base n f fd names want :=
  ⟨F.many, fun A fr st H g us xs Q E hg r => F.go A fr st H g us xs Q E hg (r.mono h)⟩
/-- the rule for such a def -/
theorem funG {x qual : Str} {d : Stmt} {f : Addr} {fd : FuncData} {N names : List Str} {n : Nat} {want : Sp} (F : Fun K x qual d f fd) (S : FnScope N names (defScope d)) (many : ∀ xs H Q E, want xs H Q E → xs.length = names.length)
    (body : ∀ (cv : Value) (A : Around) (frames : List Env) (st : Shared) (H : Hp) (xs : List V) (Q : VK) (E : XK), A.guards = some [] → Room n (A.deeper (envOfC qual (defScope d) st.heap.objs.size f cv)) → want xs H Q E →
      ∃ t, PSs (cxOf CX0 P w K mg base N qual (defScope d) f cv A frames st H E).nox (defBody d) t ∧ t { nx := fun _ H' => Q .non H', rt := Q } (start N xs) H) : FnOkG P w K mg base (n + 1) f fd names want := by
  obtain ⟨o1, o2, v1, v2, v3, an, cv, ct, sl, rfl, look, code⟩ := F.ex
  refine ⟨many, fun A frames st H given us xs Q E hg room en bind vals hw => ?_⟩
  have size := many _ _ _ _ hw
  have inK : K.In st.heap := en.mod.kin.keeps fun b o q => (en.bs b o q).1
  have noLim : st.heap.NoLimit := en.mod.nolimit.keeps fun b o q => (en.bs b o q).1
  have kinds : ∀ y ∈ names.zip us, (defScope d).names.lookup y.1 = some .local ∨ ((defScope d).names.lookup y.1 = some .cell ∧ ((cellsFrom (st.heap.objs.size + 1) (defScope d).names []).lookup y.1).isSome = true) := by
    rintro ⟨a, b⟩ hy
    exact (S.par a (List.of_mem_zip hy).1).elim .inl fun q => .inr ⟨q, PySem.W.cellsFrom_some _ _ _ (.inl q)⟩
  refine codeAny_call_function room.depth (inK _ _ look) rfl S.co S.gen rfl (PySem.W.codeRec_of inK code) (bind _ _ _ _ (wpAny_newFunctionEnv_cells S.kind kinds fun env eq st1 made => ?_))
  cases eq
  refine ⟨noLim.keeps made.toInCall.keep, codeAny_func ?_⟩
  obtain ⟨t, rule, done⟩ := body cv A frames st H xs Q E hg (room.deeper _) hw
  have J : Inv (cxOf CX0 P w K mg base N qual (defScope d) f cv A frames st H E) [] (start N xs) H st1 := inv_start S room.hd en size vals made
  have back : ∀ {σ' : L2.St} {H' : Hp} {v : V} {u : Value} {st2 : Shared}, Inv (cxOf CX0 P w K mg base N qual (defScope d) f cv A frames st H E) [] σ' H' st2 → RelV v u → Q v H' → CE frames P w H st Q u st2 := fun J2 rv q => ⟨_, _, J2.os, J2.bare, J2.base, J2.hok, rv, q⟩
  refine wpAny_mono (rule.nox.run [] st1 (start N xs) H _ J done) (fun r st2 hs => ?_) fun _ _ hs => hs
  match r, hs with
  | .ret u, ⟨v, σ2, H2, J2, rv, q⟩ => exact back J2 rv q
  | .next, ⟨σ2, H2, J2, q⟩ => exact back (v := V.non) (u := Value.none) J2 rfl q
  | .brk, ⟨_, _, _, q⟩ => exact False.elim q
  | .cont, ⟨_, _, _, q⟩ => exact False.elim q
end
/-- such a def is called -/
theorem pe_callG {X : Cx} {n : Nat} {f : Addr} {fd : FuncData} {names : List Str} {want : Sp} {x : Str} {p pos : Pos} {e : Expr} {es : List Expr} {t : TA} (F : FnOkG X.prog X.w X.K X.mg X.base n f fd names want) (hg : X.A.guards = some []) (room : Room n X.A) (gl : Gl X x)
    (at_ : X.mg x = some (.ref f)) (keep : PySem.W.keepIn X.K (.ref f) = true) (bind : Binds X.K fd names []) (ha : PA X (e :: es) t) (nd : (x == ("__debug__" : Str)) = false := by decide)
    (one : starEach (e :: es) X.env = (false, eval e X.env) :: starEach es X.env := by rfl) (plain : (backTo pos (starEach es X.env)).any (·.1) = false := by rfl) : PE X (.Call (.Name x p) (e :: es) [] pos) (tCall want [] E0 t) := by
  refine ⟨fun pins st σ H Q J h => wpAny_Call_Name_kw (ld_glob J gl at_ ?_ nd)⟩
  refine PySem.W.callWith_K (h₀ := X.base) J.ok.mod.kin keep (thn (ha.run pos pins st σ H _ J h) fun us st1 ⟨vs, H1, J1, r, q⟩ => ⟨J1.kIn, ?_⟩) one plain
  have q : want vs H1 Q E0 := by
    have q' : want (vs ++ []) H1 Q E0 := q
    rwa [List.append_nil] at q'
  have size : us.length = names.length := r.length.symm.trans (F.many _ _ _ _ q)
  have bd := bind st1 us J1.kIn (by rw [List.append_nil]; exact size)
  rw [List.append_nil] at bd
  refine wpAny_call (codeAny_mono (F.go X.A X.stack st1 H1 ⟨us, []⟩ us vs Q E0 hg room J1.env0 bd r q) fun res st2 hq => ?_)
  match res, hq with
  | .error _, hq => exact False.elim hq
  | .ok (.ret _), hq => exact J1.after hq
  | .ok .next, hq => exact False.elim hq
  | .ok .brk, hq => exact False.elim hq
  | .ok .cont, hq => exact False.elim hq
/-- the law's promise, at the heap behind the top -/
theorem headG {P : Program} {w : World} {K : PySem.W.Frag} {mg mb : Str → Option Value} {n : Nat} {fa a : Addr} {fd : FuncData} {x : Str} {want : Sp} {st : Shared} {us : List Value} {ns : List Int}
    (inK : K.In st.heap) (glob : st.heap.Ns mainGlobals mg) (blt : st.heap.Ns builtinsNs mb) (boot : ∀ x : Str, x ≠ "__name__" → mb x = bootBuiltins x) (noLim : st.heap.NoLimit) (gens : st.gens = #[])
    (obj : st.heap.get? a = some { cls := .type "list", data := .seq us.toArray }) (allInt : IntsAre us ns) (short : ns.length ≤ sizeLine) (room : Room n callerA)
    (F : ∀ base : Heap, K.In base → base.Ns mainGlobals mg → FnOkG P w K mg base n fa fd [x] want) (bind : ∀ (s : Shared) (u : Value), BindsTo s fd ⟨[u], []⟩ [(x, u)])
    (ask : ∀ H : Hp, Only H → SqL K H a (ns.map V.int) → want [.ref a] H (fun v _ => v = .bl true) fun _ _ _ => False) :
    codeAny (model P w) callerA (.call (.ref fa) ⟨[.ref a], []⟩) (fun r s' => r = .ok (.ret (.bool true)) ∧ OldK st.heap s'.heap ∧ s'.os = st.os ∧ AllBare s'.gens) st := by
  have vals := vals_ints allInt
  have size := allInt.length
  have main : ∀ H : Hp, Only H → SqL K H a (ns.map V.int) → HOk P w H st.heap → (∀ b, H b ≠ none → b = a) → (H a ≠ none → K.lookup a = none) →
      codeAny (model P w) callerA (.call (.ref fa) ⟨[.ref a], []⟩) (fun r s' => r = .ok (.ret (.bool true)) ∧ OldK st.heap s'.heap ∧ s'.os = st.os ∧ AllBare s'.gens) st := by
    intro H only sq ok one not
    have stay : ∀ {b : Addr} {o : Obj}, st.heap.get? b = some o → H b = none → (hidT st.heap H).get? b = some o := fun q z => hidT_get q z
    have free : ∀ {b : Addr}, (b = a → False) → H b = none := fun {b} ne => by
      cases q : H b with
      | none => rfl
      | some u => exact (ne (one b (by rw [q]; exact Option.some_ne_none u))).elim
    have space : ∀ {b : Addr} {m : Str → Option Value}, st.heap.Ns b m → (hidT st.heap H).Ns b m := fun {b m} ⟨o, es, ep, q, d, r⟩ => ⟨o, es, ep, stay q (free fun z => by
      subst z
      rw [obj] at q
      cases q
      exact Data.noConfusion (show Data.seq us.toArray _ = Data.dict es ep from d)), d, r⟩
    have kin : K.In (hidT st.heap H) := fun b o q => stay (inK b o q) (by
      cases z : H b with
      | none => rfl
      | some u =>
        have ne : H b ≠ none := by rw [z]; exact Option.some_ne_none u
        have ba := one b ne
        subst ba
        rw [not ne] at q
        cases q)
    obtain ⟨mc, l1, l2⟩ := noLim
    have md : Mod K mg (hidT st.heap H) := ⟨kin, space glob, ⟨mb, space blt, boot⟩, ⟨mc, space l1, l2⟩⟩
    have en : Env0 P w K mg (hidT st.heap H) callerA [] st H := ⟨rfl, md, fun b o q => of_hidT q, Nat.le_of_eq (hidT_size _ _), trivial, fun b hb => absurd (show b ∈ ([] : List Addr) from hb) (by simp), ok, .of_eq gens⟩
    refine codeAny_mono ((F _ kin (space glob)).go callerA [] st H ⟨[.ref a], []⟩ [.ref a] [.ref a] _ _ rfl room en (bind st (.ref a)) (.cons rfl .nil) (ask H only sq)) fun r s' h => ?_
    match r, h with
    | .error _, h => exact False.elim h
    | .ok .next, h => exact False.elim h
    | .ok .brk, h => exact False.elim h
    | .ok .cont, h => exact False.elim h
    | .ok (.ret u), ⟨v, H', os, bare, un, ok', rel, q⟩ =>
      have q2 : v = .bl true := q
      cases q2
      have r2 : u = Value.bool true := rel
      cases r2
      refine ⟨rfl, OldK.of_keep fun b o e => ?_, os, bare⟩
      rcases only b with z | ⟨ob, xs, z⟩
      · exact un.keep b o e z (fun t => absurd (show b ∈ ([] : List Addr) from t) (by simp)) (by simp)
      · have z2 := un.frzs b ob _ z
        obtain ⟨g1, _⟩ := ok b _ z
        obtain ⟨g2, _⟩ := ok' b _ z2
        rw [e] at g1
        cases g1
        exact g2
  cases own : K.lookup a with
  | some o =>
    have e := inK a o own
    rw [obj] at e
    cases e
    exact main (fun _ => none) (fun _ => .inl rfl) (.inr ⟨_, us.toArray, _, own, rfl, rfl, rfl, by rw [List.size_toArray, size]; exact short, by simpa using vals⟩) (fun b u z => by have y : (none : Option HO) = some u := z; cases y) (fun b z => absurd rfl z) fun z => absurd rfl z
  | none =>
    have yes : (fun b => if b = a then some (HO.frz { cls := .type "list", data := .seq us.toArray } (.lst (ns.map V.int))) else none) a = some (HO.frz { cls := .type "list", data := .seq us.toArray } (.lst (ns.map V.int))) := if_pos rfl
    have no : ∀ b, b ≠ a → (fun b => if b = a then some (HO.frz { cls := .type "list", data := .seq us.toArray } (.lst (ns.map V.int))) else none) b = none := fun b ne => if_neg ne
    generalize (fun b => if b = a then some (HO.frz { cls := .type "list", data := .seq us.toArray } (.lst (ns.map V.int))) else none) = G at yes no
    refine main G (fun b => ?_) (.inl (.inr ⟨_, yes⟩)) (fun b u z => ?_) (fun b z => ?_) fun _ => own
    · by_cases hb : b = a
      · subst hb
        exact .inr ⟨_, _, yes⟩
      · exact .inl (no b hb)
    · by_cases hb : b = a
      · subst hb
        rw [yes] at z
        cases z
        exact ⟨obj, by rw [List.length_map]; exact short, us, _, vals, obj⟩
      · rw [no b hb] at z
        cases z
    · by_cases hb : b = a
      · exact hb
      · exact absurd (no b hb) z
theorem walk_G {l : PySem.W.OpenLaw} {m n : Nat} {q : Program} {loose : List Str} {XP : (Str → Option Value) → Heap → Prop} {YP : World → Heap → Prop} {d : DefRec} {K : Params → PySem.W.Frag} {want : World → Sp} {x : Str}
    (most : l.most = some m) (most2 : m ≤ sizeLine) (noDef : d.params.defaults = []) (room : Room n callerA) (inK : ∀ (w : World) (h : Heap), YP w h → (K w.params).In h)
    (F : ∀ (w : World) (mg : Str → Option Value) (fa : Addr) (h : Heap), (K w.params).In h → h.Ns mainGlobals mg → mg d.name = some (.ref fa) →
      ∃ fd : FuncData, (∀ (s : Shared) (u : Value), BindsTo s fd ⟨[u], []⟩ [(x, u)]) ∧ ∀ base : Heap, (K w.params).In base → base.Ns mainGlobals mg → FnOkG l.prog w (K w.params) mg base n fa fd [x] (want w))
    (ask : ∀ (w : World) (H : Hp) (a : Addr) (ns : List Int), ns.length ≤ m → Only H → SqL (K w.params) H a (ns.map V.int) → want w [.ref a] H (fun v _ => v = .bl true) fun _ _ _ => False) :
    PySem.W.WalkO q loose XP YP l.row.toRowW d [] (fun f vs => PySem.call f vs) :=
  Att.attach_call most noDef fun w s₀ st mg mb fa o pm cd doc a us ns G Y ho hd hcd named obj allInt short gens => by
    have kin := inK w _ Y
    obtain ⟨fd, bind, FF⟩ := F w mg fa _ kin G.T.g named
    exact headG kin G.T.g G.T.b G.T.builtins G.T.nolimit gens obj allInt (Nat.le_trans short most2) room FF bind fun H only sq => ask w H a ns short only sq
/-! ### repr of data -/
def rRepr (K : PySem.W.Frag) : List V → Hp → VK → Prop := fun xs H Q => ∃ p d, xs = [.ref p] ∧ Dp K H (.ref p) d ∧ d.showable = true ∧ d.hasDict = false ∧ d.depth ≤ 50 ∧ d.shown.length ≤ sizeLine ∧ Q (.str d.shown) H
theorem call_reprD {X : Cx} (hg : X.A.guards = some []) (hu : X.A.units + 64 < cLine) : CallR X (.builtin "repr") (rRepr X.K) := by
  intro pins st σ H xs us Q J r h
  obtain ⟨p, d, rfl, dp, hs, hd, hdp, hz, q⟩ := h
  obtain ⟨u, rfl, hu2⟩ : ∃ u, us = [u] ∧ RelV (.ref p) u := by
    cases r with
    | cons a b =>
      cases b
      exact ⟨_, rfl, a⟩
  have e : u = Value.ref p := hu2
  subst e
  obtain ⟨as, rd⟩ := Dp.reads J d _ _ dp hu2
  refine repr_of_reads' rd hs (fun z => by rw [hd] at z; cases z) hg (by omega) (fun _ _ e => e) (fun h' u tk keep => ?_) hz
  exact ⟨.str d.shown, H, J.turnedL (ch := []) (fun b o _ e => keep b o e) (fun b hb => absurd hb (by simp)), ⟨_, rfl⟩, q⟩
section
variable {K : PySem.W.Frag} {σ : L2.St} {H : Hp} {te : TE}
theorem ev_repr {d : PyData} (h : EvD K te σ H d) (hl : isDisplay d = true) (hs : d.showable = true) (hd : d.hasDict = false) (hdp : d.depth ≤ 50) (hz : d.shown.length ≤ sizeLine) : Ev (tCB (rRepr K) (tCons te tNil)) σ H (.str d.shown) := fun H1 e Q q =>
  h H1 e _ fun v H2 e2 dv => by
    have hp : ∃ p, v = .ref p := by
      cases dv with
      | lst _ _ => exact ⟨_, rfl⟩
      | tup _ _ => exact ⟨_, rfl⟩
      | non => cases hl
      | bl _ => cases hl
      | int _ => cases hl
      | str _ => cases hl
    obtain ⟨p, rfl⟩ := hp
    exact ⟨p, d, rfl, dv, hs, hd, hdp, hz, q H2 e2⟩
end
end Kit

set_option Elab.async false
set_option linter.all false
set_option maxRecDepth 100000
set_option maxHeartbeats 4000000
namespace Kit
open PySem PySem.Spec PyProof.Rows L2 Evl
theorem slot_type_neR : Slot "type" (cmpInfo .NotEq).2.2 "object.__ne__" :=
  .of (owner := "object") (n := "__ne__") (by rw [typeLookup_type, builtinLookup_eq_fast]; kernel_rfl) (by decide +kernel) (by decide +kernel) (by decide +kernel)
    (by first | exact .inl (by decide +kernel) | exact .inr (by decide +kernel)) (by rw [isSubtype_type]; kernel_rfl)
section
variable {M : Model} {A : Around} {E : Value → Shared → Prop} {s : Shared}
theorem ne_decline {a b : Value} {T id : String} {k : Bool} {Q : Value → Shared → Prop} (ta : ∀ s' : Shared, s'.TypeIs a T) (tb : ∀ s' : Shared, s'.TypeIs b T) (l1 : Slot T (cmpInfo .NotEq).2.1 id) (l2 : Slot T (cmpInfo .NotEq).2.2 id)
    (nh : [a, b].any Value.onHeap = false) (same : isSame a b = pure k) (go : wpAny M A (call (.builtin id) [a, b]) (fun v t => v = .notImplemented ∧ wpAny M A (call (.builtin id) [b, a]) (fun v t2 => v = .notImplemented ∧ Q (.bool (!k)) t2) E t) E s) :
    wpAny M A (richCompare .NotEq a b) Q E s := by
  rcases eq : cmpInfo CmpOp.NotEq with ⟨n1, n2, n3⟩
  rw [eq] at l1 l2
  simp only [richCompare, eq, (ta s).oneThing_none]
  try with_reducible refine wpAny_holding ?_
  refine wpAny_bind (wpAny_cRoomFor_or (.inl nh) (wpAny_bind (wpAny_typeOf (ta s) (wpAny_bind (wpAny_typeOf (tb s) ?_)))))
  simp only [bne_self_eq_false, Bool.false_eq_true, if_false, pure_bind, Bool.not_false, if_true]
  refine wpAny_bind (m := tryCompare a _ b) (wpAny_tryCompare_declines (ta s) l1 (wpAny_mono go (fun v t z => ⟨z.1, ?_⟩) fun _ _ x => x))
  refine wpAny_bind (m := tryCompare b _ a) (wpAny_tryCompare_declines (tb t) l2 (wpAny_mono z.2 (fun v t2 z2 => ⟨z2.1, ?_⟩) fun _ _ x => x))
  refine wpAny_bind (wpAny_rule (wpAny_bind (wpAny_of_eq same (wpAny_pure z2.2))))
end
section
variable {prog : Program} {w : World} {A : Around} {E : Value → Shared → Prop} {s : Shared} {Q : Value → Shared → Prop}
theorem obj_ne_other {X Y : String} (hX : ∀ s' : Shared, s'.TypeIs (.type X) "type") (ne : (Value.type X == Value.type Y) = false) (hu : A.units + 1 < cLine) (h : Q .notImplemented s) : wpAny (model prog w) A (call (.builtin "object.__ne__") [.type X, .type Y]) Q E s := by
  refine wpAny_call_entry slot_type_ne (hX s) PySem.F.cmpEntry_ne ?_ (PySem.F.cmpArgs_ne _ _)
  unfold Builtin.«object.__ne__»
  have key : wpAny (model prog w) A.in1 (call (.builtin "object.__eq__") [.type X, .type Y]) (fun v s' => v = .notImplemented ∧ s' = s) E s :=
    call_gives slot_type_eqN (hX s) F.entry_object_eq (F.args_object_eq_2 _ _) (PySem.TypeEq.object_eq_other rfl ne) ⟨rfl, rfl⟩
  repeat (first
    | with_reducible refine wpAny_cRoomFor (by show A.units + 1 < cLine; exact hu) ?_
    | (refine wpAny_bind (m := callSpecialIfBound? (.type X) (Str.ofString "__eq__") [.type Y])
        (wpAny_callSpecialIfBound?_slot (hX _) slot_type_eqN (wpAny_mono key (fun r s' hr => by
          obtain ⟨rfl, rfl⟩ := hr
          have hq : Q .notImplemented s' := h
          repeat (first | exact hq | exact ⟨_, rfl, hq⟩ | exact wpAny_pure hq | wp_step)) fun _ _ e => e)))
    | wp_step)
theorem ne_type_other {X Y : String} (hX : ∀ s' : Shared, s'.TypeIs (.type X) "type") (hY : ∀ s' : Shared, s'.TypeIs (.type Y) "type") (ne : (Value.type X == Value.type Y) = false) (hu : A.units + 1 < cLine) (h : Q (.bool true) s) : wpAny (model prog w) A (compareOp .NotEq (.type X) (.type Y)) Q E s := by
  have ne' : (Value.type Y == Value.type X) = false := by
    rw [beq_eq_false_iff_ne] at ne ⊢
    exact fun z => ne z.symm
  show wpAny _ A (richCompare .NotEq _ _) Q E s
  exact ne_decline (T := "type") (k := false) hX hY slot_type_ne slot_type_neR rfl (by rw [isSame_plain rfl, ne]) (obj_ne_other hX ne hu ⟨rfl, obj_ne_other hY ne' hu ⟨rfl, h⟩⟩)
end
end Kit

set_option Elab.async false
set_option linter.all false
set_option maxRecDepth 100000
set_option maxHeartbeats 4000000
namespace Kit
open PySem PySem.Spec PyProof.Rows L2 Evl
theorem meets_enum_new1 {v : Value} {o : Obj} {H : Heap → Prop} (B : Begins v o H) :
    Meets (Builtin.«enumerate.__new__» ⟨[.type "enumerate", v], []⟩) (fun _ R s => H s.heap ∧
      R (.ok (.ret (.ref (s.heap.push o).objs.size))) { s with heap := (s.heap.push o).push { cls := .type "enumerate", data := .fields #[.none, .bool false, .ref s.heap.objs.size, rawInt 0, .none, .none] } }) :=
  .of_wp fun prog w A R s h => by
    obtain ⟨hp, g, d, tk, os⟩ := s; obtain ⟨h1, h⟩ := h
    have hsub := sub_enumerate
    have q1 : ∀ {A' : Around} {E : Value → Shared → Prop} {Q : Value → Shared → Prop}, Q (.ref hp.objs.size) ⟨hp.push o, g, d, tk, os⟩ → wpAny (model prog w) A' (pyIter v) Q E ⟨hp, g, d, tk, os⟩ :=
      fun q => B.iter prog w _ _ ⟨hp, g, d, tk, os⟩ _ h1 q
    wp_walk using q1
    refine wpAny_stack_any fun st => wpAny_pure ?_
    split
    · rename_i c _ _ _ _ _
      cases (c == Value.type "enumerate")
      · wp_walk using q1
        exact ⟨_, rfl, h⟩
      · wp_walk using q1
        exact ⟨_, rfl, h⟩
    · wp_walk using q1
      exact ⟨_, rfl, h⟩
section
variable {prog : Program} {w : World} {A : Around} {E : Value → Shared → Prop} {s : Shared}
theorem enum_begins1 {v : Value} {o : Obj} {H : Heap → Prop} {Q : Value → Shared → Prop} (B : Begins v o H) (h1 : H s.heap)
    (h : ∀ h', IsEnum h' (s.heap.objs.size + 1) s.heap.objs.size 0 .none → h'.get? s.heap.objs.size = some o → h'.objs.size = s.heap.objs.size + 2 →
      (∀ b o, s.heap.get? b = some o → h'.get? b = some o) → Q (.ref (s.heap.objs.size + 1)) { s with heap := h' }) :
    wpAny (model prog w) A (call (.type "enumerate") [v]) Q E s := by
  refine callType_new F.called_enumerate (by decide) (F.typeCall_enumerate_1 _) (F.newCall_enumerate_1 _) (fun obj => F.args_object_init_2 obj _) F.entry_enumerate_new
    (meets_enum_new1 B) ⟨h1, ?_⟩
  have hz : (s.heap.push o).objs.size = s.heap.objs.size + 1 := Heap.size_push ..
  show _ ∧ _
  rw [hz]
  have he : IsEnum ((s.heap.push o).push { cls := .type "enumerate", data := .fields #[.none, .bool false, .ref s.heap.objs.size, rawInt 0, .none, .none] }) (s.heap.objs.size + 1) s.heap.objs.size 0 .none := by
    have := Heap.get?_push_size (s.heap.push o) (o := { cls := .type "enumerate", data := .fields #[.none, .bool false, .ref s.heap.objs.size, rawInt 0, .none, .none] }) rfl
    rw [hz] at this; exact this
  refine ⟨⟨_, he, rfl⟩, h _ he (Heap.get?_push_of_some _ (Heap.get?_push_size _ B.free)) (by rw [Heap.size_push, hz]) fun b o x => Heap.get?_push_of_some _ (Heap.get?_push_of_some _ x)⟩
end
end Kit

set_option Elab.async false
set_option linter.all false
set_option maxRecDepth 100000
set_option maxHeartbeats 4000000
namespace Kit
open PySem PySem.Spec PyProof.Rows L2 Evl
/-- the tuple at a, each item in a new pair -/
def IteT (K : PySem.W.Frag) (a : Addr) : It :=
  ⟨fun i H => ∃ (xs : List V) (x : V), SqT K H a xs ∧ xs[i]? = some x, fun i H v H' => ∃ T x, v = .ref T ∧ H T = none ∧ H' = upd H T (.tup [.int (i : Nat), x]) ∧ ∀ xs, SqT K H a xs → xs[i]? = some x, fun i H => ∃ xs : List V, SqT K H a xs ∧ xs.length = i⟩
theorem enum_ne {h : Heap} {e it t : Addr} {i : Int} {old : Value} {vs : Array Value} (he : IsEnum h e it i old) (ht : h.IsTuple t vs) : e ≠ t := fun z => by
  subst z
  obtain ⟨o, ho, hc, _⟩ := ht
  have he' : h.get? e = _ := he
  rw [he'] at ho
  cases ho
  exact absurd hc (by show ¬ (Value.type "enumerate" = Value.type "tuple"); decide +kernel)
theorem turn_enumT {P : Program} {w : World} {K : PySem.W.Frag} {elts : List Expr} {kk : Nat} {tpos : Pos} (a e it : Addr) :
    Turn P w K (.Tuple elts kk tpos) (IteT K a) [e, it] e (fun i h => (∃ old, IsEnum h e it ((i : Nat) : Int) old) ∧ h.IsTupleIter it a i ∧ e ≠ it) where
  mem := by simp
  obj := fun i h st b hb => by
    obtain ⟨⟨old, he⟩, ⟨o, ho, hc, hd⟩, _⟩ := st
    have e' : b = e ∨ b = it := by simpa using hb
    rcases e' with z | z
    · rw [z]; exact ⟨_, he, fun v q => nomatch q⟩
    · rw [z]; exact ⟨o, ho, fun v q => by rw [hd] at q; cases q⟩
  keep := fun i h h' st k => by
    obtain ⟨⟨old, he⟩, ⟨o, ho, hr⟩, hne⟩ := st
    exact ⟨⟨old, k e (by simp) _ he⟩, ⟨o, k it (by simp) o ho, hr⟩, hne⟩
  item := by
    intro X hP hw hK hc i pins s σ H E I hf st hg
    subst hP hw hK
    obtain ⟨⟨old, he⟩, hit, hne⟩ := st
    obtain ⟨xs, x, hq, hx⟩ := hg
    obtain ⟨its, rv, p, hz⟩ := I.tuple hq
    obtain ⟨u, hu, ru⟩ := rv.get hx
    have hel : e < s.heap.objs.size := Heap.lt_size he
    have hil : it < s.heap.objs.size := by obtain ⟨_, q, _⟩ := hit; exact Heap.lt_size q
    have pT : s.heap.IsTuple a its.toArray := p
    have nea : e ≠ a := enum_ne he pT
    have nit : a ≠ it := fun z => by
      subst z
      obtain ⟨o, ho, hc', _⟩ := pT
      obtain ⟨o', ho', hc'', _⟩ := hit
      rw [ho] at ho'
      cases ho'
      rw [hc'] at hc''
      exact absurd hc'' (by decide +kernel)
    have hlt : i < its.toArray.size := by
      have := (List.getElem?_eq_some_iff.mp hu).1
      simpa using this
    refine wpAny_pyNext_enum_itemD (Draws.tuple (by exact I.ok.hd hc) it a nit its.toArray) he ⟨hit, pT⟩ hlt hne (by simp [hne, nea]) fun x' h' tk hx' ho hst' hT hsz hk => ?_
    have eu : u = x' := by
      have : its[i]? = some x' := by simpa using hx'
      rw [hu] at this
      exact Option.some.inj this
    subst eu
    refine ⟨_, rfl, wpAny_letOwnedTupleGo_enum (s := { s with heap := h', toks := tk + 1 }) ho fun h'' he' sb => ?_⟩
    have hT2 : h''.get? s.heap.objs.size = some { cls := .type "tuple", data := .seq #[.int i tk, u] } := (sb.2 _ (Nat.ne_of_gt hel)).trans hT
    have new : ObjOk X.prog X.w (upd H s.heap.objs.size (.tup [.int (i : Nat), x])) h'' s.heap.objs.size (.tup [.int (i : Nat), x]) :=
      ⟨by show 2 ≤ sizeLine; decide, [.int i tk, u], .cons ⟨_, rfl⟩ (.cons ru .nil), ⟨_, hT2, rfl, _, rfl⟩⟩
    have I1 : Inv X pins σ (upd H s.heap.objs.size (.tup [.int (i : Nat), x])) { s with heap := h'', toks := tk + 1 } :=
      I.turnedNew (ch := [e, it]) (fun b ob hb q => (sb.2 b (fun z => hb (by simp [z]))).trans (hk b ob (fun z => hb (by simp [z])) (fun z => hb (by simp [z])) q)) hf (Nat.le_refl _) new
    refine ⟨.ref s.heap.objs.size, _, I1, rfl, ⟨_, x, rfl, I.hok.fresh (Nat.le_refl _), rfl, fun ys hy => by rw [I.tuple_inj hy hq]; exact hx⟩, ⟨⟨u, ?_⟩, ?_, hne⟩, fun b hb => ?_⟩
    · have e1 : ((i + 1 : Nat) : Int) = (i : Int) + 1 := by omega
      rw [e1]; exact he'
    · obtain ⟨o, q, r⟩ := hst'.1
      exact ⟨o, (sb.2 it (Ne.symm hne)).trans q, r⟩
    · have hb' : b < s.heap.objs.size := by
        have e' : b = e ∨ b = it := by simpa using hb
        rcases e' with z | z
        · rw [z]; exact hel
        · rw [z]; exact hil
      rw [upd_ne (Nat.ne_of_lt hb')]
      exact (hf b hb).1
  done := by
    intro X hP hw hK hc i pins s σ H E I hf st hg
    subst hP hw hK
    obtain ⟨⟨old, he⟩, hit, hne⟩ := st
    obtain ⟨xs, hq, hx⟩ := hg
    obtain ⟨its, rv, p, hz⟩ := I.tuple hq
    obtain ⟨f0, f1, f2, f3, f4, f5⟩ := hf it (by simp)
    have hl := rv.length
    have pT : s.heap.IsTuple a its.toArray := p
    have nit : a ≠ it := fun z => by
      subst z
      obtain ⟨o, ho, hc', _⟩ := pT
      obtain ⟨o', ho', hc'', _⟩ := hit
      rw [ho] at ho'
      cases ho'
      rw [hc'] at hc''
      exact absurd hc'' (by decide +kernel)
    have hn : its.toArray.size = i := by
      rw [← hx, hl]
      simp
    subst hn
    exact wpAny_pyNext_enum_endD (Draws.tuple (by exact I.ok.hd hc) it a nit its.toArray) he ⟨hit, pT⟩ fun h' eb => ⟨rfl, I.turned (t' := s.toks) (fun b o hb q => eb b o hb q) f0 f1 f3 f4 f5⟩
  self := fun A i s Q E st h => let ⟨⟨_, he⟩, _⟩ := st; wpAny_pyIter_enum he h
def iEnumS (K : PySem.W.Frag) (ta : TA) : TI := fun σ H R => ta σ H fun vs H1 => ∃ a xs, vs = [.ref a] ∧ ((SqL K H1 a xs ∧ R (Ite K a) H1) ∨ (SqT K H1 a xs ∧ R (IteT K a) H1))
theorem pi_enumS {X : Cx} {e : Expr} {ta : TA} {p pos tpos : Pos} {elts : List Expr} {kk : Nat} (hg : Gl X "enumerate") (hm : X.mg "enumerate" = none) (ha : PA X [e] ta) (hs : starEach [e] X.env = [(false, eval e X.env)] := by rfl) :
    PI X (.Tuple elts kk tpos) (.Call (.Name "enumerate" p) [e] [] pos) (iEnumS X.K ta) := by
  refine ⟨fun pins s σ H R I h => ?_⟩
  refine Call_ (ld_blt I hg hm boot_enumerate (PyProof.Rows.callWith_type1 (thn (ha.run pos pins s σ H _ I h) fun us s1 ⟨vs, H1, I1, r1, q1⟩ => ?_) hs rfl))
  obtain ⟨a, xs, ex, q1⟩ := q1
  subst ex
  cases r1 with
  | cons r rr =>
    cases rr
    cases r
    have fin : ∀ (h' : Heap) (itx : Addr), itx = s1.heap.objs.size → (∀ b o, s1.heap.get? b = some o → h'.get? b = some o) → ∀ b ∈ [s1.heap.objs.size + 1, itx], FpOk X pins H1 b := fun h' itx ei hk b hb => by
      have hle : s1.heap.objs.size ≤ b := by
        have e' : b = s1.heap.objs.size + 1 ∨ b = itx := by simpa using hb
        rcases e' with z | z
        · rw [z]; exact Nat.le_add_right _ _
        · rw [z, ei]; exact Nat.le_refl _
      exact I1.fpOk hle (I1.hok.fresh hle)
    rcases q1 with ⟨hq, q⟩ | ⟨hq, q⟩
    · obtain ⟨its, rv, p', hz⟩ := I1.list hq
      refine call_enumerate_list p'.isList fun h' he hit hsz hk => wpAny_pyIter_enum he ?_
      have I2 : Inv X pins σ H1 { s1 with heap := h' } := I1.kept (t' := s1.toks) hk
      exact ⟨s1.heap.objs.size + 1, [s1.heap.objs.size + 1, s1.heap.objs.size], _, _, H1, rfl, I2, turn_enum a (s1.heap.objs.size + 1) s1.heap.objs.size, ⟨⟨.none, he⟩, hit, Nat.succ_ne_self _⟩, fin h' _ rfl hk, q⟩
    · obtain ⟨its, rv, p', hz⟩ := I1.tuple hq
      refine enum_begins1 (begins_tuple a its.toArray) (show s1.heap.IsTuple a its.toArray from p') fun h' he hit hsz hk => wpAny_pyIter_enum he ?_
      have I2 : Inv X pins σ H1 { s1 with heap := h' } := I1.kept (t' := s1.toks) hk
      exact ⟨s1.heap.objs.size + 1, [s1.heap.objs.size + 1, s1.heap.objs.size], _, _, H1, rfl, I2, turn_enumT a (s1.heap.objs.size + 1) s1.heap.objs.size, ⟨⟨.none, he⟩, ⟨_, hit, rfl, rfl⟩, Nat.succ_ne_self _⟩, fin h' _ rfl hk, q⟩
theorem walk_enumT {K : PySem.W.Frag} {a : Addr} {xs : List V} : Walk (IteT K a) xs.length (fun H => SqT K H a xs) (YPair (fun i => some (.int (i : Nat))) (fun i => xs[i]?)) := by
  refine ⟨fun i _ hi q => ⟨xs, xs[i], q, by simp [hi]⟩, fun _ q => ⟨xs, q, rfl⟩, fun i H v H' _ q y => ?_⟩
  obtain ⟨T, x, h1, h2, h3, h4⟩ := y
  exact ⟨T, .int (i : Nat), x, h1, h2, h3, rfl, h4 xs q⟩
section
variable {K : PySem.W.Frag} {σ : L2.St} {H H' : Hp} {D : Ends} {tu tz : TS}
/-- for i, x in enumerate(xs), xs a list or a tuple -/
theorem s_forEnS {ta : TA} {i j : Nat} {a : Addr} {xs : List V} (h : EvA ta σ H [.ref a]) (G : Hp → Prop) (hG : (∀ H, G H → SqL K H a xs) ∨ (∀ H, G H → SqT K H a xs)) (hx : ∀ H1, Ex H H1 → G H1) (Pv : Nat → L2.St → Hp → Prop) (h0 : ∀ H1, Ex H H1 → Pv 0 σ H1) (hl : ∀ n σ' H', n ≤ xs.length → Pv n σ' H' → G H')
    (hs : ∀ n x σ' H' H2, xs[n]? = some x → Pv n σ' H' → Ex H' H2 → tu { D with nx := Pv (n + 1), ct := Pv (n + 1), bk := D.nx } ((σ'.set i (some (.int (n : Int)))).set j (some x)) H2) (hd : ∀ σ' H', Pv xs.length σ' H' → D.nx σ' H') :
    tFor (iEnumS K ta) (gTup K 2 (gCons (gName i) (gCons (gName j) gNil))) tu D σ H := h H (Ex.refl H) _ fun H1 e => by
  have turn : ∀ n v σ' Hh H2, n < xs.length → Pv n σ' Hh → YPair (fun i => some (.int (i : Nat))) (fun i => xs[i]?) n Hh v H2 → gTup K 2 (gCons (gName i) (gCons (gName j) gNil)) v σ' H2 fun σ2 H3 => tu { D with nx := Pv (n + 1), ct := Pv (n + 1), bk := D.nx } σ2 H3 := by
    rintro n v σ' Hh H2 hn p ⟨T, x, y, rfl, nT, rfl, g1, g2⟩
    have ex : V.int (n : Nat) = x := Option.some.inj g1
    subst ex
    exact ⟨T, [.int (n : Nat), y], rfl, st_of upd_same, rfl, _, [y], rfl, y, [], rfl, rfl, hs n y σ' Hh _ g2 p (Ex.new nT)⟩
  rcases hG with hG | hG
  · exact ⟨a, xs, rfl, .inl ⟨hG _ (hx H1 e), for_it walk_enum Pv (h0 H1 e) (fun n σ' H' hn p => hG _ (hl n σ' H' hn p)) (fun n v σ' Hh H2 => turn n v σ' Hh H2) hd⟩⟩
  · exact ⟨a, xs, rfl, .inr ⟨hG _ (hx H1 e), for_it walk_enumT Pv (h0 H1 e) (fun n σ' H' hn p => hG _ (hl n σ' H' hn p)) (fun n v σ' Hh H2 => turn n v σ' Hh H2) hd⟩⟩
end
end Kit

set_option Elab.async false
set_option linter.all false
set_option maxRecDepth 100000
set_option maxHeartbeats 4000000
namespace Kit
open PySem PySem.Spec PyProof.Rows L2 Evl
/-! list(range(a, b, c)) -/
def rgC (i c : Int) (n : Nat) : List V := (List.range n).map fun k => V.int (i + (k : Nat) * c)
def PRgC (X : Cx) (e : Expr) (t : L2.St → Hp → (Int → Int → Int → Hp → Prop) → Prop) : Prop :=
  ∀ (pins : List (Addr × Obj)) (s : Shared) (σ : L2.St) (H : Hp) (Q : Int → Int → Int → Hp → Prop), Inv X pins σ H s → t σ H Q →
    wpAny (model X.prog X.w) X.A (eval e X.env) (fun x s' => ∃ r a b c t u v H', x = .ref r ∧ IsRange s'.heap r a b c t u v ∧ Inv X pins σ H' s' ∧ Q a b c H') X.xe s
def tRg3 (ta : TA) : L2.St → Hp → (Int → Int → Int → Hp → Prop) → Prop := fun σ H Q => ta σ H fun vs H1 => ∃ i j c, vs = [.int i, .int j, .int c] ∧ (c ≠ 0 ∧ c.natAbs < 1073741824) ∧ Q i j c H1
section
variable {X : Cx}
theorem prg_3 {a b c : Expr} {ta : TA} {p pos : Pos} (hg : Gl X "range") (hm : X.mg "range" = none) (ha : PA X [a, b, c] ta)
    (hs : starEach [a, b, c] X.env = (false, eval a X.env) :: starEach [b, c] X.env := by rfl) (hpl : (backTo pos (starEach [b, c] X.env)).any (·.1) = false := by rfl) : PRgC X (.Call (.Name "range" p) [a, b, c] [] pos) (tRg3 ta) := by
  intro pins s σ H Q I h
  refine Call_ (ld_blt I hg hm boot_range (PyProof.Rows.callWith_type1 (thn (ha.run pos pins s σ H _ I h) fun us s1 ⟨vs, H1, I1, r1, q1⟩ => ?_) hs hpl))
  obtain ⟨i, j, k, e, ⟨c0, c1⟩, q⟩ := q1
  subst e
  cases r1 with
  | cons r rr =>
    cases rr with
    | cons r' rr =>
      cases rr with
      | cons r'' rr =>
        cases rr
        obtain ⟨t, rfl⟩ := r
        obtain ⟨t', rfl⟩ := r'
        obtain ⟨t'', rfl⟩ := r''
        exact call_range_3 c0 ⟨_, i, j, k, _, _, _, H1, rfl, IsRange.new _ _ _ _ _ _ _, I1.kept fun b u e => Heap.get?_push_of_some _ e, q⟩ (.inl (PyProof.noPylong_small c1))
theorem vals_rgC {a c : Int} {n : Nat} {acc : Array Value} (h : ItemsOf (fun i v => ∃ t, v = .int (a + i * c) t) acc n) : Vals (rgC a c n) acc.toList := by
  have e : acc.toList.length = n := by rw [Array.length_toList]; exact h.1
  unfold rgC
  rw [← e]
  refine vals_of_get acc.toList _ fun j u hj => ?_
  obtain ⟨t, rfl⟩ := h.2 j u (by rw [← hj, Array.getElem?_toList])
  exact ⟨t, rfl⟩
def tLstRgC (te : L2.St → Hp → (Int → Int → Int → Hp → Prop) → Prop) : TE := fun σ H Q => te σ H fun a b c H1 => ∃ n : Nat, (Builtin.Range.small a b c = true ∧ Builtin.Range.rangeSize a b c = n ∧ n ≤ 2 ^ 24) ∧ ∀ q, H1 q = none → Q (.ref q) (upd H1 q (.lst (rgC a c n)))
theorem pe_listRgC {e : Expr} {te : L2.St → Hp → (Int → Int → Int → Hp → Prop) → Prop} {p pos : Pos} (hc : X.calm = true) (hg : Gl X "list") (hm : X.mg "list" = none) (he : PRgC X e te) (na : starEach [e] X.env = (false, eval e X.env) :: starEach [] X.env := by rfl) : PE X (.Call (.Name "list" p) [e] [] pos) (tLstRgC te) := by
  refine ⟨fun pins s σ H Q I h => ?_⟩
  refine Call_ (ld_blt I hg hm boot_list (PyProof.Rows.callWith_type1 (args_cons (thn (he pins s σ H _ I h) fun x s1 ⟨r, a, b, c, t, u, v, H1, ex, hr, I1, n, ⟨ok1, ok2, ok3⟩, q⟩ => args_nil ?_) na) na))
  subst ex
  refine call_list_range (n := n) (I1.ok.hd hc) hr ok1 ok2 ok3 fun h' tk acc c' hk e' hi => ?_
  refine ⟨.ref s1.heap.objs.size, upd H1 s1.heap.objs.size (.lst (rgC a c n)), I1.laid hk (Nat.le_refl _) (show ObjOk X.prog X.w _ _ _ (.lst (rgC a c n)) from ⟨?_, acc.toList, c', vals_rgC hi, ?_⟩), rfl, q _ (I1.hok.fresh (Nat.le_refl _))⟩
  · unfold rgC
    rw [List.length_map, List.length_range, sizeLine_eq]
    omega
  · rw [Array.toArray_toList]; exact e'
end
theorem el_down {σ : L2.St} {H : Hp} {ta : TA} {i j : Int} (h : EvA ta σ H [.int i, .int j, .int (-1)]) (hi : 0 ≤ i ∧ i ≤ 1000) (hj : -1 ≤ j ∧ j ≤ 1000) : EvL (tLstRgC (tRg3 ta)) σ H (rgC i (-1) (i - j).toNat) := fun H1 e Q q =>
  h H1 e _ fun H2 e2 => ⟨i, j, -1, rfl, ⟨by decide, by decide⟩, (i - j).toNat, ⟨(RgC.neg (by omega) (by omega) (by omega) (by omega)).2.2.1, (RgC.neg (by omega) (by omega) (by omega) (by omega)).2.2.2, by omega⟩, fun l hl => q l _ (fresh_back e2 hl) (e2.trans (Ex.new hl)) upd_same⟩
end Kit

set_option Elab.async false
set_option linter.all false
set_option maxRecDepth 100000
set_option maxHeartbeats 4000000
namespace Kit
open PySem PySem.Spec PyProof.Rows L2 Evl
/-! ### any thing: none, bools, ints, texts, tuples, dicts, lists of data -/
inductive It (K : PySem.W.Frag) (H : Hp) : V → PyData → Prop
  | non : It K H .non .none
  | bl (b : Bool) : It K H (.bl b) (.bool b)
  | int (i : Int) : It K H (.int i) (.int i)
  | str (x : Str) : It K H (.str x) (.str x)
  | lst {a : Addr} {xs : List V} {ds : List PyData} (h : H a = some (.lst xs)) (hd : DpAll K H xs ds) : It K H (.ref a) (.list ds)
theorem It.ex {K : PySem.W.Frag} {H H' : Hp} {v : V} {d : PyData} (e : Ex H H') (h : It K H v d) : It K H' v d := by
  cases h with
  | non => exact .non
  | bl b => exact .bl b
  | int i => exact .int i
  | str x => exact .str x
  | lst h hd => exact .lst (e _ _ h) (DpAll.ex e _ _ hd)
theorem It.dp {K : PySem.W.Frag} {H : Hp} {v : V} {d : PyData} (h : It K H v d) : Dp K H v d := by
  cases h with
  | non => exact .non
  | bl b => exact .bl b
  | int i => exact .int i
  | str x => exact .str x
  | lst h hd => exact .lst (sq_of h) hd
def ItAll (K : PySem.W.Frag) (H : Hp) (vs : List V) (ds : List PyData) : Prop := Paired (It K H) vs ds
theorem ItAll.ex {K : PySem.W.Frag} {H H' : Hp} (e : Ex H H') : ∀ {vs : List V} {ds : List PyData}, ItAll K H vs ds → ItAll K H' vs ds
  | _, _, .nil => .nil
  | _, _, .cons h t => .cons (h.ex e) (ItAll.ex e t)
theorem ItAll.dp {K : PySem.W.Frag} {H : Hp} : ∀ {vs : List V} {ds : List PyData}, ItAll K H vs ds → DpAll K H vs ds
  | _, _, .nil => .nil
  | _, _, .cons h t => .cons h.dp (ItAll.dp t)
theorem ItAll.app {K : PySem.W.Frag} {H : Hp} : ∀ {vs ws : List V} {ds es : List PyData}, ItAll K H vs ds → ItAll K H ws es → ItAll K H (vs ++ ws) (ds ++ es)
  | _, _, _, _, .nil, q => q
  | _, _, _, _, .cons h t, q => .cons h (ItAll.app t q)
theorem ItAll.len {K : PySem.W.Frag} {H : Hp} {vs : List V} {ds : List PyData} (h : ItAll K H vs ds) : vs.length = ds.length := Paired.length h
theorem ita_ints {K : PySem.W.Frag} {H : Hp} : ∀ ns : List Int, ItAll K H (ns.map V.int) (ns.map PyData.int)
  | [] => .nil
  | n :: r => .cons (.int n) (ita_ints r)
def Fine (ds : List PyData) : Prop := ∀ d ∈ ds, d.canLay0 = true ∧ d.depth ≤ 5
theorem fine_nil : Fine [] := fun d h => by cases h
theorem fine_cons {d : PyData} {ds : List PyData} (h : d.canLay0 = true) (h2 : d.depth ≤ 5) (t : Fine ds) : Fine (d :: ds) := fun x hx => by
  rcases List.mem_cons.mp hx with e | e
  · rw [e]
    exact ⟨h, h2⟩
  · exact t x e
theorem fine_app {ds es : List PyData} (h : Fine ds) (h2 : Fine es) : Fine (ds ++ es) := fun x hx => (List.mem_append.mp hx).elim (h x) (h2 x)
theorem fine_ints : ∀ ns : List Int, Fine (ns.map PyData.int)
  | [] => fine_nil
  | n :: r => fine_cons rfl (Nat.zero_le _) (fine_ints r)
theorem Fine.sub {ds es : List PyData} (h : Fine ds) (s : ∀ x ∈ es, x ∈ ds) : Fine es := fun x hx => h x (s x hx)
theorem Fine.shaped {ds : List PyData} (h : Fine ds) : SeqAt.shaped (.list ds) = true := by
  have : PyData.canLayAll0 ds = true ∧ PyData.depthAll ds ≤ 5 := by
    induction ds with
    | nil => exact ⟨rfl, Nat.zero_le _⟩
    | cons d r ih =>
      obtain ⟨a, b⟩ := ih fun x hx => h x (List.mem_cons_of_mem _ hx)
      obtain ⟨c, e⟩ := h d List.mem_cons_self
      refine ⟨by simp [PyData.canLayAll0, a, c], ?_⟩
      simp [PyData.depthAll]
      omega
  simp [SeqAt.shaped, PyData.canLay0, this.1, PyData.depth]
  omega
inductive Th (K : PySem.W.Frag) (H : Hp) : V → Option (List PyData) → Prop
  | non : Th K H .non none
  | bl (b : Bool) : Th K H (.bl b) none
  | int (i : Int) : Th K H (.int i) none
  | str (x : Str) : Th K H (.str x) none
  | tup {a : Addr} {xs : List V} (h : H a = some (.tup xs)) : Th K H (.ref a) none
  | dct {a : Addr} {kvs : List (Key × V)} (h : H a = some (.dK kvs)) : Th K H (.ref a) none
  | lst {a : Addr} {xs : List V} {ds : List PyData} (h : H a = some (.lst xs)) (hd : ItAll K H xs ds) (hf : Fine ds) : Th K H (.ref a) (some ds)
def AT (K : PySem.W.Frag) (H : Hp) (v : V) : Prop := ∃ o, Th K H v o
section
variable {K : PySem.W.Frag} {σ : L2.St} {H H' : Hp} {te ta tb : TE} {t tr : TA}
theorem Th.ex {v : V} {o : Option (List PyData)} (e : Ex H H') (h : Th K H v o) : Th K H' v o := by
  cases h with
  | non => exact .non
  | bl b => exact .bl b
  | int i => exact .int i
  | str x => exact .str x
  | tup h => exact .tup (e _ _ h)
  | dct h => exact .dct (e _ _ h)
  | lst h hd hf => exact .lst (e _ _ h) (hd.ex e) hf
theorem AT.ex {v : V} (e : Ex H H') (h : AT K H v) : AT K H' v := h.imp fun _ x => x.ex e
def EvTh (K : PySem.W.Frag) (te : TE) (σ : L2.St) (H : Hp) : Prop := ∀ H1, Ex H H1 → ∀ Q : VK, (∀ v H2, Ex H1 H2 → AT K H2 v → Q v H2) → te σ H1 Q
def EvThA (K : PySem.W.Frag) (ta : TA) (σ : L2.St) (H : Hp) (n : Nat) : Prop := ∀ H1, Ex H H1 → ∀ Q : List V → Hp → Prop, (∀ vs H2, Ex H1 H2 → vs.length = n → (∀ v ∈ vs, AT K H2 v) → Q vs H2) → ta σ H1 Q
theorem tha_nil : EvThA K tNil σ H 0 := fun H1 _ _ q => q [] H1 (Ex.refl H1) rfl (by simp)
theorem tha_cons {n : Nat} (h : EvTh K te σ H) (hr : EvThA K tr σ H n) : EvThA K (tCons te tr) σ H (n + 1) := fun H1 e _ q =>
  h H1 e _ fun v H2 e2 hv => hr H2 (e.trans e2) _ fun vs H3 e3 hl hvs => q (v :: vs) H3 (e2.trans e3) (by simp [hl]) fun x hx => by
    rcases List.mem_cons.mp hx with z | z
    · rw [z]
      exact hv.ex e3
    · exact hvs x z
theorem th_non (h : Ev te σ H .non) : EvTh K te σ H := fun H1 e Q q => h H1 e Q fun H2 e2 => q _ H2 e2 ⟨_, .non⟩
theorem th_bl {b : Bool} (h : Ev te σ H (.bl b)) : EvTh K te σ H := fun H1 e Q q => h H1 e Q fun H2 e2 => q _ H2 e2 ⟨_, .bl b⟩
theorem th_int {i : Int} (h : Ev te σ H (.int i)) : EvTh K te σ H := fun H1 e Q q => h H1 e Q fun H2 e2 => q _ H2 e2 ⟨_, .int i⟩
theorem th_str {x : Str} (h : Ev te σ H (.str x)) : EvTh K te σ H := fun H1 e Q q => h H1 e Q fun H2 e2 => q _ H2 e2 ⟨_, .str x⟩
theorem th_U {xs : List V} (h : EvU te σ H xs) : EvTh K te σ H := fun H1 e Q q => h H1 e Q fun p H2 _ e2 h2 => q _ H2 e2 ⟨_, .tup h2⟩
theorem th_L {xs : List V} (h : EvL te σ H xs) (hd : ∃ ds, ItAll K H xs ds ∧ Fine ds) : EvTh K te σ H := fun H1 e Q q => h H1 e Q fun p H2 _ e2 h2 => q _ H2 e2 (by
  obtain ⟨ds, d, f⟩ := hd
  exact ⟨_, .lst h2 (d.ex (e.trans e2)) f⟩)
def EvIA (K : PySem.W.Frag) (ta : TA) (σ : L2.St) (H : Hp) (ds : List PyData) : Prop := ∀ H1, Ex H H1 → ∀ Q : List V → Hp → Prop, (∀ vs H2, Ex H1 H2 → ItAll K H2 vs ds → Q vs H2) → ta σ H1 Q
def EvI (K : PySem.W.Frag) (te : TE) (σ : L2.St) (H : Hp) (d : PyData) : Prop := ∀ H1, Ex H H1 → ∀ Q : VK, (∀ v H2, Ex H1 H2 → It K H2 v d → Q v H2) → te σ H1 Q
theorem ia_nil : EvIA K tNil σ H [] := fun H1 _ _ q => q [] H1 (Ex.refl H1) .nil
theorem ia_cons {d : PyData} {ds : List PyData} (h : EvI K te σ H d) (hr : EvIA K tr σ H ds) : EvIA K (tCons te tr) σ H (d :: ds) := fun H1 e _ q =>
  h H1 e _ fun v H2 e2 dv => hr H2 (e.trans e2) _ fun vs H3 e3 dvs => q (v :: vs) H3 (e2.trans e3) (.cons (dv.ex e3) dvs)
theorem it_of {v : V} {d : PyData} (h : Ev te σ H v) (k : It K H v d) : EvI K te σ H d := fun H1 e Q q => h H1 e Q fun H2 e2 => q v H2 e2 (k.ex (e.trans e2))
theorem it_D {ds : List PyData} (h : EvDA K t σ H ds) (hl : ds.length ≤ 100000) : EvI K (tLst t) σ H (.list ds) := fun H1 e Q q =>
  h H1 e _ fun vs H2 e2 dv => ⟨sz_of (by rw [DpAll.len dv]; exact hl), fun p hp => q _ _ (e2.trans (Ex.new hp)) (.lst upd_same (DpAll.ex (Ex.new hp) ds vs dv))⟩
theorem th_D {ds : List PyData} (h : EvIA K t σ H ds) (hf : Fine ds) (hl : ds.length ≤ 100000) : EvTh K (tLst t) σ H := fun H1 e Q q =>
  h H1 e _ fun vs H2 e2 dv => ⟨sz_of (by rw [dv.len]; exact hl), fun p hp => q _ _ (e2.trans (Ex.new hp)) ⟨_, .lst upd_same (dv.ex (Ex.new hp)) hf⟩⟩
theorem th_var {i : Nat} {v : V} (h : σ[i]? = some (some v)) (hv : AT K H v) : EvTh K (tVar i) σ H := fun H1 e Q q => ⟨v, h, q v H1 (Ex.refl _) (hv.ex e)⟩
theorem th_dnew : EvTh K tDNewK σ H := fun H1 e Q q p hp => q _ _ (Ex.new hp) ⟨_, .dct upd_same⟩
theorem th_disp {x : Str} {i : Int} : EvTh K (tDisp [(tC (.str x), tC (.int i))]) σ H := fun H1 e Q q p hp =>
  ⟨upd_same, [(.inr x, .int i)], rfl, Nat.le_of_ble_eq_true rfl, q _ _ (Ex.mut (Ex.new hp) hp) ⟨_, .dct upd_same⟩⟩
/-- [.., ..] of things: a new list -/
def EvTL (K : PySem.W.Frag) (te : TE) (σ : L2.St) (H : Hp) (n : Nat) : Prop := ∀ H1, Ex H H1 → ∀ Q : VK, (∀ p vs H2, H1 p = none → Ex H1 H2 → H2 p = some (.lst vs) → vs.length = n → (∀ v ∈ vs, AT K H2 v) → Q (.ref p) H2) → te σ H1 Q
theorem tl_lst {n : Nat} (h : EvThA K t σ H n) (hn : n ≤ 100000) : EvTL K (tLst t) σ H n := fun H1 e Q q =>
  h H1 e _ fun vs H2 e2 hl hv => ⟨sz_of (by omega), fun p hp => q p vs _ (fresh_back e2 hp) (e2.trans (Ex.new hp)) upd_same hl fun v z => (hv v z).ex (Ex.new hp)⟩
theorem tl_cat {a : Addr} {xs : List V} {n : Nat} (h : Ev ta σ H (.ref a)) (ha : H a = some (.lst xs)) (hx : ∀ v ∈ xs, AT K H v) (h2 : EvTL K tb σ H n) (hz : xs.length + n ≤ 1000) : EvTL K (tOp rCat ta tb) σ H (xs.length + n) := fun H1 e Q q =>
  h H1 e _ fun H2 e2 => h2 H2 (e.trans e2) _ fun p vs H3 _ e3 h3 hl hv =>
    ⟨a, p, xs, vs, rfl, rfl, e3 a _ (e2 a _ (e a _ ha)), h3, sz_of (by omega), fun l hl' => q l _ _ (fresh_back (e2.trans e3) hl') ((e2.trans e3).trans (Ex.new hl')) upd_same (by rw [List.length_append, hl]) fun v z => by
      rcases List.mem_append.mp z with z | z
      · exact (hx v z).ex (e.trans (e2.trans (e3.trans (Ex.new hl'))))
      · exact (hv v z).ex (Ex.new hl')⟩
/-- x + ys, x an old list -/
theorem el_catO {a : Addr} {xs ys : List V} (h : Ev ta σ H (.ref a)) (ha : H a = some (.lst xs)) (h2 : EvL tb σ H ys) (hz : xs.length + ys.length ≤ 1000) : EvL (tOp rCat ta tb) σ H (xs ++ ys) := fun H1 e Q q =>
  h H1 e _ fun H2 e2 => h2 H2 (e.trans e2) _ fun p H3 _ e3 h3 =>
    ⟨a, p, xs, ys, rfl, rfl, e3 a _ (e2 a _ (e a _ ha)), h3, sz_of (by omega), fun l hl' => q l _ (fresh_back (e2.trans e3) hl') ((e2.trans e3).trans (Ex.new hl')) upd_same⟩
end
/-! ### the type of any thing -/
def kTyp2 (x : V) (H : Hp) (Q : VK) : Prop := ∃ n, (zTyV x H = some n ∨ (n = "dict" ∧ ∃ a kvs, x = .ref a ∧ H a = some (.dK kvs))) ∧ Q (.ty n) H
def rNeTyG : R2 := fun x y H Q => ∃ m n, x = .ty m ∧ y = .ty n ∧ Meta m ∧ Meta n ∧ Q (.bl (!decide (m = n))) H
section
variable {X : Cx} {ta : TE} {a : Expr}
theorem rl_type2 (pins : List (Addr × Obj)) (st : Shared) (σ : L2.St) (H : Hp) (x : V) (u : Value) (Q : VK) (J : Inv X pins σ H st) (r : RelV x u) (h : kTyp2 x H Q) :
    wpAny (model X.prog X.w) X.A (call (.type "type") [u]) (EP X pins σ Q) X.xe st := by
  obtain ⟨n, e | ⟨rfl, a, kvs, rfl, ha⟩, q⟩ := h
  · exact rl_type pins st σ H x u Q J r ⟨n, e, q⟩
  · cases (show u = Value.ref a from r)
    obtain ⟨_, _, vs, _, o, es, ep, h1, h2, _⟩ := (show ObjOk X.prog X.w H st.heap a (.dK kvs) from J.hok a _ ha)
    exact call_type_of (Tx := "dict") ⟨o, h1, h2.1⟩ (by decide +kernel) ⟨.ty "dict", H, J, rfl, q⟩
theorem pe_typeOf2 {p pos : Pos} (hg : Gl X "type") (hm : X.mg "type" = none) (ha : PE X a ta) (na : starEach [a] X.env = (false, eval a X.env) :: starEach [] X.env := by rfl) :
    PE X (.Call (.Name "type" p) [a] [] pos) (tThenZ ta kTyp2) := pe_callTy (call_r1 rl_type2) hg hm (by decide +kernel) (pa_cons ha pa_nil na) (he := na)
theorem op_neTyG (hu : X.A.units + 1 < cLine) : OpR X (compareOp .NotEq) rNeTyG := by
  intro pins st σ H x y v u Q J rx ry h
  obtain ⟨m, n, rfl, rfl, hm, hn, q⟩ := h
  cases (show v = Value.type m from rx)
  cases (show u = Value.type n from ry)
  by_cases e : m = n
  · subst e
    exact ne_type_same hm hu ⟨.bl false, H, J, rfl, by simpa using q⟩
  · exact ne_type_other hm hn (by rw [beq_eq_false_iff_ne]; exact fun z => e (Value.type.inj z)) hu ⟨.bl true, H, J, rfl, by simpa [e] using q⟩
end
section
variable {K : PySem.W.Frag} {σ : L2.St} {H : Hp} {ta tb : TE}
/-- the name of a thing's type -/
theorem th_type {v : V} {o : Option (List PyData)} (h : Th K H v o) : ∃ n, (zTyV v H = some n ∨ (n = "dict" ∧ ∃ a kvs, v = .ref a ∧ H a = some (.dK kvs))) ∧ Meta n ∧ (n = "list" ↔ o.isSome = true) := by
  cases h with
  | non => exact ⟨"NoneType", .inl rfl, PySem.TypeEq.meta_NoneType, by simp⟩
  | bl b => exact ⟨"bool", .inl rfl, PySem.TypeEq.meta_bool, by simp⟩
  | int i => exact ⟨"int", .inl rfl, PySem.TypeEq.meta_int, by simp⟩
  | str x => exact ⟨"str", .inl rfl, PySem.TypeEq.meta_str, by simp⟩
  | tup h => exact ⟨"tuple", .inl (by simp [zTyV, h]), PySem.TypeEq.meta_tuple, by simp⟩
  | dct h => exact ⟨"dict", .inr ⟨rfl, _, _, rfl, h⟩, PySem.TypeEq.meta_dict, by simp⟩
  | lst h _ _ => exact ⟨"list", .inl (by simp [zTyV, h]), PySem.TypeEq.meta_list, by simp⟩
/-- type(v) != list -/
theorem ev_noList {v : V} {o : Option (List PyData)} (h : Ev ta σ H v) (hv : Th K H v o) : Ev (tOp rNeTyG (tThenZ ta kTyp2) (tC (.ty "list"))) σ H (.bl (!o.isSome)) := fun H1 e Q q => h H1 e _ fun H2 e2 => by
  obtain ⟨n, hn, mt, iff⟩ := th_type (hv.ex (e.trans e2))
  refine ⟨n, hn, n, "list", rfl, rfl, mt, PySem.TypeEq.meta_list, ?_⟩
  have : decide (n = "list") = o.isSome := by
    rw [Bool.eq_iff_iff, decide_eq_true_iff]
    exact iff
  rw [this]
  exact q H2 e2
theorem th_is {v : V} {o : Option (List PyData)} (h : Th K H v o) : ∃ n, TyX K H v (.type n) ∧ PySem.W.kitOne K (.type n) (.type "list") = some o.isSome := by
  cases h with
  | non => exact ⟨_, .base .non, rfl⟩
  | bl b => exact ⟨_, .base (.bl b), rfl⟩
  | int i => exact ⟨_, .base (.int i), rfl⟩
  | str x => exact ⟨_, .base (.str x), rfl⟩
  | tup h => exact ⟨_, .base (.tup h), rfl⟩
  | dct h => exact ⟨_, .base (.dK h), rfl⟩
  | lst h _ _ => exact ⟨_, .base (.lst h), rfl⟩
/-- isinstance(v, list) -/
theorem ev_isList {v : V} {o : Option (List PyData)} (h : Ev ta σ H v) (hv : Th K H v o) : Ev (tCB (rIsi K) (tCons ta (tCons (tC (.ty "list")) tNil))) σ H (.bl o.isSome) := fun H1 e Q q => h H1 e _ fun H2 e2 => by
  obtain ⟨n, ht, hk⟩ := th_is (hv.ex (e.trans e2))
  exact ⟨v, .ty "list", .type n, .type "list", o.isSome, rfl, .ty "list", ht, hk, q H2 e2⟩
def isI : PyData → Bool
  | .int _ => true
  | _ => false
theorem it_type {v : V} {d : PyData} (h : It K H v d) : ∃ n, zTyV v H = some n ∧ Meta n ∧ decide (n = "int") = isI d := by
  cases h with
  | non => exact ⟨"NoneType", rfl, PySem.TypeEq.meta_NoneType, by simp [isI]⟩
  | bl b => exact ⟨"bool", rfl, PySem.TypeEq.meta_bool, by simp [isI]⟩
  | int i => exact ⟨"int", rfl, PySem.TypeEq.meta_int, by simp [isI]⟩
  | str x => exact ⟨"str", rfl, PySem.TypeEq.meta_str, by simp [isI]⟩
  | lst h _ => exact ⟨"list", by simp [zTyV, h], PySem.TypeEq.meta_list, by simp [isI]⟩
/-- type(v) == int -/
theorem ev_isWhole {v : V} {d : PyData} (h : Ev ta σ H v) (hv : It K H v d) : Ev (tOp rEqTy (tThenZ ta kTyp) (tC (.ty "int"))) σ H (.bl (isI d)) := fun H1 e Q q => h H1 e _ fun H2 e2 => by
  obtain ⟨n, hn, mt, iff⟩ := it_type (hv.ex (e.trans e2))
  refine ⟨n, hn, n, "int", rfl, rfl, mt, PySem.TypeEq.meta_int, ?_⟩
  rw [iff]
  exact q H2 e2
def isB : PyData → Bool
  | .bool _ => true
  | _ => false
theorem it_isB {v : V} {d : PyData} (h : It K H v d) : ∃ n, TyX K H v (.type n) ∧ PySem.W.kitOne K (.type n) (.type "bool") = some (isB d) := by
  cases h with
  | non => exact ⟨_, .base .non, rfl⟩
  | bl b => exact ⟨_, .base (.bl b), rfl⟩
  | int i => exact ⟨_, .base (.int i), rfl⟩
  | str x => exact ⟨_, .base (.str x), rfl⟩
  | lst h _ => exact ⟨_, .base (.lst h), rfl⟩
theorem it_isI {v : V} {d : PyData} (h : It K H v d) : ∃ n, TyX K H v (.type n) ∧ PySem.W.kitOne K (.type n) (.type "int") = some (isI d || isB d) := by
  cases h with
  | non => exact ⟨_, .base .non, rfl⟩
  | bl b => exact ⟨_, .base (.bl b), rfl⟩
  | int i => exact ⟨_, .base (.int i), rfl⟩
  | str x => exact ⟨_, .base (.str x), rfl⟩
  | lst h _ => exact ⟨_, .base (.lst h), rfl⟩
/-- isinstance(v, bool) or not isinstance(v, int) -/
theorem et_noInt {v : V} {d : PyData} (h : Ev ta σ H v) (hv : It K H v d) : EvT (tOr (tB (tCB (rIsi K) (tCons ta (tCons (tC (.ty "bool")) tNil)))) (tNot (tB (tCB (rIsi K) (tCons ta (tCons (tC (.ty "int")) tNil)))))) σ H (!isI d) := by
  have one : Ev (tCB (rIsi K) (tCons ta (tCons (tC (.ty "bool")) tNil))) σ H (.bl (isB d)) := fun H1 e Q q => h H1 e _ fun H2 e2 => by
    obtain ⟨n, ht, hb⟩ := it_isB (hv.ex (e.trans e2))
    exact ⟨v, .ty "bool", _, .type "bool", _, rfl, .ty "bool", ht, hb, q H2 e2⟩
  have two : Ev (tCB (rIsi K) (tCons ta (tCons (tC (.ty "int")) tNil))) σ H (.bl (isI d || isB d)) := fun H1 e Q q => h H1 e _ fun H2 e2 => by
    obtain ⟨n, ht, hb⟩ := it_isI (hv.ex (e.trans e2))
    exact ⟨v, .ty "int", _, .type "int", _, rfl, .ty "int", ht, hb, q H2 e2⟩
  refine et_is (et_or (et_B one) fun _ => et_not (et_B two)) ?_
  cases d <;> rfl
end
/-! tuple(range(a, b, c)) -/
def tTupRgC (te : L2.St → Hp → (Int → Int → Int → Hp → Prop) → Prop) : TE := fun σ H Q => te σ H fun a b c H1 => ∃ n : Nat, (Builtin.Range.small a b c = true ∧ Builtin.Range.rangeSize a b c = n ∧ n ≤ 2 ^ 24) ∧ ∀ q, H1 q = none → Q (.ref q) (upd H1 q (.tup (rgC a c n)))
theorem pe_tupRgC {X : Cx} {e : Expr} {te : L2.St → Hp → (Int → Int → Int → Hp → Prop) → Prop} {p pos : Pos} (calm : X.calm = true) (hg : Gl X "tuple") (hm : X.mg "tuple" = none) (he : PRgC X e te) (na : starEach [e] X.env = (false, eval e X.env) :: starEach [] X.env := by rfl) : PE X (.Call (.Name "tuple" p) [e] [] pos) (tTupRgC te) := by
  refine ⟨fun pins st σ H Q J h => ?_⟩
  refine Call_ (ld_blt J hg hm boot_tuple (PyProof.Rows.callWith_type1 (args_cons (thn (he pins st σ H _ J h) fun x s1 ⟨r, a, b, c, t, u, v, H1, ex, hr, J1, n, ⟨o1, o2, o3⟩, q⟩ => args_nil ?_) na) na))
  subst ex
  refine call_tuple_range (n := n) (J1.ok.hd calm) hr o1 o2 o3 fun h' tk acc keep its => ?_
  have J2 : Inv X pins σ H1 { s1 with heap := h', toks := tk } := J1.kept keep
  refine ⟨.ref h'.objs.size, upd H1 h'.objs.size (.tup (rgC a c n)), J2.laid (t' := tk) (fun z o e => Heap.get?_push_of_some _ e) (Nat.le_refl _) (show ObjOk X.prog X.w _ _ _ (.tup (rgC a c n)) from ⟨?_, acc.toList, vals_rgC its, ?_⟩), rfl, q _ (J2.hok.fresh (Nat.le_refl _))⟩
  · unfold rgC
    rw [List.length_map, List.length_range, sizeLine_eq]
    omega
  · rw [Array.toArray_toList]
    exact IsTup.new _ _
theorem eu_down {σ : L2.St} {H : Hp} {ta : TA} {i j : Int} (h : EvA ta σ H [.int i, .int j, .int (-1)]) (hi : 0 ≤ i ∧ i ≤ 1000) (hj : -1 ≤ j ∧ j ≤ 1000) : EvU (tTupRgC (tRg3 ta)) σ H (rgC i (-1) (i - j).toNat) := fun H1 e Q q =>
  h H1 e _ fun H2 e2 => ⟨i, j, -1, rfl, ⟨by decide, by decide⟩, (i - j).toNat, ⟨(RgC.neg (by omega) (by omega) (by omega) (by omega)).2.2.1, (RgC.neg (by omega) (by omega) (by omega) (by omega)).2.2.2, by omega⟩, fun l hl => q l _ (fresh_back e2 hl) (e2.trans (Ex.new hl)) upd_same⟩
/-! xs.index(x) where the written part must be said -/
theorem pe_indexK {X : Cx} {K : PySem.W.Frag} {o e : Expr} {to te : TE} {apos cpos : Pos} (hK : X.K = K) (ho : PE X o to) (he : PE X e te) (b : attributeBase o "index" X.env (eval o X.env) = eval o X.env := by rfl)
    (few : ((backTo cpos (starEach [e] X.env)).all (fun x => !x.1) && (backToKw cpos (keywordEach [] X.env)).all (fun x => x.1.isSome) && decide ([e].length + ([] : List Keyword).length + (if ([] : List Keyword).isEmpty then 0 else 1) < 30)) = true := by rfl)
    (line : (apos.endLine == cpos.line) = true := by rfl) (st : starEach [e] X.env = (false, eval e X.env) :: starEach [] X.env := by rfl) (pl : (backTo cpos (starEach [] X.env)).any (·.1) = false := by rfl) :
    PE X (.Call (.Attribute o "index" apos) [e] [] cpos) (tBM K "list" (rIndex K) to (tCons te tNil)) := by
  subst hK
  exact pe_bm PySem.F.plainAttrs_list PySem.F.slot_list_index PySem.F.type_list_index mt_index ho (pa_cons he pa_nil st) b few line st pl
theorem pe_revLK {X : Cx} {K : PySem.W.Frag} {e : Expr} {te : TE} {k : Nat} {p1 p2 p3 pos : Pos} (hK : X.K = K) (he : PE X e te) : PE X (.Subscript e (.Slice none none (some (.UnaryOp .USub (.Constant (.int 1) k p1) p2)) p3) pos) (tRevL K te) := by
  subst hK
  exact pe_revL he
end Kit

set_option Elab.async false
set_option linter.all false
set_option maxRecDepth 100000
set_option maxHeartbeats 4000000
namespace Kit
open PySem PySem.Spec PyProof.Rows L2 Evl
/-! ### data that repr shows, with long ints: at most n signs -/
structure ShN (d : PyData) (n : Nat) : Prop where
  shw : d.showable = true
  nod : d.hasDict = false
  len : d.shown.length ≤ n
  dep : d.depth ≤ 20
theorem shn_int {i : Int} (h : i.natAbs.log2 < 1920) : ShN (.int i) 1921 := ⟨decide_eq_true h, rfl, int_text_len_1921 h, Nat.zero_le _⟩
theorem shn_int2 {i : Int} (h : i.natAbs < 2 ^ 1900) : ShN (.int i) 1921 := shn_int (by
  by_cases z : i.natAbs = 0
  · rw [z]
    decide
  · exact Nat.lt_of_lt_of_le ((Nat.log2_lt z).mpr h) (by decide))
theorem shn_all {n : Nat} : ∀ {ds : List PyData}, (∀ d ∈ ds, ShN d n ∧ d.depth ≤ 19) → PyData.showableAll ds = true ∧ PyData.hasDictAll ds = false ∧ ((PyData.shownAll ds).map (·.length)).sum ≤ n * ds.length ∧ (PyData.shownAll ds).length = ds.length ∧ PyData.depthAll ds ≤ 19
  | [], _ => ⟨rfl, rfl, Nat.zero_le _, rfl, Nat.zero_le _⟩
  | d :: r, h => by
    obtain ⟨a, b, c, e, f⟩ := shn_all fun x hx => h x (List.mem_cons_of_mem _ hx)
    obtain ⟨⟨p, q, s, _⟩, t⟩ := h d List.mem_cons_self
    refine ⟨by simp [PyData.showableAll, a, p], by simp [PyData.hasDictAll, b, q], ?_, by simp [PyData.shownAll, e], by simp only [PyData.depthAll]; omega⟩
    simp only [PyData.shownAll, List.map_cons, List.sum_cons, List.length_cons, Nat.mul_succ]
    omega
theorem shn_list {ds : List PyData} {n : Nat} (h : ∀ d ∈ ds, ShN d n ∧ d.depth ≤ 19) : ShN (.list ds) ((n + 2) * ds.length + 3) := by
  obtain ⟨a, b, c, e, f⟩ := shn_all h
  refine ⟨by simpa [PyData.showable] using a, by simpa [PyData.hasDict] using b, ?_, by simp only [PyData.depth]; omega⟩
  have := listText_len_le (PyData.shownAll ds)
  show (listText (PyData.shownAll ds)).length ≤ _
  rw [e] at this
  rw [Nat.add_mul]
  omega
theorem shn_tup {ds : List PyData} {n : Nat} (h : ∀ d ∈ ds, ShN d n ∧ d.depth ≤ 19) : ShN (.tuple ds) ((n + 2) * ds.length + 3) := by
  obtain ⟨a, b, c, e, f⟩ := shn_all h
  refine ⟨by simpa [PyData.showable] using a, by simpa [PyData.hasDict] using b, ?_, by simp only [PyData.depth]; omega⟩
  have := tupleText_len_le (PyData.shownAll ds)
  show (tupleText (PyData.shownAll ds)).length ≤ _
  rw [e] at this
  rw [Nat.add_mul]
  omega
section
variable {K : PySem.W.Frag} {σ : L2.St} {H : Hp} {te : TE}
theorem ev_reprN {d : PyData} {n : Nat} (h : EvD K te σ H d) (hl : isDisplay d = true) (s : ShN d n) (hn : n ≤ 1000000) : Ev (tCB (rRepr K) (tCons te tNil)) σ H (.str d.shown) :=
  ev_repr h hl s.shw s.nod (by have := s.dep; omega) (Nat.le_trans s.len (Nat.le_trans hn (by rw [sizeLine_eq]; decide)))
end
end Kit

set_option Elab.async false
set_option linter.all false
set_option maxRecDepth 100000
set_option maxHeartbeats 4000000
namespace Kit
open PySem PySem.Spec PyProof.Rows L2 Evl
section
variable {K : PySem.W.Frag} {σ : L2.St} {H : Hp} {ta tb te : TE} {t : TT}
/-- max(xs), told by what it is -/
theorem ev_maxV {a : Addr} {ns : List Int} {m : Int} (h : Ev ta σ H (.ref a)) (ha : SqL K H a (ns.map V.int)) (hm : m ∈ ns) (hl : ∀ y ∈ ns, y ≤ m) : Ev (tCB (rMax K) (tCons ta tNil)) σ H (.int m) := fun H1 e Q q =>
  h H1 e _ fun H2 e2 => ⟨a, ns, rfl, ex_l (e.trans e2) ha, List.length_pos_of_mem hm, fun m' hm' hl' => by
    have h1 := hl m' hm'
    have h2 := hl' m hm
    have : m' = m := by omega
    rw [this]
    exact q H2 e2⟩
/-- [e for i, x in enumerate(xs) if t] -/
theorem el_en {ta : TA} {i j : Nat} {vs : List Nat} {a : Addr} {xs : List V} (f : Nat → Bool) (v : Nat → V) (h : EvA ta σ H [.ref a]) (hx : SqL K H a xs) (hz : xs.length ≤ 40000) (hw : ∀ x y, wipe (((wipe σ vs).set i (some x)).set j (some y)) vs = wipe σ vs)
    (ht : ∀ (n : Nat) x H1, Ex H H1 → xs[n]? = some x → EvT t (((wipe σ vs).set i (some (.int (n : Int)))).set j (some x)) H1 (f n))
    (he : ∀ (n : Nat) x H1, Ex H H1 → xs[n]? = some x → f n = true → Ev te (((wipe σ vs).set i (some (.int (n : Int)))).set j (some x)) H1 (v n)) :
    EvL (tLc (iEnum K ta) (gTup K 2 (gCons (gName i) (gCons (gName j) gNil))) t te vs) σ H (given xs.length f v) := fun H0 e Q q => h H0 e _ fun H1 e1 => ⟨a, xs, rfl, ex_l (e.trans e1) hx, fun Dl hD => by
  refine lc_it walk_enum (Cw H1 f v Dl) ⟨hD, Ex.new hD, upd_same⟩ (fun n H' _ p => ex_l ((e.trans e1).trans p.2.1) hx) ?_ fun H' p => q Dl H' (fresh_back e1 p.1) (e1.trans p.2.1) p.2.2
  rintro n w Hh H' hn p ⟨T, x, y, rfl, nT, rfl, g1, g2⟩
  have ex : V.int (n : Nat) = x := Option.some.inj g1
  subst ex
  have eT : Ex Hh (upd Hh T (.tup [.int (n : Nat), y])) := Ex.new nT
  refine ⟨T, [.int (n : Nat), y], rfl, st_of upd_same, rfl, _, [y], rfl, y, [], rfl, rfl, hw _ y, ?_⟩
  exact cw_turn (H := H1) ⟨p.1, p.2.1.trans eT, eT Dl _ p.2.2⟩ (by omega) (ht n y H1 (e.trans e1) g2) fun hf => he n y H1 (e.trans e1) g2 hf⟩
/-- [e for x, y in zip(xs, ys)], both new lists -/
theorem el_zipN {i j : Nat} {vs : List Nat} {xs ys : List V} (F : V → V → V) (h : EvL ta σ H xs) (h2 : EvL tb σ H ys) (hl : xs.length = ys.length) (hz : xs.length ≤ 40000) (hw : ∀ x y, wipe (((wipe σ vs).set i (some x)).set j (some y)) vs = wipe σ vs)
    (he : ∀ (n : Nat) x y H1, Ex H H1 → xs[n]? = some x → ys[n]? = some y → Ev te (((wipe σ vs).set i (some x)).set j (some y)) H1 (F x y)) :
    EvL (tLc (iZip K (tCons ta (tCons tb tNil))) (gTup K 2 (gCons (gName i) (gCons (gName j) gNil))) tYes te vs) σ H (List.zipWith F xs ys) := fun H0 e Q q =>
  h H0 e _ fun a H1 na e1 ha => h2 H1 (e.trans e1) _ fun b H2 nb e2 hb => by
    have := el_zip (K := K) (H := H2) (ta := fun _ H' R => R [.ref a, .ref b] H') (te := te) (vs := vs) F (fun H3 _ Q q => q H3 (Ex.refl _)) (sq_of (e2 a _ ha)) (sq_of hb) hl hz hw fun n x y H3 e3 g1 g2 => he n x y H3 (e.trans (e1.trans (e2.trans e3))) g1 g2
    exact this H2 (Ex.refl _) Q fun p H3 hp e3 h3 => q p H3 (fresh_back (e1.trans e2) hp) (e1.trans (e2.trans e3)) h3
/-- xs + y, y an old list; x + ys, x an old list -/
theorem el_catR {a : Addr} {xs ys : List V} (h : EvL ta σ H xs) (h2 : Ev tb σ H (.ref a)) (ha : H a = some (.lst ys)) (hz : xs.length + ys.length ≤ 1000) : EvL (tOp rCat ta tb) σ H (xs ++ ys) := fun H1 e Q q =>
  h H1 e _ fun p H2 _ e2 h3 => h2 H2 (e.trans e2) _ fun H3 e3 => ⟨p, a, xs, ys, rfl, rfl, e3 p _ h3, e3 a _ (e2 a _ (e a _ ha)), sz_of (by omega), fun l hl => q l _ (fresh_back (e2.trans e3) hl) ((e2.trans e3).trans (Ex.new hl)) upd_same⟩
theorem el_catL {a : Addr} {xs ys : List V} (h : Ev ta σ H (.ref a)) (ha : H a = some (.lst xs)) (h2 : EvL tb σ H ys) (hz : xs.length + ys.length ≤ 1000) : EvL (tOp rCat ta tb) σ H (xs ++ ys) := fun H1 e Q q =>
  h H1 e _ fun H2 e2 => h2 H2 (e.trans e2) _ fun p H3 _ e3 h3 => ⟨a, p, xs, ys, rfl, rfl, e3 a _ (e2 a _ (e a _ ha)), h3, sz_of (by omega), fun l hl => q l _ (fresh_back (e2.trans e3) hl) ((e2.trans e3).trans (Ex.new hl)) upd_same⟩
end
end Kit

set_option Elab.async false
set_option linter.all false
set_option maxRecDepth 100000
namespace Kit
open PySem PySem.Spec PyProof.Rows L2 Evl
def fac (n : Nat) : Nat := Builtin.Math.factorialNat n
theorem fac_succ (n : Nat) : fac (n + 1) = fac n * (n + 1) := PySem.W.mc_fac_succ n
theorem fac_pos (n : Nat) : 1 ≤ fac n := PySem.W.mc_fac_pos n
theorem fac_mono : ∀ {m n : Nat}, m ≤ n → fac m ≤ fac n := fun {m n} h => by
  induction h with
  | refl => exact Nat.le_refl _
  | step _ ih =>
    rw [Nat.succ_eq_add_one, fac_succ]
    exact Nat.le_trans ih (Nat.le_mul_of_pos_right _ (Nat.succ_pos _))
theorem fac20 : fac 20 < 2 ^ 64 := by decide +kernel
def rFac : List V → Hp → VK → Prop := fun vs H Q => ∃ n : Nat, vs = [.int (n : Int)] ∧ n ≤ 20000 ∧ Q (.int ((fac n : Nat) : Int)) H
section
variable {X : Cx}
theorem cr_factorial : CallR X (.builtin "math.factorial") rFac := by
  intro pins s σ H vs us Q I r h
  obtain ⟨n, rfl, hn, q⟩ := h
  cases r with
  | cons ru rt =>
    cases rt
    obtain ⟨t, rfl⟩ := ru
    refine PySem.W.mc_factorial (Int.natCast_nonneg n) (by omega) fun _ => ?_
    rw [Int.toNat_natCast]
    exact ⟨.int _, H, I.tok _, ⟨_, rfl⟩, q⟩
def rDivmod : List V → Hp → VK → Prop := fun xs H Q => ∃ i j, xs = [.int i, .int j] ∧ CDivP i j ∧ ∀ p, H p = none → Q (.ref p) (upd H p (.tup [.int (i / j), .int (i % j)]))
theorem call_divmodR : CallR X (.builtin "divmod") rDivmod := call_divmodW
end
section
variable {K : PySem.W.Frag} {σ : L2.St} {H : Hp} {ta tb te tl : TE} {D : Ends} {tu tz : TS}
theorem ev_fac {n : Nat} (h : Ev ta σ H (.int (n : Int))) (hn : n ≤ 20000) : Ev (tCB rFac (tCons ta tNil)) σ H (.int ((fac n : Nat) : Int)) := fun H1 e Q q => h H1 e _ fun H2 e2 => ⟨n, rfl, hn, q H2 e2⟩
theorem divp_small {i j : Int} (h : 0 < j) (hj : j.natAbs < 2 ^ 8000) : CDivP i j := ⟨h, PyProof.noPylong_of_log2 (by
  have h2 := (Nat.log2_lt (n := j.natAbs) (k := 8000) (by omega)).mpr hj
  omega)⟩
theorem eu_divmod {a b : Nat} (h : Ev ta σ H (.int (a : Int))) (h2 : Ev tb σ H (.int (b : Int))) (hb : 0 < b) (hb2 : b < 2 ^ 8000) : EvU (tCB rDivmod (tCons ta (tCons tb tNil))) σ H [.int ((a / b : Nat) : Int), .int ((a % b : Nat) : Int)] := fun H1 e Q q =>
  h H1 e _ fun H2 e2 => h2 H2 (e.trans e2) _ fun H3 e3 => ⟨a, b, rfl, divp_small (by omega) (by rw [Int.natAbs_natCast]; exact hb2), fun p hp => q p _ (fresh_back (e2.trans e3) hp) ((e2.trans e3).trans (Ex.new hp)) (by rw [upd_same, Int.natCast_ediv, Int.natCast_emod])⟩
end
end Kit

set_option Elab.async false
set_option linter.all false
set_option maxRecDepth 100000
set_option maxHeartbeats 4000000
namespace Kit
open PySem PySem.Spec PyProof.Rows L2 Evl
section
variable {K : PySem.W.Frag} {σ : L2.St} {H : Hp} {ta tb te tl : TE} {D : Ends} {tu tz : TS} {t : TT}
/-- for i in reversed(range(n)) -/
theorem s_forRev {j n : Nat} (h : Ev ta σ H (.int (n : Int))) (hn : n ≤ 40000) (Pv : Nat → L2.St → Hp → Prop) (h0 : ∀ H1, Ex H H1 → Pv 0 σ H1)
    (hs : ∀ (i : Nat) σ' H', i < n → Pv i σ' H' → tu { D with nx := Pv (i + 1), ct := Pv (i + 1), bk := D.nx } (σ'.set j (some (.int ((n - 1 - i : Nat) : Int)))) H') (hd : ∀ σ' H', Pv n σ' H' → D.nx σ' H') : tFor (iRevR (tRg1 ta)) (gName j) tu D σ H :=
  h H (Ex.refl H) _ fun H1 e => ⟨n, rfl, by
    have e0 : ((n : Int) - 0).toNat = n := by omega
    refine ⟨by omega, by omega, by omega, by omega, ?_⟩
    rw [e0]
    exact for_rangeC Pv (h0 H1 e) (fun i σ' H' hi p => by
      have e1 : (0 : Int) + (n : Int) - 1 + (i : Nat) * (-1) = ((n - 1 - i : Nat) : Int) := by omega
      rw [e1]
      exact hs i σ' H' hi p) hd⟩
theorem q_forRev {j n : Nat} (h : Ev ta σ H (.int (n : Int))) (hn : n ≤ 40000) (Pv : Nat → L2.St → Hp → Prop) (h0 : ∀ H1, Ex H H1 → Pv 0 σ H1)
    (hs : ∀ (i : Nat) σ' H', i < n → Pv i σ' H' → tu { D with nx := Pv (i + 1), ct := Pv (i + 1), bk := tz D } (σ'.set j (some (.int ((n - 1 - i : Nat) : Int)))) H') (hd : ∀ σ' H', Pv n σ' H' → tz D σ' H') : tSeq (tFor (iRevR (tRg1 ta)) (gName j) tu) tz D σ H := s_forRev (D := { D with nx := tz D }) h hn Pv h0 hs hd
/-- [a new tuple for i in range(lo, n)] -/
theorem elt_R2 {ta : TA} {j : Nat} {vs : List Nat} {lo n : Int} (f : Nat → List V) (h : EvA ta σ H [.int lo, .int n]) (hn : 0 ≤ lo ∧ lo ≤ 40000 ∧ -40000 ≤ n ∧ n ≤ 40000) (hw : ∀ x, wipe ((wipe σ vs).set j (some x)) vs = wipe σ vs)
    (he : ∀ (i : Nat) H1, Ex H H1 → lo + (i : Int) < n → EvU te ((wipe σ vs).set j (some (.int (lo + (i : Int))))) H1 (f i)) : EvLT (tLc (iRng2 ta) (gName j) tYes te vs) σ H ((List.range (n - lo).toNat).map f) := fun H0 e Q q => h H0 e _ fun H1 e1 => ⟨lo, n, rfl, ⟨by omega, by omega, by omega, by omega⟩, fun Dl hD =>
  lc_range (lo := lo) (n := (n - lo).toNat) (fun i H' => Ex H1 H' ∧ ∃ ws, H' Dl = some (.lst ws) ∧ TL H' ws ((List.range i).map f)) ⟨Ex.new hD, [], upd_same, .nil⟩ (fun i H' hi p => by
    obtain ⟨p1, ws, p2, p3⟩ := p
    show wipe ((wipe σ vs).set j (some (.int (lo + (i : Int))))) vs = wipe σ vs ∧ te ((wipe σ vs).set j (some (.int (lo + (i : Int))))) H' fun y H4 => ∃ acc, H4 Dl = some (.lst acc) ∧ acc.length < sizeLine ∧ _
    refine ⟨hw _, he i H1 (e.trans e1) (by omega) H' p1 _ fun p H4 hp e4 h4 => ⟨ws, e4 Dl _ p2, sz_lt (by
      have := p3.len
      simp at this
      omega), Ex.mut (p1.trans e4) hD, ws ++ [.ref p], upd_same, ?_⟩⟩
    rw [List.range_succ, List.map_append]
    exact ((p3.ex e4).app ⟨p, rfl, h4⟩).upd (e4 Dl _ p2)) (fun H' p => by
      obtain ⟨p1, ws, p2, p3⟩ := p
      exact q Dl ws H' (fresh_back e1 hD) (e1.trans p1) p2 p3)⟩
end
end Kit

set_option Elab.async false
set_option linter.all false
set_option maxRecDepth 100000
set_option maxHeartbeats 4000000
namespace Kit
open PySem PySem.Spec PyProof.Rows L2 Evl
/-! ### choosing -/
def cho : Nat → Nat → Nat
  | _, 0 => 1
  | 0, _ + 1 => 0
  | n + 1, k + 1 => cho n k + cho n (k + 1)
theorem fac_zero : fac 0 = 1 := rfl
theorem cho_zero (n : Nat) : cho n 0 = 1 := by cases n <;> rfl
theorem cho_gt : ∀ {n k : Nat}, n < k → cho n k = 0
  | 0, _ + 1, _ => rfl
  | n + 1, k + 1, h => by
    show cho n k + cho n (k + 1) = 0
    rw [cho_gt (by omega : n < k), cho_gt (by omega : n < k + 1)]
theorem cho_self : ∀ n : Nat, cho n n = 1
  | 0 => rfl
  | n + 1 => by
    show cho n n + cho n (n + 1) = 1
    rw [cho_self n, cho_gt (Nat.lt_succ_self n)]
theorem cho_next : ∀ n k : Nat, cho n (k + 1) * (k + 1) = cho n k * (n - k)
  | 0, k => by
    rw [Nat.zero_sub, Nat.mul_zero]
    show 0 * (k + 1) = 0
    rw [Nat.zero_mul]
  | n + 1, 0 => by
    have a := cho_next n 0
    show (cho n 0 + cho n 1) * (0 + 1) = cho (n + 1) 0 * (n + 1 - 0)
    rw [cho_zero, cho_zero] at *
    simp only [Nat.zero_add, Nat.mul_one, Nat.sub_zero, Nat.one_mul] at *
    omega
  | n + 1, k + 1 => by
    have a := cho_next n (k + 1)
    have b := cho_next n k
    show (cho n (k + 1) + cho n (k + 2)) * (k + 1 + 1) = (cho n k + cho n (k + 1)) * (n + 1 - (k + 1))
    rcases Nat.lt_or_ge k n with h | h
    · obtain ⟨d, rfl⟩ : ∃ d, n = k + 1 + d := ⟨n - (k + 1), by omega⟩
      rw [show k + 1 + d - (k + 1) = d by omega] at a
      rw [show k + 1 + d - k = d + 1 by omega] at b
      rw [show k + 1 + d + 1 - (k + 1) = d + 1 by omega]
      generalize cho (k + 1 + d) (k + 1) = x at *
      generalize cho (k + 1 + d) k = y at *
      generalize cho (k + 1 + d) (k + 1 + 1) = z at *
      grind
    · rw [show n + 1 - (k + 1) = 0 by omega, cho_gt (by omega : n < k + 1), cho_gt (by omega : n < k + 2)]
      simp
/-- k of n: n! = C(n, k) k! (n - k)! -/
theorem cho_fac : ∀ {n k : Nat}, k ≤ n → cho n k * (fac k * fac (n - k)) = fac n
  | n, 0, _ => by
    rw [cho_zero, Nat.sub_zero]
    rw [fac_zero]
    omega
  | n, k + 1, h => by
    have ih := cho_fac (n := n) (k := k) (by omega)
    have a := cho_next n k
    rw [show n - k = (n - (k + 1)) + 1 by omega, fac_succ] at ih
    rw [show n - k = n - (k + 1) + 1 by omega] at a
    rw [fac_succ]
    generalize fac (n - (k + 1)) = y at *
    generalize fac n = v at *
    generalize cho n (k + 1) = z at *
    generalize cho n k = x at *
    generalize fac k = u at *
    generalize n - (k + 1) = d at *
    have e : z * (u * (k + 1) * y) = z * (k + 1) * (u * y) := by grind
    rw [e, a, ← ih]
    grind
theorem cho_pos {n k : Nat} (h : k ≤ n) : 1 ≤ cho n k := by
  have a := cho_fac h
  have b := fac_pos n
  rcases Nat.eq_zero_or_pos (cho n k) with z | z
  · rw [z, Nat.zero_mul] at a
    omega
  · exact z
theorem cho_le : ∀ n k : Nat, cho n k ≤ 2 ^ n
  | n, 0 => by rw [cho_zero]; exact Nat.one_le_two_pow
  | 0, _ + 1 => Nat.zero_le _
  | n + 1, k + 1 => by
    have a := cho_le n k
    have b := cho_le n (k + 1)
    rw [Nat.pow_succ]
    show cho n k + cho n (k + 1) ≤ _
    omega
theorem fp_fac (n : Nat) : ∀ k : Nat, k ≤ n → Builtin.Math.fallingProduct (n : Int) k * (fac (n - k) : Int) = (fac n : Int)
  | 0, _ => by
    rw [PySem.W.mc_fp_zero, Nat.sub_zero, Int.one_mul]
  | k + 1, h => by
    have ih := fp_fac n k (by omega)
    rw [show n - k = n - (k + 1) + 1 by omega, fac_succ] at ih
    rw [PySem.W.mc_fp_succ, ← ih, show (n : Int) - (k : Int) = ((n - (k + 1) + 1 : Nat) : Int) by omega]
    push_cast
    generalize (fac (n - (k + 1)) : Int) = x
    generalize Builtin.Math.fallingProduct (n : Int) k = y
    grind
theorem fp_self (n : Nat) : Builtin.Math.fallingProduct (n : Int) n = (fac n : Int) := by
  have := fp_fac n n (Nat.le_refl _)
  rw [Nat.sub_self, fac_zero] at this
  simpa using this
theorem cho_sym {n k : Nat} (h : k ≤ n) : cho n k = cho n (n - k) := by
  have a := cho_fac h
  have b := cho_fac (n := n) (k := n - k) (by omega)
  rw [show n - (n - k) = k by omega, Nat.mul_comm (fac (n - k))] at b
  have p : 0 < fac k * fac (n - k) := Nat.mul_pos (fac_pos _) (fac_pos _)
  exact Nat.eq_of_mul_eq_mul_right p (a.trans b.symm)
theorem comb_cho (n k : Nat) : PySem.W.mcComb (n : Int) (k : Int) = (cho n k : Int) := by
  by_cases h : k ≤ n
  · have key : ∀ m : Nat, m ≤ n → Builtin.Math.fallingProduct (n : Int) m / Builtin.Math.fallingProduct (m : Int) m = (cho n m : Int) := fun m hm => by
      have a := fp_fac n m hm
      have b := cho_fac hm
      have f := fac_pos m
      have g := fac_pos (n - m)
      rw [fp_self]
      have e : Builtin.Math.fallingProduct (n : Int) m = (cho n m : Int) * (fac m : Int) := by
        refine Int.eq_of_mul_eq_mul_right (a := (fac (n - m) : Int)) (by omega) ?_
        rw [a, ← b]
        push_cast
        grind
      rw [e]
      exact Int.mul_ediv_cancel _ (by omega)
    rw [PySem.W.mcComb_at (m := ((min k (n - k) : Nat) : Int)) (by omega) (by omega) (by omega), Int.toNat_natCast, key _ (by omega)]
    rcases Nat.le_total k (n - k) with q | q
    · rw [Nat.min_eq_left q]
    · rw [Nat.min_eq_right q, ← cho_sym h]
  · rw [PySem.W.mcComb_above (by omega), cho_gt (by omega)]
    rfl
def prm (n k : Nat) : Int := PySem.W.mcPerm (n : Int) (k : Int)
theorem prm_fac {n k : Nat} (h : k ≤ n) : prm n k * (fac (n - k) : Int) = (fac n : Int) := by
  unfold prm
  rw [PySem.W.mcPerm_at (by omega), Int.toNat_natCast]
  exact fp_fac n k h
theorem prm_pos {n k : Nat} (h : k ≤ n) : 1 ≤ prm n k := PySem.W.mcPerm_pos (by omega) (by omega)
def rComb : List V → Hp → VK → Prop := fun vs H Q => ∃ n k : Nat, vs = [.int (n : Int), .int (k : Int)] ∧ n ≤ 10000 ∧ Q (.int (cho n k : Int)) H
def rPerm : List V → Hp → VK → Prop := fun vs H Q => ∃ n k : Nat, vs = [.int (n : Int), .int (k : Int)] ∧ n ≤ 10000 ∧ k ≤ 10000 ∧ Q (.int (prm n k)) H
section
variable {X : Cx}
theorem cr_comb : CallR X (.builtin "math.comb") rComb := by
  intro pins s σ H vs us Q I r h
  obtain ⟨n, k, rfl, hn, q⟩ := h
  cases r with
  | cons ru r2 =>
    cases r2 with
    | cons rv rt =>
      cases rt
      obtain ⟨t, rfl⟩ := ru
      obtain ⟨u, rfl⟩ := rv
      refine PySem.W.mc_comb_v (Int.natCast_nonneg n) (Int.natCast_nonneg k) (by omega) (by omega) (comb_cho n k) ?_
      exact ⟨.int _, H, I.tok _, ⟨_, rfl⟩, q⟩
theorem cr_perm : CallR X (.builtin "math.perm") rPerm := by
  intro pins s σ H vs us Q I r h
  obtain ⟨n, k, rfl, hn, hk, q⟩ := h
  cases r with
  | cons ru r2 =>
    cases r2 with
    | cons rv rt =>
      cases rt
      obtain ⟨t, rfl⟩ := ru
      obtain ⟨u, rfl⟩ := rv
      refine PySem.W.mc_perm_v (Int.natCast_nonneg n) (Int.natCast_nonneg k) (by omega) (by omega) rfl ?_
      exact ⟨.int _, H, I.tok _, ⟨_, rfl⟩, q⟩
end
section
variable {K : PySem.W.Frag} {σ : L2.St} {H : Hp} {ta tb te tl : TE} {D : Ends} {tu tz : TS}
theorem ev_comb {n k : Nat} (h : Ev ta σ H (.int (n : Int))) (h2 : Ev tb σ H (.int (k : Int))) (hn : n ≤ 10000) : Ev (tCB rComb (tCons ta (tCons tb tNil))) σ H (.int (cho n k : Int)) := fun H1 e Q q => h H1 e _ fun H2 e2 => h2 H2 (e.trans e2) _ fun H3 e3 => ⟨n, k, rfl, hn, q H3 (e2.trans e3)⟩
theorem ev_perm {n k : Nat} (h : Ev ta σ H (.int (n : Int))) (h2 : Ev tb σ H (.int (k : Int))) (hn : n ≤ 10000) (hk : k ≤ 10000) : Ev (tCB rPerm (tCons ta (tCons tb tNil))) σ H (.int (prm n k)) := fun H1 e Q q => h H1 e _ fun H2 e2 => h2 H2 (e.trans e2) _ fun H3 e3 => ⟨n, k, rfl, hn, hk, q H3 (e2.trans e3)⟩
/-- for x, y in zip(xs, ys): the pair is a new tuple -/
theorem s_forZip {ta : TA} {i j n : Nat} {a b : Addr} {xs ys : List V} (h : EvA ta σ H [.ref a, .ref b]) (hx : SqL K H a xs) (hy : SqL K H b ys) (hn : n = min xs.length ys.length) (Pv : Nat → L2.St → Hp → Prop) (h0 : ∀ H1, Ex H H1 → Pv 0 σ H1) (hl : ∀ k σ' H', k ≤ n → Pv k σ' H' → SqL K H' a xs ∧ SqL K H' b ys)
    (hs : ∀ k x y σ' H' H2, xs[k]? = some x → ys[k]? = some y → Pv k σ' H' → Ex H' H2 → tu { D with nx := Pv (k + 1), ct := Pv (k + 1), bk := D.nx } ((σ'.set i (some x)).set j (some y)) H2) (hd : ∀ σ' H', Pv n σ' H' → D.nx σ' H') :
    tFor (iZip K ta) (gTup K 2 (gCons (gName i) (gCons (gName j) gNil))) tu D σ H := h H (Ex.refl H) _ fun H1 e => ⟨a, b, xs, ys, rfl, ex_l e hx, ex_l e hy, by
  refine for_it (walk_zip (n := n) hn) Pv (h0 H1 e) (fun k σ' H' hk p => hl k σ' H' hk p) ?_ hd
  rintro k v σ' Hh H2 hk p ⟨T, x, y, rfl, nT, rfl, g1, g2⟩
  exact ⟨T, [x, y], rfl, st_of upd_same, rfl, x, [y], rfl, y, [], rfl, rfl, hs k x y σ' Hh _ g1 g2 p (Ex.new nT)⟩⟩
theorem q_forZip {ta : TA} {i j n : Nat} {a b : Addr} {xs ys : List V} (h : EvA ta σ H [.ref a, .ref b]) (hx : SqL K H a xs) (hy : SqL K H b ys) (hn : n = min xs.length ys.length) (Pv : Nat → L2.St → Hp → Prop) (h0 : ∀ H1, Ex H H1 → Pv 0 σ H1) (hl : ∀ k σ' H', k ≤ n → Pv k σ' H' → SqL K H' a xs ∧ SqL K H' b ys)
    (hs : ∀ k x y σ' H' H2, xs[k]? = some x → ys[k]? = some y → Pv k σ' H' → Ex H' H2 → tu { D with nx := Pv (k + 1), ct := Pv (k + 1), bk := tz D } ((σ'.set i (some x)).set j (some y)) H2) (hd : ∀ σ' H', Pv n σ' H' → tz D σ' H') :
    tSeq (tFor (iZip K ta) (gTup K 2 (gCons (gName i) (gCons (gName j) gNil))) tu) tz D σ H := s_forZip (D := { D with nx := tz D }) h hx hy hn Pv h0 hl hs hd
/-- [e for x, y in zip(xs, ys)], xs an old list, ys a new one -/
theorem el_zipO {i j : Nat} {vs : List Nat} {a : Addr} {xs ys : List V} (F : V → V → V) (h : Ev ta σ H (.ref a)) (hx : SqL K H a xs) (h2 : EvL tb σ H ys) (hl : xs.length = ys.length) (hz : xs.length ≤ 40000) (hw : ∀ x y, wipe (((wipe σ vs).set i (some x)).set j (some y)) vs = wipe σ vs)
    (he : ∀ (n : Nat) x y H1, Ex H H1 → xs[n]? = some x → ys[n]? = some y → Ev te (((wipe σ vs).set i (some x)).set j (some y)) H1 (F x y)) :
    EvL (tLc (iZip K (tCons ta (tCons tb tNil))) (gTup K 2 (gCons (gName i) (gCons (gName j) gNil))) tYes te vs) σ H (List.zipWith F xs ys) := fun H0 e Q q =>
  h H0 e _ fun H1 e1 => h2 H1 (e.trans e1) _ fun b H2 nb e2 hb => by
    have := el_zip (K := K) (H := H2) (ta := fun _ H' R => R [.ref a, .ref b] H') (te := te) (vs := vs) F (fun H3 _ Q q => q H3 (Ex.refl _)) (ex_l (e.trans (e1.trans e2)) hx) (sq_of hb) hl hz hw fun n x y H3 e3 g1 g2 => he n x y H3 (e.trans (e1.trans (e2.trans e3))) g1 g2
    exact this H2 (Ex.refl _) Q fun p H3 hp e3 h3 => q p H3 (fresh_back (e1.trans e2) hp) (e1.trans (e2.trans e3)) h3
end
end Kit

set_option Elab.async false
set_option linter.all false
set_option maxRecDepth 100000
set_option maxHeartbeats 4000000
namespace Kit
open PySem PySem.Spec PyProof.Rows L2 Evl
/-! ### data that is laid in the heap, by its depth -/
inductive Flat : V → PyData → Prop
  | non : Flat .non .none
  | bl (b : Bool) : Flat (.bl b) (.bool b)
  | int (i : Int) : Flat (.int i) (.int i)
  | str (x : Str) (ok : PyData.strOk x = true) : Flat (.str x) (.str x)
def Tk : Nat → Hp → V → PyData → Prop
  | 0, _, v, d => Flat v d
  | n + 1, H, v, d => Flat v d ∨ (∃ a xs ds, v = .ref a ∧ d = .list ds ∧ H a = some (.lst xs) ∧ xs.length ≤ 40000 ∧ Paired (Tk n H) xs ds) ∨ (∃ a xs ds, v = .ref a ∧ d = .tuple ds ∧ H a = some (.tup xs) ∧ xs.length ≤ 40000 ∧ Paired (Tk n H) xs ds)
theorem Tk.flat {v : V} {d : PyData} (h : Flat v d) : ∀ {n : Nat} {H : Hp}, Tk n H v d
  | 0, _ => h
  | _ + 1, _ => .inl h
theorem tk_imp {A B : V → PyData → Prop} (f : ∀ v d, A v d → B v d) : ∀ {xs : List V} {ds : List PyData}, Paired A xs ds → Paired B xs ds
  | _, _, .nil => .nil
  | _, _, .cons h t => .cons (f _ _ h) (tk_imp f t)
theorem Tk.ex {H H' : Hp} (e : Ex H H') : ∀ {n : Nat} {v : V} {d : PyData}, Tk n H v d → Tk n H' v d
  | 0, _, _, h => h
  | _ + 1, _, _, .inl h => .inl h
  | _ + 1, _, _, .inr (.inl ⟨a, xs, ds, h1, h2, h3, hz, h4⟩) => .inr (.inl ⟨a, xs, ds, h1, h2, e a _ h3, hz, tk_imp (fun _ _ => Tk.ex e) h4⟩)
  | _ + 1, _, _, .inr (.inr ⟨a, xs, ds, h1, h2, h3, hz, h4⟩) => .inr (.inr ⟨a, xs, ds, h1, h2, e a _ h3, hz, tk_imp (fun _ _ => Tk.ex e) h4⟩)
theorem Tk.mono {H : Hp} : ∀ {n m : Nat} {v : V} {d : PyData}, n ≤ m → Tk n H v d → Tk m H v d
  | 0, _, _, _, _, h => Tk.flat h
  | _ + 1, 0, _, _, e, _ => absurd e (by omega)
  | _ + 1, _ + 1, _, _, _, .inl h => .inl h
  | _ + 1, _ + 1, _, _, e, .inr (.inl ⟨a, xs, ds, h1, h2, h3, hz, h4⟩) => .inr (.inl ⟨a, xs, ds, h1, h2, h3, hz, tk_imp (fun _ _ => Tk.mono (by omega)) h4⟩)
  | _ + 1, _ + 1, _, _, e, .inr (.inr ⟨a, xs, ds, h1, h2, h3, hz, h4⟩) => .inr (.inr ⟨a, xs, ds, h1, h2, h3, hz, tk_imp (fun _ _ => Tk.mono (by omega)) h4⟩)
theorem tk_int {n : Nat} {H : Hp} (i : Int) : Tk n H (.int i) (.int i) := .flat (.int i)
theorem tk_ints {n : Nat} {H : Hp} : ∀ ns : List Int, Paired (Tk n H) (ns.map V.int) (ns.map PyData.int)
  | [] => .nil
  | i :: r => .cons (tk_int i) (tk_ints r)
theorem tk_lst {n : Nat} {H : Hp} {a : Addr} {xs : List V} {ds : List PyData} (h : H a = some (.lst xs)) (hd : Paired (Tk n H) xs ds) (hz : ds.length ≤ 40000) : Tk (n + 1) H (.ref a) (.list ds) := .inr (.inl ⟨a, xs, ds, rfl, rfl, h, by rw [Paired.length hd]; exact hz, hd⟩)
theorem tk_tup {n : Nat} {H : Hp} {a : Addr} {xs : List V} {ds : List PyData} (h : H a = some (.tup xs)) (hd : Paired (Tk n H) xs ds) (hz : ds.length ≤ 40000) : Tk (n + 1) H (.ref a) (.tuple ds) := .inr (.inr ⟨a, xs, ds, rfl, rfl, h, by rw [Paired.length hd]; exact hz, hd⟩)
theorem flat_dp {K : PySem.W.Frag} {H : Hp} {v : V} {d : PyData} (h : Flat v d) : Dp K H v d := by
  cases h with
  | non => exact .non
  | bl b => exact .bl b
  | int i => exact .int i
  | str x _ => exact .str x
def isSeq : PyData → Bool
  | .list _ => true
  | .tuple _ => true
  | _ => false
def isLs : PyData → Bool
  | .list _ => true
  | _ => false
def isIt : PyData → Bool
  | .int _ => true
  | .bool _ => true
  | _ => false
def isBo : PyData → Bool
  | .bool _ => true
  | _ => false
def isSt : PyData → Bool
  | .str _ => true
  | _ => false
section
variable {K : PySem.W.Frag} {σ : L2.St} {H H' : Hp} {ta tb te : TE} {n : Nat} {v : V} {d : PyData}
theorem tk_kind {f : PyData → Bool} {g : Value → Option Bool} (h : Tk n H v d) (non : g (.type "NoneType") = some (f .none)) (bl : ∀ b, g (.type "bool") = some (f (.bool b))) (it : ∀ i, g (.type "int") = some (f (.int i))) (st : ∀ i, g (.type "str") = some (f (.str i)))
    (ls : ∀ ds, g (.type "list") = some (f (.list ds))) (tu : ∀ ds, g (.type "tuple") = some (f (.tuple ds))) : ∃ t, TyX K H v t ∧ g t = some (f d) := by
  have fl : Flat v d → ∃ t, TyX K H v t ∧ g t = some (f d) := fun h => by
    cases h with
    | non => exact ⟨_, .base .non, non⟩
    | bl b => exact ⟨_, .base (.bl b), bl b⟩
    | int i => exact ⟨_, .base (.int i), it i⟩
    | str x _ => exact ⟨_, .base (.str x), st x⟩
  match n, h with
  | 0, h => exact fl h
  | _ + 1, .inl h => exact fl h
  | _ + 1, .inr (.inl ⟨a, xs, ds, h1, h2, h3, hz, h4⟩) =>
    subst h1 h2
    exact ⟨_, .base (.lst h3), ls ds⟩
  | _ + 1, .inr (.inr ⟨a, xs, ds, h1, h2, h3, hz, h4⟩) =>
    subst h1 h2
    exact ⟨_, .base (.tup h3), tu ds⟩
theorem ev_isOne {T : String} {f : PyData → Bool} (h : Ev ta σ H v) (hv : Tk n H v d) (non : PySem.W.kitOne K (.type "NoneType") (.type T) = some (f .none)) (bl : ∀ b, PySem.W.kitOne K (.type "bool") (.type T) = some (f (.bool b))) (it : ∀ i, PySem.W.kitOne K (.type "int") (.type T) = some (f (.int i))) (st : ∀ i, PySem.W.kitOne K (.type "str") (.type T) = some (f (.str i)))
    (ls : ∀ ds, PySem.W.kitOne K (.type "list") (.type T) = some (f (.list ds))) (tu : ∀ ds, PySem.W.kitOne K (.type "tuple") (.type T) = some (f (.tuple ds))) : Ev (tCB (rIsi K) (tCons ta (tCons (tC (.ty T)) tNil))) σ H (.bl (f d)) := fun H1 e Q q => h H1 e _ fun H2 e2 => by
  obtain ⟨t, ty, k⟩ := tk_kind (K := K) (f := f) (g := fun t => PySem.W.kitOne K t (.type T)) (hv.ex (e.trans e2)) non bl it st ls tu
  exact ⟨v, .ty T, t, .type T, _, rfl, .ty T, ty, k, q H2 e2⟩
theorem ev_isLs (h : Ev ta σ H v) (hv : Tk n H v d) : Ev (tCB (rIsi K) (tCons ta (tCons (tC (.ty "list")) tNil))) σ H (.bl (isLs d)) := ev_isOne (f := isLs) h hv rfl (fun _ => rfl) (fun _ => rfl) (fun _ => rfl) (fun _ => rfl) (fun _ => rfl)
theorem ev_isIt (h : Ev ta σ H v) (hv : Tk n H v d) : Ev (tCB (rIsi K) (tCons ta (tCons (tC (.ty "int")) tNil))) σ H (.bl (isIt d)) := ev_isOne (f := isIt) h hv rfl (fun _ => rfl) (fun _ => rfl) (fun _ => rfl) (fun _ => rfl) (fun _ => rfl)
theorem ev_isBo (h : Ev ta σ H v) (hv : Tk n H v d) : Ev (tCB (rIsi K) (tCons ta (tCons (tC (.ty "bool")) tNil))) σ H (.bl (isBo d)) := ev_isOne (f := isBo) h hv rfl (fun _ => rfl) (fun _ => rfl) (fun _ => rfl) (fun _ => rfl) (fun _ => rfl)
theorem ev_isSt (h : Ev ta σ H v) (hv : Tk n H v d) : Ev (tCB (rIsi K) (tCons ta (tCons (tC (.ty "str")) tNil))) σ H (.bl (isSt d)) := ev_isOne (f := isSt) h hv rfl (fun _ => rfl) (fun _ => rfl) (fun _ => rfl) (fun _ => rfl) (fun _ => rfl)
theorem ev_isSeq (h : Ev ta σ H v) (hv : Tk n H v d) : Ev (tCB (rIsiT K) (tCons ta (tCons (tTup (tCons (tC (.ty "list")) (tCons (tC (.ty "tuple")) tNil))) tNil))) σ H (.bl (isSeq d)) := fun H1 e Q q => h H1 e _ fun H2 e2 =>
  (eu_tup (ea_cons (x := .ty "list") ev_c (ea_cons (x := .ty "tuple") ev_c ea_nil)) (Nat.le_of_ble_eq_true rfl)) H2 (Ex.refl _) _ fun p H3 _ e3 h3 => by
    obtain ⟨t, ty, k⟩ := tk_kind (K := K) (f := isSeq) (g := fun t => PySem.W.kitAny K t [.type "list", .type "tuple"]) (hv.ex (e.trans (e2.trans e3))) rfl (fun _ => rfl) (fun _ => rfl) (fun _ => rfl) (fun _ => rfl) (fun _ => rfl)
    exact ⟨v, p, _, t, [.type "list", .type "tuple"], _, rfl, h3, .cons (.ty _) (.cons (.ty _) .nil), ty, k, q H3 (e2.trans e3)⟩
theorem tk_flat (h : Tk n H v d) (hs : isSeq d = false) : Flat v d := by
  match n, h with
  | 0, h => exact h
  | _ + 1, .inl h => exact h
  | _ + 1, .inr (.inl ⟨_, _, _, _, h2, _⟩) =>
    subst h2
    cases hs
  | _ + 1, .inr (.inr ⟨_, _, _, _, h2, _⟩) =>
    subst h2
    cases hs
theorem tk_seq (h : Tk n H v d) (hs : isSeq d = true) : ∃ m, n = m + 1 ∧ ((∃ a xs ds, v = .ref a ∧ d = .list ds ∧ H a = some (.lst xs) ∧ xs.length ≤ 40000 ∧ Paired (Tk m H) xs ds) ∨ (∃ a xs ds, v = .ref a ∧ d = .tuple ds ∧ H a = some (.tup xs) ∧ xs.length ≤ 40000 ∧ Paired (Tk m H) xs ds)) := by
  have no : Flat v d → False := fun f => by cases f <;> cases hs
  match n, h with
  | 0, h => exact (no h).elim
  | _ + 1, .inl h => exact (no h).elim
  | m + 1, .inr h => exact ⟨m, rfl, h⟩
theorem rv_ixQL {a : Addr} {xs : List V} {i : Int} {x : V} (s : SqL K H a xs) (h : atI xs i = some x) : RV (rIx K) (.ref a) (.int i) H x := fun H1 e Q q => .inl (rv_ixL s h H1 e Q q)
theorem rv_ixQT {a : Addr} {xs : List V} {i : Int} {x : V} (s : SqT K H a xs) (h : atI xs i = some x) : RV (rIx K) (.ref a) (.int i) H x := fun H1 e Q q => .inr (.inl (rv_ixT s h H1 e Q q))
/-! ### expressions that give such data -/
def EvK (n : Nat) (te : TE) (σ : L2.St) (H : Hp) (d : PyData) : Prop := ∀ H1, Ex H H1 → ∀ Q : VK, (∀ v H2, Ex H1 H2 → Tk n H2 v d → Q v H2) → te σ H1 Q
def EvKA (n : Nat) (ta : TA) (σ : L2.St) (H : Hp) (ds : List PyData) : Prop := ∀ H1, Ex H H1 → ∀ Q : List V → Hp → Prop, (∀ vs H2, Ex H1 H2 → Paired (Tk n H2) vs ds → Q vs H2) → ta σ H1 Q
variable {t tr : TA} {ds : List PyData}
theorem ek_of (h : Ev te σ H v) (k : Tk n H v d) : EvK n te σ H d := fun H1 e Q q => h H1 e Q fun H2 e2 => q v H2 e2 (k.ex (e.trans e2))
theorem ek_int {i : Int} (h : Ev te σ H (.int i)) : EvK n te σ H (.int i) := ek_of h (tk_int i)
theorem ek_bl {b : Bool} (h : Ev te σ H (.bl b)) : EvK n te σ H (.bool b) := ek_of h (.flat (.bl b))
theorem ek_non (h : Ev te σ H .non) : EvK n te σ H .none := ek_of h (.flat .non)
theorem ek_str {x : Str} (h : Ev te σ H (.str x)) (ok : PyData.strOk x = true) : EvK n te σ H (.str x) := ek_of h (.flat (.str x ok))
theorem ek_mono {m : Nat} (h : EvK n te σ H d) (e : n ≤ m) : EvK m te σ H d := fun H1 a Q q => h H1 a Q fun v H2 e2 k => q v H2 e2 (k.mono e)
theorem ek_is {e : PyData} (h : EvK n te σ H d) (q : d = e) : EvK n te σ H e := q ▸ h
theorem paired_len {A : V → PyData → Prop} {xs : List V} (h : Paired A xs ds) : xs.length = ds.length := Paired.length h
theorem eka_nil : EvKA n tNil σ H [] := fun H1 _ _ q => q [] H1 (Ex.refl H1) .nil
theorem eka_cons (h : EvK n te σ H d) (hr : EvKA n tr σ H ds) : EvKA n (tCons te tr) σ H (d :: ds) := fun H1 e _ q =>
  h H1 e _ fun v H2 e2 dv => hr H2 (e.trans e2) _ fun vs H3 e3 dvs => q (v :: vs) H3 (e2.trans e3) (.cons (dv.ex e3) dvs)
theorem ek_lst (h : EvKA n t σ H ds) (hl : ds.length ≤ 40000) : EvK (n + 1) (tLst t) σ H (.list ds) := fun H1 e Q q =>
  h H1 e _ fun vs H2 e2 dv => ⟨sz_of (by rw [paired_len dv]; omega), fun p hp => q _ _ (e2.trans (Ex.new hp)) (tk_lst upd_same (tk_imp (fun _ _ => Tk.ex (Ex.new hp)) dv) hl)⟩
theorem ek_tup (h : EvKA n t σ H ds) (hl : ds.length ≤ 40000) : EvK (n + 1) (tTup t) σ H (.tuple ds) := fun H1 e Q q =>
  h H1 e _ fun vs H2 e2 dv => ⟨sz_of (by rw [paired_len dv]; omega), fun p hp => q _ _ (e2.trans (Ex.new hp)) (tk_tup upd_same (tk_imp (fun _ _ => Tk.ex (Ex.new hp)) dv) hl)⟩
theorem ek_L {xs : List V} (h : EvL te σ H xs) (k : Paired (Tk n H) xs ds) (hz : ds.length ≤ 40000) : EvK (n + 1) te σ H (.list ds) := fun H1 e Q q => h H1 e Q fun p H2 _ e2 h2 => q _ H2 e2 (tk_lst h2 (tk_imp (fun _ _ => Tk.ex (e.trans e2)) k) hz)
theorem ek_U {xs : List V} (h : EvU te σ H xs) (k : Paired (Tk n H) xs ds) (hz : ds.length ≤ 40000) : EvK (n + 1) te σ H (.tuple ds) := fun H1 e Q q => h H1 e Q fun p H2 _ e2 h2 => q _ H2 e2 (tk_tup h2 (tk_imp (fun _ _ => Tk.ex (e.trans e2)) k) hz)
theorem ek_LI {ns : List Int} (h : EvL te σ H (ns.map V.int)) (hz : ns.length ≤ 40000) : EvK (n + 1) te σ H (.list (ns.map PyData.int)) := ek_L h (tk_ints ns) (by simpa using hz)
theorem ek_UI {ns : List Int} (h : EvU te σ H (ns.map V.int)) (hz : ns.length ≤ 40000) : EvK (n + 1) te σ H (.tuple (ns.map PyData.int)) := ek_U h (tk_ints ns) (by simpa using hz)
theorem s_asgK {D : Ends} {i : Nat} (h : EvK n te σ H d) (k : ∀ v H1, Ex H H1 → Tk n H1 v d → D.nx (σ.set i (some v)) H1) : tAsg te (gName i) D σ H := h H (Ex.refl H) _ k
theorem q_asgK {D : Ends} {tz : TS} {i : Nat} (h : EvK n te σ H d) (k : ∀ v H1, Ex H H1 → Tk n H1 v d → tz D (σ.set i (some v)) H1) : tSeq (tAsg te (gName i)) tz D σ H := h H (Ex.refl H) _ k
end
end Kit

set_option Elab.async false
set_option linter.all false
set_option maxRecDepth 100000
set_option maxHeartbeats 4000000
namespace Kit
open PySem PySem.Spec PyProof.Rows L2 Evl
/-! ### defs that may raise -/
section
variable {P : Program} {w : World} {K : PySem.W.Frag} {mg : Str → Option Value} {base : Heap}
theorem okN {x qual : Str} {d : Stmt} {f : Addr} {fd : FuncData} {N names : List Str} {n : Nat} {want : Sp} (F : Fun K x qual d f fd) (S : FnScope N names (defScope d)) (many : ∀ xs H Q E, want xs H Q E → xs.length = names.length)
    (body : ∀ (cv : Value) (A : Around) (frames : List Env) (st : Shared) (H : Hp) (xs : List V) (Q : VK) (E : XK), Room n (A.deeper (envOfC qual (defScope d) st.heap.objs.size f cv)) → want xs H Q E →
      ∃ t, PSs (cxOf (L2N.CX P w) P w K mg base N qual (defScope d) f cv A frames st H E) (defBody d) t ∧ t { nx := fun _ H' => Q .non H', rt := Q } (start N xs) H) : FnOk P w K mg base (L2N.CX P w) (n + 1) f fd names want := by
  obtain ⟨oc, od, kV, doc, pm, an, cdv, ct, osl, rfl, lk, hcd⟩ := F.ex
  exact fn_of lk hcd S many fun A outer s H vs Q E hr hsp => body cdv A outer s H vs Q E hr hsp
theorem passN {N : List Str} {qual : Str} {sc : Scope} {f : Addr} {cv : Value} {A : Around} {frames : List Env} {st : Shared} {H : Hp} {E : XK} :
    Passes (L2N.CX P w) (cxOf (L2N.CX P w) P w K mg base N qual sc f cv A frames st H E) E := L2N.passes_call (W := fun cls d _ H => E cls d H) (L2N.takes_of rfl rfl rfl rfl) fun _ _ _ _ h => h
theorem passE0 {X : Cx} : Passes (L2N.CX X.prog X.w) X E0 := fun _ _ _ _ _ _ _ h => by
  obtain ⟨_, _, _, _, _, _, _, _, _, _, _, _, z⟩ := h
  exact z.elim
theorem takesN {N : List Str} {qual : Str} {sc : Scope} {f : Addr} {cv : Value} {A : Around} {frames : List Env} {st : Shared} {H : Hp} {E : XK} :
    L2N.Takes (cxOf (L2N.CX P w) P w K mg base N qual sc f cv A frames st H E) (fun cls d _ H => E cls d H) := L2N.takes_of rfl rfl rfl rfl
end
theorem takes0N {X : Cx} : L2N.Takes X.nox (fun _ _ _ _ => False) := fun _ _ x => by
  obtain ⟨_, _, _, _, _, _, _, _, _, _, _, _, _, _, _, _, z⟩ := x
  exact z.elim
/-! ### exceptions made: X(e) -/
theorem pmk1N {X : Cx} {C : Addr} {bmB : List Value} {B newId initId : String} {x : Str} {e : Expr} {ta : TE} {p pos : Pos} (F : ExcBaseFacts B newId initId bmB) (q : PySem.W.excIn X.K C bmB newId = true) (gC : X.mg x = some (.ref C)) (kC : PySem.W.keepIn X.K (.ref C) = true) (r : Raises X (.ref C)) (hg : Gl X x)
    (he : PE X e ta) (hs : starEach [e] X.env = (false, eval e X.env) :: starEach [] X.env := by rfl) (hdb : (x == ("__debug__" : Str)) = false := by decide) :
    L2N.PMk X (.Call (.Name x p) [e] [] pos) (fun σ H Q => ta σ H fun _ H1 => Q (.ref C) none H1) := by
  intro pins st σ H Q J h
  refine wpAny_Call_Name_kw (ld_glob J hg gC (PySem.W.callWith_K (h₀ := X.base) J.ok.mod.kin kC ?_ hs (by rfl)) hdb)
  rw [hs]
  show wpAny _ _ (spliced ((false, eval e X.env) :: backTo pos (starEach [] X.env))) _ _ st
  refine Calls.spliced_cons (thn (he.run pins st σ H _ J h) fun u st1 ⟨v, H1, J1, rv, want⟩ => Calls.spliced_nil ⟨J1.kIn, ?_⟩)
  show wpAny _ _ (call (.ref C) [u]) _ _ _
  obtain ⟨_, _, _, _, _, _, _, _, _, _, _, _, _, _, _, _, _, cls, ns, no, tail⟩ := exc_obj J1.kIn q
  exact wpAny_call_exc_subT F tail cls ns no (fun h2 a made => L2N.mk_of J1 made r want (J1.hok.gone made.new)) (by show 1 ≤ sizeLine; rw [sizeLine_eq]; omega)
/-- what an own class of errors must be -/
def excB (K : PySem.W.Frag) (C : Addr) : Bool := PySem.W.excIn K C [.type "ValueError", .type "Exception", .type "BaseException", .type "object"] "ValueError.__new__" && (PySem.W.keepIn K (.ref C) &&
  (decide (PySem.W.subIn K (.ref C) (.type "BaseException") = some true) && (decide (PySem.W.typeIn K (.ref C) = some (.type "type")) &&
  (decide (PySem.W.findIn K (.ref C) "__getattribute__" = some (some (.builtin "BaseException.__getattribute__"))) && (decide (PySem.W.findIn K (.ref C) "__getattr__" = some none) &&
  (PySem.W.hasDictIn K C && (decide (PySem.W.findIn K (.ref C) "__class__" = some (some (.builtin "object.__class__"))) && (decide (PySem.W.specialIn K (.builtin "object.__class__") "__get__" = some (some (.builtin "getset_descriptor.__get__"))) &&
  (decide (PySem.W.takesIn K (.builtin "object.__class__") = some true) && decide (PySem.W.mroIn K C (.type "object") = some true))))))))))
structure ExcD (K : PySem.W.Frag) (C : Addr) : Prop where
  ein : PySem.W.excIn K C [.type "ValueError", .type "Exception", .type "BaseException", .type "object"] "ValueError.__new__" = true
  kp : PySem.W.keepIn K (.ref C) = true
  sb : PySem.W.subIn K (.ref C) (.type "BaseException") = some true
  ty : PySem.W.typeIn K (.ref C) = some (.type "type")
  is : ExcC K C
theorem excD_of {K : PySem.W.Frag} {C : Addr} (h : excB K C = true) : ExcD K C := by
  obtain ⟨h1, h⟩ := Bool.and_eq_true_iff.mp h
  obtain ⟨h2, h⟩ := Bool.and_eq_true_iff.mp h
  obtain ⟨h3, h⟩ := Bool.and_eq_true_iff.mp h
  obtain ⟨h4, h⟩ := Bool.and_eq_true_iff.mp h
  obtain ⟨h5, h⟩ := Bool.and_eq_true_iff.mp h
  obtain ⟨h6, h⟩ := Bool.and_eq_true_iff.mp h
  obtain ⟨h7, h⟩ := Bool.and_eq_true_iff.mp h
  obtain ⟨h8, h⟩ := Bool.and_eq_true_iff.mp h
  obtain ⟨h9, h⟩ := Bool.and_eq_true_iff.mp h
  obtain ⟨h10, h11⟩ := Bool.and_eq_true_iff.mp h
  exact ⟨h1, h2, of_decide_eq_true h3, of_decide_eq_true h4, ⟨of_decide_eq_true h5, of_decide_eq_true h6, of_decide_eq_true h3, h7, of_decide_eq_true h8, of_decide_eq_true h9, of_decide_eq_true h10, of_decide_eq_true h11⟩⟩
/-- what isinstance says of an error of the class C, class by class -/
def isRow (K : PySem.W.Frag) (C : Addr) (l : List (Value × Bool)) : Bool := l.all fun x => decide (PySem.W.kitOne K (.ref C) x.1 = some x.2)
theorem isRow_at {K : PySem.W.Frag} {C : Addr} {l : List (Value × Bool)} (h : isRow K C l = true) {v : Value} {b : Bool} (m : (v, b) ∈ l) : PySem.W.kitOne K (.ref C) v = some b := of_decide_eq_true (List.all_eq_true.mp h _ m)
/-- raise X(e) -/
theorem ps_raiseN {X : Cx} {C : Addr} {W : WX} {x : Str} {e : Expr} {ta : TE} {p pos pos2 : Pos} (hc : X.calm = true) (tk : L2N.Takes X W) (D : ExcD X.K C) (gC : X.mg x = some (.ref C)) (hg : Gl X x)
    (he : PE X e ta) (hs : starEach [e] X.env = (false, eval e X.env) :: starEach [] X.env := by rfl) (hdb : (x == ("__debug__" : Str)) = false := by decide) :
    PS X (.Raise (some (.Call (.Name x p) [e] [] pos)) none pos2) (fun _ σ H => ta σ H fun _ H1 => W (.ref C) none σ H1) :=
  L2N.ps_raise hc tk (pmk1N PySem.F.excBase_ValueError D.ein gC D.kp (raises_own D.sb D.ty) hg he hs hdb)
/-! ### calls within the suite, the exception handed on -/
structure FnP (P : Program) (w : World) (K : PySem.W.Frag) (mg : Str → Option Value) (base : Heap) (CX : CXT) (k : Nat) (f : Addr) (fd : FuncData) (ps : List Str) (sp : Addr → Value → Option Addr → Sp) : Prop where
  len : ∀ a cls d vs H Q E, sp a cls d vs H Q E → vs.length = ps.length
  run : ∀ (A : Around) (outer : List Env) (s : Shared) (H : Hp) (args : Args) (us : List Value) (vs : List V) (Q : VK) (E : XK) (p : Addr × Obj) (cls : Value) (d : Option Addr), L2H.RoomH k A → L2H.Hot1 A p → Zc cls d p.2 → L2H.PinOk outer H s p → Env0 P w K mg base A outer s H → BindsTo s fd args (ps.zip us) → Vals vs us → sp p.1 cls d vs H Q E →
    codeAny (model P w) A (.call (.ref f) args) (CR CX outer P w H s Q E) s
theorem okP {CX : CXT} {P : Program} {w : World} {K : PySem.W.Frag} {mg : Str → Option Value} {base : Heap} {k : Nat} {f : Addr} {x qual : Str} {d : Stmt} {fd : FuncData} {N ps : List Str} {sp : Addr → Value → Option Addr → Sp} (F : Fun K x qual d f fd) (S : FnScope N ps (defScope d))
    (len : ∀ a cls d vs H Q E, sp a cls d vs H Q E → vs.length = ps.length)
    (hbody : ∀ (cdv : Value) (A : Around) (outer : List Env) (s : Shared) (H : Hp) (vs : List V) (Q : VK) (E : XK) (p : Addr × Obj) (cls : Value) (dd : Option Addr), L2H.Hot1 A p → Zc cls dd p.2 → L2H.RoomH k (A.deeper (envOfC qual (defScope d) s.heap.objs.size f cdv)) → sp p.1 cls dd vs H Q E →
      ∃ t, PSs (L2H.cxH CX P w K mg base N qual (defScope d) f cdv A outer s H E p) (defBody d) t ∧ t { nx := fun _ H' => Q .non H', rt := Q } (L2.start N vs) H) :
    FnP P w K mg base CX (k + 1) f fd ps sp := by
  obtain ⟨oc, od, kV, doc, pm, an, cdv, ct, osl, rfl, lk, hcd⟩ := F.ex
  refine ⟨len, fun A outer s H args us vs Q E p cls dd hr hot hz hpin e0 hb r hsp => ?_⟩
  have size := len _ _ _ _ _ _ _ hsp
  have inK : K.In s.heap := e0.mod.kin.keeps fun b o q => (e0.bs b o q).1
  have noLim : s.heap.NoLimit := e0.mod.nolimit.keeps fun b o q => (e0.bs b o q).1
  have kinds : ∀ y ∈ ps.zip us, (defScope d).names.lookup y.1 = some .local ∨ ((defScope d).names.lookup y.1 = some .cell ∧ ((cellsFrom (s.heap.objs.size + 1) (defScope d).names []).lookup y.1).isSome = true) := by
    rintro ⟨a, b⟩ hy
    exact (S.par a (List.of_mem_zip hy).1).elim .inl fun q => .inr ⟨q, PySem.W.cellsFrom_some _ _ _ (.inl q)⟩
  refine codeAny_call_function hr.depth (inK _ _ lk) rfl S.co S.gen rfl (PySem.W.codeRec_of inK hcd) (hb _ _ _ _ (wpAny_newFunctionEnv_cells S.kind kinds fun env eq st1 made => ?_))
  cases eq
  refine ⟨noLim.keeps made.toInCall.keep, codeAny_func ?_⟩
  obtain ⟨t, rule, done⟩ := hbody cdv A outer s H vs Q E p cls dd hot hz (hr.deeper _) hsp
  have J : Inv (L2H.cxH CX P w K mg base N qual (defScope d) f cdv A outer s H E p) [] (L2.start N vs) H st1 := L2H.inv_startH S hpin e0 size r made
  have back : ∀ {σ' : L2.St} {H' : Hp} {v : V} {u : Value} {st2 : Shared}, Inv (L2H.cxH CX P w K mg base N qual (defScope d) f cdv A outer s H E p) [] σ' H' st2 → RelV v u → Q v H' → CE outer P w H s Q u st2 := fun J2 rv q => ⟨_, _, J2.os, J2.bare, J2.base, J2.hok, rv, q⟩
  refine wpAny_mono (rule.run [] st1 (L2.start N vs) H _ J done) (fun z st2 hs => ?_) fun _ _ hs => hs
  match z, hs with
  | .ret u, ⟨v, σ2, H2, J2, rv, q⟩ => exact back J2 rv q
  | .next, ⟨σ2, H2, J2, q⟩ => exact back (v := V.non) (u := Value.none) J2 rfl q
  | .brk, ⟨_, _, _, q⟩ => exact False.elim q
  | .cont, ⟨_, _, _, q⟩ => exact False.elim q
def tCallP (sp : Addr → Value → Option Addr → Sp) (a : Addr) (cls : Value) (d : Option Addr) (t : TA) : TE := fun σ H Q => t σ H fun vs H1 => sp a cls d vs H1 Q E0
/-- f(e, ..) in the suite of the exception p -/
theorem pe_callP {X : Cx} {k : Nat} {f : Addr} {fd : FuncData} {ps : List Str} {sp : Addr → Value → Option Addr → Sp} {x : Str} {q pos : Pos} {e : Expr} {es : List Expr} {t : TA} {p : Addr × Obj} {cls : Value} {d : Option Addr} (F : FnP X.prog X.w X.K X.mg X.base CX0 k f fd ps sp) (room : L2H.RoomH k X.A) (hot : L2H.Hot1 X.A p) (hz : Zc cls d p.2) (hp : p ∈ X.pn)
    (gl : Gl X x) (at_ : X.mg x = some (.ref f)) (keep : PySem.W.keepIn X.K (.ref f) = true) (bind : Binds X.K fd ps []) (ha : PA X (e :: es) t) (nd : (x == ("__debug__" : Str)) = false := by decide)
    (one : starEach (e :: es) X.env = (false, eval e X.env) :: starEach es X.env := by rfl) (plain : (backTo pos (starEach es X.env)).any (·.1) = false := by rfl) : PE X (.Call (.Name x q) (e :: es) [] pos) (tCallP sp p.1 cls d t) := by
  refine ⟨fun pins st σ H Q J h => wpAny_Call_Name_kw (ld_glob J gl at_ ?_ nd)⟩
  refine PySem.W.callWith_K (h₀ := X.base) J.ok.mod.kin keep (thn (ha.run pos pins st σ H _ J h) fun us st1 ⟨vs, H1, J1, r, want⟩ => ⟨J1.kIn, ?_⟩) one plain
  have size : us.length = ps.length := r.length.symm.trans (F.len _ _ _ _ _ _ _ want)
  have bd := bind st1 us J1.kIn (by rw [List.append_nil]; exact size)
  rw [List.append_nil] at bd
  have P1 := J1.pin p (List.mem_append_left _ hp)
  have pin : L2H.PinOk X.stack H1 st1 p := ⟨P1.1, P1.2.1, fun hm => (List.mem_cons.mp (J1.stkSub p.1 hm)).elim P1.2.2.1 P1.2.2.2.1, P1.2.2.2.2⟩
  refine wpAny_call (codeAny_mono (F.run X.A X.stack st1 H1 ⟨us, []⟩ us vs Q E0 p cls d room hot hz pin J1.env0 bd r want) fun res st2 hq => ?_)
  match res, hq with
  | .error _, hq => exact False.elim hq
  | .ok (.ret _), hq => exact J1.after hq
  | .ok .next, hq => exact False.elim hq
  | .ok .brk, hq => exact False.elim hq
  | .ok .cont, hq => exact False.elim hq
theorem hot_suite {A : Around} {a : Addr} {oe : Obj} {cls : Value} {d : Option Addr} (hz : L2N.Zn cls d oe) (hf : ∃ vs, oe.data = .fields vs) : L2H.Hot1 (A.mark (some (.ref a))) (a, oe) :=
  ⟨rfl, hf.imp fun vs e => ⟨e, hz.2.2 vs e⟩⟩
theorem roomS {A : Around} {x : Option Value} {k : Nat} (r : Room k A) : L2H.RoomH k (A.mark x) := ⟨r.dp, r.un⟩
/-- isinstance(e, c), e the exception p -/
theorem call_isP {X : Cx} {p : Addr × Obj} {D : Addr} (C : ExcD X.K D) (hp : p ∈ X.pn) (hz : Zc (.ref D) none p.2) (hf : ∃ vs, p.2.data = .fields vs) : CallR X (.builtin "isinstance") (rIsE X.K D p.1) := by
  intro pins st σ H xs us Q J r h
  obtain ⟨c, cv, b, rfl, same, e, q⟩ := h
  cases r with
  | cons ra rest =>
    cases rest with
    | cons rc rest =>
      cases rest
      cases ra
      have ec := same _ rc
      subst ec
      obtain ⟨there, _⟩ := J.pin p (List.mem_append_left _ hp)
      obtain ⟨vs, hv⟩ := hf
      have inst : PySem.W.InstAt st.heap p.1 p.2 D none := ⟨there, hz.1, by unfold PySem.W.notCls; rw [hv] <;> rfl, by rw [hz.2]; trivial⟩
      have Z := PySem.W.handS_kitx_exc (x := p.1) (ox := p.2) C.is.hg C.is.hk C.is.hs C.is.hd C.is.ha C.is.hn C.is.ht C.is.hm
      exact PySem.W.kia_one Z J.kIn inst e (fun z => nomatch z) fun tk => ⟨.bl b, H, J.kept (t' := tk) fun _ _ z => z, rfl, q⟩
/-! ### readings -/
/-- what is due: nothing, or an error -/
structure Out (due : Option Addr) (H : Hp) (Q : VK) (E : XK) : Prop where
  no : due = none → ∀ v H1, Ex H H1 → Q v H1
  yes : ∀ C, due = some C → ∀ H1, Ex H H1 → E (.ref C) none H1
section
variable {K : PySem.W.Frag} {σ : L2.St} {H H' : Hp} {ta : TA} {tz : TS} {D : Ends} {E : XK} {sp : Sp} {vs dvs : List V} {te tf : TE}
theorem ev_isP {a C : Addr} {c : V} {cv : Value} {b : Bool} (h0 : Ev te σ H (.ref a)) (h1 : Ev tf σ H c) (hc : ∀ u, RelV c u → u = cv) (hk : PySem.W.kitOne K (.ref C) cv = some b) : Ev (tCB (rIsE K C a) (tCons te (tCons tf tNil))) σ H (.bl b) := fun H1 e Q q =>
  h0 H1 e _ fun H2 e2 => h1 H2 (e.trans e2) _ fun H3 e3 => ⟨c, cv, b, rfl, hc, hk, q H3 (e2.trans e3)⟩
def SpO (sp : Sp) (vs : List V) (H : Hp) (due : Option Addr) : Prop := ∀ H1, Ex H H1 → ∀ (Q : VK) (E : XK), Out due H1 Q E → sp vs H1 Q E
theorem Out.mono {due : Option Addr} {Q : VK} {E : XK} (e : Ex H H') (h : Out due H Q E) : Out due H' Q E := ⟨fun z v H1 e1 => h.no z v H1 (e.trans e1), fun C z H1 e1 => h.yes C z H1 (e.trans e1)⟩
/-- f(..) that raises what is due, and the rest -/
theorem q_chk {due : Option Addr} (ha : EvA ta σ H vs) (hs : SpO sp (vs ++ dvs) H due) (k : due = none → ∀ H1, Ex H H1 → tz D σ H1) (ke : ∀ C, due = some C → ∀ H1, Ex H H1 → E (.ref C) none H1) : tSeq (tDrop (tCall sp dvs E ta)) tz D σ H :=
  ha H (Ex.refl H) _ fun H1 e1 => hs H1 e1 _ _ ⟨fun z v H2 e2 => k z H2 (e1.trans e2), fun C z H2 e2 => ke C z H2 (e1.trans e2)⟩
theorem unseq {t : TS} (h : t { D with nx := tz D } σ H) : tSeq t tz D σ H := h
/-- x = f(..), whatever f promises -/
theorem q_asgCall {i : Nat} (ha : EvA ta σ H vs) (k : ∀ H1, Ex H H1 → sp (vs ++ dvs) H1 (fun v H2 => tz D (σ.set i (some v)) H2) E) : tSeq (tAsg (tCall sp dvs E ta) (gName i)) tz D σ H := ha H (Ex.refl H) _ fun H1 e1 => k H1 e1
theorem s_retCall (ha : EvA ta σ H vs) (k : ∀ H1, Ex H H1 → sp (vs ++ dvs) H1 D.rt E) : tRet (tCall sp dvs E ta) D σ H := ha H (Ex.refl H) _ fun H1 e1 => k H1 e1
/-- the same as one of the ways of a try -/
theorem s_chkS {due : Option Addr} {W : WX} (ha : EvA ta σ H vs) (hs : SpO sp vs H due) (k : due = none → ∀ H1, Ex H H1 → D.nx σ H1) (ke : ∀ C, due = some C → ∀ H1, Ex H H1 → W (.ref C) none σ H1) : tDrop (tCallS sp (WE W) ta) D σ H :=
  ha H (Ex.refl H) _ fun H1 e1 => hs H1 e1 _ _ ⟨fun z v H2 e2 => k z H2 (e1.trans e2), fun C z H2 e2 => ke C z H2 (e1.trans e2)⟩
/-- [e for x in f(..)] -/
theorem lc_call {K : PySem.W.Frag} {g : TG} {t : TT} {te : TE} {ns : List Nat} {Q : VK} (ha : EvA ta σ H vs) (k : ∀ H1, Ex H H1 → sp (vs ++ dvs) H1 (fun x H2 => tLc (iList K fun _ H' Q' => Q' x H') g t te ns σ H2 Q) E) : tLc (iList K (tCall sp dvs E ta)) g t te ns σ H Q := ha H (Ex.refl H) _ fun H1 e1 => k H1 e1
/-- what a walk over a list wants of it -/
def ForQ (K : PySem.W.Frag) (g : TG) (tu : TS) (D : Ends) (σ : L2.St) : VK := fun x H1 => ∃ a, x = .ref a ∧ (∃ xs, SqL K H1 a xs) ∧ ∃ W : Nat → Nat → L2.St → Hp → Prop, (∃ m, W 0 m σ H1) ∧ ∀ i m σ H, W i m σ H →
  ((Itl K a).stop i H ∧ D.nx σ H) ∨ ((Itl K a).go i H ∧ ∃ N : L2.St → Hp → Prop, (∀ σ' H', N σ' H' → ∃ m', m' < m ∧ W (i + 1) m' σ' H') ∧ ∀ x H', (Itl K a).yld i H x H' → g x σ H' fun σ2 H2 => tu { D with nx := N, ct := N, bk := D.nx } σ2 H2)
theorem forQ_of {K : PySem.W.Frag} {g : TG} {tu : TS} {a : Addr} {xs : List V} (Pv : Nat → L2.St → Hp → Prop) (h0 : Pv 0 σ H) (hl : ∀ i σ' H', i ≤ xs.length → Pv i σ' H' → SqL K H' a xs)
    (hs : ∀ i x σ' H', xs[i]? = some x → Pv i σ' H' → g x σ' H' fun σ2 H2 => tu { D with nx := Pv (i + 1), ct := Pv (i + 1), bk := D.nx } σ2 H2) (hd : ∀ σ' H', Pv xs.length σ' H' → D.nx σ' H') : ForQ K g tu D σ (.ref a) H :=
  ⟨a, rfl, ⟨xs, hl 0 σ H (Nat.zero_le _) h0⟩, for_list Pv h0 hl hs hd⟩
/-- for x in f(..) -/
theorem q_forCall {K : PySem.W.Frag} {g : TG} {tu : TS} (ha : EvA ta σ H vs) (k : ∀ H1, Ex H H1 → sp (vs ++ dvs) H1 (ForQ K g tu { D with nx := tz D } σ) E) : tSeq (tFor (iList K (tCall sp dvs E ta)) g tu) tz D σ H := ha H (Ex.refl H) _ fun H1 e1 => k H1 e1
theorem s_forCall {K : PySem.W.Frag} {g : TG} {tu : TS} (ha : EvA ta σ H vs) (k : ∀ H1, Ex H H1 → sp (vs ++ dvs) H1 (ForQ K g tu D σ) E) : tFor (iList K (tCall sp dvs E ta)) g tu D σ H := ha H (Ex.refl H) _ fun H1 e1 => k H1 e1
end
/-! ### xs.count(x) of flat values -/
def rCntF (K : PySem.W.Frag) : V → List V → Hp → VK → Prop := fun x xs H Q => ∃ (p : Addr) (ys : List V) (y : V), x = .ref p ∧ xs = [y] ∧ SqL K H p ys ∧ flatV y = true ∧ ys.all flatV = true ∧ Q (.int ((ys.countP fun z => eqV z y : Nat) : Int)) H
theorem countP_eqU {y : V} : ∀ {ys : List V} {us : List Value}, Vals ys us → ys.all flatV = true → us.countP (eqU y) = ys.countP fun z => eqV z y
  | _, _, .nil, _ => rfl
  | _, _, .cons r t, f => by
    rw [List.all_cons, Bool.and_eq_true] at f
    have ih := countP_eqU (y := y) t f.2
    rw [List.countP_cons, List.countP_cons, ih, eqU_of r f.1]
theorem mt_countF {X : Cx} : MtR X "list.count" (rCntF X.K) := by
  intro pins st σ H x xs v us Q J rx rxs h
  obtain ⟨p, ys, y, rfl, rfl, sq, fy, fys, q⟩ := h
  cases rx
  cases rxs with
  | cons ry rest =>
    rename_i uy ut
    cases rest
    obtain ⟨its, rv, ⟨⟨c, dd, dat, sl⟩, n, there, isL, _, isS⟩, _⟩ := J.list sq
    simp only at isL isS
    subst isL isS
    have ec : its.toArray.toList.countP (eqU y) = ys.countP fun z => eqV z y := countP_eqU rv fys
    exact call_meets PySem.F.slot_list_count ⟨_, there, rfl⟩ PySem.F.entry_list_count (PySem.F.args_list_count_2 _ _) (SeqAt.list_countAt p its.toArray n dd sl uy (eqU y))
      ⟨there, fun z hz => mem_eqAt ry fy rv fys z (by simpa using hz), .int ((ys.countP fun z => eqV z y : Nat) : Int), H, J.tok _, ⟨st.toks, by rw [ec]⟩, q⟩
theorem ev_countF {K : PySem.W.Frag} {σ : L2.St} {H : Hp} {ta te : TE} {p : Addr} {ys : List V} {y : V} (ha : Ev ta σ H (.ref p)) (sq : H p = some (.lst ys)) (he : Ev te σ H y) (fy : flatV y = true) (fys : ys.all flatV = true) : Ev (tBM K "list" (rCntF K) ta (tCons te tNil)) σ H (.int ((ys.countP fun z => eqV z y : Nat) : Int)) := fun H1 e Q q =>
  ha H1 e _ fun H2 e2 => ⟨.inl ⟨rfl, _, sq_of (e2 p _ (e p _ sq))⟩, he H2 (e.trans e2) _ fun H3 e3 => ⟨p, ys, y, rfl, rfl, sq_of (e3 p _ (e2 p _ (e p _ sq))), fy, fys, q H3 (e2.trans e3)⟩⟩
/-- xs.index(x), by its number -/
theorem ev_indexF {K : PySem.W.Frag} {σ : L2.St} {H : Hp} {ta te : TE} {p : Addr} {ys : List V} {y : V} (j : Nat) (ha : Ev ta σ H (.ref p)) (sq : H p = some (.lst ys)) (he : Ev te σ H y) (fy : flatV y = true) (fys : ys.all flatV = true) (hj : ∃ z, ys[j]? = some z ∧ eqV z y = true) (hno : ∀ (m : Nat) (z : V), m < j → ys[m]? = some z → eqV z y = false) :
    Ev (tBM K "list" (rIndex K) ta (tCons te tNil)) σ H (.int (j : Int)) := fun H1 e Q q =>
  ha H1 e _ fun H2 e2 => ⟨.inl ⟨rfl, _, sq_of (e2 p _ (e p _ sq))⟩, he H2 (e.trans e2) _ fun H3 e3 => by
    obtain ⟨z, hz, ez⟩ := hj
    exact ⟨p, ys, y, j, z, rfl, rfl, sq_of (e3 p _ (e2 p _ (e p _ sq))), fy, fys, hz, ez, hno, q H3 (e2.trans e3)⟩⟩
end Kit

set_option Elab.async false
set_option linter.all false
set_option maxRecDepth 100000
set_option maxHeartbeats 4000000
namespace Kit
open PySem PySem.Spec PyProof.Rows L2 Evl
/-! ### [f, g, h][i](e, ..): a call of an element of a list of defs -/
structure CalN (X : Cx) (CX : CXT) (f : Addr) (sp : Sp) : Prop where
  ex : ∃ (k : Nat) (fd : FuncData) (names : List Str), FnOk X.prog X.w X.K X.mg X.base CX k f fd names sp ∧ Room k X.A ∧ PySem.W.keepIn X.K (.ref f) = true ∧ Binds X.K fd names []
section
variable {X : Cx} {CX : CXT} {k : Nat} {f : Addr} {fd : FuncData} {names : List Str} {sp : Sp} {C : Addr → Sp → Prop}
theorem cN_one (F : FnOk X.prog X.w X.K X.mg X.base CX k f fd names sp) (hr : Room k X.A) (hk : PySem.W.keepIn X.K (.ref f) = true) (hb : Binds X.K fd names []) : ∀ g s, (g = f ∧ s = sp) → CalN X CX g s := fun g s ⟨e1, e2⟩ => by
  subst e1 e2
  exact ⟨⟨k, fd, names, F, hr, hk, hb⟩⟩
theorem cN_or (F : FnOk X.prog X.w X.K X.mg X.base CX k f fd names sp) (hr : Room k X.A) (hk : PySem.W.keepIn X.K (.ref f) = true) (hb : Binds X.K fd names []) (r : ∀ g s, C g s → CalN X CX g s) : ∀ g s, ((g = f ∧ s = sp) ∨ C g s) → CalN X CX g s := fun g s h => h.elim (cN_one F hr hk hb g s) (r g s)
def tCallI (C : Addr → Sp → Prop) (E : XK) (tf : TE) (t : TA) : TE := fun σ H Q => tf σ H fun v H1 => ∃ f sp, v = .ref f ∧ C f sp ∧ t σ H1 fun vs H2 => sp (vs ++ []) H2 Q E
theorem pe_callI {E : XK} {tf : TE} {t : TA} {a b e : Expr} {es : List Expr} {p pos : Pos} (A : ∀ f sp, C f sp → CalN X CX f sp) (hx : Passes CX X E) (hf : PE X (.Subscript a b p) tf) (ha : PA X (e :: es) t)
    (he : starEach (e :: es) X.env = (false, eval e X.env) :: starEach es X.env := by rfl) (hpl : (backTo pos (starEach es X.env)).any (·.1) = false := by rfl) :
    PE X (.Call (.Subscript a b p) (e :: es) [] pos) (tCallI C E tf t) := by
  refine ⟨fun pins s σ H Q I h => ?_⟩
  have ev : eval (.Call (.Subscript a b p) (e :: es) [] pos) X.env = (do
    callWith pos (← eval (.Subscript a b p) X.env) [] (backTo pos (starEach (e :: es) X.env)) (backToKw pos (keywordEach [] X.env))) := rfl
  rw [ev]
  refine wpAny_bind (thn (hf.run pins s σ H _ I h) fun u s1 ⟨v, H1, I1, rv, f, sp, ev, hC, q⟩ => ?_)
  subst ev
  obtain rfl : u = Value.ref f := rv
  obtain ⟨k, fd, names, F, hr, hk, hb⟩ := (A f sp hC).ex
  refine PySem.W.callWith_K (h₀ := X.base) I1.ok.mod.kin hk (thn (ha.run pos pins s1 σ H1 _ I1 q) fun us s2 ⟨vs, H2, I2, r, q2⟩ => ⟨I2.kIn, ?_⟩) he hpl
  exact run_fn F hr hb .nil hx I2 r q2
end
section
variable {σ : L2.St} {H : Hp} {D : Ends} {vs : List V} {f : Addr} {sp : Sp} {C : Addr → Sp → Prop} {E : XK} {tf : TE} {t : TA}
theorem s_retI (hf : Ev tf σ H (.ref f)) (hC : C f sp) (ha : ∀ H1, Ex H H1 → EvA t σ H1 vs) (k : ∀ H1, Ex H H1 → sp (vs ++ []) H1 D.rt E) : tRet (tCallI C E tf t) D σ H :=
  hf H (Ex.refl H) _ fun H1 e1 => ⟨f, sp, rfl, hC, ha H1 e1 H1 (Ex.refl _) _ fun H2 e2 => k H2 (e1.trans e2)⟩
end
end Kit

set_option Elab.async false
set_option linter.all false
set_option maxRecDepth 100000
set_option maxHeartbeats 4000000
namespace Kit
open PySem PySem.Spec PyProof.Rows L2 Evl
/-! ### own classes: a class as a value, its objects -/
section
variable {prog : Program} {w : World} {A : Around} {E : Value → Shared → Prop} {s : Shared} {Q : Value → Shared → Prop}
theorem isSame_refTy {C : Addr} {Y : String} : isSame (.ref C) (.type Y) = pure false := rfl
theorem isSame_tyRef {C : Addr} {Y : String} : isSame (.type Y) (.ref C) = pure false := rfl
theorem obj_eq_decl {a b : Value} (h : isSame a b = pure false) : Gives (Builtin.«object.__eq__» ⟨[a, b], []⟩) (.val .notImplemented) :=
  .of_eq (by simp [Builtin.«object.__eq__», slotArgs, h, Made.tree])
theorem obj_ne_decl {a b : Value} (ta : s.TypeIs a "type") (same : isSame a b = pure false) (hu : A.units + 1 < cLine) (h : Q .notImplemented s) : wpAny (model prog w) A (call (.builtin "object.__ne__") [a, b]) Q E s := by
  refine wpAny_call_entry slot_type_ne ta PySem.F.cmpEntry_ne ?_ (PySem.F.cmpArgs_ne _ _)
  unfold Builtin.«object.__ne__»
  have key : wpAny (model prog w) A.in1 (call (.builtin "object.__eq__") [a, b]) (fun v s' => v = .notImplemented ∧ s' = s) E s :=
    call_gives slot_type_eqN ta F.entry_object_eq (F.args_object_eq_2 _ _) (obj_eq_decl same) ⟨rfl, rfl⟩
  repeat (first
    | with_reducible refine wpAny_cRoomFor (by show A.units + 1 < cLine; exact hu) ?_
    | (refine wpAny_bind (m := callSpecialIfBound? a (Str.ofString "__eq__") [b])
        (wpAny_callSpecialIfBound?_slot ta slot_type_eqN (wpAny_mono key (fun r s' hr => by
          obtain ⟨rfl, rfl⟩ := hr
          have hq : Q .notImplemented s' := h
          repeat (first | exact hq | exact ⟨_, rfl, hq⟩ | exact wpAny_pure hq | wp_step)) fun _ _ e => e)))
    | wp_step)
theorem ne_cls_type {C : Addr} {Y : String} (hC : s.TypeIs (.ref C) "type") (hY : ∀ s' : Shared, s'.TypeIs (.type Y) "type") (hu : A.units + 1 < cLine) (h : Q (.bool true) s) : wpAny (model prog w) A (compareOp .NotEq (.ref C) (.type Y)) Q E s := by
  show wpAny _ A (richCompare .NotEq _ _) Q E s
  have l1 := slot_type_ne
  have l2 := slot_type_neR
  rcases eq : cmpInfo CmpOp.NotEq with ⟨n1, n2, n3⟩
  rw [eq] at l1 l2
  simp only [richCompare, eq, hC.oneThing_none]
  try with_reducible refine wpAny_holding ?_
  refine wpAny_bind (wpAny_cRoomFor_or (.inr (by omega)) (wpAny_bind (wpAny_typeOf hC (wpAny_bind (wpAny_typeOf (hY s) ?_)))))
  simp only [bne_self_eq_false, Bool.false_eq_true, if_false, pure_bind, Bool.not_false, if_true]
  refine wpAny_bind (m := tryCompare (.ref C) _ (.type Y)) (wpAny_tryCompare_declines hC l1 (obj_ne_decl hC isSame_refTy hu ⟨rfl, ?_⟩))
  refine wpAny_bind (m := tryCompare (.type Y) _ (.ref C)) (wpAny_tryCompare_declines (hY s) l2 (obj_ne_decl (hY s) isSame_tyRef hu ⟨rfl, ?_⟩))
  refine wpAny_bind (wpAny_rule (wpAny_bind (wpAny_of_eq isSame_refTy (wpAny_pure h))))
end
/-- a class of the text, of which objects can be made: f its __init__, ns the names that no class of it has -/
structure OwnD (K : PySem.W.Frag) (C f : Addr) (ns : List Str) : Prop where
  made : Mk K C f
  cls : Cls K C
  na : ∀ x ∈ ns, NoAttr K C x
  ty : PySem.W.typeIn K (.ref C) = some (.type "type")
def ownB (K : PySem.W.Frag) (C f : Addr) (ns : List Str) : Bool := PySem.W.makesIn K C && (decide (PySem.W.findIn K (.ref C) "__init__" = some (some (.ref f))) && (PySem.W.isFn K (.ref f) && (PySem.W.keepIn K (.ref C) &&
  (PySem.W.plainGet K C Str.empty && (PySem.W.hasDictIn K C && (PySem.W.plainOver K C && (decide (PySem.W.findIn K (.ref C) "__setattr__" = some (some (.builtin "object.__setattr__"))) &&
  (decide (PySem.W.typeIn K (.ref C) = some (.type "type")) && ns.all fun x => decide (PySem.W.findIn K (.ref C) x = some none)))))))))
theorem ownD_of {K : PySem.W.Frag} {C f : Addr} {ns : List Str} (h : ownB K C f ns = true) : OwnD K C f ns := by
  obtain ⟨h1, h⟩ := Bool.and_eq_true_iff.mp h
  obtain ⟨h2, h⟩ := Bool.and_eq_true_iff.mp h
  obtain ⟨h3, h⟩ := Bool.and_eq_true_iff.mp h
  obtain ⟨h4, h⟩ := Bool.and_eq_true_iff.mp h
  obtain ⟨h5, h⟩ := Bool.and_eq_true_iff.mp h
  obtain ⟨h6, h⟩ := Bool.and_eq_true_iff.mp h
  obtain ⟨h7, h⟩ := Bool.and_eq_true_iff.mp h
  obtain ⟨h8, h⟩ := Bool.and_eq_true_iff.mp h
  obtain ⟨h9, h10⟩ := Bool.and_eq_true_iff.mp h
  exact ⟨⟨h1, of_decide_eq_true h2, h3, h4⟩, ⟨h5, h6, h7, of_decide_eq_true h8⟩, fun x hx => of_decide_eq_true (p := PySem.W.findIn K (.ref C) x = some none) (List.all_eq_true.mp h10 x hx), of_decide_eq_true h9⟩
/-- the j-th statement of a class's body -/
def clsM (s : Stmt) (j : Nat) : Stmt := match s with
  | .ClassDef _ _ _ b _ _ _ _ _ _ _ => b.getD j (.Pass ⟨0, 0, 0, 0⟩)
  | s => s
/-! ### a method with defaults, which may raise -/
section
variable {P : Program} {w : World} {K : PySem.W.Frag} {mg : Str → Option Value} {base : Heap}
theorem okM {x qual : Str} {d : Stmt} {f : Addr} {fd : FuncData} {dvs : List V} {N names : List Str} {n : Nat} {want : Sp} (F : FunD K x qual (defArgs d) (defBody d) (defScope d) dvs [] f fd) (S : FnScope N names (defScope d)) (many : ∀ xs H Q E, want xs H Q E → xs.length = names.length)
    (body : ∀ (cv : Value) (A : Around) (frames : List Env) (st : Shared) (H : Hp) (xs : List V) (Q : VK) (E : XK), Room n (A.deeper (envOfC qual (defScope d) st.heap.objs.size f cv)) → want xs H Q E →
      ∃ t, PSs (cxOf (L2N.CX P w) P w K mg base N qual (defScope d) f cv A frames st H E) (defBody d) t ∧ t { nx := fun _ H' => Q .non H', rt := Q } (start N xs) H) : FnOk P w K mg base (L2N.CX P w) (n + 1) f fd names want :=
  F.ok S many fun cdv A outer s H vs Q E hr hsp => body cdv A outer s H vs Q E hr hsp
theorem funD1 {x qual : Str} {d : Stmt} {f T : Addr} {oc oT : Value} {od oD : Option Addr} {i : Int} {t n : Nat} {kV doc pm cdv ct : Value} {an : Option Addr} {osl tsl : Array (Option Value)}
    (l : K.lookup f = some ⟨oc, od, .func (PySem.W.fnOf x qual (defArgs d) (defBody d) (defScope d) (.ref T) kV doc pm an cdv ct), osl⟩) (lT : K.lookup T = some ⟨oT, oD, .seq #[.int i t] n, tsl⟩)
    (c : PySem.W.codeIn K cdv qual = true) (k : PySem.W.keepIn K (.ref f) = true) : FunD K x qual (defArgs d) (defBody d) (defScope d) [.int i] [] f (PySem.W.fnOf x qual (defArgs d) (defBody d) (defScope d) (.ref T) kV doc pm an cdv ct) :=
  ⟨⟨oc, od, _, kV, doc, pm, an, cdv, ct, osl, rfl, l, c, .inr ⟨by simp, T, _, [.int i t], n, rfl, lT, rfl, .cons ⟨_, rfl⟩ .nil⟩, .inl rfl⟩, k⟩
end
/-! ### the type of any thing, an own object too -/
def kTyp3 (x : V) (H : Hp) (Q : VK) : Prop := kTyp2 x H Q ∨ ∃ a C dx fs, x = V.ref a ∧ H a = some (.ins C dx fs) ∧ Q (.ref C) H
def rNeTyO (K : PySem.W.Frag) : R2 := fun x y H Q => rNeTyG x y H Q ∨ ∃ C n, x = V.ref C ∧ y = .ty n ∧ PySem.W.typeIn K (.ref C) = some (.type "type") ∧ Meta n ∧ Q (.bl true) H
section
variable {X : Cx} {ta : TE} {a : Expr}
theorem rl_type3 (pins : List (Addr × Obj)) (st : Shared) (σ : L2.St) (H : Hp) (x : V) (u : Value) (Q : VK) (J : Inv X pins σ H st) (r : RelV x u) (h : kTyp3 x H Q) :
    wpAny (model X.prog X.w) X.A (call (.type "type") [u]) (EP X pins σ Q) X.xe st := by
  rcases h with h | ⟨a, C, dx, fs, rfl, ha, q⟩
  · exact rl_type2 pins st σ H x u Q J r h
  · cases (show u = Value.ref a from r)
    obtain ⟨mA, O, _⟩ := ins_get J.hok ha
    obtain ⟨od, I, _⟩ := O.look
    exact PySem.W.kto_own I ⟨.ref C, H, J, rfl, q⟩
theorem pe_typeOf3 {p pos : Pos} (hg : Gl X "type") (hm : X.mg "type" = none) (ha : PE X a ta) (na : starEach [a] X.env = (false, eval a X.env) :: starEach [] X.env := by rfl) :
    PE X (.Call (.Name "type" p) [a] [] pos) (tThenZ ta kTyp3) := pe_callTy (call_r1 rl_type3) hg hm (by decide +kernel) (pa_cons ha pa_nil na) (he := na)
theorem op_neTyO (hu : X.A.units + 1 < cLine) : OpR X (compareOp .NotEq) (rNeTyO X.K) := by
  intro pins st σ H x y v u Q J rx ry h
  rcases h with h | ⟨C, n, rfl, rfl, ht, hn, q⟩
  · exact op_neTyG hu pins st σ H x y v u Q J rx ry h
  · cases (show v = Value.ref C from rx)
    cases (show u = Value.type n from ry)
    obtain ⟨o, ho, hc⟩ := Option.map_eq_some_iff.mp (show (X.K.lookup C).map (·.cls) = some (.type "type") from ht)
    exact ne_cls_type ⟨o, J.kIn _ _ ho, hc⟩ hn hu ⟨.bl true, H, J, rfl, q⟩
end
/-! ### o.f = e -/
section
variable {K : PySem.W.Frag} {σ : L2.St} {H : Hp} {D : Ends} {tz : TS} {ta tv : TE} {a C dx : Addr} {fs : List (Str × V)} {f : Str} {v : V}
theorem s_fld (hv : Ev tv σ H v) (ha : Ev ta σ H (.ref a)) (h : H a = some (.ins C dx fs)) (c : Cls K C) (n : NoAttr K C f) (hl : fs.length < 1000) (k : ∀ H1, Ex H H1 → D.nx σ (upd H1 a (.ins C dx (putF f v fs)))) : sFld K ta tv f D σ H :=
  hv H (Ex.refl H) _ fun H1 e1 => ha H1 e1 _ fun H2 e2 => ⟨a, C, dx, fs, rfl, (e1.trans e2) a _ h, c, n, hl, k H2 (e1.trans e2)⟩
theorem q_fld (hv : Ev tv σ H v) (ha : Ev ta σ H (.ref a)) (h : H a = some (.ins C dx fs)) (c : Cls K C) (n : NoAttr K C f) (hl : fs.length < 1000) (k : ∀ H1, Ex H H1 → tz D σ (upd H1 a (.ins C dx (putF f v fs)))) : tSeq (sFld K ta tv f) tz D σ H := s_fld (D := { D with nx := tz D }) hv ha h c n hl k
theorem q_fldN {R : Addr → Hp → Prop} (hv : ∀ H1, Ex H H1 → ∀ Q : VK, (∀ p H2, H1 p = none → Ex H1 H2 → Q (.ref p) H2) → tv σ H1 Q) (ha : Ev ta σ H (.ref a)) (h : H a = some (.ins C dx fs)) (c : Cls K C) (n : NoAttr K C f) (hl : fs.length < 1000) (k : ∀ p H1, Ex H H1 → D.nx σ (upd H1 a (.ins C dx (putF f (.ref p) fs)))) : sFld K ta tv f D σ H :=
  hv H (Ex.refl H) _ fun p H1 _ e1 => ha H1 e1 _ fun H2 e2 => ⟨a, C, dx, fs, rfl, (e1.trans e2) a _ h, c, n, hl, k p H2 (e1.trans e2)⟩
end
/-! ### [f, g, h][i](e, ..) within a try -/
section
variable {X : Cx} {CX : CXT} {C : Addr → Sp → Prop}
def tCallIS (C : Addr → Sp → Prop) (E : L2.St → XK) (tf : TE) (t : TA) : TE := fun σ H Q => tf σ H fun v H1 => ∃ f sp, v = .ref f ∧ C f sp ∧ t σ H1 fun vs H2 => sp (vs ++ []) H2 Q (E σ)
theorem pe_callIS {E : L2.St → XK} {tf : TE} {t : TA} {a b e : Expr} {es : List Expr} {p pos : Pos} (A : ∀ f sp, C f sp → CalN X CX f sp) (hx : ∀ σ, PassesAt CX X σ (E σ)) (hf : PE X (.Subscript a b p) tf) (ha : PA X (e :: es) t)
    (he : starEach (e :: es) X.env = (false, eval e X.env) :: starEach es X.env := by rfl) (hpl : (backTo pos (starEach es X.env)).any (·.1) = false := by rfl) :
    PE X (.Call (.Subscript a b p) (e :: es) [] pos) (tCallIS C E tf t) := by
  refine ⟨fun pins s σ H Q I h => ?_⟩
  have ev : eval (.Call (.Subscript a b p) (e :: es) [] pos) X.env = (do
    callWith pos (← eval (.Subscript a b p) X.env) [] (backTo pos (starEach (e :: es) X.env)) (backToKw pos (keywordEach [] X.env))) := rfl
  rw [ev]
  refine wpAny_bind (thn (hf.run pins s σ H _ I h) fun u s1 ⟨v, H1, I1, rv, f, sp, ev, hC, q⟩ => ?_)
  subst ev
  obtain rfl : u = Value.ref f := rv
  obtain ⟨k, fd, names, F, hr, hk, hb⟩ := (A f sp hC).ex
  refine PySem.W.callWith_K (h₀ := X.base) I1.ok.mod.kin hk (thn (ha.run pos pins s1 σ H1 _ I1 q) fun us s2 ⟨vs, H2, I2, r, q2⟩ => ⟨I2.kIn, ?_⟩) he hpl
  exact run_fnSD F hr hb .nil (hx σ) I2 r q2
end
end Kit

set_option Elab.async false
set_option linter.all false
set_option maxRecDepth 100000
set_option maxHeartbeats 4000000
namespace Kit
open PySem PySem.Spec PyProof.Rows L2 Evl
/-! ### xs[i] += e -/
section
variable {X : Cx}
theorem get_listR : PGet X (rIxL X.K) := by
  intro pins s σ H o i ov iv Q I ro ri h
  obtain ⟨p, xs, k, z, rfl, rfl, hq, he, q⟩ := h
  cases ro
  obtain ⟨t, rfl⟩ := ri
  obtain ⟨its, r, pl, hz⟩ := I.list hq
  obtain ⟨j, h1, h2, h3, h4, h5⟩ := atI_get he
  obtain ⟨w, ew, rw'⟩ := r.get h2
  have hl := r.length
  have hn := line63
  have fin : EP X pins σ Q w s := ⟨z, H, I, rw', q⟩
  by_cases h0 : 0 ≤ k
  · have hj : k.toNat = j := by
      rw [seqIndex_of h0 h5] at h1
      exact Option.some.inj h1
    exact wpAny_getItem_list pl.isList h0 (by omega) (by rw [hj]; simpa using ew) fin
  · have hj : (k + (its.toArray.size : Int)).toNat = j := by
      rw [seqIndex_neg (by omega) h4] at h1
      rw [List.size_toArray, ← hl]
      exact Option.some.inj h1
    exact wpAny_getItem_list_neg pl.isList (by omega) (by rw [List.size_toArray] <;> omega) (by omega) (by rw [hj]; simpa using ew) fin
end
section
variable {K : PySem.W.Frag} {σ : L2.St} {H : Hp} {ta tb te : TE} {D : Ends} {tz : TS}
theorem s_augL {f : Int → Int → Int} {l : Addr} {xs : List V} {j : Nat} {a b : Int} (hl : H l = some (.lst xs)) (ho : Ev ta σ H (.ref l)) (hi : Ev tb σ H (.int (j : Int))) (hx : xs[j]? = some (.int a)) (he : Ev te σ H (.int b)) (k : ∀ H1, Ex H H1 → D.nx σ (upd H1 l (.lst (xs.set j (.int (f a b)))))) :
    tAugS ta tb te (rIxL K) (ipI f) rSetL D σ H := ho H (Ex.refl H) _ fun H1 e1 => hi H1 e1 _ fun H2 e2 => ⟨l, xs, (j : Int), .int a, rfl, rfl, sq_of (e2 l _ (e1 l _ hl)), atI_nat hx, he H2 (e1.trans e2) _ fun H3 e3 =>
  ⟨a, b, rfl, rfl, l, xs, (j : Int), j, rfl, rfl, e3 l _ (e2 l _ (e1 l _ hl)), ixN_nat (List.getElem?_eq_some_iff.mp hx).1, k H3 (e1.trans (e2.trans e3))⟩⟩
theorem q_augL {f : Int → Int → Int} {l : Addr} {xs : List V} {j : Nat} {a b : Int} (hl : H l = some (.lst xs)) (ho : Ev ta σ H (.ref l)) (hi : Ev tb σ H (.int (j : Int))) (hx : xs[j]? = some (.int a)) (he : Ev te σ H (.int b)) (k : ∀ H1, Ex H H1 → tz D σ (upd H1 l (.lst (xs.set j (.int (f a b)))))) :
    tSeq (tAugS ta tb te (rIxL K) (ipI f) rSetL) tz D σ H := s_augL (D := { D with nx := tz D }) hl ho hi hx he k
end
end Kit

set_option Elab.async false
set_option linter.all false
set_option maxRecDepth 100000
set_option maxHeartbeats 4000000
namespace Kit
open PySem PySem.Spec PyProof.Rows L2 Evl
/-! ### dicts of whole numbers by whole numbers -/
def enc (ps : List (Int × Int)) : List (Key × V) := ps.map fun p => (.inl p.1, .int p.2)
def gI (ps : List (Int × Int)) (x : Int) : Int := ((ps.find? fun p => decide (p.1 = x)).map (·.2)).getD 0
def putI (ps : List (Int × Int)) (x v : Int) : List (Int × Int) := if ps.any (fun p => decide (p.1 = x)) then ps.map (fun p => if p.1 = x then (p.1, v) else p) else ps ++ [(x, v)]
theorem inl_eq (a x : Int) : decide ((Sum.inl a : Key) = .inl x) = decide (a = x) := by
  rw [Bool.eq_iff_iff, decide_eq_true_iff, decide_eq_true_iff]
  exact ⟨fun h => Sum.inl.inj h, fun h => by rw [h]⟩
theorem enc_val : ∀ (ps : List (Int × Int)) (x : Int), valV (enc ps) (.inl x) = ((ps.find? fun p => decide (p.1 = x)).map (·.2)).map V.int
  | [], _ => rfl
  | p :: r, x => by
    have ih := enc_val r x
    by_cases h : p.1 = x
    · rw [List.find?_cons_of_pos (by simpa using h)]
      exact valV_pos (by show (Sum.inl p.1 : Key) = .inl x; rw [h])
    · rw [List.find?_cons_of_neg (by simpa using h), ← ih]
      exact valV_neg fun z => h (Sum.inl.inj z)
theorem enc_get (ps : List (Int × Int)) (x : Int) : (valV (enc ps) (.inl x)).getD (.int 0) = .int (gI ps x) := by
  rw [enc_val]
  unfold gI
  cases (ps.find? fun p => decide (p.1 = x)).map (·.2) <;> rfl
theorem enc_put (ps : List (Int × Int)) (x v : Int) : putK (enc ps) (.inl x) (.int v) = enc (putI ps x v) := by
  have ea : ((enc ps).any fun kv => decide (kv.1 = .inl x)) = ps.any fun p => decide (p.1 = x) := by
    unfold enc
    rw [List.any_map]
    congr 1
    funext p
    exact inl_eq p.1 x
  unfold putK putI
  rw [ea]
  split
  · unfold enc
    rw [List.map_map, List.map_map]
    refine List.map_congr_left fun p _ => ?_
    show (if (Sum.inl p.1 : Key) = .inl x then _ else _) = _
    by_cases h : p.1 = x
    · rw [if_pos (by rw [h])]
      show _ = (Sum.inl (if p.1 = x then (p.1, v) else p).1, V.int (if p.1 = x then (p.1, v) else p).2)
      rw [if_pos h]
    · rw [if_neg fun z => h (Sum.inl.inj z)]
      show _ = (Sum.inl (if p.1 = x then (p.1, v) else p).1, V.int (if p.1 = x then (p.1, v) else p).2)
      rw [if_neg h]
  · unfold enc
    rw [List.map_append]
    rfl
theorem put_keys (ps : List (Int × Int)) (x v : Int) : (putI ps x v).map (·.1) = if x ∈ ps.map (·.1) then ps.map (·.1) else ps.map (·.1) ++ [x] := by
  have hm : (ps.any fun p => decide (p.1 = x)) = true ↔ x ∈ ps.map (·.1) := by
    rw [List.any_eq_true, List.mem_map]
    exact ⟨fun ⟨p, h, e⟩ => ⟨p, h, of_decide_eq_true e⟩, fun ⟨p, h, e⟩ => ⟨p, h, decide_eq_true e⟩⟩
  unfold putI
  by_cases h : x ∈ ps.map (·.1)
  · rw [if_pos h, if_pos (hm.mpr h), List.map_map]
    refine List.map_congr_left fun p _ => ?_
    show (if p.1 = x then (p.1, v) else p).1 = p.1
    split <;> rfl
  · rw [if_neg h, if_neg fun z => h (hm.mp z), List.map_append]
    rfl
theorem put_nodup {ps : List (Int × Int)} (h : (ps.map (·.1)).Nodup) (x v : Int) : ((putI ps x v).map (·.1)).Nodup := by
  rw [put_keys]
  split
  · exact h
  · rename_i n
    exact List.nodup_append.mpr ⟨h, by simp, fun a ha b hb => by
      rw [List.mem_singleton.mp hb]
      intro z
      exact n (z ▸ ha)⟩
theorem put_len (ps : List (Int × Int)) (x v : Int) : (putI ps x v).length ≤ ps.length + 1 := by
  unfold putI
  split
  · rw [List.length_map]
    omega
  · simp
theorem gI_nil (x : Int) : gI [] x = 0 := rfl
theorem gI_eq {ps : List (Int × Int)} {x : Int} : V.int (gI ps x) = (valV (enc ps) (.inl x)).getD (.int 0) := (enc_get ps x).symm
theorem gI_put (ps : List (Int × Int)) (x v y : Int) : gI (putI ps x v) y = if y = x then v else gI ps y := by
  have h := enc_get (putI ps x v) y
  rw [← enc_put, valV_put] at h
  have e : V.int (gI (putI ps x v) y) = V.int (if y = x then v else gI ps y) := by
    rw [← h]
    by_cases z : y = x
    · rw [if_pos (by rw [z]), if_pos z]
      rfl
    · rw [if_neg fun w => z (Sum.inl.inj w), if_neg z, enc_get]
  exact V.int.inj e
theorem gI_no {ps : List (Int × Int)} {x : Int} (h : x ∉ ps.map (·.1)) : gI ps x = 0 := by
  unfold gI
  have : (ps.find? fun p => decide (p.1 = x)) = none := List.find?_eq_none.mpr fun p hp z => h (List.mem_map.mpr ⟨p, hp, of_decide_eq_true z⟩)
  rw [this]
  rfl
theorem gI_sum : ∀ {ps : List (Int × Int)} (s : Int), (ps.map (·.1)).Nodup → (ps.map fun p => if p.1 = s then p.2 else 0).sum = gI ps s
  | [], _, _ => rfl
  | p :: r, s, h => by
    rw [List.map_cons, List.nodup_cons] at h
    rw [List.map_cons, List.sum_cons, gI_sum s h.2]
    by_cases z : p.1 = s
    · rw [if_pos z, gI_no (z ▸ h.1)]
      unfold gI
      rw [List.find?_cons_of_pos (by simpa using z)]
      show p.2 + 0 = p.2
      omega
    · rw [if_neg z]
      unfold gI
      rw [List.find?_cons_of_neg (by simpa using z)]
      omega
theorem val_at {ps : List (Int × Int)} {i : Nat} {a v : Int} (h : ps[i]? = some (a, v)) (nd : (ps.map (·.1)).Nodup) : valV (enc ps) (.inl a) = some (.int v) := by
  rw [enc_val]
  have : (ps.find? fun p => decide (p.1 = a)) = some (a, v) := by
    induction ps generalizing i with
    | nil => simp at h
    | cons p r ih =>
      rw [List.map_cons, List.nodup_cons] at nd
      cases i with
      | zero =>
        have : p = (a, v) := by simpa using h
        subst this
        exact List.find?_cons_of_pos (by simp)
      | succ i =>
        have h' : r[i]? = some (a, v) := by simpa using h
        have : p.1 ≠ a := fun z => nd.1 (z ▸ List.mem_map.mpr ⟨(a, v), List.mem_of_getElem? h', rfl⟩)
        rw [List.find?_cons_of_neg (by simpa using this)]
        exact ih h' nd.2
  rw [this]
  rfl
section
variable {K : PySem.W.Frag} {σ : L2.St} {H : Hp} {ta tb tc te td : TE} {D : Ends} {tu tz : TS} {ps : List (Int × Int)} {x v : Int}
theorem ev_getI {a : Addr} (h : Ev ta σ H (.ref a)) (hx : Ev tb σ H (.int x)) (h0 : Ev tc σ H (.int 0)) (ha : H a = some (.dK (enc ps))) : Ev (tDGet2 ta tb tc) σ H (.int (gI ps x)) := fun H1 e Q q =>
  h H1 e _ fun H2 e2 => ⟨a, rfl, .inl ⟨_, .inl (e2 a _ (e a _ ha))⟩, hx H2 (e.trans e2) _ fun H3 e3 => h0 H3 (e.trans (e2.trans e3)) _ fun H4 e4 => ⟨_, DGet.k (k := .inl x) (e4 a _ (e3 a _ (e2 a _ (e a _ ha)))), by
    rw [enc_get]
    exact q H4 (e2.trans (e3.trans e4))⟩⟩
theorem s_putI {a : Addr} (h : Ev ta σ H (.ref a)) (hx : Ev tb σ H (.int x)) (hv : Ev te σ H (.int v)) (ha : H a = some (.dK (enc ps))) (hl : ps.length < 10000) (k : ∀ H1, Ex H H1 → D.nx σ (upd H1 a (.dK (enc (putI ps x v))))) : sDPut ta tb te D σ H :=
  hv H (Ex.refl _) _ fun H1 e1 => h H1 e1 _ fun H2 e2 => hx H2 (e1.trans e2) _ fun H3 e3 => ⟨a, _, rfl, DPut.k (k := .inl x) (e3 a _ (e2 a _ (e1 a _ ha))) (sz_lt (by unfold enc; rw [List.length_map]; omega)), by
    rw [enc_put]
    exact k H3 (e1.trans (e2.trans e3))⟩
theorem q_putI {a : Addr} (h : Ev ta σ H (.ref a)) (hx : Ev tb σ H (.int x)) (hv : Ev te σ H (.int v)) (ha : H a = some (.dK (enc ps))) (hl : ps.length < 10000) (k : ∀ H1, Ex H H1 → tz D σ (upd H1 a (.dK (enc (putI ps x v))))) : tSeq (sDPut ta tb te) tz D σ H := s_putI (D := { D with nx := tz D }) h hx hv ha hl k
theorem q_dnewI {i : Nat} (k : ∀ p H1, H p = none → Ex H H1 → H1 p = some (.dK (enc [])) → tz D (σ.set i (some (.ref p))) H1) : tSeq (tAsg tDNewK (gName i)) tz D σ H := fun p hp => k p _ hp (Ex.new hp) upd_same
theorem q_dispI {i : Nat} (hk : Ev ta σ H (.int x)) (hv : Ev tb σ H (.int v)) (k : ∀ p H1, H p = none → Ex H H1 → H1 p = some (.dK (enc [(x, v)])) → tz D (σ.set i (some (.ref p))) H1) : tSeq (tAsg (tDisp [(ta, tb)]) (gName i)) tz D σ H := fun p hp => hk _ (Ex.new hp) _ fun H1 e1 => hv H1 ((Ex.new hp).trans e1) _ fun H2 e2 =>
  ⟨e2 p _ (e1 p _ upd_same), [(.inl x, .int v)], rfl, Nat.le_of_ble_eq_true rfl, k p _ hp (Ex.mut ((Ex.new hp).trans (e1.trans e2)) hp) upd_same⟩
theorem ev_dgetL {a : Addr} {o : Obj} {i : Nat} (h : Ev ta σ H (.ref a)) (hx : Ev tb σ H (.int x)) (ha : H a = some (.frz o (.dK (enc ps)))) (hi : ps[i]? = some (x, v)) (nd : (ps.map (·.1)).Nodup) : Ev (tDGet ta tb) σ H (.int v) := fun H1 e Q q =>
  h H1 e _ fun H2 e2 => hx H2 (e.trans e2) _ fun H3 e3 => ⟨a, .int v, rfl, .inl ⟨enc ps, .inl x, .inr ⟨o, e3 a _ (e2 a _ (e a _ ha))⟩, rfl, (val_at hi nd).symm⟩, q H3 (e2.trans e3)⟩
/-- for x in a dict -/
theorem s_forKeys {j : Nat} {d : Addr} (h : ∀ H1, Ev td σ H1 (.ref d)) (hd : H d = some (.dK (enc ps))) (Pv : Obj → Nat → L2.St → Hp → Prop) (h0 : ∀ o H1, Ex (upd H d (.frz o (.dK (enc ps)))) H1 → Pv o 0 σ H1) (hl : ∀ o k σ' H', k ≤ ps.length → Pv o k σ' H' → H' d = some (.frz o (.dK (enc ps))))
    (hs : ∀ o k a v σ' H', ps[k]? = some (a, v) → Pv o k σ' H' → tu { nx := Pv o (k + 1), ct := Pv o (k + 1), bk := fun σ' H' => H' d = some (.frz o (.dK (enc ps))) ∧ D.nx σ' (upd H' d (.dK (enc ps))), rt := fun v H' => H' d = some (.frz o (.dK (enc ps))) ∧ D.rt v (upd H' d (.dK (enc ps))) } (σ'.set j (some (.int a))) H')
    (he : ∀ o σ' H', Pv o ps.length σ' H' → D.nx σ' (upd H' d (.dK (enc ps)))) : tLock (tFor (iKeys td) (gName j) tu) D σ H := ⟨d, .dK (enc ps), hd, True.intro, fun o => h _ _ (Ex.refl _) _ fun H1 e => ⟨d, o, rfl, .inl ⟨enc ps, e d _ upd_same, by
  have le : (enc ps).length = ps.length := List.length_map ..
  refine for_it walk_keys (Pv o) (h0 o H1 e) (fun k σ' H' hk p => hl o k σ' H' (by omega) p) ?_ (fun σ' H' p => by
    rw [le] at p
    exact ⟨hl o _ σ' H' (Nat.le_refl _) p, he o σ' H' p⟩)
  rintro k v σ' Hh H2 hk p ⟨rfl, key, x, g1, rfl⟩
  unfold enc at g1
  rw [List.getElem?_map] at g1
  obtain ⟨q, hq, eq⟩ := Option.map_eq_some_iff.mp g1
  cases eq
  exact hs o k q.1 q.2 σ' _ hq p⟩⟩⟩
theorem q_forKeys {j : Nat} {d : Addr} (h : ∀ H1, Ev td σ H1 (.ref d)) (hd : H d = some (.dK (enc ps))) (Pv : Obj → Nat → L2.St → Hp → Prop) (h0 : ∀ o H1, Ex (upd H d (.frz o (.dK (enc ps)))) H1 → Pv o 0 σ H1) (hl : ∀ o k σ' H', k ≤ ps.length → Pv o k σ' H' → H' d = some (.frz o (.dK (enc ps))))
    (hs : ∀ o k a v σ' H', ps[k]? = some (a, v) → Pv o k σ' H' → tu { nx := Pv o (k + 1), ct := Pv o (k + 1), bk := fun σ' H' => H' d = some (.frz o (.dK (enc ps))) ∧ tz D σ' (upd H' d (.dK (enc ps))), rt := fun v H' => H' d = some (.frz o (.dK (enc ps))) ∧ D.rt v (upd H' d (.dK (enc ps))) } (σ'.set j (some (.int a))) H')
    (he : ∀ o σ' H', Pv o ps.length σ' H' → tz D σ' (upd H' d (.dK (enc ps)))) : tSeq (tLock (tFor (iKeys td) (gName j) tu)) tz D σ H := s_forKeys (D := { D with nx := tz D }) h hd Pv h0 hl hs he
end
end Kit

set_option Elab.async false
set_option linter.all false
set_option maxRecDepth 100000
set_option maxHeartbeats 4000000
namespace Kit
open PySem PySem.Spec PyProof.Rows L2 Evl
/-! ### a dict that is walked as soon as it is there: locked behind its expression -/
def tFrz (td : TE) : TE := fun σ H Q => td σ H fun x H1 => ∃ d u, x = .ref d ∧ H1 d = some u ∧ Mut (some u) ∧ ∀ od, Q x (upd H1 d (.frz od u))
theorem pe_frzN {X : Cx} {e : Expr} {td : TE} (he : PE X e td) : PE X e (tFrz td) := by
  refine ⟨fun pins s σ H Q I h => ?_⟩
  refine thn (he.run pins s σ H _ I h) fun u s1 ⟨x, H1, I1, rx, d, ob, ex, hd, mu, q⟩ => ?_
  obtain ⟨od, I2⟩ := I1.lock hd mu
  exact ⟨x, _, I2, rx, q od⟩
section
variable {K : PySem.W.Frag} {σ : L2.St} {H : Hp} {ta tb tc td te : TE} {t : TT} {D : Ends} {tu : TS} {tz : TS} {kvs : List (Key × V)}
/-- for k, v in f(..).items() -/
theorem q_forItN {i j : Nat} {d : Addr} (hd : H d = some (.dK kvs)) (Pv : Obj → Nat → L2.St → Hp → Prop) (h0 : ∀ o, Pv o 0 σ (upd H d (.frz o (.dK kvs)))) (hl : ∀ o k σ' H', k ≤ kvs.length → Pv o k σ' H' → H' d = some (.frz o (.dK kvs)))
    (hs : ∀ o k a v σ' H' H2, kvs[k]? = some (a, v) → Pv o k σ' H' → Ex H' H2 → tu { D with nx := Pv o (k + 1), ct := Pv o (k + 1), bk := tz D } ((σ'.set i (some (kV a))).set j (some v)) H2)
    (he : ∀ o σ' H', Pv o kvs.length σ' H' → tz D σ' H') : tSeq (tFor (iItems (tFrz (tC (.ref d)))) (gTup K 2 (gCons (gName i) (gCons (gName j) gNil))) tu) tz D σ H := by
  refine ⟨d, .dK kvs, rfl, hd, True.intro, fun o => ⟨d, o, kvs, rfl, upd_same, ?_⟩⟩
  refine for_it (D := { D with nx := tz D }) walk_items (Pv o) (h0 o) (fun k σ' H' hk p => hl o k σ' H' hk p) ?_ (fun σ' H' p => he o σ' H' p)
  rintro k v σ' Hh H2 hk p ⟨T, x, y, rfl, nT, rfl, g1, g2⟩
  have e0 : kvs[k]? = some (kvs[k].1, kvs[k].2) := by rw [List.getElem?_eq_getElem hk]
  have g1 : kvs[k]?.map (fun kv => kV kv.1) = some x := g1
  have g2 : kvs[k]?.map Prod.snd = some y := g2
  rw [e0] at g1 g2
  cases g1
  cases g2
  exact ⟨T, [kV kvs[k].1, kvs[k].2], rfl, st_of upd_same, rfl, kV kvs[k].1, [kvs[k].2], rfl, kvs[k].2, [], rfl, rfl, hs o k kvs[k].1 kvs[k].2 σ' Hh _ e0 p (Ex.new nT)⟩
/-- [e for x in d if t], the dict locked -/
theorem el_keysG {d : Addr} {j : Nat} {vs : List Nat} (f : Nat → Bool) (v : Nat → V) (h : ∀ H1, Ev td σ H1 (.ref d)) (hd : H d = some (.dK kvs)) (hz : kvs.length ≤ 40000) (hw : ∀ x, wipe ((wipe σ vs).set j (some x)) vs = wipe σ vs)
    (ht : ∀ o n a b H1, kvs[n]? = some (a, b) → Ex (upd H d (.frz o (.dK kvs))) H1 → EvT t ((wipe σ vs).set j (some (kV a))) H1 (f n)) (hv : ∀ o n a b H1, kvs[n]? = some (a, b) → Ex (upd H d (.frz o (.dK kvs))) H1 → f n = true → Ev te ((wipe σ vs).set j (some (kV a))) H1 (v n)) :
    EvL (tLockE (tLc (iKeys td) (gName j) t te vs)) σ H (given kvs.length f v) := fun H0 e Q q => ⟨d, .dK kvs, e d _ hd, True.intro, fun o => h _ _ (Ex.refl _) _ fun H1 e1 => ⟨d, o, rfl, .inl ⟨kvs, e1 d _ upd_same, fun Dl hD => by
  have hd1 := e1 d _ upd_same
  have nd : Dl ≠ d := fun z => by rw [z, hd1] at hD; cases hD
  have e01 : Ex (upd H d (.frz o (.dK kvs))) H1 := fun b u hb => e1 b u (by
    by_cases z : b = d
    · rw [z, upd_same] at hb
      rw [z, upd_same]
      exact hb
    · rw [upd_ne z] at hb
      rw [upd_ne z]
      exact e b _ hb)
  refine lc_it walk_keys (Cw H1 f v Dl) ⟨hD, Ex.new hD, upd_same⟩ (fun n H' _ p => p.2.1 d _ hd1) ?_ fun H' p => ?_
  · rintro n x Hh H' hn p ⟨rfl, k, w, g1, rfl⟩
    exact ⟨hw _, cw_turn p (by omega) (ht o n k w H1 g1 e01) fun hf => hv o n k w H1 g1 e01 hf⟩
  · refine ⟨p.2.1 d _ hd1, q Dl _ ?_ (fun b u hb => ?_) (by rw [upd_ne nd]; exact p.2.2)⟩
    · have := fresh_back e1 p.1
      rw [upd_ne nd] at this
      exact this
    · by_cases z : b = d
      · rw [z, e d _ hd] at hb
        cases hb
        rw [z, upd_same]
      · rw [upd_ne z]
        exact p.2.1 b _ (e1 b _ (by rw [upd_ne z]; exact hb))⟩⟩⟩
/-- a range with a step -/
theorem q_forUp {t : TA} {j m c : Nat} (hc : 1 ≤ c ∧ c ≤ 100000) (h : EvA t σ H [.int 0, .int (m : Int), .int (c : Int)]) (hm : m ≤ 1000) (Pv : Nat → L2.St → Hp → Prop) (h0 : ∀ H1, Ex H H1 → Pv 0 σ H1)
    (hs : ∀ (i : Nat) σ' H', i * c < m → Pv i σ' H' → tu { D with nx := Pv (i + 1), ct := Pv (i + 1), bk := tz D } (σ'.set j (some (.int ((i * c : Nat) : Int)))) H') (hd : ∀ i σ' H', m ≤ i * c → Pv i σ' H' → tz D σ' H') : tSeq (tFor (iRng3 t) (gName j) tu) tz D σ H :=
  h H (Ex.refl H) _ fun H1 e => by
    have hn : ∀ n : Nat, n = (if m = 0 then 0 else (m - 1) / c + 1) → Builtin.Range.rangeSize 0 (m : Int) (c : Int) = (n : Int) := fun n e => by
      unfold Builtin.Range.rangeSize
      rw [if_pos (by omega)]
      by_cases z : m = 0
      · subst z
        rw [if_pos rfl] at e
        subst e
        rw [if_neg (by omega)]
        rfl
      · rw [if_neg z] at e
        rw [if_pos (by omega), e]
        have : ((m : Int) - 0 - 1) = ((m - 1 : Nat) : Int) := by omega
        rw [this]
        norm_cast
    refine ⟨_, _, _, _, rfl, ⟨by omega, by omega, ?_, hn _ rfl⟩, ?_⟩
    · have nb : (if m = 0 then 0 else (m - 1) / c + 1) ≤ m := by
        split
        · omega
        · have := Nat.div_le_self (m - 1) c
          omega
      unfold Builtin.Range.small
      rw [hn _ rfl]
      generalize (if m = 0 then 0 else (m - 1) / c + 1) = n at nb
      simp only [Builtin.Range.rangeFitsLong, Bool.and_eq_true, Bool.or_eq_true, decide_eq_true_eq, beq_iff_eq]
      rw [if_pos (show (c : Int) > 0 by omega)]
      simp only [Bool.and_eq_true, decide_eq_true_eq]
      omega
    · refine for_rangeC (lo := 0) (c := (c : Int)) (D := { D with nx := tz D }) Pv (h0 H1 e) (fun i σ' H' hi p => ?_) fun σ' H' p => hd _ σ' H' ?_ p
      · have e0 : (0 : Int) + (i : Int) * (c : Int) = ((i * c : Nat) : Int) := by rw [Int.natCast_mul]; omega
        show tu { D with nx := Pv (i + 1), ct := Pv (i + 1), bk := tz D } (σ'.set j (some (.int ((0 : Int) + (i : Int) * (c : Int))))) H'
        rw [e0]
        refine hs i σ' H' ?_ p
        split at hi
        · omega
        · have a : i ≤ (m - 1) / c := by omega
          have b := Nat.mul_le_mul_right c a
          have d := Nat.div_mul_le_self (m - 1) c
          omega
      · split
        · omega
        · rename_i z
          have := Nat.lt_div_mul_add (a := m - 1) (b := c) (by omega)
          rw [Nat.add_mul]
          omega
end
/-! ### isinstance of the caught exception, in the suite itself -/
def rIsA (K : PySem.W.Frag) (cls : Value) (d : Option Addr) (a : Addr) : List V → Hp → VK → Prop := fun xs H Q => ∃ D : Addr, cls = .ref D ∧ d = none ∧ ExcD K D ∧ rIsE K D a xs H Q
theorem call_isA {X : Cx} {a : Addr} {oe : Obj} {cls : Value} {d : Option Addr} {pn : List (Addr × Obj)} (hz : L2N.Zn cls d oe) (hf : ∃ vs, oe.data = .fields vs) : CallR (X.suite a ((a, oe) :: pn)) (.builtin "isinstance") (rIsA X.K cls d a) := by
  intro pins st σ H xs us Q J r h
  obtain ⟨D, rfl, rfl, C, h⟩ := h
  exact call_isP (X := X.suite a ((a, oe) :: pn)) (p := (a, oe)) C List.mem_cons_self hz.zc hf pins st σ H xs us Q J r h
section
variable {K : PySem.W.Frag} {σ : L2.St} {H : Hp} {te tf : TE}
theorem ev_isA {a C : Addr} {c : V} {cv : Value} {b : Bool} (C0 : ExcD K C) (h0 : Ev te σ H (.ref a)) (h1 : Ev tf σ H c) (hc : ∀ u, RelV c u → u = cv) (hk : PySem.W.kitOne K (.ref C) cv = some b) : Ev (tCB (rIsA K (.ref C) none a) (tCons te (tCons tf tNil))) σ H (.bl b) := fun H1 e Q q =>
  h0 H1 e _ fun H2 e2 => h1 H2 (e.trans e2) _ fun H3 e3 => ⟨C, rfl, rfl, C0, c, cv, b, rfl, hc, hk, q H3 (e2.trans e3)⟩
end
/-! ### type(x) == T, x anything -/
section
variable {prog : Program} {w : World} {A : Around} {E : Value → Shared → Prop} {s : Shared} {Q : Value → Shared → Prop}
theorem eq_cls_type {C : Addr} {Y : String} (hC : s.TypeIs (.ref C) "type") (hY : ∀ s' : Shared, s'.TypeIs (.type Y) "type") (hu : A.units + 1 < cLine) (h : Q (.bool false) s) : wpAny (model prog w) A (compareOp .Eq (.ref C) (.type Y)) Q E s := by
  show wpAny _ A (richCompare .Eq _ _) Q E s
  have l1 := PySem.TypeEq.slot_type_eq
  have l2 := PySem.TypeEq.slot_type_eq_refl
  rcases eq : cmpInfo CmpOp.Eq with ⟨n1, n2, n3⟩
  rw [eq] at l1 l2
  simp only [richCompare, eq, hC.oneThing_none]
  try with_reducible refine wpAny_holding ?_
  refine wpAny_bind (wpAny_cRoomFor_or (.inr (by omega)) (wpAny_bind (wpAny_typeOf hC (wpAny_bind (wpAny_typeOf (hY s) ?_)))))
  simp only [bne_self_eq_false, Bool.false_eq_true, if_false, pure_bind, Bool.not_false, if_true]
  refine wpAny_bind (m := tryCompare (.ref C) _ (.type Y)) (wpAny_tryCompare_declines hC l1 (call_gives l1 hC F.entry_object_eq (F.args_object_eq_2 _ _) (obj_eq_decl isSame_refTy) ⟨rfl, ?_⟩))
  refine wpAny_bind (m := tryCompare (.type Y) _ (.ref C)) (wpAny_tryCompare_declines (hY s) l2 (call_gives l2 (hY s) F.entry_object_eq (F.args_object_eq_2 _ _) (obj_eq_decl isSame_tyRef) ⟨rfl, ?_⟩))
  refine wpAny_bind (wpAny_rule (wpAny_bind (wpAny_of_eq isSame_refTy (wpAny_pure h))))
end
def rEqTyO (K : PySem.W.Frag) : R2 := fun x y H Q => rEqTy x y H Q ∨ ∃ C n, x = V.ref C ∧ y = .ty n ∧ PySem.W.typeIn K (.ref C) = some (.type "type") ∧ Meta n ∧ Q (.bl false) H
theorem op_eqTyO {X : Cx} (hu : X.A.units + 1 < cLine) : OpR X (compareOp .Eq) (rEqTyO X.K) := by
  intro pins st σ H x y v u Q J rx ry h
  rcases h with h | ⟨C, n, rfl, rfl, ht, hn, q⟩
  · exact op_eqTy pins st σ H x y v u Q J rx ry h
  · cases (show v = Value.ref C from rx)
    cases (show u = Value.type n from ry)
    obtain ⟨o, ho, hc⟩ := Option.map_eq_some_iff.mp (show (X.K.lookup C).map (·.cls) = some (.type "type") from ht)
    exact eq_cls_type ⟨o, J.kIn _ _ ho, hc⟩ hn hu ⟨.bl false, H, J, rfl, q⟩
end Kit

set_option Elab.async false
set_option linter.all false
set_option maxRecDepth 100000
set_option maxHeartbeats 4000000
namespace Kit
open PySem PySem.Spec PyProof.Rows L2 Evl L2.DX
/-! ### sorted(d.items()), the dict int to int -/
section
variable {X : Cx}
def rItemsK : V → List V → Hp → VK → Prop := fun x xs H Q => ∃ (a : Addr) (kvs : List (Key × V)), x = .ref a ∧ xs = [] ∧ H a = some (.dK kvs) ∧ ∀ p, H p = none → Q (.ref p) (upd H p (itemsO p a))
theorem mt_itemsK : MtR X "dict.items" rItemsK := by
  intro pins s σ H x xs v us Q I rx rxs h
  obtain ⟨a, kvs, rfl, rfl, ha, q⟩ := h
  cases rx
  cases rxs
  obtain ⟨hz, hs0, vs, kv, hdo⟩ := I.hok a _ ha
  have hf : H s.heap.objs.size = none := I.hok.fresh (Nat.le_refl _)
  exact call_meetsIn PySem.F.slot_dict_items hdo.typeIs PySem.F.entry_dict_items (PySem.F.args_dict_items_1 _) (meets_dict_items (mixKind X.prog X.w) a hs0) ⟨⟨vs, hdo⟩, .ref s.heap.objs.size, upd H s.heap.objs.size (itemsO s.heap.objs.size a), I.laid (t' := s.toks) (fun b u e => Heap.get?_push_of_some _ e) (Nat.le_refl _) (itemsO_ok (Heap.get?_push_size _ rfl)), rfl, q _ hf⟩
end
section
variable {prog : Program} {w : World} {κ : Type} [DecidableEq κ] {knd : KeyKind prog w κ} {A : Around} {E : Value → Shared → Prop} {s : Shared} {r d : Addr} {kvs : List (κ × Value)} {ep : Nat}
theorem sortedK {Q : Value → Shared → Prop} (hh : A.handled = none) (hv : s.heap.IsItemsView r d) (hm : s.heap.DictAt knd d kvs ep) (hn : kvs.length ≤ sizeLine)
    (h : ∀ (h' : Heap) (tk : Nat) (as : List Addr), (∀ b o, s.heap.get? b = some o → h'.get? b = some o) → as.length = kvs.length → PySem.W.KdxG knd kvs s.heap.objs.size h' as →
      wpAny (model prog w) A.in1 (call (.builtin "list.sort") [.ref h'.objs.size]) (fun _ s' => Q (.ref h'.objs.size) s') E { s with heap := h'.push { cls := .type "list", data := .seq (as.map Value.ref).toArray }, toks := tk }) :
    wpAny (model prog w) A (call (.builtin "sorted") [.ref r]) Q E s := by
  refine Calls.call_function_entry kind_sorted plain_sorted entry_sorted (args_sorted1 _) ?_
  unfold Builtin.«sorted»
  refine wpAny_bind (m := checkCount "sorted" 1 1 _) (wpAny_pure ?_)
  refine wpAny_bind (PySem.W.kdx_collect (A := A.in1) (knd := knd) (kvs := kvs) (ep := ep) hh hv hm hn fun h' tk as hk hl hG => ?_)
  refine wpAny_bind (wpAny_newList ?_ (by rw [List.length_map, hl]; exact hn))
  have hg := h h' tk as hk hl hG
  refine wpAny_bind (wpAny_holding (wpAny_mono hg (fun _ s' x => ?_) fun _ _ e => e))
  exact wpAny_pure ⟨_, rfl, x⟩
end
def kA : List Addr → List (Int × Int) → Addr → Int × Int
  | a :: as, p :: ps, b => if b = a then p else kA as ps b
  | _, _, _ => (0, 0)
theorem kA_at : ∀ {as : List Addr} {ps : List (Int × Int)} {j : Nat} {b : Addr} {p : Int × Int}, as.Nodup → as[j]? = some b → ps[j]? = some p → kA as ps b = p
  | [], _, _, _, _, _, h, _ => by simp at h
  | _ :: _, [], _, _, _, _, _, h => by simp at h
  | a :: as, q :: ps, 0, b, p, _, h1, h2 => by
    have e1 : a = b := by simpa using h1
    have e2 : q = p := by simpa using h2
    subst e1 e2
    exact if_pos rfl
  | a :: as, q :: ps, j + 1, b, p, nd, h1, h2 => by
    have h1' : as[j]? = some b := by simpa using h1
    have h2' : ps[j]? = some p := by simpa using h2
    rw [List.nodup_cons] at nd
    have ne : b ≠ a := fun z => nd.1 (z ▸ List.mem_of_getElem? h1')
    show (if b = a then q else kA as ps b) = p
    rw [if_neg ne]
    exact kA_at nd.2 h1' h2'
theorem kA_map {as : List Addr} {ps : List (Int × Int)} (nd : as.Nodup) (hl : as.length = ps.length) : as.map (kA as ps) = ps := by
  refine List.ext_getElem? fun j => ?_
  rw [List.getElem?_map]
  cases h : as[j]? with
  | none =>
    have := List.getElem?_eq_none_iff.mp h
    exact (List.getElem?_eq_none_iff.mpr (by omega)).symm
  | some b =>
    have hj := (List.getElem?_eq_some_iff.mp h).1
    have hp : ps[j]? = some (ps[j]'(by omega)) := List.getElem?_eq_getElem _
    rw [hp]
    show some (kA as ps b) = _
    rw [kA_at nd h hp]
def aV : Value → Addr
  | .ref a => a
  | _ => 0
/-- sorted(view): a new list of new pairs, sorted by the key, then by what it leads to -/
def rSortItK : List V → Hp → VK → Prop := fun vs H Q => ∃ (p a : Addr) (ps : List (Int × Int)), vs = [.ref p] ∧ H p = some (itemsO p a) ∧ H a = some (.dK (enc ps)) ∧ ps ≠ [] ∧
  ∀ (H' : Hp) (l : Addr) (zs : List (Addr × Int × Int)), (∀ b o, H b = some o → H' b = some o) → H l = none → (zs.map (·.2)).Perm ps → (zs.map (·.2)).Pairwise (fun x y => SrtO.lexB y x = false) → H' l = some (.lst (zs.map fun z => V.ref z.1)) →
    (∀ z ∈ zs, H z.1 = none ∧ z.1 ≠ l ∧ H' z.1 = some (.tup [.int z.2.1, .int z.2.2])) → Q (.ref l) H'
section
variable {X : Cx}
theorem cr_sortItK (hc : X.calm = true) : CallR X (.builtin "sorted") rSortItK := by
  intro pins s σ H xs us Q I r h
  obtain ⟨p, a, ps, rfl, hp, ha, hne, q⟩ := h
  obtain rfl := Vals.ref1 r
  have view : s.heap.IsItemsView p a := (show ObjOk X.prog X.w H s.heap p (itemsO p a) from I.hok p _ hp).1
  obtain ⟨hz, hs0, vs, kv, hdo⟩ := I.hok a _ ha
  obtain ⟨ep, hat⟩ := hdo.dictAt
  have lk : (enc ps).length = vs.length := Paired.length kv
  have lp : (enc ps).length = ps.length := by unfold enc; rw [List.length_map]
  refine sortedK (knd := mixKind X.prog X.w) (kvs := vs) (ep := ep) (I.ok.hd hc) view hat (by rw [← lk]; exact hz) fun h' tk as hk hl hG => ?_
  have nd : as.Nodup := List.Pairwise.imp (fun {a b} (h : a < b) => Nat.ne_of_lt h) hG.rise
  have lap : as.length = ps.length := by omega
  have sle : s.heap.objs.size ≤ h'.objs.size := by
    have hp0 : 0 < ps.length := List.length_pos_iff.mpr hne
    have h0 : as[0]? = some (as[0]'(by omega)) := List.getElem?_eq_getElem _
    have a1 := hG.above _ (List.mem_of_getElem? h0)
    have a2 := hG.there (List.mem_of_getElem? h0)
    exact Nat.le_of_lt (Nat.lt_trans a1 a2)
  -- the pairs that were made
  have pr : ∀ (j : Nat) (b : Addr), as[j]? = some b → ∃ (pq : Int × Int) (t u : Tok), ps[j]? = some pq ∧ h'.get? b = some { cls := .type "tuple", data := .seq #[Value.int pq.1 t, Value.int pq.2 u] } := by
    intro j b hj
    obtain ⟨key, k, x, f1, f2, f3⟩ := hG.pairs j b hj
    obtain ⟨e0, he0, g2, g3⟩ := pget kv f1
    unfold enc at he0
    rw [List.getElem?_map] at he0
    cases hpj : ps[j]? with
    | none =>
      rw [hpj] at he0
      cases he0
    | some pq =>
      rw [hpj] at he0
      cases he0
      have rk : RelV (kV (.inl pq.1)) key := by
        have : k = .inl pq.1 := g2.symm
        rw [← this]
        exact relV_key (show keyIs k key = true from f2)
      obtain ⟨t, rfl⟩ := rk
      obtain ⟨u, rfl⟩ := g3
      exact ⟨pq, t, u, rfl, f3⟩
  have hob : (h'.push { cls := .type "list", data := .seq (as.map Value.ref).toArray }).get? h'.objs.size = some (seqObj "list" (as.map Value.ref).toArray 0) := Heap.get?_push_size _ rfl
  have ne0 : ∀ b o, h'.get? b = some o → b ≠ h'.objs.size := fun b o e => Nat.ne_of_lt (Heap.lt_size e)
  generalize hh2 : h'.push { cls := .type "list", data := .seq (as.map Value.ref).toArray } = h2 at hob ⊢
  have ka : ∀ b o, h'.get? b = some o → h2.get? b = some o := fun b o e => by rw [← hh2]; exact Heap.get?_push_of_some _ e
  have hpair : ∀ v ∈ as.map Value.ref, Srt.IsPair h2 v (kA as ps (aV v)).1 (kA as ps (aV v)).2 := by
    intro v hv
    obtain ⟨b, hb, rfl⟩ := List.mem_map.mp hv
    obtain ⟨j, hj⟩ := List.mem_iff_getElem?.mp hb
    obtain ⟨pq, t, u, h1, h2'⟩ := pr j b hj
    have e : kA as ps (aV (.ref b)) = pq := kA_at nd hj h1
    rw [e]
    exact ⟨b, _, t, u, 0, rfl, ka _ _ h2', rfl, rfl⟩
  refine wpAny_call_entry PyProof.Rows.slot_list_sort ⟨_, hob, rfl⟩ PyProof.Rows.entry_list_sort
    (SrtO.list_sort_ord (s := { s with heap := h2, toks := tk }) (SrtO.swo_lex fun u => kA as ps (aV u)) hob (by rw [List.length_map]; omega) (fun h2' => SrtO.pairs_sortableO (s := { s with heap := h2, toks := tk }) (by omega) hpair fun o e => ?_) fun out h1 h2' => ⟨.none, rfl, ?_⟩) (PyProof.Rows.args_list_sort _)
  · have e' : some o = some (seqObj "list" (as.map Value.ref).toArray 0) := e.symm.trans hob
    cases e'
    intro c
    exact absurd (Value.type.inj c) (by decide)
  · show EP X pins σ Q (.ref h'.objs.size) { s with heap := sortedHeap h2 h'.objs.size (as.map Value.ref) out.toArray, toks := tk }
    have back : out = (out.map aV).map Value.ref := by
      rw [List.map_map]
      refine (List.map_id _).symm.trans (List.map_congr_left fun u hu => ?_)
      obtain ⟨b, _, rfl⟩ := List.mem_map.mp (h2'.perm.mem_iff.mp hu)
      rfl
    have po : (out.map aV).Perm as := by
      have e := h2'.perm.map aV
      rw [List.map_map] at e
      exact e.trans (List.Perm.of_eq (List.map_id as))
    generalize ho : out.map aV = os at back po
    subst back
    have kF : ∀ b o, b ≠ h'.objs.size → h2.get? b = some o → (sortedHeap h2 h'.objs.size (as.map Value.ref) (os.map Value.ref).toArray).get? b = some o := fun b o hb e => (PyProof.Rows.sortedHeap_old hb (Heap.lt_size e)).trans e
    have kS : ∀ b o, s.heap.get? b = some o → (sortedHeap h2 h'.objs.size (as.map Value.ref) (os.map Value.ref).toArray).get? b = some o := fun b o e => kF b o (ne0 _ _ (hk b o e)) (ka _ _ (hk b o e))
    obtain ⟨eF, heF⟩ := PyProof.Rows.sortedHeap_at (vs := as.map Value.ref) (out := (os.map Value.ref).toArray) hob
    generalize hh3 : sortedHeap h2 h'.objs.size (as.map Value.ref) (os.map Value.ref).toArray = h3 at kF kS heF ⊢
    have I1 : Inv X pins σ H { s with heap := h3, toks := tk } := I.kept (t' := tk) kS
    have hn0 : H h'.objs.size = none := I.hok.fresh sle
    have I2 : Inv X pins σ (upd H h'.objs.size (.lst (os.map V.ref))) { s with heap := h3, toks := tk } :=
      I1.take (h' := h3) (t' := tk) (fun b ob _ e => e) (I.fpOk sle hn0) ⟨by
        rw [List.length_map, po.length_eq]
        omega, os.map Value.ref, eF, LiI.vals_refs os, heF⟩
    obtain ⟨H2, I3, g, qt⟩ := takeT (P := fun b vs => vs = [.int (kA as ps b).1, .int (kA as ps b).2]) I as _ I2 nd fun b hb => by
      obtain ⟨j, hj⟩ := List.mem_iff_getElem?.mp hb
      obtain ⟨pq, t, u, h1', h2''⟩ := pr j b hj
      have hbl : s.heap.objs.size ≤ b := Nat.le_of_lt (hG.above b hb)
      refine ⟨hbl, ?_, _, rfl, fun H3 => ⟨(by rw [sizeLine_eq]; show 2 ≤ 16777216; omega), [Value.int pq.1 t, Value.int pq.2 u], ?_, ⟨_, kF _ _ (ne0 _ _ h2'') (ka _ _ h2''), rfl, 0, rfl⟩⟩⟩
      · rw [upd_ne (ne0 _ _ h2'')]
        exact I.hok.fresh hbl
      · rw [kA_at nd hj h1']
        exact .cons ⟨t, rfl⟩ (.cons ⟨u, rfl⟩ .nil)
    have gr : ∀ b o, H b = some o → H2 b = some o := fun b o e => g b o (by rw [upd_ne (ne_of_none e hn0)]; exact e)
    have em : (os.map fun b => (b, kA as ps b)).map (·.2) = os.map (kA as ps) := by
      rw [List.map_map]
      exact List.map_congr_left fun _ _ => rfl
    refine ⟨.ref h'.objs.size, H2, I3, rfl, q H2 h'.objs.size (os.map fun b => (b, kA as ps b)) gr hn0 ?_ ?_ ?_ fun z hz' => ?_⟩
    · rw [em]
      have e := po.map (kA as ps)
      rw [kA_map nd lap] at e
      exact e
    · rw [em]
      have e : SrtO.Srtd (fun v u => SrtO.lexB (kA as ps (aV v)) (kA as ps (aV u))) (os.map Value.ref) := h1
      exact List.pairwise_map.mpr (List.pairwise_map.mp e)
    · have e : (os.map fun b => (b, kA as ps b)).map (fun z => V.ref z.1) = os.map V.ref := by
        rw [List.map_map]
        exact List.map_congr_left fun _ _ => rfl
      rw [e]
      exact g _ _ upd_same
    · obtain ⟨b, hb, rfl⟩ := List.mem_map.mp hz'
      have hb' := po.mem_iff.mp hb
      obtain ⟨vs', ev, hH⟩ := qt b hb'
      obtain ⟨j, hj⟩ := List.mem_iff_getElem?.mp hb'
      obtain ⟨pq, t, u, h1', h2''⟩ := pr j b hj
      subst ev
      exact ⟨I.hok.fresh (Nat.le_of_lt (hG.above b hb')), ne0 _ _ h2'', hH⟩
end
section
variable {K : PySem.W.Frag} {σ : L2.St} {H : Hp} {ta tb tc td te : TE} {D : Ends} {tu : TS} {tz : TS} {ps : List (Int × Int)}
/-- for k, v in d.items() -/
theorem s_forItI {i j : Nat} {d : Addr} (hd : H d = some (.dK (enc ps))) (h : ∀ o, Ev td σ (upd H d (.frz o (.dK (enc ps)))) (.ref d)) (Pv : Obj → Nat → L2.St → Hp → Prop) (h0 : ∀ o H1, Ex (upd H d (.frz o (.dK (enc ps)))) H1 → Pv o 0 σ H1) (hl : ∀ o k σ' H', k ≤ ps.length → Pv o k σ' H' → H' d = some (.frz o (.dK (enc ps))))
    (hs : ∀ o k a v σ' H' H2, ps[k]? = some (a, v) → Pv o k σ' H' → Ex H' H2 → tu { nx := Pv o (k + 1), ct := Pv o (k + 1), bk := fun σ' H' => H' d = some (.frz o (.dK (enc ps))) ∧ D.nx σ' (upd H' d (.dK (enc ps))), rt := fun v H' => H' d = some (.frz o (.dK (enc ps))) ∧ D.rt v (upd H' d (.dK (enc ps))) } ((σ'.set i (some (.int a))).set j (some (.int v))) H2)
    (he : ∀ o σ' H', Pv o ps.length σ' H' → D.nx σ' (upd H' d (.dK (enc ps)))) : tLock (tFor (iItems td) (gTup K 2 (gCons (gName i) (gCons (gName j) gNil))) tu) D σ H := ⟨d, .dK (enc ps), hd, True.intro, fun o => h o _ (Ex.refl _) _ fun H1 e => ⟨d, o, enc ps, rfl, e d _ upd_same, by
  have le : (enc ps).length = ps.length := List.length_map ..
  refine for_it walk_items (Pv o) (h0 o H1 e) (fun k σ' H' hk p => hl o k σ' H' (by omega) p) ?_ (fun σ' H' p => by
    rw [le] at p
    exact ⟨hl o _ σ' H' (Nat.le_refl _) p, he o σ' H' p⟩)
  rintro k v σ' Hh H2 hk p ⟨T, x, y, rfl, nT, rfl, g1, g2⟩
  have hk' : k < ps.length := by omega
  have e0 : (enc ps)[k]? = some (.inl ps[k].1, .int ps[k].2) := by
    unfold enc
    rw [List.getElem?_map, List.getElem?_eq_getElem hk']
    rfl
  have g1 : (enc ps)[k]?.map (fun kv => kV kv.1) = some x := g1
  have g2 : (enc ps)[k]?.map Prod.snd = some y := g2
  rw [e0] at g1 g2
  cases g1
  cases g2
  exact ⟨T, [.int ps[k].1, .int ps[k].2], rfl, st_of upd_same, rfl, .int ps[k].1, [.int ps[k].2], rfl, .int ps[k].2, [], rfl, rfl, hs o k ps[k].1 ps[k].2 σ' Hh _ (List.getElem?_eq_getElem hk') p (Ex.new nT)⟩⟩⟩
theorem q_forItI {i j : Nat} {d : Addr} (hd : H d = some (.dK (enc ps))) (h : ∀ o, Ev td σ (upd H d (.frz o (.dK (enc ps)))) (.ref d)) (Pv : Obj → Nat → L2.St → Hp → Prop) (h0 : ∀ o H1, Ex (upd H d (.frz o (.dK (enc ps)))) H1 → Pv o 0 σ H1) (hl : ∀ o k σ' H', k ≤ ps.length → Pv o k σ' H' → H' d = some (.frz o (.dK (enc ps))))
    (hs : ∀ o k a v σ' H' H2, ps[k]? = some (a, v) → Pv o k σ' H' → Ex H' H2 → tu { nx := Pv o (k + 1), ct := Pv o (k + 1), bk := fun σ' H' => H' d = some (.frz o (.dK (enc ps))) ∧ tz D σ' (upd H' d (.dK (enc ps))), rt := fun v H' => H' d = some (.frz o (.dK (enc ps))) ∧ D.rt v (upd H' d (.dK (enc ps))) } ((σ'.set i (some (.int a))).set j (some (.int v))) H2)
    (he : ∀ o σ' H', Pv o ps.length σ' H' → tz D σ' (upd H' d (.dK (enc ps)))) : tSeq (tLock (tFor (iItems td) (gTup K 2 (gCons (gName i) (gCons (gName j) gNil))) tu)) tz D σ H := s_forItI (D := { D with nx := tz D }) hd h Pv h0 hl hs he
/-- [{k: v}] -/
theorem q_asgD1 {i : Nat} {x v : Int} (hk : ∀ H1, Ev ta σ H1 (.int x)) (hv : ∀ H1, Ev tb σ H1 (.int v)) (k : ∀ p q H1, H p = none → H q = none → p ≠ q → Ex H H1 → H1 p = some (.dK (enc [(x, v)])) → H1 q = some (.lst [.ref p]) → tz D (σ.set i (some (.ref q))) H1) : tSeq (tAsg (tLst (tCons (tDisp [(ta, tb)]) tNil)) (gName i)) tz D σ H := fun p hp => hk _ _ (Ex.refl _) _ fun H1 e1 => hv _ _ (Ex.refl _) _ fun H2 e2 =>
  ⟨e2 p _ (e1 p _ upd_same), [(.inl x, .int v)], rfl, Nat.le_of_ble_eq_true rfl, Nat.le_of_ble_eq_true rfl, fun q hq => by
    have np : q ≠ p := fun z => by
      rw [z, upd_same] at hq
      cases hq
    have hq2 : H2 q = none := by
      rw [upd_ne np] at hq
      exact hq
    have eb : Ex H (upd H2 p (.dK (mergeK [] [(Sum.inl x, V.int v)]))) := Ex.mut ((Ex.new hp).trans (e1.trans e2)) hp
    refine k p q _ hp ?_ np.symm (eb.trans (Ex.new hq)) ?_ upd_same
    · cases hh : H q with
      | none => rfl
      | some o =>
        have := eb q o hh
        rw [this] at hq
        cases hq
    · rw [upd_ne np.symm]
      exact upd_same⟩
theorem s_retSI {a : Addr} (h : Ev ta σ H (.ref a)) (ha : H a = some (.dK (enc ps))) (hne : ps ≠ []) (k : ∀ (H' : Hp) (l : Addr) (zs : List (Addr × Int × Int)), Ex H H' → H l = none → (zs.map (·.2)).Perm ps → (zs.map (·.2)).Pairwise (fun x y => SrtO.lexB y x = false) → H' l = some (.lst (zs.map fun z => V.ref z.1)) →
    (∀ z ∈ zs, H z.1 = none ∧ z.1 ≠ l ∧ H' z.1 = some (.tup [.int z.2.1, .int z.2.2])) → D.rt (.ref l) H') : tRet (tCB rSortItK (tCons (tBM0 K "dict" rItemsK ta) tNil)) D σ H := h H (Ex.refl H) _ fun H1 e1 =>
  ⟨.inr (.inr (.inl ⟨rfl, .inl ⟨_, e1 a _ ha⟩⟩)), a, _, rfl, rfl, e1 a _ ha, fun p hp => ⟨p, a, ps, rfl, upd_same, by
    rw [upd_ne (ne_of_none (e1 a _ ha) hp)]
    exact e1 a _ ha, hne, fun H' l zs g nl k1 k2 k3 k4 => by
    have back : ∀ c, upd H1 p (itemsO p a) c = none → H c = none := fun c hc => by
      cases hh : H c with
      | none => rfl
      | some o =>
        have e := e1.trans (Ex.new (o := itemsO p a) hp) c o hh
        rw [hc] at e
        cases e
    exact k H' l zs ((e1.trans (Ex.new hp)).trans g) (back l nl) k1 k2 k3 fun z hz => ⟨back _ (k4 z hz).1, (k4 z hz).2⟩⟩⟩
end
end Kit

set_option Elab.async false
set_option linter.all false
set_option maxRecDepth 100000
set_option maxHeartbeats 4000000
namespace Kit
open PySem PySem.Spec PyProof.Rows L2 Evl
/-! ### math.lcm -/
def rLcm : List V → Hp → VK → Prop := fun vs H Q => ∃ a b : Nat, vs = [.int (a : Int), .int (b : Int)] ∧ a < 2 ^ 60 ∧ b < 2 ^ 60 ∧ Q (.int ((Nat.lcm a b : Nat) : Int)) H
theorem cr_lcm {X : Cx} : CallR X (.builtin "math.lcm") rLcm := by
  intro pins s σ H vs us Q I r h
  obtain ⟨a, b, rfl, ha, hb, q⟩ := h
  obtain ⟨t, u, rfl⟩ := Vals.int2 r
  exact PySem.W.mc_lcm (by omega) (by omega) fun _ => ⟨.int _, H, I.tok _, ⟨_, rfl⟩, q⟩
section
variable {σ : L2.St} {H : Hp} {ta tb : TE} {a b : Nat}
theorem ev_lcm (ha : Ev ta σ H (.int (a : Int))) (hb : Ev tb σ H (.int (b : Int))) (h1 : a < 2 ^ 60) (h2 : b < 2 ^ 60) : Ev (tCB rLcm (tCons ta (tCons tb tNil))) σ H (.int ((Nat.lcm a b : Nat) : Int)) := fun H1 e Q q =>
  ha H1 e _ fun H2 e2 => hb H2 (e.trans e2) _ fun H3 e3 => ⟨a, b, rfl, h1, h2, q H3 (e2.trans e3)⟩
end
end Kit

set_option Elab.async false
set_option linter.all false
set_option maxRecDepth 100000
set_option maxHeartbeats 4000000
namespace Kit
open PySem PySem.Spec PyProof.Rows L2 Evl
/-! ### sum(xs) of a tuple of ints -/
def rSumTu (K : PySem.W.Frag) : List V → Hp → VK → Prop := fun vs H Q => ∃ (a : Addr) (ns : List Int), vs = [V.ref a] ∧ SqT K H a (ns.map V.int) ∧ Q (.int ns.sum) H
theorem cr_sumTu {X : Cx} (hc : X.calm = true) : CallR X (.builtin "sum") (rSumTu X.K) := by
  intro pins s σ H vs us Q I r h
  obtain ⟨a, ns, rfl, hs, q⟩ := h
  obtain ⟨its, rv, ht, _⟩ := I.tuple hs
  rw [Vals.ref1 r]
  have hi := rv.ints
  have hl : s.heap.IsTuple a its.toArray := ht
  obtain ⟨xs, hx⟩ := hi.allInts.items
  have hn : numsOf its.toArray.toList = ns := by rw [show its.toArray.toList = its from rfl, hi.numsOf]
  rw [hx] at hl hn
  rw [nums_intItems] at hn
  refine PySem.W.ktm_sumG (I.ok.hd hc) hl fun h' tk t' hk => ?_
  have e : preSum (numAt xs) xs.size = ns.sum := by
    rw [preSum_eq, List.take_of_length_le (by simp), hn]
  rw [e]
  exact ⟨.int _, H, I.kept hk, ⟨_, rfl⟩, q⟩
theorem ev_sumTu {K : PySem.W.Frag} {σ : L2.St} {H : Hp} {ta : TE} {a : Addr} {ns : List Int} (h : Ev ta σ H (.ref a)) (ha : H a = some (.tup (ns.map V.int))) : Ev (tCB (rSumTu K) (tCons ta tNil)) σ H (.int ns.sum) := fun H1 e Q q => h H1 e _ fun H2 e2 => ⟨a, ns, rfl, st_of ((e.trans e2) a _ ha), q H2 e2⟩
end Kit

set_option Elab.async false
set_option linter.all false
set_option maxRecDepth 100000
set_option maxHeartbeats 4000000
namespace Kit
open PySem PySem.Spec PyProof.Rows L2 Evl
/-! ### isinstance(e, (A, B, ..)), e the caught exception; lists of new tuples -/
def rIsET (K : PySem.W.Frag) (D a : Addr) : List V → Hp → VK → Prop := fun xs H Q => ∃ (q : Addr) (cs : List Addr) (b : Bool), xs = [.ref a, .ref q] ∧ H q = some (.tup (cs.map V.ref)) ∧ PySem.W.kitAny K (.ref D) (cs.map Value.ref) = some b ∧ Q (.bl b) H
theorem vals_refs : ∀ {cs : List Addr} {its : List Value}, Vals (cs.map V.ref) its → its = cs.map Value.ref
  | [], _, .nil => rfl
  | c :: r, _, .cons h t => by
    have e : _ = Value.ref c := h
    rw [e, vals_refs t]
    rfl
theorem call_isPT {X : Cx} {p : Addr × Obj} {D : Addr} (C : ExcD X.K D) (hp : p ∈ X.pn) (hz : Zc (.ref D) none p.2) (hf : ∃ vs, p.2.data = .fields vs) : CallR X (.builtin "isinstance") (rIsET X.K D p.1) := by
  intro pins st σ H xs us Q J r h
  obtain ⟨q0, cs, b, rfl, hq, e, q⟩ := h
  cases r with
  | cons ra rest =>
    cases rest with
    | cons rc rest =>
      cases rest
      cases ra
      have ec : _ = Value.ref q0 := rc
      subst ec
      obtain ⟨_, its, rel, tup⟩ := (show ObjOk X.prog X.w H st.heap q0 (.tup (cs.map V.ref)) from J.hok q0 _ hq)
      obtain ⟨o, ho, hc, n, hd⟩ := tup
      obtain ⟨cl, dd, dat, sl⟩ := o
      have hc : cl = .type "tuple" := hc
      have hd : dat = .seq its.toArray n := hd
      subst hc hd
      rw [vals_refs rel] at ho
      obtain ⟨there, _⟩ := J.pin p (List.mem_append_left _ hp)
      obtain ⟨vs, hv⟩ := hf
      have inst : PySem.W.InstAt st.heap p.1 p.2 D none := ⟨there, hz.1, by unfold PySem.W.notCls; rw [hv] <;> rfl, by rw [hz.2]; trivial⟩
      have Z := PySem.W.handS_kitx_exc (x := p.1) (ox := p.2) C.is.hg C.is.hk C.is.hs C.is.hd C.is.ha C.is.hn C.is.ht C.is.hm
      exact PySem.W.kia_tup Z J.kIn inst ho e (fun z => nomatch z) fun tk => ⟨.bl b, H, J.kept (t' := tk) fun _ _ z => z, rfl, q⟩
section
variable {K : PySem.W.Frag} {σ : L2.St} {H : Hp} {ta tb te tf tl : TE} {tr t : TA} {D : Ends} {tz : TS} {tt : TT}
theorem ev_isPT {a C : Addr} {cs : List Addr} {b : Bool} (h0 : Ev te σ H (.ref a)) (h1 : EvU tf σ H (cs.map V.ref)) (hk : PySem.W.kitAny K (.ref C) (cs.map Value.ref) = some b) : Ev (tCB (rIsET K C a) (tCons te (tCons tf tNil))) σ H (.bl b) := fun H1 e Q q =>
  h0 H1 e _ fun H2 e2 => h1 H2 (e.trans e2) _ fun p H3 _ e3 hp => ⟨p, cs, b, rfl, hp, hk, q H3 (e2.trans e3)⟩
def EaT (ta : TA) (σ : L2.St) (H : Hp) (rs : List (List V)) : Prop := ∀ H1, Ex H H1 → ∀ Q : List V → Hp → Prop, (∀ vs H2, Ex H1 H2 → TL H2 vs rs → Q vs H2) → ta σ H1 Q
theorem eat_nil : EaT tNil σ H [] := fun H1 _ Q q => q [] H1 (Ex.refl _) .nil
theorem eat_cons {xs : List V} {rs : List (List V)} (h : EvU te σ H xs) (hr : EaT tr σ H rs) : EaT (tCons te tr) σ H (xs :: rs) := fun H1 e Q q =>
  h H1 e _ fun p H2 _ e2 hp => hr H2 (e.trans e2) _ fun vs H3 e3 tl => q (.ref p :: vs) H3 (e2.trans e3) (.cons ⟨p, rfl, e3 p _ hp⟩ tl)
theorem elt_lst {rs : List (List V)} (h : EaT t σ H rs) (hl : rs.length ≤ 100000) : EvLT (tLst t) σ H rs := fun H1 e Q q =>
  h H1 e _ fun vs H2 e2 tl => ⟨sz_of (by rw [tl.len]; exact hl), fun p hp => q p vs _ (fresh_back e2 hp) (e2.trans (Ex.new hp)) upd_same (tl.ex (Ex.new hp))⟩
theorem tl_app {H : Hp} : ∀ {vs ws : List V} {rs ss : List (List V)}, TL H vs rs → TL H ws ss → TL H (vs ++ ws) (rs ++ ss)
  | [], _, [], _, .nil, h => h
  | _, _, _, _, .cons x t, h => .cons x (tl_app t h)
/-- found + [..] -/
theorem elt_catL {a : Addr} {vs : List V} {rs ss : List (List V)} (h : Ev ta σ H (.ref a)) (ha : H a = some (.lst vs)) (tl : TL H vs rs) (h2 : EvLT tb σ H ss) (hz : rs.length + ss.length ≤ 1000) : EvLT (tOp rCat ta tb) σ H (rs ++ ss) := fun H1 e Q q =>
  h H1 e _ fun H2 e2 => h2 H2 (e.trans e2) _ fun p ws H3 _ e3 hp tw => ⟨a, p, vs, ws, rfl, rfl, e3 a _ (e2 a _ (e a _ ha)), hp, sz_of (by rw [tl.len, tw.len]; omega), fun l hl =>
    q l _ _ (fresh_back (e2.trans e3) hl) ((e2.trans e3).trans (Ex.new hl)) upd_same (tl_app (tl.ex (e.trans (e2.trans (e3.trans (Ex.new hl))))) (tw.ex (Ex.new hl)))⟩
/-- [e for x, y in a list of pairs if t] -/
theorem el_lcTL {a : Addr} {ws : List V} {rs : List (List V)} {i j : Nat} {vs : List Nat} (x y : Nat → V) (f : Nat → Bool) (v : Nat → V) (h : Ev tl σ H (.ref a)) (ha : H a = some (.lst ws)) (hl : TL H ws rs) (hz : rs.length ≤ 1000) (hr : ∀ (n : Nat) r, rs[n]? = some r → r = [x n, y n])
    (hw : ∀ x y, wipe (((wipe σ vs).set i (some x)).set j (some y)) vs = wipe σ vs)
    (ht : ∀ (n : Nat) H1, n < rs.length → EvT tt (((wipe σ vs).set i (some (x n))).set j (some (y n))) H1 (f n))
    (he : ∀ (n : Nat) H1, n < rs.length → f n = true → Ev te (((wipe σ vs).set i (some (x n))).set j (some (y n))) H1 (v n)) :
    EvL (tLc (iList K tl) (gTup K 2 (gCons (gName i) (gCons (gName j) gNil))) tt te vs) σ H (given rs.length f v) := fun H0 e Q q => h H0 e _ fun H1 e1 => ⟨a, rfl, ⟨ws, sq_of (e1 a _ (e a _ ha))⟩, fun Dl hD => by
  have le := hl.len
  refine lc_list (xs := ws) (Cw H1 f v Dl) ⟨hD, Ex.new hD, upd_same⟩ (fun n G _ p => sq_of (p.2.1 a _ (e1 a _ (e a _ ha)))) (fun n w G hn p => ?_) fun G p => q Dl G (fresh_back e1 p.1) (e1.trans p.2.1) (by have := p.2.2; rw [le] at this; exact this)
  have nl := (List.getElem?_eq_some_iff.mp hn).1
  obtain ⟨b, r, rfl, hb, hr0⟩ := hl.get hn
  have er := hr n r hr0
  subst er
  refine ⟨b, [x n, y n], rfl, st_of (p.2.1 b _ (e1 b _ (e b _ hb))), rfl, x n, [y n], rfl, y n, [], rfl, rfl, hw _ _, ?_⟩
  exact cw_turn (H := H1) p (by omega) (ht n H1 (by omega)) fun hf => he n H1 (by omega) hf⟩
end
end Kit

namespace K49
open PySem PySem.Spec PyProof.Rows L2 Evl Kit
def topS (i : Nat) : Stmt := PySem.Challenge.pw_newtables_k49_errors_of_powers.main.body.getD i (.Pass ⟨0, 0, 0, 0⟩)
abbrev s_wall : Stmt := topS 1
abbrev n_wall : List Str := ["k"]
theorem sc_wall : FnScope n_wall ["k"] (defScope s_wall) := ⟨rfl, rfl, rfl, by decide +kernel, rfl, by decide +kernel, by decide +kernel⟩
abbrev s_is_whole : Stmt := topS 13
abbrev n_is_whole : List Str := ["thing"]
theorem sc_is_whole : FnScope n_is_whole ["thing"] (defScope s_is_whole) := ⟨rfl, rfl, rfl, by decide +kernel, rfl, by decide +kernel, by decide +kernel⟩
abbrev s_is_within : Stmt := topS 14
abbrev n_is_within : List Str := ["thing", "least", "most"]
theorem sc_is_within : FnScope n_is_within ["thing", "least", "most"] (defScope s_is_within) := ⟨rfl, rfl, rfl, by decide +kernel, rfl, by decide +kernel, by decide +kernel⟩
abbrev s_is_order : Stmt := topS 15
abbrev n_is_order : List Str := ["thing", "item"]
theorem sc_is_order : FnScope n_is_order ["thing"] (defScope s_is_order) := ⟨rfl, rfl, rfl, by decide +kernel, rfl, by decide +kernel, by decide +kernel⟩
abbrev s_check_guests : Stmt := topS 16
abbrev n_check_guests : List Str := ["guests"]
theorem sc_check_guests : FnScope n_check_guests ["guests"] (defScope s_check_guests) := ⟨rfl, rfl, rfl, by decide +kernel, rfl, by decide +kernel, by decide +kernel⟩
abbrev s_check_weight : Stmt := topS 17
abbrev n_check_weight : List Str := ["weight"]
theorem sc_check_weight : FnScope n_check_weight ["weight"] (defScope s_check_weight) := ⟨rfl, rfl, rfl, by decide +kernel, rfl, by decide +kernel, by decide +kernel⟩
abbrev s_check_number : Stmt := topS 18
abbrev n_check_number : List Str := ["number", "least", "most"]
theorem sc_check_number : FnScope n_check_number ["number", "least", "most"] (defScope s_check_number) := ⟨rfl, rfl, rfl, by decide +kernel, rfl, by decide +kernel, by decide +kernel⟩
abbrev s_check_any_number : Stmt := topS 19
abbrev n_check_any_number : List Str := ["number"]
theorem sc_check_any_number : FnScope n_check_any_number ["number"] (defScope s_check_any_number) := ⟨rfl, rfl, rfl, by decide +kernel, rfl, by decide +kernel, by decide +kernel⟩
abbrev s_raised : Stmt := topS 20
abbrev n_raised : List Str := ["base", "times", "total", "_"]
theorem sc_raised : FnScope n_raised ["base", "times"] (defScope s_raised) := ⟨rfl, rfl, rfl, by decide +kernel, rfl, by decide +kernel, by decide +kernel⟩
abbrev s_is_seating : Stmt := topS 22
abbrev n_is_seating : List Str := ["thing"]
theorem sc_is_seating : FnScope n_is_seating ["thing"] (defScope s_is_seating) := ⟨rfl, rfl, rfl, by decide +kernel, rfl, by decide +kernel, by decide +kernel⟩
abbrev s_tables_of : Stmt := topS 23
abbrev n_tables_of : List Str := ["seating"]
theorem sc_tables_of : FnScope n_tables_of ["seating"] (defScope s_tables_of) := ⟨rfl, rfl, rfl, by decide +kernel, rfl, by decide +kernel, by decide +kernel⟩
abbrev s_check_seating : Stmt := topS 24
abbrev n_check_seating : List Str := ["seating"]
theorem sc_check_seating : FnScope n_check_seating ["seating"] (defScope s_check_seating) := ⟨rfl, rfl, rfl, by decide +kernel, rfl, by decide +kernel, by decide +kernel⟩
abbrev s_walk_left : Stmt := topS 25
abbrev n_walk_left : List Str := ["lefts", "guest", "walk"]
theorem sc_walk_left : FnScope n_walk_left ["lefts", "guest"] (defScope s_walk_left) := ⟨rfl, rfl, rfl, by decide +kernel, rfl, by decide +kernel, by decide +kernel⟩
abbrev s_tables_among : Stmt := topS 26
abbrev n_tables_among : List Str := ["lefts", "guests", "guest", "walks", "walk"]
theorem sc_tables_among : FnScope n_tables_among ["lefts", "guests"] (defScope s_tables_among) := ⟨rfl, rfl, rfl, by decide +kernel, rfl, by decide +kernel, by decide +kernel⟩
abbrev s_seating_with : Stmt := topS 27
abbrev n_seating_with : List Str := ["tables", "table", "seating", "at", "guest"]
theorem sc_seating_with : FnScope n_seating_with ["tables"] (defScope s_seating_with) := ⟨rfl, rfl, rfl, by decide +kernel, rfl, by decide +kernel, by decide +kernel⟩
abbrev s_check_sizes : Stmt := topS 29
abbrev n_check_sizes : List Str := ["sizes"]
theorem sc_check_sizes : FnScope n_check_sizes ["sizes"] (defScope s_check_sizes) := ⟨rfl, rfl, rfl, by decide +kernel, rfl, by decide +kernel, by decide +kernel⟩
abbrev s_are_sizes : Stmt := topS 30
abbrev n_are_sizes : List Str := ["thing", "item"]
theorem sc_are_sizes : FnScope n_are_sizes ["thing"] (defScope s_are_sizes) := ⟨rfl, rfl, rfl, by decide +kernel, rfl, by decide +kernel, by decide +kernel⟩
abbrev s_power : Stmt := topS 34
abbrev n_power : List Str := ["seating", "number", "powered", "table", "at", "guest"]
theorem sc_power : FnScope n_power ["seating", "number"] (defScope s_power) := ⟨rfl, rfl, rfl, by decide +kernel, rfl, by decide +kernel, by decide +kernel⟩
abbrev s_power_sizes : Stmt := topS 35
abbrev n_power_sizes : List Str := ["sizes", "number", "size", "parts", "part"]
theorem sc_power_sizes : FnScope n_power_sizes ["sizes", "number"] (defScope s_power_sizes) := ⟨rfl, rfl, rfl, by decide +kernel, rfl, by decide +kernel, by decide +kernel⟩
abbrev s_period_of : Stmt := topS 36
abbrev n_period_of : List Str := ["seating", "period", "table"]
theorem sc_period_of : FnScope n_period_of ["seating"] (defScope s_period_of) := ⟨rfl, rfl, rfl, by decide +kernel, rfl, by decide +kernel, by decide +kernel⟩
abbrev s_period_counts : Stmt := topS 37
abbrev n_period_counts : List Str := ["guests", "ways", "many", "found", "size", "tables", "former", "part", "period"]
theorem sc_period_counts : FnScope n_period_counts ["guests"] (defScope s_period_counts) := ⟨rfl, rfl, rfl, by decide +kernel, rfl, by decide +kernel, by decide +kernel⟩
abbrev s_least_guests : Stmt := topS 38
abbrev n_least_guests : List Str := ["period"]
theorem sc_least_guests : FnScope n_least_guests ["period"] (defScope s_least_guests) := ⟨rfl, rfl, rfl, by decide +kernel, rfl, by decide +kernel, by decide +kernel⟩
abbrev s_count_roots : Stmt := topS 39
abbrev n_count_roots : List Str := ["seating", "number", "ways", "size", "tables"]
theorem sc_count_roots : FnScope n_count_roots ["seating", "number"] (defScope s_count_roots) := ⟨rfl, rfl, rfl, by decide +kernel, rfl, by decide +kernel, by decide +kernel⟩
abbrev s_a_root : Stmt := topS 40
abbrev n_a_root : List Str := ["seating", "number", "woven", "size", "tables", "least", "first"]
theorem sc_a_root : FnScope n_a_root ["seating", "number"] (defScope s_a_root) := ⟨rfl, rfl, rfl, by decide +kernel, rfl, by decide +kernel, by decide +kernel⟩
abbrev s_shows_root : Stmt := topS 41
abbrev n_shows_root : List Str := ["seating", "number", "thing"]
theorem sc_shows_root : FnScope n_shows_root ["seating", "number", "thing"] (defScope s_shows_root) := ⟨rfl, rfl, rfl, by decide +kernel, rfl, by decide +kernel, by decide +kernel⟩
abbrev s_root_paper : Stmt := topS 42
abbrev n_root_paper : List Str := ["seating", "number", "sizes"]
theorem sc_root_paper : FnScope n_root_paper ["seating", "number"] (defScope s_root_paper) := ⟨rfl, rfl, rfl, by decide +kernel, rfl, by decide +kernel, by decide +kernel⟩
abbrev s_shows_root_paper : Stmt := topS 43
abbrev n_shows_root_paper : List Str := ["seating", "number", "thing"]
theorem sc_shows_root_paper : FnScope n_shows_root_paper ["seating", "number", "thing"] (defScope s_shows_root_paper) := ⟨rfl, rfl, rfl, by decide +kernel, rfl, by decide +kernel, by decide +kernel⟩
abbrev s_prime_powers : Stmt := topS 44
abbrev n_prime_powers : List Str := ["number", "parts", "rest", "prime", "part"]
theorem sc_prime_powers : FnScope n_prime_powers ["number"] (defScope s_prime_powers) := ⟨rfl, rfl, rfl, by decide +kernel, rfl, by decide +kernel, by decide +kernel⟩
abbrev s_tables_by_size : Stmt := topS 45
abbrev n_tables_by_size : List Str := ["seating", "tables", "table"]
theorem sc_tables_by_size : FnScope n_tables_by_size ["seating"] (defScope s_tables_by_size) := ⟨rfl, rfl, rfl, by decide +kernel, rfl, by decide +kernel, by decide +kernel⟩
abbrev s_sizes_without_root : Stmt := topS 46
abbrev n_sizes_without_root : List Str := ["seating", "number", "tables", "size"]
theorem sc_sizes_without_root : FnScope n_sizes_without_root ["seating", "number"] (defScope s_sizes_without_root) := ⟨rfl, rfl, rfl, by decide +kernel, rfl, by decide +kernel, by decide +kernel⟩
abbrev s_joinable : Stmt := topS 47
abbrev n_joinable : List Str := ["size", "many", "number", "joined"]
theorem sc_joinable : FnScope n_joinable ["size", "many", "number"] (defScope s_joinable) := ⟨rfl, rfl, rfl, by decide +kernel, rfl, by decide +kernel, by decide +kernel⟩
abbrev s_ways_of_roots : Stmt := topS 48
abbrev n_ways_of_roots : List Str := ["size", "many", "number", "ways", "tables", "parts", "joined", "choices"]
theorem sc_ways_of_roots : FnScope n_ways_of_roots ["size", "many", "number"] (defScope s_ways_of_roots) := ⟨rfl, rfl, rfl, by decide +kernel, rfl, by decide +kernel, by decide +kernel⟩
abbrev s_woven_table : Stmt := topS 49
abbrev n_woven_table : List Str := ["tables", "number", "length", "woven", "start", "table", "at", "guest"]
theorem sc_woven_table : FnScope n_woven_table ["tables", "number"] (defScope s_woven_table) := ⟨rfl, rfl, rfl, by decide +kernel, rfl, by decide +kernel, by decide +kernel⟩
abbrev s_law_bag : Stmt := topS 53
abbrev n_law_bag : List Str := ["script", "stir", "cell"]
theorem sc_law_bag : FnScope n_law_bag ["script"] (defScope s_law_bag) := ⟨rfl, rfl, rfl, by decide +kernel, rfl, by decide +kernel, by decide +kernel⟩
abbrev s_law_stirred : Stmt := topS 54
abbrev n_law_stirred : List Str := ["bag", "wide", "found", "k", "mixed"]
theorem sc_law_stirred : FnScope n_law_stirred ["bag", "wide"] (defScope s_law_stirred) := ⟨rfl, rfl, rfl, by decide +kernel, rfl, by decide +kernel, by decide +kernel⟩
abbrev s_law_draw : Stmt := topS 55
abbrev n_law_draw : List Str := ["bag", "wide", "found"]
theorem sc_law_draw : FnScope n_law_draw ["bag", "wide"] (defScope s_law_draw) := ⟨rfl, rfl, rfl, by decide +kernel, rfl, by decide +kernel, by decide +kernel⟩
abbrev s_law_alike : Stmt := topS 56
abbrev n_law_alike : List Str := ["found", "due", "k"]
theorem sc_law_alike : FnScope n_law_alike ["found", "due"] (defScope s_law_alike) := ⟨rfl, rfl, rfl, by decide +kernel, rfl, by decide +kernel, by decide +kernel⟩
abbrev s_law_bad_seating : Stmt := topS 57
abbrev n_law_bad_seating : List Str := ["bag", "odd", "found", "wrong"]
theorem sc_law_bad_seating : FnScope n_law_bad_seating ["bag"] (defScope s_law_bad_seating) := ⟨rfl, rfl, rfl, by decide +kernel, rfl, by decide +kernel, by decide +kernel⟩
abbrev s_law_asked : Stmt := topS 58
abbrev n_law_asked : List Str := ["way", "some", "far", "e", "shown"]
theorem sc_law_asked : FnScope n_law_asked ["way", "some", "far"] (defScope s_law_asked) := ⟨rfl, rfl, rfl, by decide +kernel, rfl, by decide +kernel, by decide +kernel⟩
abbrev s_law : Stmt := topS 59
abbrev n_law : List Str := ["script", "bag", "turn", "bad", "far", "way", "told", "good", "wrong", "bound", "thing_here"]
theorem sc_law : FnScope n_law ["script"] (defScope s_law) := ⟨rfl, rfl, rfl, by decide +kernel, rfl, by decide +kernel, by decide +kernel⟩
abbrev s_Hall_init : Stmt := Kit.clsM (topS 51) 0
abbrev n_Hall_init : List Str := ["self", "weight"]
theorem sc_Hall_init : FnScope n_Hall_init ["self", "weight"] (defScope s_Hall_init) := ⟨rfl, rfl, rfl, by decide +kernel, rfl, by decide +kernel, by decide +kernel⟩
/-! what the top has written -/
structure Tx (K : PySem.W.Frag) (mg : Str → Option Value) where
  f_wall : Addr
  d_wall : FuncData
  F_wall : Fun K "_wall" "_wall" s_wall f_wall d_wall
  g_wall : mg "_wall" = some (.ref f_wall)
  b_wall : Binds K d_wall ["k"] []
  f_is_whole : Addr
  d_is_whole : FuncData
  F_is_whole : Fun K "is_whole" "is_whole" s_is_whole f_is_whole d_is_whole
  g_is_whole : mg "is_whole" = some (.ref f_is_whole)
  b_is_whole : Binds K d_is_whole ["thing"] []
  f_is_within : Addr
  d_is_within : FuncData
  F_is_within : Fun K "is_within" "is_within" s_is_within f_is_within d_is_within
  g_is_within : mg "is_within" = some (.ref f_is_within)
  b_is_within : Binds K d_is_within ["thing", "least", "most"] []
  f_is_order : Addr
  d_is_order : FuncData
  F_is_order : Fun K "is_order" "is_order" s_is_order f_is_order d_is_order
  g_is_order : mg "is_order" = some (.ref f_is_order)
  b_is_order : Binds K d_is_order ["thing"] []
  f_check_guests : Addr
  d_check_guests : FuncData
  F_check_guests : Fun K "check_guests" "check_guests" s_check_guests f_check_guests d_check_guests
  g_check_guests : mg "check_guests" = some (.ref f_check_guests)
  b_check_guests : Binds K d_check_guests ["guests"] []
  f_check_weight : Addr
  d_check_weight : FuncData
  F_check_weight : Fun K "check_weight" "check_weight" s_check_weight f_check_weight d_check_weight
  g_check_weight : mg "check_weight" = some (.ref f_check_weight)
  b_check_weight : Binds K d_check_weight ["weight"] []
  f_check_number : Addr
  d_check_number : FuncData
  F_check_number : Fun K "check_number" "check_number" s_check_number f_check_number d_check_number
  g_check_number : mg "check_number" = some (.ref f_check_number)
  b_check_number : Binds K d_check_number ["number", "least", "most"] []
  f_check_any_number : Addr
  d_check_any_number : FuncData
  F_check_any_number : Fun K "check_any_number" "check_any_number" s_check_any_number f_check_any_number d_check_any_number
  g_check_any_number : mg "check_any_number" = some (.ref f_check_any_number)
  b_check_any_number : Binds K d_check_any_number ["number"] []
  f_raised : Addr
  d_raised : FuncData
  F_raised : Fun K "raised" "raised" s_raised f_raised d_raised
  g_raised : mg "raised" = some (.ref f_raised)
  b_raised : Binds K d_raised ["base", "times"] []
  f_is_seating : Addr
  d_is_seating : FuncData
  F_is_seating : Fun K "is_seating" "is_seating" s_is_seating f_is_seating d_is_seating
  g_is_seating : mg "is_seating" = some (.ref f_is_seating)
  b_is_seating : Binds K d_is_seating ["thing"] []
  f_tables_of : Addr
  d_tables_of : FuncData
  F_tables_of : Fun K "tables_of" "tables_of" s_tables_of f_tables_of d_tables_of
  g_tables_of : mg "tables_of" = some (.ref f_tables_of)
  b_tables_of : Binds K d_tables_of ["seating"] []
  f_check_seating : Addr
  d_check_seating : FuncData
  F_check_seating : Fun K "check_seating" "check_seating" s_check_seating f_check_seating d_check_seating
  g_check_seating : mg "check_seating" = some (.ref f_check_seating)
  b_check_seating : Binds K d_check_seating ["seating"] []
  f_walk_left : Addr
  d_walk_left : FuncData
  F_walk_left : Fun K "walk_left" "walk_left" s_walk_left f_walk_left d_walk_left
  g_walk_left : mg "walk_left" = some (.ref f_walk_left)
  b_walk_left : Binds K d_walk_left ["lefts", "guest"] []
  f_tables_among : Addr
  d_tables_among : FuncData
  F_tables_among : Fun K "tables_among" "tables_among" s_tables_among f_tables_among d_tables_among
  g_tables_among : mg "tables_among" = some (.ref f_tables_among)
  b_tables_among : Binds K d_tables_among ["lefts", "guests"] []
  f_seating_with : Addr
  d_seating_with : FuncData
  F_seating_with : Fun K "seating_with" "seating_with" s_seating_with f_seating_with d_seating_with
  g_seating_with : mg "seating_with" = some (.ref f_seating_with)
  b_seating_with : Binds K d_seating_with ["tables"] []
  f_check_sizes : Addr
  d_check_sizes : FuncData
  F_check_sizes : Fun K "check_sizes" "check_sizes" s_check_sizes f_check_sizes d_check_sizes
  g_check_sizes : mg "check_sizes" = some (.ref f_check_sizes)
  b_check_sizes : Binds K d_check_sizes ["sizes"] []
  f_are_sizes : Addr
  d_are_sizes : FuncData
  F_are_sizes : Fun K "are_sizes" "are_sizes" s_are_sizes f_are_sizes d_are_sizes
  g_are_sizes : mg "are_sizes" = some (.ref f_are_sizes)
  b_are_sizes : Binds K d_are_sizes ["thing"] []
  f_power : Addr
  d_power : FuncData
  F_power : Fun K "power" "power" s_power f_power d_power
  g_power : mg "power" = some (.ref f_power)
  b_power : Binds K d_power ["seating", "number"] []
  f_power_sizes : Addr
  d_power_sizes : FuncData
  F_power_sizes : Fun K "power_sizes" "power_sizes" s_power_sizes f_power_sizes d_power_sizes
  g_power_sizes : mg "power_sizes" = some (.ref f_power_sizes)
  b_power_sizes : Binds K d_power_sizes ["sizes", "number"] []
  f_period_of : Addr
  d_period_of : FuncData
  F_period_of : Fun K "period_of" "period_of" s_period_of f_period_of d_period_of
  g_period_of : mg "period_of" = some (.ref f_period_of)
  b_period_of : Binds K d_period_of ["seating"] []
  f_period_counts : Addr
  d_period_counts : FuncData
  F_period_counts : Fun K "period_counts" "period_counts" s_period_counts f_period_counts d_period_counts
  g_period_counts : mg "period_counts" = some (.ref f_period_counts)
  b_period_counts : Binds K d_period_counts ["guests"] []
  f_least_guests : Addr
  d_least_guests : FuncData
  F_least_guests : Fun K "least_guests" "least_guests" s_least_guests f_least_guests d_least_guests
  g_least_guests : mg "least_guests" = some (.ref f_least_guests)
  b_least_guests : Binds K d_least_guests ["period"] []
  f_count_roots : Addr
  d_count_roots : FuncData
  F_count_roots : Fun K "count_roots" "count_roots" s_count_roots f_count_roots d_count_roots
  g_count_roots : mg "count_roots" = some (.ref f_count_roots)
  b_count_roots : Binds K d_count_roots ["seating", "number"] []
  f_a_root : Addr
  d_a_root : FuncData
  F_a_root : Fun K "a_root" "a_root" s_a_root f_a_root d_a_root
  g_a_root : mg "a_root" = some (.ref f_a_root)
  b_a_root : Binds K d_a_root ["seating", "number"] []
  f_shows_root : Addr
  d_shows_root : FuncData
  F_shows_root : Fun K "shows_root" "shows_root" s_shows_root f_shows_root d_shows_root
  g_shows_root : mg "shows_root" = some (.ref f_shows_root)
  b_shows_root : Binds K d_shows_root ["seating", "number", "thing"] []
  f_root_paper : Addr
  d_root_paper : FuncData
  F_root_paper : Fun K "root_paper" "root_paper" s_root_paper f_root_paper d_root_paper
  g_root_paper : mg "root_paper" = some (.ref f_root_paper)
  b_root_paper : Binds K d_root_paper ["seating", "number"] []
  f_shows_root_paper : Addr
  d_shows_root_paper : FuncData
  F_shows_root_paper : Fun K "shows_root_paper" "shows_root_paper" s_shows_root_paper f_shows_root_paper d_shows_root_paper
  g_shows_root_paper : mg "shows_root_paper" = some (.ref f_shows_root_paper)
  b_shows_root_paper : Binds K d_shows_root_paper ["seating", "number", "thing"] []
  f_prime_powers : Addr
  d_prime_powers : FuncData
  F_prime_powers : Fun K "prime_powers" "prime_powers" s_prime_powers f_prime_powers d_prime_powers
  g_prime_powers : mg "prime_powers" = some (.ref f_prime_powers)
  b_prime_powers : Binds K d_prime_powers ["number"] []
  f_tables_by_size : Addr
  d_tables_by_size : FuncData
  F_tables_by_size : Fun K "tables_by_size" "tables_by_size" s_tables_by_size f_tables_by_size d_tables_by_size
  g_tables_by_size : mg "tables_by_size" = some (.ref f_tables_by_size)
  b_tables_by_size : Binds K d_tables_by_size ["seating"] []
  f_sizes_without_root : Addr
  d_sizes_without_root : FuncData
  F_sizes_without_root : Fun K "sizes_without_root" "sizes_without_root" s_sizes_without_root f_sizes_without_root d_sizes_without_root
  g_sizes_without_root : mg "sizes_without_root" = some (.ref f_sizes_without_root)
  b_sizes_without_root : Binds K d_sizes_without_root ["seating", "number"] []
  f_joinable : Addr
  d_joinable : FuncData
  F_joinable : Fun K "joinable" "joinable" s_joinable f_joinable d_joinable
  g_joinable : mg "joinable" = some (.ref f_joinable)
  b_joinable : Binds K d_joinable ["size", "many", "number"] []
  f_ways_of_roots : Addr
  d_ways_of_roots : FuncData
  F_ways_of_roots : Fun K "ways_of_roots" "ways_of_roots" s_ways_of_roots f_ways_of_roots d_ways_of_roots
  g_ways_of_roots : mg "ways_of_roots" = some (.ref f_ways_of_roots)
  b_ways_of_roots : Binds K d_ways_of_roots ["size", "many", "number"] []
  f_woven_table : Addr
  d_woven_table : FuncData
  F_woven_table : Fun K "woven_table" "woven_table" s_woven_table f_woven_table d_woven_table
  g_woven_table : mg "woven_table" = some (.ref f_woven_table)
  b_woven_table : Binds K d_woven_table ["tables", "number"] []
  f_law_bag : Addr
  d_law_bag : FuncData
  F_law_bag : Fun K "_law_bag" "_law_bag" s_law_bag f_law_bag d_law_bag
  g_law_bag : mg "_law_bag" = some (.ref f_law_bag)
  b_law_bag : Binds K d_law_bag ["script"] []
  f_law_stirred : Addr
  d_law_stirred : FuncData
  F_law_stirred : Fun K "_law_stirred" "_law_stirred" s_law_stirred f_law_stirred d_law_stirred
  g_law_stirred : mg "_law_stirred" = some (.ref f_law_stirred)
  b_law_stirred : Binds K d_law_stirred ["bag", "wide"] []
  f_law_draw : Addr
  d_law_draw : FuncData
  F_law_draw : Fun K "_law_draw" "_law_draw" s_law_draw f_law_draw d_law_draw
  g_law_draw : mg "_law_draw" = some (.ref f_law_draw)
  b_law_draw : Binds K d_law_draw ["bag", "wide"] []
  f_law_alike : Addr
  d_law_alike : FuncData
  F_law_alike : Fun K "_law_alike" "_law_alike" s_law_alike f_law_alike d_law_alike
  g_law_alike : mg "_law_alike" = some (.ref f_law_alike)
  b_law_alike : Binds K d_law_alike ["found", "due"] []
  f_law_bad_seating : Addr
  d_law_bad_seating : FuncData
  F_law_bad_seating : Fun K "_law_bad_seating" "_law_bad_seating" s_law_bad_seating f_law_bad_seating d_law_bad_seating
  g_law_bad_seating : mg "_law_bad_seating" = some (.ref f_law_bad_seating)
  b_law_bad_seating : Binds K d_law_bad_seating ["bag"] []
  f_law_asked : Addr
  d_law_asked : FuncData
  F_law_asked : Fun K "_law_asked" "_law_asked" s_law_asked f_law_asked d_law_asked
  g_law_asked : mg "_law_asked" = some (.ref f_law_asked)
  b_law_asked : Binds K d_law_asked ["way", "some", "far"] []
  f_law : Addr
  d_law : FuncData
  F_law : Fun K "law" "law" s_law f_law d_law
  g_law : mg "law" = some (.ref f_law)
  b_law : Binds K d_law ["script"] []
  cl_HallError : Addr
  gc_HallError : mg "HallError" = some (.ref cl_HallError)
  cl_InvalidGuests : Addr
  gc_InvalidGuests : mg "InvalidGuests" = some (.ref cl_InvalidGuests)
  cl_InvalidWeight : Addr
  gc_InvalidWeight : mg "InvalidWeight" = some (.ref cl_InvalidWeight)
  cl_InvalidSeating : Addr
  gc_InvalidSeating : mg "InvalidSeating" = some (.ref cl_InvalidSeating)
  cl_InvalidSizes : Addr
  gc_InvalidSizes : mg "InvalidSizes" = some (.ref cl_InvalidSizes)
  cl_InvalidNumber : Addr
  gc_InvalidNumber : mg "InvalidNumber" = some (.ref cl_InvalidNumber)
  cl_Hall : Addr
  gc_Hall : mg "Hall" = some (.ref cl_Hall)
  f_Hall_init : Addr
  d_Hall_init : FuncData
  F_Hall_init : FunD K "__init__" "Hall.__init__" (defArgs s_Hall_init) (defBody s_Hall_init) (defScope s_Hall_init) [.int 1] [] f_Hall_init d_Hall_init
  ds_Hall_init : List Value
  bv_Hall_init : Vals [V.int 1] ds_Hall_init
  bm_Hall_init : Binds K d_Hall_init ["self", "weight"] ds_Hall_init
  o_Hall : Kit.OwnD K cl_Hall f_Hall_init ["_weight", "_lefts", "_newcomer", "_chance", "_past"]
  e_InvalidSeating : Kit.ExcD K cl_InvalidSeating
  x_InvalidSeating : PySem.W.exmOne K (.ref cl_InvalidSeating) (.ref cl_HallError) = some true
  t_InvalidSeating : Kit.isRow K cl_InvalidSeating [((.ref cl_InvalidSeating : Value), true), ((.ref cl_InvalidNumber : Value), false), ((.ref cl_InvalidSizes : Value), false), ((.ref cl_InvalidGuests : Value), false)] = true
  e_InvalidNumber : Kit.ExcD K cl_InvalidNumber
  x_InvalidNumber : PySem.W.exmOne K (.ref cl_InvalidNumber) (.ref cl_HallError) = some true
  t_InvalidNumber : Kit.isRow K cl_InvalidNumber [((.ref cl_InvalidSeating : Value), false), ((.ref cl_InvalidNumber : Value), true), ((.ref cl_InvalidSizes : Value), false), ((.ref cl_InvalidGuests : Value), false)] = true
  e_InvalidSizes : Kit.ExcD K cl_InvalidSizes
  x_InvalidSizes : PySem.W.exmOne K (.ref cl_InvalidSizes) (.ref cl_HallError) = some true
  t_InvalidSizes : Kit.isRow K cl_InvalidSizes [((.ref cl_InvalidSeating : Value), false), ((.ref cl_InvalidNumber : Value), false), ((.ref cl_InvalidSizes : Value), true), ((.ref cl_InvalidGuests : Value), false)] = true
  e_InvalidGuests : Kit.ExcD K cl_InvalidGuests
  x_InvalidGuests : PySem.W.exmOne K (.ref cl_InvalidGuests) (.ref cl_HallError) = some true
  t_InvalidGuests : Kit.isRow K cl_InvalidGuests [((.ref cl_InvalidSeating : Value), false), ((.ref cl_InvalidNumber : Value), false), ((.ref cl_InvalidSizes : Value), false), ((.ref cl_InvalidGuests : Value), true)] = true
  e_InvalidWeight : Kit.ExcD K cl_InvalidWeight
  x_InvalidWeight : PySem.W.exmOne K (.ref cl_InvalidWeight) (.ref cl_HallError) = some true
  t_InvalidWeight : Kit.isRow K cl_InvalidWeight [((.ref cl_InvalidSeating : Value), false), ((.ref cl_InvalidNumber : Value), false), ((.ref cl_InvalidSizes : Value), false), ((.ref cl_InvalidGuests : Value), false)] = true
  m_abs : mg "abs" = none
  m_all : mg "all" = none
  m_bool : mg "bool" = none
  m_enumerate : mg "enumerate" = none
  m_int : mg "int" = none
  m_isinstance : mg "isinstance" = none
  m_len : mg "len" = none
  m_list : mg "list" = none
  m_min : mg "min" = none
  m_range : mg "range" = none
  m_sorted : mg "sorted" = none
  m_str : mg "str" = none
  m_sum : mg "sum" = none
  m_tuple : mg "tuple" = none
  m_type : mg "type" = none
  c_MOST_GUESTS : ∃ u, mg "MOST_GUESTS" = some u ∧ RelV (.int 20) u
  c_MOST_WEIGHT : ∃ u, mg "MOST_WEIGHT" = some u ∧ RelV (.int 1000000000000) u
  c_MOST_PERIOD : ∃ u, mg "MOST_PERIOD" = some u ∧ RelV (.int 1000000000) u
  c_MOST_ROOT : ∃ u, mg "MOST_ROOT" = some u ∧ RelV (.int 1000000) u
  i_gcd : mg "gcd" = some (.builtin "math.gcd")
  i_lcm : mg "lcm" = some (.builtin "math.lcm")
  i_perm : mg "perm" = some (.builtin "math.perm")
/-! readings that go by themselves -/
local macro_rules | `(tactic| walk_at "side") => `(tactic| first | with_reducible assumption | with_reducible rfl | omega | decide | (constructor <;> first | assumption | omega | decide))
local macro_rules | `(tactic| walk_at "ev") => `(tactic| first
  | ((with_reducible refine' ev_var ?e1); (case e1 => rfl))
  | (with_reducible exact ev_c)
  | ((with_reducible refine' ev_op ?e1 ?e2 rv_I0); (case e1 => walk_at "ev"); (case e2 => walk_at "ev"))
  | ((with_reducible refine' ev_op ?e1 ?e2 (rv_I ?e3)); (case e1 => walk_at "ev"); (case e2 => walk_at "ev"); (case e3 => walk_at "side"))
  | ((with_reducible refine' ev_op ?e1 ?e2 (rv_eq ?e3)); (case e1 => walk_at "ev"); (case e2 => walk_at "ev"); (case e3 => rfl))
  | ((with_reducible refine' ev_op ?e1 ?e2 (rv_ne ?e3)); (case e1 => walk_at "ev"); (case e2 => walk_at "ev"); (case e3 => rfl))
  | ((with_reducible refine' ev_op ?e1 ?e2 (rv_ixL ?e3 ?e4)); (case e1 => walk_at "ev"); (case e2 => walk_at "ev"); (case e3 => walk_at "sq"); (case e4 => walk_at "at"))
  | ((with_reducible refine' ev_op ?e1 ?e2 (rv_ixT ?e3 ?e4)); (case e1 => walk_at "ev"); (case e2 => walk_at "ev"); (case e3 => walk_at "sq"); (case e4 => walk_at "at"))
  | ((with_reducible refine' ev_op ?e1 ?e2 rv_isN); (case e1 => walk_at "ev"); (case e2 => walk_at "ev"))
  | ((with_reducible refine' ev_op ?e1 ?e2 rv_notN); (case e1 => walk_at "ev"); (case e2 => walk_at "ev"))
  | ((with_reducible refine' ev_op ?e1 ?e2 (rv_eqTy ?e3 ?e4)); (case e1 => walk_at "ev"); (case e2 => walk_at "ev"); (case e3 => exact PySem.TypeEq.meta_int); (case e4 => exact PySem.TypeEq.meta_int))
  | ((with_reducible refine' ev_un ?e1 ru_neg); (case e1 => walk_at "ev"))
  | ((with_reducible refine' ev_intI ?e1); (case e1 => walk_at "ev"))
  | ((with_reducible refine' ev_intB ?e1); (case e1 => walk_at "ev"))
  | ((with_reducible refine' ev_typeI ?e1); (case e1 => walk_at "ev"))
  | ((with_reducible refine' ev_abs ?e1); (case e1 => walk_at "ev"))
  | ((with_reducible refine' ev_max2 ?e1 ?e2); (case e1 => walk_at "ev"); (case e2 => walk_at "ev"))
  | ((with_reducible refine' ev_min2 ?e1 ?e2); (case e1 => walk_at "ev"); (case e2 => walk_at "ev"))
  | ((with_reducible refine' ev_gcd ?e1 ?e2); (case e1 => walk_at "ev"); (case e2 => walk_at "ev"))
  | ((with_reducible refine' ev_len ?e1 ?e2); (case e1 => walk_at "ev"); (case e2 => walk_at "sq"))
  | ((with_reducible refine' ev_chainI ?e1 ?e2 ?e3); (case e1 => walk_at "ev"); (case e2 => walk_at "ev"); (case e3 => walk_at "ev"))
  | ((with_reducible refine' ev_chain3I ?e1 ?e2 ?e3 ?e4); (case e1 => walk_at "ev"); (case e2 => walk_at "ev"); (case e3 => walk_at "ev"); (case e4 => walk_at "ev"))
  | ((with_reducible refine' ev_notV ?e1); (case e1 => walk_at "ev"))
  | ((with_reducible refine' ev_andV ?e1 ?e2); (case e1 => walk_at "ev"); (case e2 => (intro _; walk_at "ev")))
  | ((with_reducible refine' ev_orV ?e1 ?e2); (case e1 => walk_at "ev"); (case e2 => (intro _; walk_at "ev")))
  | ((with_reducible refine' ev_if ?e1 ?e2 ?e3); (case e1 => walk_at "et"); (case e2 => (intro _; walk_at "ev")); (case e3 => (intro _; walk_at "ev")))
  | ((with_reducible refine' ev_call ?e1 ?e2); (case e1 => walk_at "ea"); (case e2 => walk_at "call")))
local macro_rules | `(tactic| walk_at "ea") => `(tactic| first
  | (with_reducible exact ea_nil)
  | ((with_reducible refine' ea_cons ?e1 ?e2); (case e1 => walk_at "ev"); (case e2 => walk_at "ea")))
local macro_rules | `(tactic| walk_at "et") => `(tactic| first
  | ((with_reducible refine' et_test ?e1); (case e1 => walk_at "ev"))
  | ((with_reducible refine' et_B ?e1); (case e1 => walk_at "ev"))
  | ((with_reducible refine' et_not ?e1); (case e1 => walk_at "et"))
  | ((with_reducible refine' et_and ?e1 ?e2); (case e1 => walk_at "et"); (case e2 => (intro _; walk_at "et")))
  | ((with_reducible refine' et_or ?e1 ?e2); (case e1 => walk_at "et"); (case e2 => (intro _; walk_at "et"))))
local macro_rules | `(tactic| walk_at "eu") => `(tactic| first
  | ((with_reducible refine' eu_tup ?e1 ?e2); (case e1 => walk_at "ea"); (case e2 => exact Nat.le_of_ble_eq_true rfl))
  | ((with_reducible refine' eu_call ?e1 ?e2); (case e1 => walk_at "ea"); (case e2 => walk_at "callU")))
local macro_rules | `(tactic| walk_at "el") => `(tactic| first
  | ((with_reducible refine' el_call ?e1 ?e2); (case e1 => walk_at "ea"); (case e2 => walk_at "callL"))
  | ((with_reducible refine' el_lst ?e1 ?e2); (case e1 => walk_at "ea"); (case e2 => exact Nat.le_of_ble_eq_true rfl)))
local macro_rules | `(tactic| walk_at "sq") => `(tactic| first | assumption | exact sq_of (by assumption) | exact st_of (by assumption))
local macro_rules | `(tactic| walk_at "at") => `(tactic| first | assumption | rfl | (apply atI_nat; rfl))
local macro_rules | `(tactic| walk_at "call") => `(tactic| assumption)

/-! ### _law_alike -/
def sp_law_alike (n : Nat) : Sp := fun vs H Q _ => ∃ (v w : V) (d : PyData), vs = [v, w] ∧ Tk n H v d ∧ Tk n H w d ∧ RetV (.bl true) H Q
def sp_alikeB : Nat → Sp
  | 0 => fun _ _ _ _ => False
  | n + 1 => sp_law_alike n
theorem sv_alike {n : Nat} {H : Hp} {v w : V} {d : PyData} (hv : Tk n H v d) (hw : Tk n H w d) : SpV (sp_law_alike n) ([v, w] ++ []) H (.bl true) := fun H1 e Q q E => ⟨v, w, d, rfl, hv.ex e, hw.ex e, q⟩
theorem given_true (n : Nat) : given n (fun _ => true) (fun _ => V.bl true) = (List.replicate n true).map V.bl := by
  unfold given
  rw [List.filter_eq_self.mpr (fun _ _ => rfl), List.map_replicate]
  refine List.ext_getElem? fun i => ?_
  rw [List.getElem?_map, List.getElem?_replicate]
  by_cases h : i < n
  · rw [List.getElem?_range h, if_pos h]
    rfl
  · rw [List.getElem?_eq_none (by simpa using h), if_neg h]
    rfl
theorem all_true (n : Nat) : (List.replicate n true).all id = true := by
  rw [List.all_eq_true]
  intro x hx
  rw [(List.mem_replicate.mp hx).2]
  rfl
section
variable {P : Program} {w : World} {K : PySem.W.Frag} {mg : Str → Option Value} {base : Heap}
theorem alike_step (T : Tx K mg) (n k : Nat) (ih : FnOk P w K mg base CX0 k T.f_law_alike T.d_law_alike ["found", "due"] (sp_alikeB n)) : FnOk P w K mg base CX0 (k + 1) T.f_law_alike T.d_law_alike ["found", "due"] (sp_law_alike n) := by
  refine T.F_law_alike.ok sc_law_alike (fun vs H Q E h => ?_) (fun cdv A outer s H vs Q E hr h => ?_)
  · obtain ⟨v, w, d, rfl, _⟩ := h
    rfl
  · obtain ⟨v, u, d, rfl, hv, hu, kk⟩ := h
    refine ⟨_, (pss_cons (ps_if (pt_val (pe_callB call_isiT (by rfl) T.m_isinstance (by decide +kernel) (pa_cons (pv 1) (pa_cons (pe_tup (pa_cons (pe_bltn (v := .ty "list") (by rfl) T.m_list (by decide +kernel) rfl) (pa_cons (pe_bltn (v := .ty "tuple") (by rfl) T.m_tuple (by decide +kernel) rfl) pa_nil))) pa_nil)))) (pss_cons (ps_if (PW.pt (pw_or (pt_not (pt_val (pe_callB call_isiT (by rfl) T.m_isinstance (by decide +kernel) (pa_cons (pv 0) (pa_cons (pe_tup (pa_cons (pe_bltn (v := .ty "list") (by rfl) T.m_list (by decide +kernel) rfl) (pa_cons (pe_bltn (v := .ty "tuple") (by rfl) T.m_tuple (by decide +kernel) rfl) pa_nil))) pa_nil))))) (pw_or1 (pt_cmpR op_ne (pe_callB call_isi (by rfl) T.m_isinstance (by decide +kernel) (pa_cons (pv 0) (pa_cons (pe_bltn (v := .ty "list") (by rfl) T.m_list (by decide +kernel) rfl) pa_nil))) (pe_callB call_isi (by rfl) T.m_isinstance (by decide +kernel) (pa_cons (pv 1) (pa_cons (pe_bltn (v := .ty "list") (by rfl) T.m_list (by decide +kernel) rfl) pa_nil))) (nomark _))))) (pss_one (ps_ret pe_bl)) pss_nil)
      (pss_cons (ps_if (pt_cmpR op_ne (pe_callB call_lenR (by rfl) T.m_len (by decide +kernel) (pa_cons (pv 0) pa_nil)) (pe_callB call_lenR (by rfl) T.m_len (by decide +kernel) (pa_cons (pv 1) pa_nil)) (nomark _)) (pss_one (ps_ret pe_bl)) pss_nil)
      (pss_one (ps_ret (pe_callB (cr_all rfl) (by rfl) T.m_all (by decide +kernel) (pa_cons (pe_lc (own := [("k", 2)]) (g := (gName 2)) (tt := tYes) rfl sc_law_alike.nd (pi_range1 (by rfl) T.m_range (pa_cons (pe_callB (id := "len") (r := rLenS K) call_lenR (by rfl) T.m_len (by decide +kernel) (pa_cons (pv 1) pa_nil)) pa_nil)) (blkOk_by (own := [("k", 2)]) (N := n_law_alike) (sc := defScope s_law_alike) (by decide +kernel)) (fun _ _ _ _ _ => (pg_name (i := 2) sc_law_alike.nd rfl (Or.inl rfl))) (fun _ _ _ _ _ => pts_nil) (fun _ _ _ _ _ => (pe_call ih hr (by rfl) T.g_law_alike T.F_law_alike.kp T.b_law_alike .nil pass0 (pa_cons (pe_ix (r := rIx K) ix_seq (pv 0) (pv 2) (fun _ _ => rfl)) (pa_cons (pe_ix (r := rIx K) ix_seq (pv 1) (pv 2) (fun _ _ => rfl)) pa_nil))))) pa_nil)))))) pss_nil)
      (pss_cons (ps_if (PW.pt (pw_or (pt_cmpR op_ne (pe_callB call_isi (by rfl) T.m_isinstance (by decide +kernel) (pa_cons (pv 0) (pa_cons (pe_bltn (v := .ty "bool") (by rfl) T.m_bool (by decide +kernel) rfl) pa_nil))) (pe_callB call_isi (by rfl) T.m_isinstance (by decide +kernel) (pa_cons (pv 1) (pa_cons (pe_bltn (v := .ty "bool") (by rfl) T.m_bool (by decide +kernel) rfl) pa_nil))) (nomark _)) (pw_or1 (pt_cmpR op_ne (pe_callB call_isi (by rfl) T.m_isinstance (by decide +kernel) (pa_cons (pv 0) (pa_cons (pe_bltn (v := .ty "int") (by rfl) T.m_int (by decide +kernel) rfl) pa_nil))) (pe_callB call_isi (by rfl) T.m_isinstance (by decide +kernel) (pa_cons (pv 1) (pa_cons (pe_bltn (v := .ty "int") (by rfl) T.m_int (by decide +kernel) rfl) pa_nil))) (nomark _))))) (pss_one (ps_ret pe_bl)) pss_nil)
      (pss_one (ps_ret (pe_and (pe_cmpR op_eq (pe_callB call_isi (by rfl) T.m_isinstance (by decide +kernel) (pa_cons (pv 0) (pa_cons (pe_bltn (v := .ty "str") (by rfl) T.m_str (by decide +kernel) rfl) pa_nil))) (pe_callB call_isi (by rfl) T.m_isinstance (by decide +kernel) (pa_cons (pv 1) (pa_cons (pe_bltn (v := .ty "str") (by rfl) T.m_str (by decide +kernel) rfl) pa_nil))) (nomark _)) (pe_one (pe_cmpR (op_eqD hr.units) (pv 0) (pv 1) (nomark _)))))))), ?_⟩
    have seqs : ∀ {xs ys : List V} {ds : List PyData} {m : Nat}, n = m + 1 → Paired (Tk m H) xs ds → Paired (Tk m H) ys ds → xs.length ≤ 40000 → ∀ (ta tb : TE) (σ : L2.St) (H1 : Hp) (hw : ∀ x, wipe ((wipe σ [2]).set 2 (some x)) [2] = wipe σ [2]), Ex H H1 → Ev (tCB (rLenS K) (tCons (tVar 1) tNil)) σ H1 (.int (ds.length : Int)) →
        (∀ (i : Nat) (x y : V) (H2 : Hp), Ex H1 H2 → xs[i]? = some x → ys[i]? = some y → Ev ta ((wipe σ [2]).set 2 (some (.int (i : Int)))) H2 x ∧ Ev tb ((wipe σ [2]).set 2 (some (.int (i : Int)))) H2 y) →
        Ev (tCB (rAll K) (tCons (tLc (iRng1 (tCons (tCB (rLenS K) (tCons (tVar 1) tNil)) tNil)) (gName 2) tYes (tCall (sp_alikeB n) [] E0 (tCons ta (tCons tb tNil))) [2]) tNil)) σ H1 (.bl true) := by
      intro xs ys ds m en hx hy hz ta tb σ H1 hw e1 hlen hit
      have xl : xs.length = ds.length := Paired.length hx
      have yl : ys.length = ds.length := Paired.length hy
      have el := el_lcR1 (te := tCall (sp_alikeB n) [] E0 (tCons ta (tCons tb tNil))) (t := tYes) (j := 2) (vs := [2]) (σ := σ) (H := H1) (n := (ds.length : Int)) (fun _ => true) (fun _ => .bl true) (ea_cons hlen ea_nil) (by omega) hw (fun _ _ _ _ => et_yes) fun i H2 e2 hi _ => ?_
      · rw [Int.toNat_natCast, given_true] at el
        exact ev_is (ev_allN el) (by rw [all_true])
      · have hi' : i < ds.length := by omega
        obtain ⟨a, ha⟩ : ∃ a, xs[i]? = some a := ⟨_, List.getElem?_eq_getElem (by omega)⟩
        obtain ⟨b, hb⟩ : ∃ b, ys[i]? = some b := ⟨_, List.getElem?_eq_getElem (by omega)⟩
        obtain ⟨c, hc, pa⟩ := paired_get hx ha
        obtain ⟨c', hc', pb⟩ := paired_get hy hb
        rw [hc] at hc'
        cases hc'
        obtain ⟨e3, e4⟩ := hit i a b H2 e2 ha hb
        refine ev_call (ea_cons e3 (ea_cons e4 ea_nil)) ?_
        rw [en]
        exact sv_alike (pa.ex (e1.trans e2)) (pb.ex (e1.trans e2))
    cases hs : isSeq d with
    | false =>
      have fv := tk_flat hv hs
      have fu := tk_flat hu hs
      have sd : SeqAt.shaped d = true := by cases fv <;> simp [SeqAt.shaped, PyData.canLay0, PyData.depth, *]
      refine q_when (b := false) (et_is (et_B (ev_isSeq (ev_var rfl) hu)) hs) (fun hb => Bool.noConfusion hb) fun _ H1 e1 => ?_
      refine q_when (b := false) (et_is (et_or (et_test (ev_op (ev_isBo (ev_var rfl) (hv.ex e1)) (ev_isBo (ev_var rfl) (hu.ex e1)) (rv_ne rfl))) fun _ => et_test (ev_op (ev_isIt (ev_var rfl) (hv.ex e1)) (ev_isIt (ev_var rfl) (hu.ex e1)) (rv_ne rfl))) (by simp)) (fun hb => Bool.noConfusion hb) fun _ H2 e2 => ?_
      have e12 := e1.trans e2
      exact s_ret (v := .bl true) (ev_is (ev_andV (ev_op (ev_isSt (ev_var rfl) (hv.ex e12)) (ev_isSt (ev_var rfl) (hu.ex e12)) (rv_eq rfl)) fun _ => ev_eqD (K := K) (ed_of (ev_var rfl) (flat_dp fv)) (ed_of (ev_var rfl) (flat_dp fu)) sd sd) (by rw [eqv_same sd]; simp)) fun H3 e3 => kk H3 (e12.trans e3)
    | true =>
      refine q_when (b := true) (et_is (et_B (ev_isSeq (ev_var rfl) hu)) hs) (fun _ H1 e1 => ?_) fun hb => Bool.noConfusion hb
      refine q_when (b := false) (et_is (et_or (et_is (et_not (et_B (ev_isSeq (ev_var rfl) (hv.ex e1)))) (show (!isSeq d) = false by rw [hs]; rfl)) fun _ => et_test (ev_op (ev_isLs (ev_var rfl) (hv.ex e1)) (ev_isLs (ev_var rfl) (hu.ex e1)) (rv_ne rfl))) (by simp)) (fun hb => Bool.noConfusion hb) fun _ H2 e2 => ?_
      have e12 := e1.trans e2
      obtain ⟨m, en, hv'⟩ := tk_seq hv hs
      obtain ⟨m', en', hu'⟩ := tk_seq hu hs
      obtain rfl : m' = m := by omega
      rcases hv' with ⟨a, xs, ds, rfl, rfl, ha, hz, hx⟩ | ⟨a, xs, ds, rfl, rfl, ha, hz, hx⟩
      · rcases hu' with ⟨b, ys, ds', rfl, ed, hb, hzb, hy⟩ | ⟨b, ys, ds', rfl, ed, hb, hzb, hy⟩
        · cases ed
          have xl : xs.length = ds.length := Paired.length hx
          have yl : ys.length = ds.length := Paired.length hy
          have lv : ∀ H3, Ex H H3 → Ev (tCB (rLenS K) (tCons (tVar 0) tNil)) (start n_law_alike [.ref a, .ref b]) H3 (.int (ds.length : Int)) := fun H3 e => ev_is (ev_len (K := K) (ev_var (i := 0) rfl) (sq_of (e a _ ha))) (by rw [xl])
          have lu : ∀ H3, Ex H H3 → Ev (tCB (rLenS K) (tCons (tVar 1) tNil)) (start n_law_alike [.ref a, .ref b]) H3 (.int (ds.length : Int)) := fun H3 e => ev_is (ev_len (K := K) (ev_var (i := 1) rfl) (sq_of (e b _ hb))) (by rw [yl])
          refine q_when (b := false) (et_is (et_test (ev_op (lv H2 e12) (lu H2 e12) (rv_ne rfl))) (by simp)) (fun hb => Bool.noConfusion hb) fun _ H3 e3 => ?_
          have e13 := e12.trans e3
          refine s_ret (v := .bl true) (seqs en hx hy hz _ _ _ H3 (fun _ => rfl) e13 (lu H3 e13) fun i x y H4 e4 hxi hyi => ⟨ev_op (ev_var rfl) (ev_var rfl) (rv_ixQL (sq_of ((e13.trans e4) a _ ha)) (atI_nat hxi)), ev_op (ev_var rfl) (ev_var rfl) (rv_ixQL (sq_of ((e13.trans e4) b _ hb)) (atI_nat hyi))⟩) fun H4 e4 => kk H4 (e13.trans e4)
        · cases ed
      · rcases hu' with ⟨b, ys, ds', rfl, ed, hb, hzb, hy⟩ | ⟨b, ys, ds', rfl, ed, hb, hzb, hy⟩
        · cases ed
        · cases ed
          have xl : xs.length = ds.length := Paired.length hx
          have yl : ys.length = ds.length := Paired.length hy
          have lv : ∀ H3, Ex H H3 → Ev (tCB (rLenS K) (tCons (tVar 0) tNil)) (start n_law_alike [.ref a, .ref b]) H3 (.int (ds.length : Int)) := fun H3 e => ev_is (ev_lenT (K := K) (ev_var (i := 0) rfl) (st_of (e a _ ha))) (by rw [xl])
          have lu : ∀ H3, Ex H H3 → Ev (tCB (rLenS K) (tCons (tVar 1) tNil)) (start n_law_alike [.ref a, .ref b]) H3 (.int (ds.length : Int)) := fun H3 e => ev_is (ev_lenT (K := K) (ev_var (i := 1) rfl) (st_of (e b _ hb))) (by rw [yl])
          refine q_when (b := false) (et_is (et_test (ev_op (lv H2 e12) (lu H2 e12) (rv_ne rfl))) (by simp)) (fun hb => Bool.noConfusion hb) fun _ H3 e3 => ?_
          have e13 := e12.trans e3
          refine s_ret (v := .bl true) (seqs en hx hy hz _ _ _ H3 (fun _ => rfl) e13 (lu H3 e13) fun i x y H4 e4 hxi hyi => ⟨ev_op (ev_var rfl) (ev_var rfl) (rv_ixQT (st_of ((e13.trans e4) a _ ha)) (atI_nat hxi)), ev_op (ev_var rfl) (ev_var rfl) (rv_ixQT (st_of ((e13.trans e4) b _ hb)) (atI_nat hyi))⟩) fun H4 e4 => kk H4 (e13.trans e4)
theorem alike_at (T : Tx K mg) : ∀ n, FnOk P w K mg base CX0 (n + 1) T.f_law_alike T.d_law_alike ["found", "due"] (sp_law_alike n)
  | 0 => alike_step T 0 0 ⟨fun _ _ _ _ h => h.elim, fun _ _ _ _ _ _ _ _ _ _ _ _ _ h => h.elim⟩
  | n + 1 => alike_step T (n + 1) (n + 1) (alike_at T n)
theorem ok_law_alike (T : Tx K mg) : FnOk P w K mg base CX0 5 T.f_law_alike T.d_law_alike ["found", "due"] (sp_law_alike 4) := alike_at T 4
end
section
variable {σ : L2.St} {H : Hp} {ta tb : TE}
theorem ev_alike {n : Nat} {E : XK} {d e : PyData} (h : EvK n ta σ H d) (h2 : EvK n tb σ H e) (q : d = e) : Ev (tCall (sp_law_alike n) [] E (tCons ta (tCons tb tNil))) σ H (.bl true) := fun H1 e1 Q k => h H1 e1 _ fun v H2 e2 hv => h2 H2 (e1.trans e2) _ fun w H3 e3 hw => by
  subst q
  exact ⟨v, w, d, rfl, hv.ex e3, hw, fun H4 e4 => k H4 (e2.trans (e3.trans e4))⟩
end


/-! ### the bag -/
/-- H without p -/
def Hm (p : Addr) (H : Hp) : Hp := fun b => if b = p then none else H b
theorem hm_p {p : Addr} {H : Hp} : Hm p H p = none := if_pos rfl
theorem hm_sub {p : Addr} {H : Hp} : Ex (Hm p H) H := fun a o h => by
  unfold Hm at h
  split at h
  · cases h
  · exact h
theorem hm_mono {p : Addr} {H H' : Hp} (e : Ex H H') : Ex (Hm p H) (Hm p H') := fun a o h => by
  unfold Hm at h ⊢
  split at h
  · cases h
  · rename_i ne
    rw [if_neg ne]
    exact e a o h
theorem ex_hm {p : Addr} {H0 H : Hp} (e : Ex H0 H) (h : H0 p = none) : Ex H0 (Hm p H) := fun a o ha => by
  unfold Hm
  rw [if_neg (ne_of_none ha h)]
  exact e a o ha
/-- a bag after at most n draws -/
def Po (p l : Addr) (n : Nat) (H : Hp) : Prop := ∃ (ns : List Int) (i c s t : Int), H p = some (.lst [.ref l, .int i, .int c, .int s, .int t]) ∧ H l = some (.lst (ns.map V.int)) ∧ l ≠ p ∧ (0 ≤ i ∧ (∀ z ∈ ns, 0 ≤ z) ∧ 0 ≤ c) ∧ (0 ≤ s ∧ s < 2147483647) ∧ 0 ≤ t ∧ t ≤ 10 * n
theorem Po.ex {p l : Addr} {n : Nat} {H H' : Hp} (h : Po p l n H) (e : Ex H H') : Po p l n H' := by
  obtain ⟨ns, i, c, s, t, h1, h2, h3⟩ := h
  exact ⟨ns, i, c, s, t, e p _ h1, e l _ h2, h3⟩
theorem Po.mono {p l : Addr} {n m : Nat} {H : Hp} (h : Po p l n H) (e : n ≤ m) : Po p l m H := by
  obtain ⟨ns, i, c, s, t, h1, h2, h3, h4, h5, h6, h7⟩ := h
  exact ⟨ns, i, c, s, t, h1, h2, h3, h4, h5, h6, by omega⟩
theorem ev_bits {σ : L2.St} {H : Hp} {ta : TE} {i : Int} (h : Ev ta σ H (.int i)) : Ev (tBits ta) σ H (.int ((Builtin.Int.intBits i : Nat) : Int)) := fun H1 e Q q => h H1 e _ fun H2 e2 => ⟨i, rfl, q H2 e2⟩
def fI (f : Int → Int) : V → V
  | .int c => .int (f c)
  | _ => .non
theorem map_fI (f : Int → Int) (ns : List Int) : (ns.map V.int).map (fI f) = (ns.map f).map V.int := by
  rw [List.map_map, List.map_map]
  rfl
theorem s_retC {σ : L2.St} {H : Hp} {t : TA} {sp : Sp} {E : XK} {D : Ends} {vs : List V} (h : EvA t σ H vs) (k : ∀ H1, Ex H H1 → sp (vs ++ []) H1 D.rt E) : tRet (tCall sp [] E t) D σ H := h H (Ex.refl H) _ k
theorem s_retLL {σ : L2.St} {H : Hp} {te : TE} {tr : TA} {D : Ends} {xs ys : List V} (h : EvL te σ H xs) (hr : ∀ H1, Ex H H1 → EvA tr σ H1 ys) (hz : ys.length < 1000) (k : ∀ p l H1, H p = none → H l = none → l ≠ p → Ex H H1 → H1 l = some (.lst xs) → H1 p = some (.lst (.ref l :: ys)) → D.rt (.ref p) H1) : tRet (tLst (tCons te tr)) D σ H :=
  h H (Ex.refl H) _ fun l H1 nl e1 hl => hr H1 e1 H1 (Ex.refl _) _ fun H2 e2 => ⟨sz_of (by rw [List.length_cons]; omega), fun p hp =>
    k p l _ (fresh_back (e1.trans e2) hp) nl (fun z => by
      rw [← z, e2 l _ hl] at hp
      cases hp) ((e1.trans e2).trans (Ex.new hp)) (Ex.new hp l _ (e2 l _ hl)) upd_same⟩
theorem pow3_ok {i : Int} (h : i.natAbs < 2 ^ 250) : CPowX i 3 := by
  have := PyProof.Rows.intBits_le h
  unfold CPowX
  omega
theorem divw_ok {i j : Int} (h : 0 < j) (hb : j < 2 ^ 200) : CDivW i j := wide_div (b := 200) h (by omega) (by decide) (by decide)
theorem mulk_ok {i j : Int} (h : i.natAbs < 2 ^ 100000) (hb : j.natAbs < 2 ^ 100000) : CMulX i j := mulx_ok h hb (by decide)
def sp_law_bag (K : PySem.W.Frag) : Sp := fun vs H Q _ => ∃ (s : Addr) (ns : List Int), vs = [.ref s] ∧ SqL K H s (ns.map V.int) ∧ ns.length ≤ 63 ∧ ∀ p l H', H p = none → H l = none → Ex H H' → Po p l 0 H' → Q (.ref p) H'
def sp_law_stirred : Sp := fun vs H Q _ => ∃ (p l : Addr) (n : Nat) (w : Int), vs = [.ref p, .int w] ∧ Po p l n H ∧ n < 1000000000 ∧ 0 < w ∧ w < 2 ^ 200 ∧
  ∀ r H', 0 ≤ r → r < w → Po p l (n + 1) H' → Ex (Hm p H) H' → Q (.int r) H'
def sp_law_draw : Sp := fun vs H Q _ => ∃ (p l : Addr) (n : Nat) (w : Int), vs = [.ref p, .int w] ∧ Po p l n H ∧ n < 1000000000 ∧ 0 < w ∧ w < 2 ^ 200 ∧
  ∀ r H', 0 ≤ r → r < w → Po p l (n + 1) H' → Ex (Hm p H) H' → Q (.int r) H'
section
variable {P : Program} {w : World} {K : PySem.W.Frag} {mg : Str → Option Value} {base : Heap}
theorem ok_law_bag (T : Tx K mg) : FnOk P w K mg base CX0 1 T.f_law_bag T.d_law_bag ["script"] (sp_law_bag K) := by
  refine T.F_law_bag.ok sc_law_bag (fun vs H Q E h => ?_) (fun cdv A outer s H vs Q E hr h => ?_)
  · obtain ⟨a, ns, rfl, _⟩ := h
    rfl
  · obtain ⟨a, ns, rfl, hs, hn, k⟩ := h
    refine ⟨_, (pss_cons (ps_set (i := 1) sc_law_bag.nd rfl (Or.inl rfl) pe_int)
      (pss_cons (ps_for PassesOwn.never rfl (pi_list (pe_slice sl_list (pv 0) po_none (po_some pe_int))) (pg_name (i := 2) sc_law_bag.nd rfl (Or.inl rfl)) (pss_one (ps_set (i := 1) sc_law_bag.nd rfl (Or.inl rfl) (pe_op op_mod (pe_callTy call_intI (by rfl) T.m_int (by decide +kernel) (pa_cons (pe_op op_add (pe_op op_add (pe_op op_mulX (pv 1) pe_int) (pe_op op_mod (pe_callTy call_intI (by rfl) T.m_int (by decide +kernel) (pa_cons (pv 2) pa_nil)) pe_int)) pe_int) pa_nil)) pe_int))))
      (pss_one (ps_ret (pe_lst (pa_cons (pe_lc (own := [("cell", 2)]) (g := (gName 2)) (tt := tYes) rfl sc_law_bag.nd (pi_list (pe_slice (r := rSlL K) sl_list (pv 0) po_none (po_some pe_int))) (blkOk_by (own := [("cell", 2)]) (N := n_law_bag) (sc := defScope s_law_bag) (by decide +kernel)) (fun _ _ _ _ _ => (pg_name (i := 2) sc_law_bag.nd rfl (Or.inl rfl))) (fun _ _ _ _ _ => pts_nil) (fun _ _ _ _ _ => (pe_op op_mod (pe_callTy call_intI (by rfl) T.m_int (by decide +kernel) (pa_cons (pe_callB call_absR (by rfl) T.m_abs (by decide +kernel) (pa_cons (pv 2) pa_nil)) pa_nil)) (pe_op op_powX (pe_op op_powX pe_int pe_int) pe_int)))) (pa_cons pe_int (pa_cons pe_int (pa_cons (pv 1) (pa_cons pe_int pa_nil)))))))))), ?_⟩
    have hlen : (ns.map V.int).length = ns.length := List.length_map ..
    have cutA : cutV (ns.map V.int) none (some 63) = ns.map V.int := by
      unfold cutV
      rw [HT.sIx_none, show (63 : Int) = ((63 : Nat) : Int) from rfl, HT.sIx_nat, List.drop_zero]
      exact List.take_of_length_le (by omega)
    refine q_asg (v := .int 223) ev_c fun H1 e1 => ?_
    have hs1 := ex_l e1 hs
    have slc : ∀ (σ : L2.St) (H' : Hp), σ[0]? = some (some (.ref a)) → Ex H1 H' → EvL (tSl (rSlL K) (tVar 0) tNoPart (tPart (tC (.int 63)))) σ H' (ns.map V.int) := fun σ H' h0 e' => by
      have := el_sl (K := K) (te := tVar 0) (tl := tNoPart) (th := tPart (tC (.int 63))) (σ := σ) (H := H') (ev_var (i := 0) h0) eo_none (eo_some (ev_c (v := .int 63))) (ex_l e' hs1)
      rw [cutA] at this
      exact this
    have mod0 : (0 : Int) < (10 ^ (60 : Int).toNat) ^ (10 : Int).toNat := Int.pow_pos (Int.pow_pos (by decide))
    have pw1 : CPowX 10 60 := by constructor <;> decide +kernel
    have pw2 : CPowX (10 ^ (60 : Int).toNat) 10 := by constructor <;> decide +kernel
    refine q_forNL (xs := ns.map V.int) (slc _ H1 rfl (Ex.refl _)) (fun q i σ' H' => ∃ (st : Int) (y : Option V), σ' = [some (.ref a), some (.int st), y] ∧ Ex H1 H' ∧ 0 ≤ st ∧ st < 2147483647 ∧ H' q = some (.lst (ns.map V.int))) (fun q H2 _ e2 hq => ⟨223, none, rfl, e2, by decide, by decide, hq⟩) (fun q i σ' H' _ ⟨_, _, _, _, _, _, hq⟩ => sq_of hq) ?_ ?_
    · rintro q i v σ' H' hv ⟨st, y, rfl, e, s0, s1, hq⟩
      rw [List.getElem?_map] at hv
      obtain ⟨c, _, rfl⟩ := Option.map_eq_some_iff.mp hv
      have m1 : CMulX st 48271 := mulx_ok (a := 64) (b := 64) (by omega) (by decide) (by decide)
      exact s_asg (v := .int ((st * 48271 + c % 2147483629 + 1) % 2147483647)) (ev_op (ev_intI (ev_op (ev_op (ev_op (ev_var rfl) ev_c (rv_I m1)) (ev_op (ev_intI (ev_var rfl)) ev_c (rv_I (by decide))) rv_I0) ev_c rv_I0)) ev_c (rv_I (by decide))) fun H2 e2 => ⟨_, _, rfl, e.trans e2, Int.emod_nonneg _ (by decide), Int.emod_lt_of_pos _ (by decide), e2 q _ hq⟩
    · rintro q σ' H' ⟨st, y, rfl, e, s0, s1, hq⟩
      have el := el_mapN (K := K) (te := tOp (rI (fun _ j => 0 < j) fun i j => .int (i % j)) (tCB rIntI (tCons (tCB rAbs (tCons (tVar 2) tNil)) tNil)) (tOp (rI CPowX fun i j => .int (i ^ j.toNat)) (tOp (rI CPowX fun i j => .int (i ^ j.toNat)) (tC (.int 10)) (tC (.int 60))) (tC (.int 10)))) (j := 2) (vs := [2]) (fI fun c => (if c < 0 then -c else c) % (10 ^ (60 : Int).toNat) ^ (10 : Int).toNat) (slc [some (.ref a), some (.int st), y] H' rfl e) (by rw [List.length_map]; omega) (fun _ => rfl) fun i v H2 e2 hv => ?_
      · rw [map_fI] at el
        refine s_retLL el (fun H2 e2 => ea_cons ev_c (ea_cons ev_c (ea_cons (ev_var rfl) (ea_cons ev_c ea_nil)))) (by simp) fun p l H2 hp hl0 lp e2 hl2 hp2 => ?_
        refine k p l H2 (fresh_back (e1.trans e) hp) (fresh_back (e1.trans e) hl0) (e1.trans (e.trans e2)) ⟨_, 0, 0, st, 0, hp2, hl2, lp, ⟨by decide, fun z hz => ?_, by decide⟩, ⟨s0, s1⟩, by decide, by decide⟩
        obtain ⟨c, _, rfl⟩ := List.mem_map.mp hz
        exact Int.emod_nonneg _ (by omega)
      · rw [List.getElem?_map] at hv
        obtain ⟨c, _, rfl⟩ := Option.map_eq_some_iff.mp hv
        exact ev_op (ev_intI (ev_abs (ev_var rfl))) (ev_op (ev_op ev_c ev_c (rv_I pw1)) ev_c (rv_I pw2)) (rv_I mod0)
theorem ok_law_stirred (T : Tx K mg) : FnOk P w K mg base CX0 1 T.f_law_stirred T.d_law_stirred ["bag", "wide"] sp_law_stirred := by
  refine T.F_law_stirred.ok sc_law_stirred (fun vs H Q E h => ?_) (fun cdv A outer s H vs Q E hr h => ?_)
  · obtain ⟨p, l, n, w, rfl, _⟩ := h
    rfl
  · obtain ⟨p, l, n, w, rfl, ⟨ns, i, c, s0, t, hp, hl, lp, ⟨hi, hns, hc⟩, ⟨hs0, hs1⟩, ht0, ht1⟩, hn, hw0, hw1, k⟩ := h
    refine ⟨_, (pss_cons (ps_set (i := 2) sc_law_stirred.nd rfl (Or.inl rfl) pe_int)
      (pss_cons (ps_for PassesOwn.never rfl (pi_range1 (by rfl) T.m_range (pa_cons (pe_op op_add pe_int (pe_op op_fdivW (pe_bits (pv 1)) pe_int)) pa_nil)) (pg_name (i := 3) sc_law_stirred.nd rfl (Or.inl rfl)) (pss_cons (ps_asg (pe_op op_add (pe_ix ix_list (pv 0) pe_int (fun _ _ => rfl)) pe_int) (pg_sub (pv 0) pe_int set_list))
      (pss_cons (ps_set (i := 4) sc_law_stirred.nd rfl (Or.inl rfl) (pe_op op_add (pe_op op_add (pe_op op_add (pe_op op_powX (pe_ix ix_list (pv 0) pe_int (fun _ _ => rfl)) pe_int) (pe_op op_mulX pe_int (pe_ix ix_list (pv 0) pe_int (fun _ _ => rfl)))) (pe_op op_mulX pe_int (pe_ix ix_list (pv 0) pe_int (fun _ _ => rfl)))) pe_int))
      (pss_cons (ps_asg (pe_op op_mod (pe_callTy call_intI (by rfl) T.m_int (by decide +kernel) (pa_cons (pv 4) pa_nil)) pe_int) (pg_sub (pv 0) pe_int set_list))
      (pss_one (ps_set (i := 2) sc_law_stirred.nd rfl (Or.inl rfl) (pe_op op_add (pe_op op_mulX (pv 2) pe_int) (pe_op op_fdivW (pe_ix ix_list (pv 0) pe_int (fun _ _ => rfl)) pe_int))))))))
      (pss_one (ps_ret (pe_op op_mod (pe_callTy call_intI (by rfl) T.m_int (by decide +kernel) (pa_cons (pv 2) pa_nil)) (pv 1)))))), ?_⟩
    have hp0 : Hm p H p = none := hm_p
    have hlm : Hm p H l = some (.lst (ns.map V.int)) := by
      unfold Hm
      rw [if_neg lp]
      exact hl
    have bits : Builtin.Int.intBits w ≤ 200 := PyProof.Rows.intBits_le (by omega)
    refine q_asg (v := .int 0) ev_c fun H1 e1 => ?_
    have d27 : CDivW ((Builtin.Int.intBits w : Nat) : Int) 27 := divw_ok (by decide) (by decide)
    refine q_forR1 (n := 1 + ((Builtin.Int.intBits w : Nat) : Int) / 27) (ea_cons (ev_op ev_c (ev_op (ev_bits (ev_var rfl)) ev_c (rv_I d27)) rv_I0) ea_nil) ⟨by omega, by omega⟩ (fun j σ' H' => ∃ (f s' : Int) (y z : Option V), σ' = [some (.ref p), some (.int w), some (.int f), y, z] ∧ H' p = some (.lst [.ref l, .int i, .int c, .int s', .int (t + j)]) ∧ Ex (Hm p H) H' ∧ 0 ≤ f ∧ f.natAbs < 2 ^ (28 * j + 1) ∧ 0 ≤ s' ∧ s' < 2147483647) (fun H2 e2 => ⟨0, s0, none, none, rfl, by
      rw [show t + ((0 : Nat) : Int) = t by omega]
      exact e2 p _ (e1 p _ hp), hm_sub.trans (e1.trans e2), by decide, by decide, hs0, hs1⟩) ?_ ?_
    · rintro j σ' H' hj ⟨f, s', y, z, rfl, hp', e', hf0, hf1, hs0', hs1'⟩
      have j8 : j < 9 := by omega
      refine q_setL (j := 4) hp' (by walk_at "ev") (by walk_at "ev") ev_c (by show 4 < 5; decide) fun H2 e2 => ?_
      have hp2 : ∀ H3, Ex (upd H2 p (.lst ([V.ref l, .int i, .int c, .int s', .int (t + j)].set 4 (.int (t + j + 1))))) H3 → H3 p = some (.lst [.ref l, .int i, .int c, .int s', .int (t + j + 1)]) := fun H3 e => e p _ upd_same
      have hq := hp2 _ (Ex.refl _)
      have m1 : CMulX 69621 s' := mulx_ok (a := 64) (b := 64) (by decide) (by omega) (by decide)
      have m2 : CMulX 1031 (t + j + 1) := mulx_ok (a := 64) (b := 64) (by decide) (by omega) (by decide)
      have p3 : CPowX s' 3 := pow3_ok (by omega)
      refine q_asg (by walk_at "ev") fun H3 e3 => ?_
      have hq3 := hp2 _ e3
      generalize hx : s' ^ (3 : Int).toNat + 69621 * s' + 1031 * (t + (j : Int) + 1) + 1 = x
      refine q_setL (j := 3) hq3 (by walk_at "ev") (by walk_at "ev") ev_c (by show 3 < 5; decide) fun H4 e4 => ?_
      have r0 := Int.emod_nonneg x (show (2147483647 : Int) ≠ 0 by decide)
      have r1 := Int.emod_lt_of_pos x (show (0 : Int) < 2147483647 by decide)
      generalize x % 2147483647 = s2 at r0 r1 ⊢
      have hp4 : ∀ H5, Ex (upd H4 p (.lst ([V.ref l, .int i, .int c, .int s', .int (t + j + 1)].set 3 (.int s2)))) H5 → H5 p = some (.lst [.ref l, .int i, .int c, .int s2, .int (t + j + 1)]) := fun H5 e => e p _ upd_same
      have hq4 := hp4 _ (Ex.refl _)
      have d16 : CDivW s2 16 := divw_ok (by decide) (by decide)
      have m3 : CMulX f 134217728 := mulx_ok (a := 300) (b := 64) (lt2_mono hf1 (by omega)) (by decide) (by decide)
      have f2 : (f * 134217728 + s2 / 16).natAbs < 2 ^ (28 * (j + 1) + 1) := by
        have a1 : (f * 134217728).natAbs < 2 ^ (28 * j + 1) * 134217728 := by
          rw [Int.natAbs_mul]
          exact Nat.mul_lt_mul_of_pos_right hf1 (by decide)
        have a2 : 2 ^ (28 * (j + 1) + 1) = 2 ^ (28 * j + 1) * 268435456 := by
          rw [show 28 * (j + 1) + 1 = 28 * j + 1 + 28 by omega, Nat.pow_add]
        have a3 : 1 ≤ 2 ^ (28 * j + 1) := Nat.one_le_two_pow
        omega
      refine s_asg (by walk_at "ev") fun H5 e5 => ⟨_, s2, _, _, rfl, ?_, ?_, ?_, f2, r0, r1⟩
      · rw [show t + ((j + 1 : Nat) : Int) = t + j + 1 by omega]
        exact hp4 _ e5
      · exact (Ex.mut ((Ex.mut (e'.trans e2) hp0).trans (e3.trans e4)) hp0).trans e5
      · have := Int.mul_nonneg hf0 (show (0 : Int) ≤ 134217728 by decide)
        omega
    · rintro σ' H' ⟨f, s', y, z, rfl, hp', e', hf0, hf1, hs0', hs1'⟩
      refine s_ret (by walk_at "ev") fun H2 e2 => ?_
      refine k _ _ (Int.emod_nonneg _ (by omega)) (Int.emod_lt_of_pos _ hw0) ⟨ns, i, c, s', _, e2 p _ hp', (e'.trans e2) l _ hlm, lp, ⟨hi, hns, hc⟩, ⟨hs0', hs1'⟩, by omega, ?_⟩ (e'.trans e2)
      omega
theorem ok_law_draw (T : Tx K mg) : FnOk P w K mg base CX0 2 T.f_law_draw T.d_law_draw ["bag", "wide"] sp_law_draw := by
  refine T.F_law_draw.ok sc_law_draw (fun vs H Q E h => ?_) (fun cdv A outer s H vs Q E hr h => ?_)
  · obtain ⟨p, l, n, w, rfl, _⟩ := h
    rfl
  · obtain ⟨p, l, n, w, rfl, hpo, hn, hw0, hw1, k⟩ := h
    refine ⟨_, (pss_cons (ps_if (PW.pt (pw_and (pt_cmpR op_eq (pe_ix ix_list (pv 0) pe_int (fun _ _ => rfl)) pe_int (nomark _)) (pw_and1 (pt_cmpR op_lt (pe_ix ix_list (pv 0) pe_int (fun _ _ => rfl)) (pe_callB call_lenR (by rfl) T.m_len (by decide +kernel) (pa_cons (pe_ix ix_list (pv 0) pe_int (fun _ _ => rfl)) pa_nil)) (nomark _))))) (pss_cons (ps_asg (pe_ix ix_list (pe_ix ix_list (pv 0) pe_int (fun _ _ => rfl)) (pe_ix ix_list (pv 0) pe_int (fun _ _ => rfl)) (fun _ _ => rfl)) (pg_sub (pv 0) pe_int set_list))
      (pss_one (ps_asg (pe_op op_add (pe_ix ix_list (pv 0) pe_int (fun _ _ => rfl)) pe_int) (pg_sub (pv 0) pe_int set_list)))) (pss_one (ps_if (pt_cmpR op_eq (pe_ix ix_list (pv 0) pe_int (fun _ _ => rfl)) pe_int (nomark _)) (pss_one (ps_ret (pe_call (ok_law_stirred T) (hr.mono (by decide)) (by rfl) T.g_law_stirred T.F_law_stirred.kp T.b_law_stirred .nil pass0 (pa_cons (pv 0) (pa_cons (pv 1) pa_nil))))) pss_nil)))
      (pss_cons (ps_set (i := 2) sc_law_draw.nd rfl (Or.inl rfl) (pe_op op_mod (pe_callTy call_intI (by rfl) T.m_int (by decide +kernel) (pa_cons (pe_ix ix_list (pv 0) pe_int (fun _ _ => rfl)) pa_nil)) (pv 1)))
      (pss_cons (ps_asg (pe_op op_fdivW (pe_ix ix_list (pv 0) pe_int (fun _ _ => rfl)) (pv 1)) (pg_sub (pv 0) pe_int set_list))
      (pss_one (ps_ret (pv 2)))))), ?_⟩
    obtain ⟨ns, i, c, s0, t, hp, hl, lp, ⟨hi, hns, hc⟩, ⟨hs0, hs1⟩, ht0, ht1⟩ := hpo
    have hp0 : Hm p H p = none := hm_p
    have hlm : Hm p H l = some (.lst (ns.map V.int)) := by
      unfold Hm
      rw [if_neg lp]
      exact hl
    obtain ⟨i, rfl⟩ : ∃ z : Nat, i = z := ⟨i.toNat, by omega⟩
    have ix : ∀ {σ : L2.St} {H' : Hp} {i c s t : Int} (j : Nat) {v : V}, σ[0]? = some (some (.ref p)) → H' p = some (.lst [.ref l, .int i, .int c, .int s, .int t]) → [V.ref l, .int i, .int c, .int s, .int t][j]? = some v → Ev (tOp (rIxL K) (tVar 0) (tC (.int (j : Int)))) σ H' v := fun j v h0 h1 h2 => ev_op (ev_var h0) ev_c (rv_ixL (K := K) (sq_of h1) (atI_nat h2))
    have tail : ∀ (H' : Hp) (i' : Nat) (c' : Int), 0 ≤ c' → H' p = some (.lst [.ref l, .int (i' : Int), .int c', .int s0, .int t]) → Ex (Hm p H) H' →
        tSeq (tAsg (tOp (rI (fun _ j => 0 < j) fun i j => .int (i % j)) (tCB rIntI (tCons (tOp (rIxL K) (tVar 0) (tC (.int 2))) tNil)) (tVar 1)) (gName 2)) (tSeq (tAsg (tOp (rI CDivW fun i j => .int (i / j)) (tOp (rIxL K) (tVar 0) (tC (.int 2))) (tVar 1)) (gSub (tVar 0) (tC (.int 2)) rSetL)) (tRet (tVar 2))) { nx := fun _ H' => Q .non H', rt := Q } [some (.ref p), some (.int w), none] H' := fun H' i' c' c0 hq e => by
      refine q_asg (v := .int (c' % w)) (ev_op (ev_intI (ix 2 rfl hq rfl)) (ev_var rfl) (rv_I hw0)) fun H2 e2 => ?_
      have hq2 := e2 p _ hq
      refine q_setL (j := 2) hq2 (v := .int (c' / w)) (ev_op (ix 2 rfl hq2 rfl) (ev_var rfl) (rv_I (divw_ok hw0 hw1))) (ev_var rfl) ev_c (by show 2 < 5; decide) fun H3 e3 => ?_
      refine s_ret (v := .int (c' % w)) (ev_var rfl) fun H4 e4 => k _ _ (Int.emod_nonneg _ (by omega)) (Int.emod_lt_of_pos _ hw0) ?_ ?_
      · refine ⟨ns, i', c' / w, s0, t, e4 p _ upd_same, e4 l _ (by rw [upd_ne lp]; exact (e.trans (e2.trans e3)) l _ hlm), lp, ⟨by omega, hns, Int.ediv_nonneg c0 (by omega)⟩, ⟨hs0, hs1⟩, ht0, by omega⟩
      · exact (Ex.mut (e.trans (e2.trans e3)) hp0).trans e4
    refine q_if (b := decide (V.int c = V.int 0) && decide (((i : Nat) : Int) < ((ns.map V.int).length : Int))) (et_and (et_test (ev_op (ix 2 rfl hp rfl) ev_c (rv_eq rfl))) fun _ => et_test (ev_op (ix 1 rfl hp rfl) (ev_len (ix 0 rfl hp rfl) (sq_of hl)) rv_I0)) (fun hb H1 e1 => ?_) fun hb H1 e1 => ?_
    · rw [Bool.and_eq_true, decide_eq_true_iff, decide_eq_true_iff, List.length_map] at hb
      have hp1 := e1 p _ hp
      have hil : i < ns.length := by omega
      obtain ⟨z, hz⟩ : ∃ z, ns[i]? = some z := ⟨_, List.getElem?_eq_getElem hil⟩
      refine q_setL (j := 2) hp1 (v := .int z) (ev_op (ix 0 rfl hp1 rfl) (ix 1 rfl hp1 rfl) (rv_ixL (K := K) (sq_of (e1 l _ hl)) (atI_nat (j := i) (by rw [List.getElem?_map, hz]; rfl)))) (ev_var rfl) ev_c (by show 2 < 5; decide) fun H2 e2 => ?_
      refine s_setL (j := 1) (xs := [.ref l, .int (i : Int), .int z, .int s0, .int t]) (v := .int ((i + 1 : Nat) : Int)) upd_same (ev_is (ev_op (ix 1 rfl upd_same rfl) ev_c rv_I0) (by congr 1)) (ev_var rfl) ev_c (by show 1 < 5; decide) fun H3 e3 => ?_
      exact tail _ (i + 1) z (hns z (List.mem_of_getElem? hz)) upd_same (Ex.mut ((Ex.mut (hm_sub.trans (e1.trans e2)) hp0).trans e3) hp0)
    · refine s_when (b := decide (V.int c = V.int 0)) (et_test (ev_op (ix 2 rfl (e1 p _ hp) rfl) ev_c (rv_eq rfl))) (fun hb2 H2 e2 => ?_) fun hb2 H2 e2 => ?_
      · have ee := e1.trans e2
        refine s_retC (vs := [.ref p, .int w]) (ea_cons (ev_var rfl) (ea_cons (ev_var rfl) ea_nil)) fun H3 e3 => ?_
        have e13 := ee.trans e3
        exact ⟨p, l, n, w, rfl, ⟨ns, i, c, s0, t, e13 p _ hp, e13 l _ hl, lp, ⟨by omega, hns, hc⟩, ⟨hs0, hs1⟩, ht0, ht1⟩, hn, hw0, hw1, fun r H4 r0 r1 p4 e4 => k r H4 r0 r1 p4 ((hm_mono e13).trans e4)⟩
      · exact tail H2 i c hc ((e1.trans e2) p _ hp) (hm_sub.trans (e1.trans e2))
end
/-! ### expressions that draw -/
theorem hm_trans {p : Addr} {H H1 H2 : Hp} (a : Ex (Hm p H) H1) (b : Ex (Hm p H1) H2) : Ex (Hm p H) H2 := fun x o h => by
  have ne : x ≠ p := fun z => by
    subst z
    rw [hm_p] at h
    cases h
  have h1 := a x o h
  refine b x o ?_
  unfold Hm
  rw [if_neg ne]
  exact h1
theorem hm_next {p : Addr} {H0 H H1 : Hp} (h0 : H0 p = none) (e : Ex H0 H) (s : Ex (Hm p H) H1) : Ex H0 H1 := (ex_hm e h0).trans s
theorem hm_of {p : Addr} {H H1 : Hp} (e : Ex H H1) : Ex (Hm p H) H1 := hm_sub.trans e
theorem hm_at {p a : Addr} {H H1 : Hp} {o : HO} (s : Ex (Hm p H) H1) (ne : a ≠ p) (h : H a = some o) : H1 a = some o := s a o (by
  unfold Hm
  rw [if_neg ne]
  exact h)
theorem Po.ne {p l b : Addr} {n : Nat} {H : Hp} (h : Po p l n H) (hb : H b = none) : b ≠ p := fun z => by
  subst z
  obtain ⟨_, _, _, _, _, h1, _⟩ := h
  rw [hb] at h1
  cases h1
theorem Po.nl {p l b : Addr} {n : Nat} {H : Hp} (h : Po p l n H) (hb : H b = none) : b ≠ l := fun z => by
  subst z
  obtain ⟨_, _, _, _, _, _, h1, _⟩ := h
  rw [hb] at h1
  cases h1
theorem Po.upd {p l b : Addr} {n : Nat} {H : Hp} {o : HO} (h : Po p l n H) (ne : b ≠ p) (nl : b ≠ l) : Po p l n (upd H b o) := by
  obtain ⟨ns, i, c, s, t, h1, h2, h3⟩ := h
  exact ⟨ns, i, c, s, t, by rw [upd_ne (Ne.symm ne)]; exact h1, by rw [upd_ne (Ne.symm nl)]; exact h2, h3⟩
def EvP (p L : Addr) (k : Nat) (te : TE) (σ : L2.St) (H0 : Hp) (R : V → Hp → Prop) : Prop := ∀ n H1, Ex H0 H1 → Po p L n H1 → n + k ≤ 1000000000 →
  ∀ Q : VK, (∀ v H2, R v H2 → Po p L (n + k) H2 → Ex (Hm p H1) H2 → Q v H2) → te σ H1 Q
def Stb (p : Addr) (R : V → Hp → Prop) : Prop := ∀ v H H', R v H → Ex (Hm p H) H' → R v H'
section
variable {K : PySem.W.Frag} {σ : L2.St} {H0 H : Hp} {p L : Addr} {k k1 k2 : Nat} {te ta tb : TE} {R Ra Rb : V → Hp → Prop}
theorem ep_ev {v : V} (h : Ev te σ H0 v) : EvP p L 0 te σ H0 (fun x _ => x = v) := fun n H1 e hp _ Q q => h H1 e Q fun H2 e2 => q v H2 rfl (hp.ex e2) (hm_of e2)
theorem ep_L {xs : List V} (h : EvL te σ H0 xs) : EvP p L 0 te σ H0 (fun x H => ∃ l, l ≠ p ∧ x = .ref l ∧ H l = some (.lst xs)) := fun n H1 e hp _ Q q => h H1 e Q fun l H2 hl e2 h2 => q _ H2 ⟨l, hp.ne hl, rfl, h2⟩ (hp.ex e2) (hm_of e2)
theorem stb_L {xs : List V} : Stb p (fun x H => ∃ l, l ≠ p ∧ x = .ref l ∧ H l = some (.lst xs)) := fun v H H' ⟨l, ne, e, h⟩ s => ⟨l, ne, e, hm_at s ne h⟩
theorem stb_c {C : V → Prop} : Stb p (fun x _ => C x) := fun _ _ _ h _ => h
theorem ep_op {r : R2} (h0 : H0 p = none) (ha : EvP p L k1 ta σ H0 Ra) (hb : EvP p L k2 tb σ H0 Rb) (s1 : Stb p Ra) (s : Stb p R) (hr : ∀ x y H, Ra x H → Rb y H → ∃ z, R z H ∧ RV r x y H z) : EvP p L (k1 + k2) (tOp r ta tb) σ H0 R :=
  fun n H1 e hp hn Q q => ha n H1 e hp (by omega) _ fun x H2 hx p2 e2 => hb (n + k1) H2 (hm_next h0 e e2) p2 (by omega) _ fun y H3 hy p3 e3 => by
    obtain ⟨z, hz, hv⟩ := hr x y H3 (s1 x H2 H3 hx e3) hy
    refine hv H3 (Ex.refl H3) Q fun H4 e4 => q z H4 (s z H3 H4 hz (hm_of e4)) ?_ (hm_trans (hm_trans e2 e3) (hm_of e4))
    rw [← Nat.add_assoc]
    exact p3.ex e4
theorem ep_dip {tw : TE} {E : XK} {C : Int → Prop} (h0 : H0 p = none) (hp : Ev ta σ H0 (.ref p)) (hw : EvP p L k tw σ H0 (fun v _ => ∃ w, v = .int w ∧ 0 < w ∧ w < 2 ^ 200 ∧ C w)) :
    EvP p L (k + 1) (tCall sp_law_draw [] E (tCons ta (tCons tw tNil))) σ H0 (fun v _ => ∃ r w, v = .int r ∧ 0 ≤ r ∧ r < w ∧ C w) :=
  fun n H1 e hpo hn Q q => hp H1 e _ fun H2 e2 => hw n H2 (e.trans e2) (hpo.ex e2) (by omega) _ fun y H3 hy p3 e3 => by
    obtain ⟨w, rfl, w0, w1, c⟩ := hy
    exact ⟨p, L, n + k, w, rfl, p3, by omega, w0, w1, fun r H' r0 r1 p4 e4 => q _ H' ⟨r, w, rfl, r0, r1, c⟩ p4 (hm_trans (hm_trans (hm_of e2) e3) e4)⟩
theorem ep_is {R' : V → Hp → Prop} (h : EvP p L k te σ H0 R) (e : ∀ v H, R v H → R' v H) : EvP p L k te σ H0 R' := fun n H1 a b c Q q => h n H1 a b c Q fun v H2 hv => q v H2 (e v H2 hv)
/-- the width is a pure int -/
theorem ep_dipI {tw : TE} {E : XK} {w : Int} (h0 : H0 p = none) (hp : Ev ta σ H0 (.ref p)) (hw : Ev tw σ H0 (.int w)) (w0 : 0 < w) (w1 : w < 2 ^ 200) :
    EvP p L 1 (tCall sp_law_draw [] E (tCons ta (tCons tw tNil))) σ H0 (fun v _ => ∃ r, v = .int r ∧ 0 ≤ r ∧ r < w) :=
  ep_is (ep_dip (k := 0) (C := fun z => z = w) h0 hp (ep_is (ep_ev hw) fun v H e => ⟨w, e, w0, w1, rfl⟩)) fun v H ⟨r, z, e, r0, r1, e2⟩ => ⟨r, e, r0, e2 ▸ r1⟩
/-- a + b, b drawn -/
theorem ep_add {a : Int} {C : Int → Prop} (h0 : H0 p = none) (ha : Ev ta σ H0 (.int a)) (hb : EvP p L k tb σ H0 (fun v _ => ∃ r, v = .int r ∧ C r)) : EvP p L (0 + k) (tOp (rI0 fun i j => .int (i + j)) ta tb) σ H0 (fun v _ => ∃ r, v = .int (a + r) ∧ C r) :=
  ep_op h0 (ep_ev ha) hb stb_c stb_c fun x y H e ⟨r, e2, c⟩ => ⟨.int (a + r), ⟨r, rfl, c⟩, by
    subst e
    subst e2
    exact rv_I0⟩
theorem p_asg {i n : Nat} {D : Ends} (h : EvP p L k te σ H0 R) (e : Ex H0 H) (hp : Po p L n H) (hn : n + k ≤ 1000000000) (q : ∀ v H2, R v H2 → Po p L (n + k) H2 → Ex (Hm p H) H2 → D.nx (σ.set i (some v)) H2) : tAsg te (gName i) D σ H := h n H e hp hn _ q
theorem pq_asg {i n : Nat} {D : Ends} {tz : TS} (h : EvP p L k te σ H0 R) (e : Ex H0 H) (hp : Po p L n H) (hn : n + k ≤ 1000000000) (q : ∀ v H2, R v H2 → Po p L (n + k) H2 → Ex (Hm p H) H2 → tz D (σ.set i (some v)) H2) : tSeq (tAsg te (gName i)) tz D σ H := h n H e hp hn _ q
/-- tests that draw -/
def EtP (p L : Addr) (k : Nat) (t : TT) (σ : L2.St) (H0 : Hp) (b : Bool) : Prop := ∀ n H1, Ex H0 H1 → Po p L n H1 → n + k ≤ 1000000000 →
  ∀ Q : Bool → Hp → Prop, (∀ H2, Po p L (n + k) H2 → Ex (Hm p H1) H2 → Q b H2) → t σ H1 Q
variable {t u : TT} {b c : Bool}
theorem tp_B (h : EvP p L k te σ H0 (fun v _ => v = .bl b)) : EtP p L k (tB te) σ H0 b := fun n H1 e hp hn Q q => h n H1 e hp hn _ fun v H2 hv p2 e2 => ⟨b, hv, q H2 p2 e2⟩
theorem tp_not (h : EtP p L k t σ H0 b) : EtP p L k (tNot t) σ H0 (!b) := fun n H1 e hp hn Q q => h n H1 e hp hn _ fun H2 p2 e2 => q H2 p2 e2
theorem tp_is (h : EtP p L k t σ H0 b) (e : b = c) : EtP p L k t σ H0 c := e ▸ h
theorem tp_or (h0 : H0 p = none) (h : EtP p L k1 t σ H0 false) (h' : EtP p L k2 u σ H0 b) : EtP p L (k1 + k2) (tOr t u) σ H0 b := fun n H1 e hp hn Q q => h n H1 e hp (by omega) _ fun H2 p2 e2 => by
  show u σ H2 Q
  refine h' (n + k1) H2 (hm_next h0 e e2) p2 (by omega) Q fun H3 p3 e3 => q H3 ?_ (hm_trans e2 e3)
  rw [← Nat.add_assoc]
  exact p3
theorem tp_et (h : EvT t σ H0 b) : EtP p L 0 t σ H0 b := fun n H1 e hp _ Q q => h H1 e Q fun H2 e2 => q H2 (hp.ex e2) (hm_of e2)
/-- a test that is false: what follows -/
theorem pq_no {n : Nat} {D : Ends} {tu tz : TS} (h : EtP p L k t σ H0 false) (e : Ex H0 H) (hp : Po p L n H) (hn : n + k ≤ 1000000000) (q : ∀ H2, Po p L (n + k) H2 → Ex (Hm p H) H2 → tz D σ H2) : tSeq (tIfS t tu tNext) tz D σ H := h n H e hp hn _ q
theorem ps_no {n : Nat} {D : Ends} {tu : TS} (h : EtP p L k t σ H0 false) (e : Ex H0 H) (hp : Po p L n H) (hn : n + k ≤ 1000000000) (q : ∀ H2, Po p L (n + k) H2 → Ex (Hm p H) H2 → D.nx σ H2) : tIfS t tu tNext D σ H := h n H e hp hn _ q
end


/-! ### lists of guests -/
def iz (xs : List Nat) : List Int := xs.map fun x : Nat => (x : Int)
def nv (xs : List Nat) : List V := (iz xs).map V.int
theorem nv_len (xs : List Nat) : (nv xs).length = xs.length := by simp [nv, iz]
theorem nv_get {xs : List Nat} {i x : Nat} (h : xs[i]? = some x) : (nv xs)[i]? = some (.int x) := by simp [nv, iz, h]
theorem nv_app (xs ys : List Nat) : nv (xs ++ ys) = nv xs ++ nv ys := by simp [nv, iz]
theorem nv_eq (xs : List Nat) : nv xs = xs.map fun x : Nat => V.int (x : Int) := by simp [nv, iz]
def Ord (h : List Nat) : Prop := h.Perm (List.range h.length) ∧ 1 ≤ h.length ∧ h.length ≤ 20
theorem el_mapI {K : PySem.W.Frag} {σ : L2.St} {H : Hp} {te tl : TE} {a : Addr} {xs : List V} {j : Nat} {vs : List Nat} (f : Nat → V) (h : Ev tl σ H (.ref a)) (hx : SqL K H a xs) (hz : xs.length ≤ 40000) (hw : ∀ x, wipe ((wipe σ vs).set j (some x)) vs = wipe σ vs)
    (he : ∀ (i : Nat) (x : V) H1, Ex H H1 → xs[i]? = some x → Ev te ((wipe σ vs).set j (some x)) H1 (f i)) : EvL (tLc (iList K tl) (gName j) tYes te vs) σ H ((List.range xs.length).map f) := by
  have e : (List.range xs.length).map f = given xs.length (fun _ => true) f := by
    unfold given
    rw [List.filter_eq_self.mpr (fun _ _ => rfl)]
  rw [e]
  exact el_lcL _ _ h hx hz hw (fun _ _ _ _ _ => et_yes) fun i x H1 e hi _ => he i x H1 e hi
/-! ### what a thing is told by: an item by whether it is an int, a thing by the items of the list that it is -/
def Iv (H : Hp) (v : V) (d : PyData) : Prop := (∃ n, zTyV v H = some n ∧ Meta n ∧ decide (n = "int") = isI d) ∧ (∀ i, d = .int i → v = .int i) ∧ ∀ i, v = .int i → d = .int i
inductive Bd (K : PySem.W.Frag) (H : Hp) (v : V) : Option (List PyData) → Prop
  | ty (n : String) (h : zTyV v H = some n) (m : Meta n) (ne : n ≠ "list") : Bd K H v none
  | dct {a : Addr} {kvs : List (Key × V)} (e : v = .ref a) (h : H a = some (.dK kvs)) : Bd K H v none
  | own {a C dx : Addr} {fs : List (Str × V)} (e : v = .ref a) (h : H a = some (.ins C dx fs)) (t : PySem.W.typeIn K (.ref C) = some (.type "type")) : Bd K H v none
  | lst {a : Addr} {xs : List V} {ds : List PyData} (e : v = .ref a) (h : H a = some (.lst xs)) (ps : Paired (Iv H) xs ds) : Bd K H v (some ds)
theorem zty_ex {H H1 : Hp} {v : V} {n : String} (e : Ex H H1) (h : zTyV v H = some n) : zTyV v H1 = some n := by
  cases v with
  | ref p =>
    simp only [zTyV] at h ⊢
    cases hp : H p with
    | none => rw [hp] at h; cases h
    | some o =>
      rw [e p o hp]
      rw [hp] at h
      exact h
  | _ => exact h
theorem Iv.ex {H H1 : Hp} {v : V} {d : PyData} (h : Iv H v d) (e : Ex H H1) : Iv H1 v d := ⟨h.1.imp fun n x => ⟨zty_ex e x.1, x.2⟩, h.2⟩
theorem ivs_ex {H H1 : Hp} (e : Ex H H1) : ∀ {xs : List V} {ds : List PyData}, Paired (Iv H) xs ds → Paired (Iv H1) xs ds
  | _, _, .nil => .nil
  | _, _, .cons h t => .cons (h.ex e) (ivs_ex e t)
theorem Bd.ex {K : PySem.W.Frag} {H H1 : Hp} {v : V} {o : Option (List PyData)} (h : Bd K H v o) (e : Ex H H1) : Bd K H1 v o := by
  cases h with
  | ty n h m ne => exact .ty n (zty_ex e h) m ne
  | dct e1 h => exact .dct e1 (e _ _ h)
  | own e1 h t => exact .own e1 (e _ _ h) t
  | lst e1 h ps => exact .lst e1 (e _ _ h) (ivs_ex e ps)
theorem iv_int {H : Hp} {i : Int} : Iv H (.int i) (.int i) := ⟨⟨"int", rfl, PySem.TypeEq.meta_int, rfl⟩, fun j h => by cases h; rfl, fun j h => by cases h; rfl⟩
theorem iv_ints {H : Hp} : ∀ (ns : List Int), Paired (Iv H) (ns.map V.int) (ns.map PyData.int)
  | [] => .nil
  | _ :: r => .cons iv_int (iv_ints r)
theorem ev_noListO {K : PySem.W.Frag} {σ : L2.St} {H : Hp} {ta : TE} {v : V} {o : Option (List PyData)} (h : Ev ta σ H v) (hv : Bd K H v o) : Ev (tOp (rNeTyO K) (tThenZ ta kTyp3) (tC (.ty "list"))) σ H (.bl (!o.isSome)) := fun H1 e Q q => h H1 e _ fun H2 e2 => by
  cases hv.ex (e.trans e2) with
  | ty n hz m ne => exact .inl ⟨n, .inl hz, .inl ⟨n, "list", rfl, rfl, m, PySem.TypeEq.meta_list, by rw [decide_eq_false ne]; exact q H2 e2⟩⟩
  | dct e1 hz => exact .inl ⟨"dict", .inr ⟨rfl, _, _, e1, hz⟩, .inl ⟨"dict", "list", rfl, rfl, PySem.TypeEq.meta_dict, PySem.TypeEq.meta_list, q H2 e2⟩⟩
  | own e1 hz t => exact .inr ⟨_, _, _, _, e1, hz, .inr ⟨_, "list", rfl, rfl, t, PySem.TypeEq.meta_list, q H2 e2⟩⟩
  | lst e1 hz ps => exact .inl ⟨"list", .inl (by rw [e1]; simp [zTyV, hz]), .inl ⟨"list", "list", rfl, rfl, PySem.TypeEq.meta_list, PySem.TypeEq.meta_list, q H2 e2⟩⟩
/-- a dict, an own object -/
def Od (K : PySem.W.Frag) (H : Hp) (v : V) : Prop := (∃ a kvs, v = V.ref a ∧ H a = some (.dK kvs)) ∨ ∃ a C dx fs, v = V.ref a ∧ H a = some (.ins C dx fs) ∧ PySem.W.typeIn K (.ref C) = some (.type "type")
theorem Od.ex {K : PySem.W.Frag} {H H1 : Hp} {v : V} (h : Od K H v) (e : Ex H H1) : Od K H1 v := by
  rcases h with ⟨a, kvs, ev, h⟩ | ⟨a, C, dx, fs, ev, h, t⟩
  · exact .inl ⟨a, kvs, ev, e a _ h⟩
  · exact .inr ⟨a, C, dx, fs, ev, e a _ h, t⟩
theorem ev_isWholeX {K : PySem.W.Frag} {σ : L2.St} {H : Hp} {ta : TE} {v : V} (h : Ev ta σ H v) (hv : Od K H v) : Ev (tOp (rEqTyO K) (tThenZ ta kTyp3) (tC (.ty "int"))) σ H (.bl false) := fun H1 e Q q => h H1 e _ fun H2 e2 => by
  rcases hv.ex (e.trans e2) with ⟨a, kvs, ev, h⟩ | ⟨a, C, dx, fs, ev, h, t⟩
  · exact .inl ⟨"dict", .inr ⟨rfl, a, kvs, ev, h⟩, .inl ⟨"dict", "int", rfl, rfl, PySem.TypeEq.meta_dict, PySem.TypeEq.meta_int, q H2 e2⟩⟩
  · exact .inr ⟨a, C, dx, fs, ev, h, .inr ⟨C, "int", rfl, rfl, t, PySem.TypeEq.meta_int, q H2 e2⟩⟩
theorem ev_isWholeO {K : PySem.W.Frag} {σ : L2.St} {H : Hp} {ta : TE} {v : V} {d : PyData} (h : Ev ta σ H v) (hv : Iv H v d) : Ev (tOp (rEqTyO K) (tThenZ ta kTyp3) (tC (.ty "int"))) σ H (.bl (isI d)) := fun H1 e Q q => h H1 e _ fun H2 e2 => by
  obtain ⟨n, hn, mt, iff⟩ := (hv.ex (e.trans e2)).1
  refine .inl ⟨n, .inl hn, .inl ⟨n, "int", rfl, rfl, mt, PySem.TypeEq.meta_int, ?_⟩⟩
  rw [iff]
  exact q H2 e2
def sp_is_whole (K : PySem.W.Frag) : Sp := fun vs H Q _ => ∃ (v : V) (d : PyData), vs = [v] ∧ (Iv H v d ∨ (Od K H v ∧ isI d = false)) ∧ RetV (.bl (isI d)) H Q
theorem sv_whole {K : PySem.W.Frag} {H : Hp} {x : Int} : SpV (sp_is_whole K) ([.int x] ++ []) H (.bl true) := fun H1 _ Q q E => ⟨.int x, .int x, rfl, .inl iv_int, q⟩
theorem sv_wholeD {K : PySem.W.Frag} {H : Hp} {v : V} {d : PyData} (h : Iv H v d) : SpV (sp_is_whole K) ([v] ++ []) H (.bl (isI d)) := fun H1 e Q q E => ⟨v, d, rfl, .inl (h.ex e), q⟩
theorem sv_wholeX {K : PySem.W.Frag} {H : Hp} {v : V} (h : Od K H v) : SpV (sp_is_whole K) ([v] ++ []) H (.bl false) := fun H1 e Q q E => ⟨v, .none, rfl, .inr ⟨h.ex e, rfl⟩, q⟩
local macro_rules | `(tactic| walk_at "call") => `(tactic| (with_reducible exact sv_whole))
def sp_ord (v : V) : Sp := fun vs H Q _ => ∃ (a : Addr) (h : List Nat), vs = [.ref a] ∧ H a = some (.lst (nv h)) ∧ Ord h ∧ RetV v H Q
theorem sv_ord {H : Hp} {v : V} {a : Addr} {h : List Nat} (ha : H a = some (.lst (nv h))) (o : Ord h) : SpV (sp_ord v) ([.ref a] ++ []) H v := fun H1 e Q q E => ⟨a, h, rfl, e a _ ha, o, q⟩
section
variable {P : Program} {w : World} {K : PySem.W.Frag} {mg : Str → Option Value} {base : Heap}
theorem ok_is_whole (T : Tx K mg) : FnOk P w K mg base CX0 1 T.f_is_whole T.d_is_whole ["thing"] (sp_is_whole K) := by
  refine T.F_is_whole.ok sc_is_whole (fun vs H Q E h => ?_) (fun cdv A outer s H vs Q E hr h => ?_)
  · obtain ⟨v, d, rfl, _⟩ := h
    rfl
  · obtain ⟨v, d, rfl, hv, k⟩ := h
    refine ⟨_, (pss_one (ps_ret (pe_cmpR (op_eqTyO (hu_of hr)) (pe_typeOf3 (by rfl) T.m_type (pv 0)) (pe_bltn (v := .ty "int") (by rfl) T.m_int (by decide +kernel) rfl) (nomark _)))), ?_⟩
    rcases hv with hv | ⟨hv, hd⟩
    · exact s_ret (ev_isWholeO (ev_var rfl) hv) fun H1 e1 => k _ e1
    · rw [hd] at k
      exact s_ret (ev_isWholeX (ev_var rfl) hv) fun H1 e1 => k _ e1
theorem range_iz (n : Nat) : rgV 0 (n : Int) = nv (List.range n) := by
  rw [nv_eq]
  unfold rgV
  simp
/-- the ints of data -/
def intsOf (ds : List PyData) : List Int := ds.map fun
  | .int i => i
  | _ => 0
def sortI (ns : List Int) : List Int := ns.mergeSort fun a b => decide (a ≤ b)
theorem sortI_perm (ns : List Int) : (sortI ns).Perm ns := List.mergeSort_perm ns _
theorem sortI_sorted (ns : List Int) : (sortI ns).Pairwise (· ≤ ·) := by
  have := List.pairwise_mergeSort (le := fun a b : Int => decide (a ≤ b)) (fun a b c h1 h2 => by
    have h1 := of_decide_eq_true h1
    have h2 := of_decide_eq_true h2
    exact decide_eq_true (by omega)) (fun a b => by
    rw [Bool.or_eq_true, decide_eq_true_iff, decide_eq_true_iff]
    omega) ns
  exact this.imp fun h => of_decide_eq_true h
theorem ints_of {H : Hp} : ∀ {xs : List V} {ds : List PyData}, Paired (Iv H) xs ds → ds.all isI = true → xs = (intsOf ds).map V.int
  | _, _, .nil, _ => rfl
  | _, _, .cons (b := d) h t, ha => by
    rw [List.all_cons, Bool.and_eq_true] at ha
    have := ints_of t ha.2
    cases d with
    | int i =>
      rw [this, h.2.1 i rfl]
      rfl
    | _ => exact Bool.noConfusion ha.1
def lenOk (n : Nat) : Bool := decide ((1 : Int) ≤ (n : Int)) && decide ((n : Int) ≤ 20)
def sorts (ds : List PyData) : Bool := PyData.eqv (.list ((sortI (intsOf ds)).map PyData.int)) (.list ((iz (List.range ds.length)).map PyData.int))
/-- whether a thing is a list with 0, 1, .. once each -/
def judge : Option (List PyData) → Bool
  | none => false
  | some ds => lenOk ds.length && (ds.all isI && sorts ds)
def sp_any (K : PySem.W.Frag) : Sp := fun vs H Q _ => ∃ (v : V) (o : Option (List PyData)), vs = [v] ∧ Bd K H v o ∧ RetV (.bl (judge o)) H Q
def sp_is_order (K : PySem.W.Frag) : Sp := fun vs H Q E => sp_ord (.bl true) vs H Q E ∨ sp_any K vs H Q E
theorem sv_order {K : PySem.W.Frag} {H : Hp} {a : Addr} {h : List Nat} (ha : H a = some (.lst (nv h))) (o : Ord h) : SpV (sp_is_order K) ([.ref a] ++ []) H (.bl true) := fun H1 e Q q E => .inl (sv_ord ha o H1 e Q q E)
theorem sv_any {K : PySem.W.Frag} {H : Hp} {v : V} {o : Option (List PyData)} (hv : Bd K H v o) : SpV (sp_is_order K) ([v] ++ []) H (.bl (judge o)) := fun H1 e Q q E => .inr ⟨v, o, rfl, hv.ex e, q⟩
theorem judge_ord {h : List Nat} (o : Ord h) : judge (some ((iz h).map PyData.int)) = true := by
  have e : intsOf ((iz h).map PyData.int) = iz h := by
    unfold intsOf
    rw [List.map_map]
    exact List.map_id _
  have el : ((iz h).map PyData.int).length = h.length := by simp [iz]
  have s : sortI (iz h) = iz (List.range h.length) := List.Perm.eq_of_pairwise (le := fun a b : Int => a ≤ b) (fun a b _ _ h1 h2 => by omega) (sortI_sorted _) (by
    unfold iz
    rw [List.pairwise_map]
    exact List.Pairwise.imp (fun {a b} h => by omega) List.pairwise_lt_range) ((sortI_perm _).trans (o.1.map (fun x : Nat => (x : Int))))
  unfold judge sorts lenOk
  simp only
  rw [e, el, s, eqv_same (shaped_ints _)]
  have hl := o.2
  have : ((iz h).map PyData.int).all isI = true := by
    rw [List.all_map, List.all_eq_true]
    intro x _
    rfl
  rw [this]
  simp
  omega
theorem Ord.th {K : PySem.W.Frag} {H : Hp} {a : Addr} {h : List Nat} (ha : H a = some (.lst (nv h))) : Bd K H (.ref a) (some ((iz h).map PyData.int)) := .lst rfl ha (iv_ints _)
theorem ok_is_order (T : Tx K mg) : FnOk P w K mg base CX0 2 T.f_is_order T.d_is_order ["thing"] (sp_is_order K) := by
  refine FnOk.imp (sp := sp_any K) ?_ (fun vs H Q E h => ?_)
  · refine T.F_is_order.ok sc_is_order (fun vs H Q E h => ?_) (fun cdv A outer s H vs Q E hr h => ?_)
    · obtain ⟨v, o, rfl, _⟩ := h
      rfl
    · obtain ⟨v, o, rfl, hv, k⟩ := h
      refine ⟨_, (pss_cons (ps_if (PW.pt (pw_or (pt_cmpR (op_neTyO (hu_of hr)) (pe_typeOf3 (by rfl) T.m_type (pv 0)) (pe_bltn (v := .ty "list") (by rfl) T.m_list (by decide +kernel) rfl) (nomark _)) (pw_or1 (pt_not (pt_chain op_le op_le pe_int (pe_callB call_lenR (by rfl) T.m_len (by decide +kernel) (pa_cons (pv 0) pa_nil)) (pe_gc (by rfl) T.c_MOST_GUESTS)))))) (pss_one (ps_ret pe_bl)) pss_nil)
      (pss_cons (ps_if (pt_not (pt_val (pe_callB (cr_all rfl) (by rfl) T.m_all (by decide +kernel) (pa_cons (pe_lc (own := [("item", 1)]) (g := (gName 1)) (tt := tYes) rfl sc_is_order.nd (pi_list (pv 0)) (blkOk_by (own := [("item", 1)]) (N := n_is_order) (sc := defScope s_is_order) (by decide +kernel)) (fun _ _ _ _ _ => (pg_name (i := 1) sc_is_order.nd rfl (Or.inl rfl))) (fun _ _ _ _ _ => pts_nil) (fun _ _ _ _ _ => (pe_call (ok_is_whole T) (hr.mono (by decide)) (by rfl) T.g_is_whole T.F_is_whole.kp T.b_is_whole .nil pass0 (pa_cons (pv 1) pa_nil)))) pa_nil)))) (pss_one (ps_ret pe_bl)) pss_nil)
      (pss_one (ps_ret (pe_cmpR (op_eqD hr.units) (pe_callB cr_sorted (by rfl) T.m_sorted (by decide +kernel) (pa_cons (pv 0) pa_nil)) (pe_listRg rfl (by rfl) T.m_list (prg_1 (by rfl) T.m_range (pe_callB call_lenR (by rfl) T.m_len (by decide +kernel) (pa_cons (pv 0) pa_nil)))) (nomark _)))))), ?_⟩
      cases o with
      | none =>
        refine q_when (b := true) (et_is (et_or (b := false) (et_test (ev_noListO (ev_var rfl) hv)) fun z => Bool.noConfusion z) rfl) (fun _ H1 e1 => ?_) fun hb => Bool.noConfusion hb
        exact s_ret ev_c fun H2 e2 => k _ (e1.trans e2)
      | some ds =>
        have hv0 := hv
        cases hv with
        | @lst a xs _ ev ha hd =>
          subst ev
          have hl : xs.length = ds.length := hd.length
          refine q_when (b := !lenOk ds.length) (et_is (et_or (et_test (ev_noListO (ev_var rfl) hv0)) fun _ => et_not (et_test (ev_chainI ev_c (ev_len (ev_var rfl) (sq_of ha)) ev_c))) (by rw [hl]; rfl)) (fun hb H1 e1 => ?_) fun hb H1 e1 => ?_
          · have hb : lenOk ds.length = false := by simpa using hb
            have ej : judge (some ds) = false := by
              unfold judge
              simp only
              rw [hb]
              rfl
            rw [ej] at k
            exact s_ret ev_c fun H2 e2 => k _ (e1.trans e2)
          · have hb : lenOk ds.length = true := by simpa using hb
            have hn : 1 ≤ ds.length ∧ ds.length ≤ 20 := by
              unfold lenOk at hb
              simp at hb
              omega
            have h1 := e1 a _ ha
            refine q_when (b := !(ds.all isI)) (et_is (et_not (et_B (ev_allN (bs := ds.map isI) ?_))) (by rw [List.all_map]; rfl)) (fun hb2 H2 e2 => ?_) fun hb2 H2 e2 => ?_
            · have g := el_mapI (K := K) (te := tCall (sp_is_whole K) [] E0 (tCons (tVar 1) tNil)) (j := 1) (vs := [1]) (σ := start n_is_order [.ref a]) (H := H1) (fun i => V.bl (isI (ds.getD i .none))) (ev_var (i := 0) rfl) (sq_of h1) (by omega) (fun _ => rfl) fun i x H2 e2 hx => ?_
              · have e : (List.range xs.length).map (fun i => V.bl (isI (ds.getD i .none))) = (ds.map isI).map V.bl := by
                  rw [hl]
                  conv => rhs; rw [range_get ds .none]
                  rw [List.map_map, List.map_map]
                  rfl
                rw [e] at g
                exact g
              · obtain ⟨d, hd1, hd2⟩ := paired_get hd hx
                have gd : ds.getD i .none = d := by rw [List.getD_eq_getElem?_getD, hd1] <;> rfl
                show Ev _ _ _ (V.bl (isI (ds.getD i .none)))
                rw [gd]
                exact ev_call (ea_cons (ev_var rfl) ea_nil) (sv_wholeD (hd2.ex (e1.trans e2)))
            · have hb2 : ds.all isI = false := by simpa using hb2
              have ej : judge (some ds) = false := by
                unfold judge
                simp only
                rw [hb2, Bool.false_and, Bool.and_false]
              rw [ej] at k
              exact s_ret ev_c fun H3 e3 => k _ (e1.trans (e2.trans e3))
            · have hb2 : ds.all isI = true := by simpa using hb2
              have ex := ints_of hd hb2
              have il : (intsOf ds).length = ds.length := by simp [intsOf]
              have h2 := e2 a _ h1
              have sr : EvD K (tCB (rSorted K) (tCons (tVar 0) tNil)) (start n_is_order [.ref a]) H2 (.list ((sortI (intsOf ds)).map PyData.int)) :=
                ed_sorted (ns := intsOf ds) (ev_var rfl) (sq_of (by rw [← ex]; exact h2)) (by omega) (sortI_perm _) (sortI_sorted _)
              have rg : EvD K (tLstRg (tRg1 (tCB (rLenS K) (tCons (tVar 0) tNil)))) (start n_is_order [.ref a]) H2 (.list ((iz (List.range ds.length)).map PyData.int)) :=
                ed_ofL (xs := nv (List.range ds.length)) (by
                  have g := el_rg1 (σ := start n_is_order [.ref a]) (ev_len (K := K) (ta := tVar 0) (ev_var (i := 0) (v := .ref a) rfl) (sq_of h2)) (RgOk.of_le (by decide) (by omega) (by decide) (by omega))
                  rw [hl, range_iz] at g
                  exact g) (dpa_ints _)
              have ej : judge (some ds) = sorts ds := by
                unfold judge
                simp only
                rw [hb, hb2, Bool.true_and, Bool.true_and]
              rw [ej] at k
              exact s_ret (ev_eqD sr rg (shaped_ints _) (shaped_ints _)) fun H3 e3 => k _ (e1.trans (e2.trans e3))
  · rcases h with ⟨a, g, rfl, ha, o, k⟩ | h
    · refine ⟨.ref a, _, rfl, Ord.th ha, ?_⟩
      rw [judge_ord o]
      exact k
    · exact h
local macro_rules | `(tactic| walk_at "call") => `(tactic| ((with_reducible refine' sv_order ?c1 ?c2); (case c1 => assumption); (case c2 => assumption)))
theorem ok_is_seating (T : Tx K mg) : FnOk P w K mg base CX0 3 T.f_is_seating T.d_is_seating ["thing"] (sp_is_order K) := by
  refine T.F_is_seating.ok sc_is_seating (fun vs H Q E h => ?_) (fun cdv A outer s H vs Q E hr h => ?_)
  · rcases h with ⟨a, g, rfl, _⟩ | ⟨v, o, rfl, _⟩
    · rfl
    · rfl
  · rcases h with ⟨a, g, rfl, ha, o, k⟩ | ⟨v, o, rfl, hv, k⟩
    · refine ⟨_, (pss_one (ps_ret (pe_call (ok_is_order T) (hr.mono (by decide)) (by rfl) T.g_is_order T.F_is_order.kp T.b_is_order .nil pass0 (pa_cons (pv 0) pa_nil)))), ?_⟩
      exact s_ret (by walk_at "ev") fun H1 e1 => k _ e1
    · refine ⟨_, (pss_one (ps_ret (pe_call (ok_is_order T) (hr.mono (by decide)) (by rfl) T.g_is_order T.F_is_order.kp T.b_is_order .nil pass0 (pa_cons (pv 0) pa_nil)))), ?_⟩
      exact s_ret (ev_call (ea_cons (ev_var rfl) ea_nil) (sv_any hv)) fun H1 e1 => k _ e1
end
/-! ### errors -/
theorem eqv_ints_eq {xs ys : List Int} (h : PyData.eqv (.list (xs.map PyData.int)) (.list (ys.map PyData.int)) = true) : xs = ys := by
  have key : ∀ xs ys : List Int, PyData.eqvAll (xs.map PyData.int) (ys.map PyData.int) = true → xs = ys := by
    intro xs
    induction xs with
    | nil =>
      intro ys h
      cases ys with
      | nil => rfl
      | cons y r => simp [PyData.eqvAll] at h
    | cons x s ih =>
      intro ys h
      cases ys with
      | nil => simp [PyData.eqvAll] at h
      | cons y r =>
        simp only [List.map_cons, PyData.eqvAll, Bool.and_eq_true, PyData.eqv] at h
        rw [ih r h.2]
        have := h.1
        simp at this
        rw [this]
  exact key xs ys h
theorem nat_of_ints : ∀ {ns : List Int}, (∀ n ∈ ns, 0 ≤ n) → ∃ h : List Nat, ns = iz h
  | [], _ => ⟨[], rfl⟩
  | n :: r, hh => by
    obtain ⟨h, e⟩ := nat_of_ints fun m hm => hh m (List.mem_cons_of_mem _ hm)
    refine ⟨n.toNat :: h, ?_⟩
    have := hh n List.mem_cons_self
    rw [e]
    show n :: iz h = ((n.toNat : Nat) : Int) :: iz h
    rw [show ((n.toNat : Nat) : Int) = n by omega]
/-- what is judged true is a list of guests -/
theorem judge_yes {K : PySem.W.Frag} {H : Hp} {v : V} {o : Option (List PyData)} (hv : Bd K H v o) (hj : judge o = true) : ∃ (a : Addr) (h : List Nat), v = .ref a ∧ H a = some (.lst (nv h)) ∧ Ord h := by
  cases hv with
  | @lst a xs ds ev ha hd =>
    subst ev
    unfold judge at hj
    simp only [Bool.and_eq_true] at hj
    obtain ⟨hl, hi, hs⟩ := hj
    have ex := ints_of hd hi
    have e := eqv_ints_eq hs
    have il : (intsOf ds).length = ds.length := by simp [intsOf]
    have pm : (intsOf ds).Perm (iz (List.range ds.length)) := by
      rw [← e]
      exact (sortI_perm _).symm
    obtain ⟨h, eh⟩ := nat_of_ints (ns := intsOf ds) fun n hn => by
      obtain ⟨x, _, rfl⟩ := List.mem_map.mp (pm.mem_iff.mp hn)
      omega
    have hlen : h.length = ds.length := by
      rw [← il, eh]
      simp [iz]
    refine ⟨a, h, rfl, ?_, ?_, ?_⟩
    · rw [ha, ex, eh]
      rfl
    · rw [eh] at pm
      have p2 := pm.map Int.toNat
      have back : ∀ l : List Nat, (iz l).map Int.toNat = l := fun l => by
        unfold iz
        rw [List.map_map]
        exact (List.map_congr_left fun x _ => by simp).trans (List.map_id _)
      rw [back, back] at p2
      rw [hlen]
      exact p2
    · unfold lenOk at hl
      simp at hl
      omega
  | ty n h m ne => exact Bool.noConfusion hj
  | dct e h => exact Bool.noConfusion hj
  | own e h t => exact Bool.noConfusion hj
/-- what is evaluated to a text of at most n signs -/
def EvS (n : Nat) (te : TE) (σ : L2.St) (H : Hp) : Prop := ∀ H1, Ex H H1 → ∀ Q : VK, (∀ y H2, Ex H1 H2 → y.length ≤ n → Q (.str y) H2) → te σ H1 Q
section
variable {K : PySem.W.Frag} {σ : L2.St} {H H' : Hp} {te : TE}
theorem es_c {z : Str} {n : Nat} (h : z.length ≤ n) : EvS n (tC (.str z)) σ H := fun H1 _ Q q => q z H1 (Ex.refl _) h
theorem es_fmt {i : Int} (h : Ev te σ H (.int i)) (hb : i.natAbs < 2 ^ 1900) : EvS 1921 (tFmt te) σ H := fun H1 e Q q => h H1 e _ fun H2 e2 => .inr ⟨i, rfl, by
  by_cases z : i.natAbs = 0
  · rw [z]
    decide
  · exact Nat.lt_of_lt_of_le ((Nat.log2_lt z).mpr hb) (by decide), q _ H2 e2 (by
  refine int_text_len_1921 ?_
  by_cases z : i.natAbs = 0
  · rw [z]
    decide
  · exact Nat.lt_of_lt_of_le ((Nat.log2_lt z).mpr hb) (by decide))⟩
theorem tjs_nil {acc : Str} {Q : Str → Hp → Prop} (q : ∀ y, Q y H) : tJs [] acc σ H Q := q acc
theorem str_app_len (a b : Str) : (a ++ b).length = a.length + b.length := by
  show (Str.mk (a.cps ++ b.cps)).cps.size = _
  rw [Array.size_append]
  rfl
theorem tjs_go {n : Nat} : ∀ {ts : List TE} {acc : Str} {H1 : Hp} {Q : Str → Hp → Prop}, (∀ t ∈ ts, EvS n t σ H) → Ex H H1 → acc.length + ts.length * n ≤ 100000 → (∀ y H2, Ex H1 H2 → Q y H2) → tJs ts acc σ H1 Q
  | [], acc, H1, Q, _, _, _, q => q acc H1 (Ex.refl _)
  | t :: ts, acc, H1, Q, h, e, hz, q => h t List.mem_cons_self H1 e _ fun y H2 e2 hy => by
    rw [List.length_cons, Nat.add_mul, Nat.one_mul] at hz
    have hl := str_app_len acc y
    exact ⟨y, rfl, sz_of (by omega), tjs_go (fun t ht => h t (List.mem_cons_of_mem _ ht)) (e.trans e2) (by omega) fun z H3 e3 => q z H3 (e2.trans e3)⟩
end
def sp_chk1 (C : Addr) (lo hi : Int) : Sp := fun vs H Q E => ∃ x : Int, vs = [.int x] ∧ Out (if lo ≤ x ∧ x ≤ hi then none else some C) H Q E
def sp_chkN (C : Addr) : Sp := fun vs H Q E => ∃ x lo hi : Int, vs = [.int x, .int lo, .int hi] ∧ lo.natAbs < 2 ^ 1900 ∧ hi.natAbs < 2 ^ 1900 ∧ Out (if lo ≤ x ∧ x ≤ hi then none else some C) H Q E
def sp_chkS (K : PySem.W.Frag) (C : Addr) : Sp := fun vs H Q E => ∃ (v : V) (o : Option (List PyData)), vs = [v] ∧ Bd K H v o ∧ Out (if judge o then none else some C) H Q E
theorem so_chk1 {C : Addr} {lo hi x : Int} {H : Hp} : SpO (sp_chk1 C lo hi) ([.int x] ++ []) H (if lo ≤ x ∧ x ≤ hi then none else some C) := fun H1 e Q E q => ⟨x, rfl, q⟩
theorem so_chkN {C : Addr} {lo hi x : Int} {H : Hp} (h0 : lo.natAbs < 2 ^ 1900) (h1 : hi.natAbs < 2 ^ 1900) : SpO (sp_chkN C) ([.int x, .int lo, .int hi] ++ []) H (if lo ≤ x ∧ x ≤ hi then none else some C) := fun H1 e Q E q => ⟨x, lo, hi, rfl, h0, h1, q⟩
theorem so_chkS {K : PySem.W.Frag} {C : Addr} {H : Hp} {v : V} {o : Option (List PyData)} (hv : Bd K H v o) : SpO (sp_chkS K C) ([v] ++ []) H (if judge o then none else some C) := fun H1 e Q E q => ⟨v, o, rfl, hv.ex e, q⟩
/-- a def that asks first whether its argument is what it should be, and raises if not -/
def SpJ (K : PySem.W.Frag) (J : Option (List PyData) → Bool) (C : Addr) (old : Sp) : Sp := fun vs H Q E => ∃ (v : V) (o : Option (List PyData)), vs = [v] ∧ Bd K H v o ∧ (J o = false → ∀ H1, Ex H H1 → E (.ref C) none H1) ∧ (J o = true → old [v] H Q E)
theorem spJ_v {K : PySem.W.Frag} {J : Option (List PyData) → Bool} {C : Addr} {old : Sp} {H : Hp} {v z : V} {o : Option (List PyData)} (hv : Bd K H v o) (hj : J o = true) (h : SpV old ([v] ++ []) H z) : SpV (SpJ K J C old) ([v] ++ []) H z := fun H1 e Q q E =>
  ⟨v, o, rfl, hv.ex e, (fun n => by rw [hj] at n; exact Bool.noConfusion n), fun _ => h H1 e Q q E⟩
theorem spJ_l {K : PySem.W.Frag} {J : Option (List PyData) → Bool} {C : Addr} {old : Sp} {H : Hp} {v : V} {xs : List V} {o : Option (List PyData)} (hv : Bd K H v o) (hj : J o = true) (h : SpL old ([v] ++ []) H xs) : SpL (SpJ K J C old) ([v] ++ []) H xs := fun H1 e Q q E =>
  ⟨v, o, rfl, hv.ex e, (fun n => by rw [hj] at n; exact Bool.noConfusion n), fun _ => h H1 e Q q E⟩
theorem due_no {p : Prop} [Decidable p] {C : Addr} (h : (if p then none else some C) = none) : p := by
  by_cases hp : p
  · exact hp
  · rw [if_neg hp] at h
    cases h
theorem due_yes {p : Prop} [Decidable p] {C D : Addr} (h : (if p then none else some C) = some D) : ¬ p ∧ D = C := by
  by_cases hp : p
  · rw [if_pos hp] at h
    cases h
  · rw [if_neg hp] at h
    exact ⟨hp, (Option.some.inj h).symm⟩


local macro_rules | `(tactic| walk_at "call") => `(tactic| (with_reducible exact sv_whole))

/-! ### rings: the mathematics -/
/-- r is a whole table of the seating h, from its first guest on to the left -/
structure Rg (h r : List Nat) : Prop where
  ne : 0 < r.length
  nd : r.Nodup
  st : ∀ i, i < r.length → ∃ x y, r[i]? = some x ∧ r[(i + 1) % r.length]? = some y ∧ h[x]? = some y
def rot (r : List Nat) (k : Nat) : List Nat := r.drop k ++ r.take k
theorem rot_len {r : List Nat} {k : Nat} (hk : k ≤ r.length) : (rot r k).length = r.length := by
  unfold rot
  rw [List.length_append, List.length_drop, List.length_take]
  omega
theorem rot_get {r : List Nat} {k i : Nat} (hk : k < r.length) (hi : i < r.length) : (rot r k)[i]? = r[(i + k) % r.length]? := by
  unfold rot
  by_cases h : i < r.length - k
  · rw [List.getElem?_append_left (by rw [List.length_drop]; exact h), List.getElem?_drop, Nat.mod_eq_of_lt (by omega), Nat.add_comm]
  · rw [List.getElem?_append_right (by rw [List.length_drop]; omega), List.length_drop, List.getElem?_take_of_lt (by omega)]
    have e : (i + k) % r.length = i - (r.length - k) := by
      rw [Nat.mod_eq_sub_mod (by omega), Nat.mod_eq_of_lt (by omega)]
      omega
    rw [e]
theorem rot_perm (r : List Nat) (k : Nat) : (rot r k).Perm r := by
  unfold rot
  exact List.perm_append_comm.trans (List.Perm.of_eq (List.take_append_drop k r))
theorem Rg.rot {h r : List Nat} (R : Rg h r) {k : Nat} (hk : k < r.length) : Rg h (rot r k) := by
  have hl := rot_len (r := r) (k := k) (by omega)
  refine ⟨by have := R.ne; omega, (rot_perm r k).nodup_iff.mpr R.nd, fun i hi => ?_⟩
  rw [hl] at hi ⊢
  obtain ⟨x, y, h1, h2, h3⟩ := R.st ((i + k) % r.length) (Nat.mod_lt _ R.ne)
  refine ⟨x, y, by rw [rot_get hk hi]; exact h1, ?_, h3⟩
  rw [rot_get hk (Nat.mod_lt _ R.ne), ← h2, Nat.mod_add_mod, Nat.mod_add_mod]
  congr 2
  omega
structure Rings (h : List Nat) (rs : List (List Nat)) : Prop where
  rg : ∀ r ∈ rs, Rg h r
  low : ∀ r ∈ rs, ∀ x ∈ r, r.headD 0 ≤ x
  asc : (rs.map (·.headD 0)).Pairwise (· < ·)
  all : rs.flatten.Perm (List.range h.length)
def leads (r : List Nat) : Bool := decide (∀ x ∈ r, r.headD 0 ≤ x)
theorem Rings.turn {h : List Nat} {rs : List (List Nat)} (R : Rings h rs) {g : Nat} (hg : g < h.length) : ∃ w : List Nat, (∃ r ∈ rs, ∃ k, r[k]? = some g ∧ w = rot r k) := by
  have hm : g ∈ rs.flatten := R.all.mem_iff.mpr (List.mem_range.mpr hg)
  obtain ⟨r, hr, hgr⟩ := List.mem_flatten.mp hm
  obtain ⟨k, hk⟩ := List.mem_iff_getElem?.mp hgr
  exact ⟨rot r k, r, hr, k, hk, rfl⟩
theorem Rings.walks {h : List Nat} {rs : List (List Nat)} (R : Rings h rs) : ∃ f : Nat → List Nat, ∀ g, g < h.length → ∃ r ∈ rs, ∃ k, r[k]? = some g ∧ f g = rot r k :=
  ⟨fun g => if hg : g < h.length then Classical.choose (R.turn hg) else [], fun g hg => by
    have := Classical.choose_spec (R.turn hg)
    simp only [dif_pos hg]
    exact this⟩
theorem head_rot {r : List Nat} {k g : Nat} (hk : r[k]? = some g) : (rot r k).headD 0 = g := by
  obtain ⟨hl, e⟩ := List.getElem?_eq_some_iff.mp hk
  unfold rot
  rw [List.drop_eq_getElem_cons hl]
  exact e
theorem leads_rot {r : List Nat} {k g : Nat} (hk : r[k]? = some g) (lo : ∀ x ∈ r, r.headD 0 ≤ x) (ne : 0 < r.length) : leads (rot r k) = decide (g = r.headD 0) := by
  unfold leads
  rw [head_rot hk]
  have hmem : ∀ x, x ∈ rot r k ↔ x ∈ r := fun x => (rot_perm r k).mem_iff
  have h0 : r.headD 0 ∈ r := by
    cases r with
    | nil => simp at ne
    | cons a l => simp
  have hg : g ∈ r := List.mem_of_getElem? hk
  apply decide_eq_decide.mpr
  constructor
  · intro a
    have := a _ ((hmem _).mpr h0)
    have := lo g hg
    omega
  · intro a x hx
    rw [a]
    exact lo x ((hmem x).mp hx)
theorem rot_zero (r : List Nat) : rot r 0 = r := by
  unfold rot
  simp
theorem nodup_flat {rs : List (List Nat)} (h : rs.flatten.Nodup) {r r' : List Nat} {x : Nat} (hr : r ∈ rs) (hr' : r' ∈ rs) (hx : x ∈ r) (hx' : x ∈ r') : r = r' := by
  induction rs with
  | nil => cases hr
  | cons a l ih =>
    rw [List.flatten_cons, List.nodup_append] at h
    obtain ⟨h1, h2, h3⟩ := h
    rcases List.mem_cons.mp hr with e | q
    · rcases List.mem_cons.mp hr' with e' | q'
      · rw [e, e']
      · exact absurd rfl (h3 x (e ▸ hx) x (List.mem_flatten.mpr ⟨r', q', hx'⟩))
    · rcases List.mem_cons.mp hr' with e' | q'
      · exact absurd rfl (h3 x (e' ▸ hx') x (List.mem_flatten.mpr ⟨r, q, hx⟩))
      · exact ih h2 q q'
theorem Rings.nodup {h : List Nat} {rs : List (List Nat)} (R : Rings h rs) : rs.flatten.Nodup := R.all.nodup_iff.mpr List.nodup_range
/-- the walks that begin with their least guest are the rings -/
theorem Rings.lead {h : List Nat} {rs : List (List Nat)} (R : Rings h rs) {f : Nat → List Nat} (hf : ∀ g, g < h.length → ∃ r ∈ rs, ∃ k, r[k]? = some g ∧ f g = rot r k) : ((List.range h.length).map f).filter leads = rs := by
  rw [List.filter_map]
  have hd : ∀ g, g < h.length → leads (f g) = decide (g ∈ rs.map (·.headD 0)) := fun g hg => by
    obtain ⟨r, hr, k, hk, e⟩ := hf g hg
    rw [e, leads_rot hk (R.low r hr) (R.rg r hr).ne]
    apply decide_eq_decide.mpr
    constructor
    · intro a
      exact List.mem_map.mpr ⟨r, hr, a.symm⟩
    · intro a
      obtain ⟨r', hr', e'⟩ := List.mem_map.mp a
      have h0 : g ∈ r' := by
        have := (R.rg r' hr').ne
        cases r' with
        | nil => simp at this
        | cons b l => simp at e'; simp [e']
      have := nodup_flat R.nodup hr hr' (List.mem_of_getElem? hk) h0
      rw [this]
      exact e'.symm
  have hs : (List.range h.length).filter (leads ∘ f) = rs.map (·.headD 0) := by
    have e : (List.range h.length).filter (leads ∘ f) = (List.range h.length).filter (fun g => decide (g ∈ rs.map (·.headD 0))) := List.filter_congr fun g hg => hd g (List.mem_range.mp hg)
    rw [e]
    refine List.Perm.eq_of_pairwise (le := fun a b : Nat => a < b) (fun a b _ _ h1 h2 => by omega) (List.Pairwise.filter _ List.pairwise_lt_range) R.asc ?_
    refine (List.perm_ext_iff_of_nodup (List.Pairwise.filter _ List.nodup_range) (R.asc.imp fun h => Nat.ne_of_lt h)).mpr fun g => ?_
    rw [List.mem_filter]
    constructor
    · intro a
      exact of_decide_eq_true a.2
    · intro a
      refine ⟨?_, decide_eq_true a⟩
      obtain ⟨r', hr', e'⟩ := List.mem_map.mp a
      refine R.all.mem_iff.mp (List.mem_flatten.mpr ⟨r', hr', ?_⟩)
      have := (R.rg r' hr').ne
      cases r' with
      | nil => simp at this
      | cons b l => simp at e'; simp [e']
  rw [hs, List.map_map]
  refine (List.map_congr_left fun r hr => ?_).trans (List.map_id _)
  have ne := (R.rg r hr).ne
  have hm : r.headD 0 < h.length := List.mem_range.mp (R.all.mem_iff.mp (List.mem_flatten.mpr ⟨r, hr, by
    cases r with
    | nil => simp at ne
    | cons b l => simp⟩))
  obtain ⟨r', hr', k, hk, e⟩ := hf (r.headD 0) hm
  have e2 := nodup_flat R.nodup hr' hr (List.mem_of_getElem? hk) (by
    cases r with
    | nil => simp at ne
    | cons b l => simp)
  subst e2
  have k0 : k = 0 := by
    have h0 : r'[0]? = some (r'.headD 0) := by
      cases r' with
      | nil => simp at ne
      | cons b l => simp
    exact nd_ix (R.rg r' hr').nd hk h0
  show f (r'.headD 0) = r'
  rw [e, k0, rot_zero]

/-! ### rings by entries: the mathematics -/
def insr (pal one : Nat) (r : List Nat) : List Nat := if pal ∈ r ∧ pal ≠ one then r.take (r.idxOf pal + 1) ++ [one] ++ r.drop (r.idxOf pal + 1) else r
def rstep (rs : List (List Nat)) (one pal : Nat) : List (List Nat) := (if one = pal then rs ++ [[one]] else rs).map (insr pal one)
def ringsTo (e : List Nat) : Nat → List (List Nat)
  | 0 => []
  | i + 1 => rstep (ringsTo e i) i (e.getD i 0)
structure RI (m : Nat) (rs : List (List Nat)) : Prop where
  all : rs.flatten.Perm (List.range m)
  ne : ∀ r ∈ rs, 0 < r.length
  low : ∀ r ∈ rs, ∀ x ∈ r, r.headD 0 ≤ x
  asc : (rs.map (·.headD 0)).Pairwise (· < ·)
theorem insr_perm {pal one : Nat} {r : List Nat} (h : pal ∈ r) (ne : pal ≠ one) : (insr pal one r).Perm (one :: r) := by
  unfold insr
  rw [if_pos ⟨h, ne⟩, List.append_assoc]
  refine (List.Perm.append_left _ List.perm_append_comm).trans ?_
  rw [← List.append_assoc, List.take_append_drop]
  exact List.perm_append_comm
theorem insr_no {pal one : Nat} {r : List Nat} (h : pal ∉ r) : insr pal one r = r := if_neg fun q => h q.1
theorem insr_same {pal one : Nat} {r : List Nat} (h : pal = one) : insr pal one r = r := if_neg fun q => q.2 h
theorem insr_head {pal one : Nat} {r : List Nat} : (insr pal one r).headD 0 = r.headD 0 := by
  by_cases h : pal ∈ r ∧ pal ≠ one
  · unfold insr
    rw [if_pos h]
    cases r with
    | nil => simp at h
    | cons x l => simp
  · unfold insr
    rw [if_neg h]
theorem insr_len {pal one : Nat} {r : List Nat} (h : 0 < r.length) : 0 < (insr pal one r).length := by
  unfold insr
  split
  · simp
    omega
  · exact h
theorem insr_mem {pal one x : Nat} {r : List Nat} (h : x ∈ insr pal one r) : x ∈ r ∨ x = one := by
  by_cases q : pal ∈ r ∧ pal ≠ one
  · have := (insr_perm q.1 q.2).mem_iff.mp h
    rcases List.mem_cons.mp this with z | z
    · exact .inr z
    · exact .inl z
  · unfold insr at h
    rw [if_neg q] at h
    exact .inl h
theorem insr_all {pal one : Nat} (ne : pal ≠ one) : ∀ {rs : List (List Nat)}, rs.flatten.Nodup → pal ∈ rs.flatten → (rs.map (insr pal one)).flatten.Perm (one :: rs.flatten)
  | [], _, h => by simp at h
  | r :: l, nd, h => by
    rw [List.flatten_cons, List.nodup_append] at nd
    rw [List.map_cons, List.flatten_cons, List.flatten_cons]
    by_cases q : pal ∈ r
    · have hn : ∀ s ∈ l, pal ∉ s := fun s hs z => absurd rfl (nd.2.2 pal q pal (List.mem_flatten.mpr ⟨s, hs, z⟩))
      have e : l.map (insr pal one) = l := (List.map_congr_left fun s hs => insr_no (hn s hs)).trans (List.map_id _)
      rw [e]
      exact (List.Perm.append_right _ (insr_perm q ne))
    · rw [insr_no q]
      have h' : pal ∈ l.flatten := by
        rw [List.flatten_cons] at h
        rcases List.mem_append.mp h with z | z
        · exact absurd z q
        · exact z
      refine (List.Perm.append_left _ (insr_all ne nd.2.1 h')).trans ?_
      exact List.perm_middle
theorem RI.nd {m : Nat} {rs : List (List Nat)} (R : RI m rs) : rs.flatten.Nodup := R.all.nodup_iff.mpr List.nodup_range
theorem RI.mem {m x : Nat} {rs : List (List Nat)} (R : RI m rs) {r : List Nat} (hr : r ∈ rs) (hx : x ∈ r) : x < m := List.mem_range.mp (R.all.mem_iff.mp (List.mem_flatten.mpr ⟨r, hr, hx⟩))
theorem head_mem {r : List Nat} (h : 0 < r.length) : r.headD 0 ∈ r := by
  cases r with
  | nil => simp at h
  | cons x l => simp
theorem RI.step {one pal : Nat} {rs : List (List Nat)} (R : RI one rs) (h : pal ≤ one) : RI (one + 1) (rstep rs one pal) := by
  unfold rstep
  by_cases q : one = pal
  · rw [if_pos q]
    have e : (rs ++ [[one]]).map (insr pal one) = rs ++ [[one]] := (List.map_congr_left fun s _ => insr_same q.symm).trans (List.map_id _)
    rw [e]
    refine ⟨?_, ?_, ?_, ?_⟩
    · rw [List.flatten_append, List.range_succ]
      exact List.Perm.append_right _ R.all
    · intro r hr
      rcases List.mem_append.mp hr with z | z
      · exact R.ne r z
      · rw [List.mem_singleton.mp z]; simp
    · intro r hr
      rcases List.mem_append.mp hr with z | z
      · exact R.low r z
      · rw [List.mem_singleton.mp z]; simp
    · rw [List.map_append, List.pairwise_append]
      refine ⟨R.asc, by simp, fun a ha b hb => ?_⟩
      obtain ⟨r, hr, rfl⟩ := List.mem_map.mp ha
      have := R.mem hr (head_mem (R.ne r hr))
      simp at hb
      omega
  · rw [if_neg q]
    have hp : pal ∈ rs.flatten := R.all.mem_iff.mpr (List.mem_range.mpr (by omega))
    have eh : (rs.map (insr pal one)).map (·.headD 0) = rs.map (·.headD 0) := by
      rw [List.map_map]
      exact List.map_congr_left fun r _ => insr_head
    refine ⟨?_, ?_, ?_, ?_⟩
    · refine (insr_all (Ne.symm q) R.nd hp).trans ?_
      rw [List.range_succ]
      exact (List.Perm.cons _ R.all).trans (List.perm_append_comm (l₁ := [one]))
    · intro r hr
      obtain ⟨s, hs, rfl⟩ := List.mem_map.mp hr
      exact insr_len (R.ne s hs)
    · intro r hr x hx
      obtain ⟨s, hs, rfl⟩ := List.mem_map.mp hr
      rw [insr_head]
      rcases insr_mem hx with z | z
      · exact R.low s hs x z
      · have := R.mem hs (head_mem (R.ne s hs))
        omega
    · rw [eh]
      exact R.asc
theorem ringsTo_ok {e : List Nat} (h : ∀ (i x : Nat), e[i]? = some x → x ≤ i) : ∀ m, m ≤ e.length → RI m (ringsTo e m)
  | 0, _ => ⟨List.Perm.refl _, by simp [ringsTo], by simp [ringsTo], by simp [ringsTo]⟩
  | m + 1, hm => by
    have ih := ringsTo_ok h m (by omega)
    refine ih.step ?_
    have : e[m]? = some (e.getD m 0) := by
      rw [List.getD_eq_getElem?_getD, List.getElem?_eq_getElem (by omega)]
      rfl
    exact h m _ this
/-! the seating of rings -/
def succ (rs : List (List Nat)) (x : Nat) : Nat := match rs.find? (fun r => decide (x ∈ r)) with
  | some r => r.getD ((r.idxOf x + 1) % r.length) 0
  | none => 0
theorem succ_at {rs : List (List Nat)} (nd : rs.flatten.Nodup) {r : List Nat} (hr : r ∈ rs) {i x : Nat} (hx : r[i]? = some x) : succ rs x = r.getD ((i + 1) % r.length) 0 := by
  have hm := List.mem_of_getElem? hx
  have hf : rs.find? (fun r => decide (x ∈ r)) = some r := by
    cases hq : rs.find? (fun r => decide (x ∈ r)) with
    | none => exact absurd (decide_eq_true hm) (by simpa using List.find?_eq_none.mp hq r hr)
    | some s =>
      have h1 := List.mem_of_find?_eq_some hq
      have h2 := List.find?_some hq
      rw [nodup_flat nd h1 hr (of_decide_eq_true h2) hm]
  have ndr : r.Nodup := List.Pairwise.sublist (List.sublist_flatten_of_mem hr) nd
  have hi : r.idxOf x = i := by
    have hl := List.idxOf_lt_length_of_mem hm
    have := List.getElem_idxOf hl
    have h1 : r[r.idxOf x]? = some x := by rw [List.getElem?_eq_getElem hl, this]
    exact nd_ix ndr h1 hx
  unfold succ
  rw [hf]
  show r.getD ((r.idxOf x + 1) % r.length) 0 = _
  rw [hi]
def seat (rs : List (List Nat)) (n : Nat) : List Nat := (List.range n).map (succ rs)
theorem seat_rg {rs : List (List Nat)} {n : Nat} (hp : rs.flatten.Perm (List.range n)) {r : List Nat} (hr : r ∈ rs) (ne : 0 < r.length) : Rg (seat rs n) r := by
  have nd : rs.flatten.Nodup := hp.nodup_iff.mpr List.nodup_range
  refine ⟨ne, List.Pairwise.sublist (List.sublist_flatten_of_mem hr) nd, fun i hi => ?_⟩
  have hx : r[i]? = some r[i] := List.getElem?_eq_getElem hi
  have hm := Nat.mod_lt (i + 1) ne
  refine ⟨r[i], r[(i + 1) % r.length], hx, List.getElem?_eq_getElem hm, ?_⟩
  have hn : r[i] < n := List.mem_range.mp (hp.mem_iff.mp (List.mem_flatten.mpr ⟨r, hr, List.getElem_mem hi⟩))
  unfold seat
  rw [List.getElem?_map, List.getElem?_range hn]
  show some (succ rs r[i]) = _
  rw [succ_at nd hr hx, List.getD_eq_getElem?_getD, List.getElem?_eq_getElem hm]
  rfl
theorem seat_len (rs : List (List Nat)) (n : Nat) : (seat rs n).length = n := by simp [seat]
theorem map_rot {rs : List (List Nat)} (nd : rs.flatten.Nodup) {r : List Nat} (hr : r ∈ rs) (ne : 0 < r.length) : r.map (succ rs) = rot r (1 % r.length) := by
  have hk := Nat.mod_lt 1 ne
  refine List.ext_getElem? fun i => ?_
  by_cases hi : i < r.length
  · have hx : r[i]? = some r[i] := List.getElem?_eq_getElem hi
    have hm := Nat.mod_lt (i + 1) ne
    rw [List.getElem?_map, hx, rot_get hk hi, Nat.add_mod_mod]
    show some (succ rs r[i]) = _
    rw [succ_at nd hr hx, List.getD_eq_getElem?_getD, List.getElem?_eq_getElem hm]
    rfl
  · rw [List.getElem?_eq_none (by simp; omega), List.getElem?_eq_none (by rw [rot_len (by omega)]; omega)]
theorem flat_map_perm {g : Nat → Nat} : ∀ {rs : List (List Nat)}, (∀ r ∈ rs, (r.map g).Perm r) → (rs.flatten.map g).Perm rs.flatten
  | [], _ => List.Perm.refl _
  | r :: l, h => by
    rw [List.flatten_cons, List.map_append]
    exact List.Perm.append (h r (by simp)) (flat_map_perm fun s hs => h s (by simp [hs]))
theorem seat_perm {rs : List (List Nat)} {n : Nat} (hp : rs.flatten.Perm (List.range n)) (hne : ∀ r ∈ rs, 0 < r.length) : (seat rs n).Perm (List.range n) := by
  have nd : rs.flatten.Nodup := hp.nodup_iff.mpr List.nodup_range
  unfold seat
  refine ((hp.symm.map (succ rs)).trans (flat_map_perm fun r hr => ?_)).trans hp
  rw [map_rot nd hr (hne r hr)]
  exact rot_perm r _
theorem RI.rings {m : Nat} {rs : List (List Nat)} (R : RI m rs) : Rings (seat rs m) rs := ⟨fun r hr => seat_rg R.all hr (R.ne r hr), R.low, R.asc, by rw [seat_len]; exact R.all⟩
theorem seat_ord {rs : List (List Nat)} {n : Nat} (hp : rs.flatten.Perm (List.range n)) (hne : ∀ r ∈ rs, 0 < r.length) (h1 : 1 ≤ n) (h2 : n ≤ 20) : Ord (seat rs n) := by
  unfold Ord
  rw [seat_len]
  exact ⟨seat_perm hp hne, h1, h2⟩

/-! ### coming lists: the mathematics -/
def Cm (c : List Nat) : Prop := 1 ≤ c.length ∧ c.length ≤ 20 ∧ ∀ (i x : Nat), c[i]? = some x → x ≤ i
theorem Cm.get {c : List Nat} (h : Cm c) (k : Nat) : c.getD k 0 ≤ k := by
  rw [List.getD_eq_getElem?_getD]
  cases e : c[k]? with
  | none => exact Nat.zero_le _
  | some x => exact h.2.2 k x e
/-- one more guest at the left of x, or alone -/
def sits (h : List Nat) (k x : Nat) : List Nat := if x = k then h ++ [k] else ((h ++ [k]).set k (h.getD x 0)).set x k
def sby (c : List Nat) : Nat → List Nat
  | 0 => []
  | k + 1 => sits (sby c k) k (c.getD k 0)
theorem sits_len {h : List Nat} {k x : Nat} : (sits h k x).length = h.length + 1 := by
  unfold sits
  split <;> simp
theorem sby_len (c : List Nat) : ∀ k, (sby c k).length = k
  | 0 => rfl
  | k + 1 => by
    show (sits _ _ _).length = _
    rw [sits_len, sby_len c k]
theorem sby_take (c : List Nat) {w : Nat} (hw : w ≤ c.length) : ∀ k, k ≤ w → sby (c.take w) k = sby c k
  | 0, _ => rfl
  | k + 1, h => by
    show sits (sby (c.take w) k) k _ = sits (sby c k) k _
    rw [sby_take c hw k (by omega)]
    congr 1
    rw [List.getD_eq_getElem?_getD, List.getD_eq_getElem?_getD, List.getElem?_take]
    rw [if_pos (by omega)]
theorem insr_at {pal one : Nat} {r : List Nat} {j : Nat} (nd : r.Nodup) (hj : r[j]? = some pal) (ne : pal ≠ one) : insr pal one r = r.take (j + 1) ++ [one] ++ r.drop (j + 1) := by
  have hm := List.mem_of_getElem? hj
  have e : r.idxOf pal = j := by
    have hl := List.idxOf_lt_length_of_mem hm
    have h1 : r[r.idxOf pal]? = some pal := by rw [List.getElem?_eq_getElem hl, List.getElem_idxOf hl]
    exact nd_ix nd h1 hj
  unfold insr
  rw [if_pos ⟨hm, ne⟩, e]
theorem ins_get {r : List Nat} {j one t : Nat} (hj : j < r.length) : (r.take (j + 1) ++ [one] ++ r.drop (j + 1))[t]? = if t ≤ j then r[t]? else if t = j + 1 then some one else r[t - 1]? := by
  have l1 : (r.take (j + 1)).length = j + 1 := by rw [List.length_take]; omega
  split
  · rename_i h
    rw [List.getElem?_append_left (by simp; omega), List.getElem?_append_left (by omega), List.getElem?_take, if_pos (by omega)]
  · split
    · rename_i h1 h2
      subst h2
      rw [List.getElem?_append_left (by simp; omega), List.getElem?_append_right (by omega), l1, Nat.sub_self]
      rfl
    · rename_i h1 h2
      rw [List.getElem?_append_right (by simp; omega), List.getElem?_drop]
      congr 1
      simp
      omega
theorem ins_len {r : List Nat} {j one : Nat} (hj : j < r.length) : (r.take (j + 1) ++ [one] ++ r.drop (j + 1)).length = r.length + 1 := by
  simp
  omega
theorem mod_next {i L : Nat} (h : i < L) : (i + 1) % L = if i + 1 = L then 0 else i + 1 := by
  split
  · rename_i e
    rw [e, Nat.mod_self]
  · exact Nat.mod_eq_of_lt (by omega)
theorem getD_of {r : List Nat} {i x : Nat} (h : r[i]? = some x) : r.getD i 0 = x := by
  rw [List.getD_eq_getElem?_getD, h]
  rfl
/-- the left neighbours when one more guest has sat down -/
theorem succ_step {one pal : Nat} {rs : List (List Nat)} (R : RI one rs) (lt : pal < one) : succ (rstep rs one pal) pal = one ∧ succ (rstep rs one pal) one = succ rs pal ∧ ∀ x, x < one → x ≠ pal → succ (rstep rs one pal) x = succ rs x := by
  have ne : pal ≠ one := by omega
  have R2 := R.step (pal := pal) (by omega)
  have nd2 := R2.nd
  have nd := R.nd
  have e : rstep rs one pal = rs.map (insr pal one) := by
    unfold rstep
    rw [if_neg (by omega)]
  have hp : pal ∈ rs.flatten := R.all.mem_iff.mpr (List.mem_range.mpr lt)
  obtain ⟨r, hr, hpr⟩ := List.mem_flatten.mp hp
  obtain ⟨j, hj⟩ := List.mem_iff_getElem?.mp hpr
  have jl := (List.getElem?_eq_some_iff.mp hj).1
  have ndr : r.Nodup := List.Pairwise.sublist (List.sublist_flatten_of_mem hr) nd
  have ei := insr_at (one := one) ndr hj ne
  have mem2 : r.take (j + 1) ++ [one] ++ r.drop (j + 1) ∈ rstep rs one pal := by
    rw [e, ← ei]
    exact List.mem_map.mpr ⟨r, hr, rfl⟩
  have L := ins_len (one := one) jl
  have G := fun t => ins_get (one := one) (t := t) jl
  generalize hq : r.take (j + 1) ++ [one] ++ r.drop (j + 1) = q at *
  have atj : q[j]? = some pal := by rw [G, if_pos (Nat.le_refl _)]; exact hj
  have atj1 : q[j + 1]? = some one := by rw [G, if_neg (by omega), if_pos rfl]
  have s1 := succ_at nd2 mem2 atj
  have s2 := succ_at nd2 mem2 atj1
  have s0 := succ_at nd hr hj
  refine ⟨?_, ?_, ?_⟩
  · rw [s1, L, mod_next (by omega), if_neg (by omega)]
    exact getD_of atj1
  · rw [s2, L, s0, mod_next (by omega), mod_next jl]
    by_cases z : j + 1 = r.length
    · rw [if_pos (by omega), if_pos z, List.getD_eq_getElem?_getD, List.getD_eq_getElem?_getD, G, if_pos (by omega)]
    · rw [if_neg (by omega), if_neg z, List.getD_eq_getElem?_getD, List.getD_eq_getElem?_getD, G, if_neg (by omega), if_neg (by omega)]
      rfl
  · intro x hx nx
    have hxm : x ∈ rs.flatten := R.all.mem_iff.mpr (List.mem_range.mpr hx)
    obtain ⟨s, hs, hxs⟩ := List.mem_flatten.mp hxm
    obtain ⟨i, hi⟩ := List.mem_iff_getElem?.mp hxs
    have il := (List.getElem?_eq_some_iff.mp hi).1
    have t0 := succ_at nd hs hi
    by_cases hps : pal ∈ s
    · have : s = r := nodup_flat nd hs hr hps hpr
      subst this
      rw [t0, mod_next il]
      rcases Nat.lt_trichotomy i j with h | h | h
      · have t1 := succ_at nd2 mem2 (i := i) (x := x) (by rw [G, if_pos (by omega)]; exact hi)
        rw [t1, L, mod_next (by omega), if_neg (by omega), if_neg (by omega), List.getD_eq_getElem?_getD, List.getD_eq_getElem?_getD, G, if_pos (by omega)]
      · subst h
        rw [hj] at hi
        exact absurd (Option.some.inj hi).symm nx
      · have t1 := succ_at nd2 mem2 (i := i + 1) (x := x) (by
          rw [G, if_neg (by omega), if_neg (by omega)]
          exact hi)
        rw [t1, L, mod_next (by omega)]
        by_cases z : i + 1 = s.length
        · rw [if_pos (by omega), if_pos z, List.getD_eq_getElem?_getD, List.getD_eq_getElem?_getD, G, if_pos (by omega)]
        · rw [if_neg (by omega), if_neg z, List.getD_eq_getElem?_getD, List.getD_eq_getElem?_getD, G, if_neg (by omega), if_neg (by omega)]
          rfl
    · have mem3 : s ∈ rstep rs one pal := by
        rw [e]
        exact List.mem_map.mpr ⟨s, hs, insr_no hps⟩
      rw [succ_at nd2 mem3 hi, t0]
theorem succ_open {one : Nat} {rs : List (List Nat)} (R : RI one rs) : succ (rstep rs one one) one = one ∧ ∀ x, x < one → succ (rstep rs one one) x = succ rs x := by
  have R2 := R.step (pal := one) (Nat.le_refl _)
  have nd2 := R2.nd
  have nd := R.nd
  have e : rstep rs one one = rs ++ [[one]] := by
    unfold rstep
    rw [if_pos rfl]
    exact (List.map_congr_left fun s _ => insr_same rfl).trans (List.map_id _)
  refine ⟨?_, fun x hx => ?_⟩
  · have := succ_at nd2 (r := [one]) (by rw [e]; simp) (i := 0) (x := one) rfl
    rw [this]
    simp
  · have hxm : x ∈ rs.flatten := R.all.mem_iff.mpr (List.mem_range.mpr hx)
    obtain ⟨s, hs, hxs⟩ := List.mem_flatten.mp hxm
    obtain ⟨i, hi⟩ := List.mem_iff_getElem?.mp hxs
    rw [succ_at nd2 (r := s) (by rw [e]; simp [hs]) hi, succ_at nd hs hi]
theorem sby_seat {c : List Nat} (h : ∀ (i x : Nat), c[i]? = some x → x ≤ i) : ∀ k, k ≤ c.length → sby c k = seat (ringsTo c k) k
  | 0, _ => rfl
  | k + 1, hk => by
    have ih := sby_seat h k (by omega)
    have R := ringsTo_ok h k (by omega)
    have hx : c.getD k 0 ≤ k := by
      have : c[k]? = some (c.getD k 0) := by
        rw [List.getD_eq_getElem?_getD, List.getElem?_eq_getElem (by omega)]
        rfl
      exact h k _ this
    show sits (sby c k) k (c.getD k 0) = (List.range (k + 1)).map (succ (rstep (ringsTo c k) k (c.getD k 0)))
    rw [ih]
    generalize c.getD k 0 = x at *
    generalize ringsTo c k = rs at *
    have sl := seat_len rs k
    refine List.ext_getElem? fun i => ?_
    rw [List.getElem?_map]
    unfold sits
    by_cases hxk : x = k
    · subst hxk
      obtain ⟨s1, s2⟩ := succ_open R
      rw [if_pos rfl]
      rcases Nat.lt_trichotomy i x with q | q | q
      · rw [List.getElem?_append_left (by omega), List.getElem?_range (by omega)]
        unfold seat
        rw [List.getElem?_map, List.getElem?_range q]
        show some _ = some _
        rw [s2 i q]
      · subst q
        rw [List.getElem?_append_right (by omega), sl, Nat.sub_self, List.getElem?_range (by omega)]
        show some i = some _
        rw [s1]
      · rw [List.getElem?_eq_none (by simp [sl]; omega), List.getElem?_eq_none (by simp; omega)]
        rfl
    · have xl : x < k := by omega
      obtain ⟨s1, s2, s3⟩ := succ_step R xl
      rw [if_neg hxk]
      have hgx : (seat rs k).getD x 0 = succ rs x := by
        refine getD_of ?_
        unfold seat
        rw [List.getElem?_map, List.getElem?_range xl]
        rfl
      rw [hgx, List.getElem?_set, List.getElem?_set]
      by_cases q1 : x = i
      · subst q1
        rw [if_pos rfl, if_pos (by simp [sl]; omega), List.getElem?_range (by omega)]
        show some k = some _
        rw [s1]
      · rw [if_neg q1]
        rcases Nat.lt_trichotomy i k with q | q | q
        · rw [if_neg (by omega), List.getElem?_append_left (by omega), List.getElem?_range (by omega)]
          unfold seat
          rw [List.getElem?_map, List.getElem?_range q]
          show some _ = some _
          rw [s3 i q (fun z => q1 z.symm)]
        · subst q
          rw [if_pos rfl, if_pos (by simp [sl]), List.getElem?_range (by omega)]
          show some _ = some _
          rw [s2]
        · rw [if_neg (by omega), List.getElem?_eq_none (by simp [sl]; omega), List.getElem?_eq_none (by simp; omega)]
          rfl
theorem sby_lt {c : List Nat} (h : ∀ (i x : Nat), c[i]? = some x → x ≤ i) {k : Nat} (hk : k ≤ c.length) {y : Nat} (hy : y ∈ sby c k) : y < k := by
  rw [sby_seat h k hk] at hy
  have R := ringsTo_ok h k hk
  have := (seat_perm R.all R.ne).mem_iff.mp hy
  exact List.mem_range.mp this
/-- the last guest's right neighbour, and the others without it -/
theorem sits_last {h : List Nat} {k x : Nat} (hl : h.length = k) (hlt : ∀ y ∈ h, y < k) (hx : x ≤ k) :
    (sits h k x)[x]? = some k ∧ (∀ m, m < x → (sits h k x)[m]? ≠ some k) ∧ ((sits h k x).set x ((sits h k x).getD k 0)).dropLast = h := by
  have at' : ∀ (m y : Nat), h[m]? = some y → y < k := fun m y hy => hlt y (List.mem_of_getElem? hy)
  unfold sits
  by_cases hxk : x = k
  · subst hxk
    rw [if_pos rfl]
    have g : (h ++ [x])[x]? = some x := by
      rw [List.getElem?_append_right (by omega), hl, Nat.sub_self]
      rfl
    refine ⟨g, fun m hm z => ?_, ?_⟩
    · rw [List.getElem?_append_left (by omega)] at z
      have := at' m x z
      omega
    · rw [getD_of g, List.set_append_right _ _ (by omega), hl, Nat.sub_self]
      simp
  · have xl : x < k := by omega
    rw [if_neg hxk]
    have l1 : ((h ++ [k]).set k (h.getD x 0)).length = k + 1 := by simp [hl]
    refine ⟨by rw [List.getElem?_set, if_pos rfl, if_pos (by omega)], fun m hm z => ?_, ?_⟩
    · rw [List.getElem?_set, if_neg (by omega), List.getElem?_set, if_neg (by omega), List.getElem?_append_left (by omega)] at z
      have := at' m k z
      omega
    · have g : (((h ++ [k]).set k (h.getD x 0)).set x k).getD k 0 = h.getD x 0 := by
        refine getD_of ?_
        rw [List.getElem?_set, if_neg (by omega), List.getElem?_set, if_pos rfl, if_pos (by simp [hl])]
      rw [g, List.set_set]
      have e1 : (h ++ [k]).set k (h.getD x 0) = h ++ [h.getD x 0] := by
        rw [List.set_append_right _ _ (by omega), hl, Nat.sub_self]
        rfl
      rw [e1, List.set_append_left _ _ (by omega), List.dropLast_concat]
      refine List.ext_getElem (by simp) fun i h1 h2 => ?_
      rw [List.getElem_set]
      split
      · rename_i q
        subst q
        exact getD_of (List.getElem?_eq_getElem h2)
      · rfl
/-- who opened the tables -/
theorem rings_heads (c : List Nat) : ∀ k, (ringsTo c k).map (·.headD 0) = (List.range k).filter fun i => decide (c.getD i 0 = i)
  | 0 => rfl
  | k + 1 => by
    have ih := rings_heads c k
    rw [List.range_succ, List.filter_append, ← ih]
    show (rstep (ringsTo c k) k (c.getD k 0)).map (·.headD 0) = _
    have eh : ∀ rs : List (List Nat), (rs.map (insr (c.getD k 0) k)).map (·.headD 0) = rs.map (·.headD 0) := fun rs => by
      rw [List.map_map]
      exact List.map_congr_left fun r _ => insr_head
    unfold rstep
    rw [eh]
    by_cases h : c.getD k 0 = k
    · have q : decide (c.getD k 0 = k) = true := decide_eq_true h
      rw [if_pos h.symm, List.map_append, List.filter_cons, q]
      rfl
    · have q : decide (c.getD k 0 = k) = false := decide_eq_false h
      rw [if_neg (fun z => h z.symm), List.filter_cons, q]
      simp

/-! ### every list of guests has its tables -/
theorem sby_ext {c : List Nat} {x : Nat} : sby (c ++ [x]) c.length = sby c c.length ∧ sby (c ++ [x]) (c.length + 1) = sits (sby c c.length) c.length x := by
  have h := sby_take (c ++ [x]) (w := c.length) (by simp) c.length (Nat.le_refl _)
  rw [List.take_append_of_le_length (Nat.le_refl _), List.take_length] at h
  refine ⟨h.symm, ?_⟩
  show sits (sby (c ++ [x]) c.length) c.length ((c ++ [x]).getD c.length 0) = _
  rw [← h, List.getD_eq_getElem?_getD, List.getElem?_append_right (Nat.le_refl _), Nat.sub_self]
  rfl
theorem sits_app {h : List Nat} {k x : Nat} (hl : h.length = k) (ne : x ≠ k) : sits h k x = (h ++ [h.getD x 0]).set x k := by
  unfold sits
  rw [if_neg ne]
  congr 1
  rw [List.set_append_right _ _ (by omega), hl, Nat.sub_self]
  rfl
theorem Cm.ord {c : List Nat} (o : Cm c) : Ord (sby c c.length) := by
  rw [sby_seat o.2.2 _ (Nat.le_refl _)]
  have R := ringsTo_ok o.2.2 c.length (Nat.le_refl _)
  exact seat_ord R.all R.ne o.1 o.2.1
theorem Cm.rings {c : List Nat} (o : Cm c) : Rings (sby c c.length) (ringsTo c c.length) := by
  rw [sby_seat o.2.2 _ (Nat.le_refl _)]
  exact (ringsTo_ok o.2.2 c.length (Nat.le_refl _)).rings
theorem perm_end {A B R : List Nat} {n y : Nat} (h : (A ++ n :: B ++ [y]).Perm (R ++ [n])) : (A ++ y :: B).Perm R := by
  have a : (A ++ y :: B ++ [n]).Perm (A ++ n :: B ++ [y]) := by
    rw [List.append_assoc, List.append_assoc]
    refine List.Perm.append_left A ?_
    show (y :: (B ++ [n])).Perm (n :: (B ++ [y]))
    refine (List.Perm.cons y (List.perm_append_singleton n B)).trans ?_
    refine (List.Perm.swap n y B).trans ?_
    exact List.Perm.cons n (List.perm_append_singleton y B).symm
  exact (List.perm_append_right_iff [n]).mp (a.trans h)
/-- every seating comes about by a coming list -/
theorem ord_sby : ∀ (n : Nat) (h : List Nat), h.Perm (List.range n) → ∃ c : List Nat, c.length = n ∧ (∀ (i x : Nat), c[i]? = some x → x ≤ i) ∧ sby c n = h
  | 0, h, p => ⟨[], rfl, fun i x z => by simp at z, by rw [List.range_zero] at p; rw [List.Perm.eq_nil p]; rfl⟩
  | n + 1, h, p => by
    have hl : h.length = n + 1 := by
      have := p.length_eq
      rwa [List.length_range] at this
    have nm : n ∈ h := p.mem_iff.mpr (List.mem_range.mpr (Nat.lt_succ_self n))
    have ne : h ≠ [] := fun z => by
      rw [z] at hl
      simp at hl
    obtain ⟨h0, y, rfl⟩ : ∃ h0 y, h = h0 ++ [y] := ⟨_, _, (List.dropLast_concat_getLast ne).symm⟩
    have l0 : h0.length = n := by
      rw [List.length_append, List.length_singleton] at hl
      omega
    rw [List.range_succ] at p
    have ext : ∀ (c : List Nat) (x : Nat), c.length = n → (∀ (i x : Nat), c[i]? = some x → x ≤ i) → x ≤ n → ∀ (i z : Nat), (c ++ [x])[i]? = some z → z ≤ i := fun c x cl cm xn i z hz => by
      rw [List.getElem?_append] at hz
      split at hz
      · exact cm i z hz
      · have hj := (List.getElem?_eq_some_iff.mp hz).1
        rw [List.length_singleton] at hj
        have e0 : i - c.length = 0 := by omega
        rw [e0] at hz
        have : x = z := by simpa using hz
        omega
    by_cases hy : y = n
    · subst hy
      obtain ⟨c, cl, cm, cs⟩ := ord_sby y h0 ((List.perm_append_right_iff [y]).mp p)
      refine ⟨c ++ [y], by rw [List.length_append, cl]; rfl, ext c y cl cm (Nat.le_refl _), ?_⟩
      have e := (sby_ext (c := c) (x := y)).2
      rw [cl] at e
      rw [e, cs]
      unfold sits
      rw [if_pos rfl]
    · have n0 : n ∈ h0 := by
        rcases List.mem_append.mp nm with z | z
        · exact z
        · exact absurd (List.mem_singleton.mp z).symm hy
      obtain ⟨A, B, rfl⟩ := List.append_of_mem n0
      have pe := perm_end p
      obtain ⟨c, cl, cm, cs⟩ := ord_sby n _ pe
      have al : A.length < n := by
        rw [List.length_append, List.length_cons] at l0
        omega
      refine ⟨c ++ [A.length], by rw [List.length_append, cl]; rfl, ext c _ cl cm (by omega), ?_⟩
      have e := (sby_ext (c := c) (x := A.length)).2
      rw [cl] at e
      rw [e, cs, sits_app (by rw [List.length_append, List.length_cons]; rw [List.length_append, List.length_cons] at l0; exact l0) (by omega)]
      have g : (A ++ y :: B).getD A.length 0 = y := by
        rw [List.getD_eq_getElem?_getD, List.getElem?_append_right (Nat.le_refl _), Nat.sub_self]
        rfl
      rw [g, List.append_assoc, List.set_append_right _ _ (Nat.le_refl _), Nat.sub_self, List.append_assoc]
      rfl
theorem ord_cm {h : List Nat} (o : Ord h) : ∃ c, Cm c ∧ c.length = h.length ∧ sby c c.length = h := by
  obtain ⟨c, cl, cm, cs⟩ := ord_sby h.length h o.1
  exact ⟨c, ⟨by rw [cl]; exact o.2.1, by rw [cl]; exact o.2.2, cm⟩, cl, by rw [cl]; exact cs⟩
/-- who has come last leaves -/
theorem ord_rings {h : List Nat} (o : Ord h) : ∃ rs, Rings h rs ∧ rs.length ≤ h.length := by
  obtain ⟨c, oc, cl, rfl⟩ := ord_cm o
  refine ⟨ringsTo c c.length, oc.rings, ?_⟩
  have e := congrArg List.length (rings_heads c c.length)
  rw [List.length_map] at e
  have l := List.length_filter_le (fun i => decide (c.getD i 0 = i)) (List.range c.length)
  rw [List.length_range] at l
  rw [sby_len]
  omega


local macro_rules | `(tactic| walk_at "call") => `(tactic| (with_reducible exact sv_whole))

theorem given_at {n : Nat} (v : Nat → V) : given n (fun _ => true) v = (List.range n).map v := by
  unfold given
  rw [List.filter_eq_self.mpr fun _ _ => rfl]
theorem et_tru {K : PySem.W.Frag} {σ : L2.St} {H : Hp} {ta : TE} {a : Addr} {xs : List V} (h : Ev ta σ H (.ref a)) (hx : SqL K H a xs) : EvT (fun σ H Q => ta σ H fun x H' => ∃ k, TruV K x H' k ∧ Q k H') σ H (!xs.isEmpty) := fun H1 e Q q => h H1 e _ fun H2 e2 => ⟨_, .inl ⟨xs, ex_l (e.trans e2) hx, rfl⟩, q H2 e2⟩
section
variable {K : PySem.W.Frag} {σ : L2.St} {H : Hp} {ta te : TE} {tr : TA} {D : Ends}
theorem nv_flat (r : List Nat) : (nv r).all flatV = true := by
  rw [nv_eq, List.all_map, List.all_eq_true]
  intro x _
  rfl
theorem nv_in (r : List Nat) (x : Nat) : inV (.int x) (nv r) = decide (x ∈ r) := by
  unfold inV
  rw [nv_eq, List.any_map, Bool.eq_iff_iff, List.any_eq_true, decide_eq_true_iff]
  constructor
  · rintro ⟨y, hy, e⟩
    have : ((y : Int) == (x : Int)) = true := e
    have := eq_of_beq this
    have : y = x := by omega
    exact this ▸ hy
  · intro h
    exact ⟨x, h, beq_self_eq_true _⟩
theorem s_dropBM {r : V → List V → Hp → VK → Prop} {l : Addr} {xs : List V} (hl : H l = some (.lst xs)) (ha : Ev ta σ H (.ref l)) (k : ∀ H1, Ex H H1 → tr σ H1 fun vs H2 => r (.ref l) vs H2 fun _ H3 => D.nx σ H3) : tDrop (tBM K "list" r ta tr) D σ H :=
  ha H (Ex.refl H) _ fun H1 e1 => ⟨Or.inl ⟨rfl, xs, sq_of (e1 l _ hl)⟩, k H1 e1⟩
theorem ev_index {l : Addr} {r : List Nat} {x : Nat} (hl : H l = some (.lst (nv r))) (ha : Ev ta σ H (.ref l)) (he : Ev te σ H (.int (x : Int))) (hx : x ∈ r) : Ev (tBM K "list" (rIndex K) ta (tCons te tNil)) σ H (.int (r.idxOf x : Nat)) := fun H1 e Q q =>
  ha H1 e _ fun H2 e2 => ⟨Or.inl ⟨rfl, _, sq_of (e2 l _ (e l _ hl))⟩, he H2 (e.trans e2) _ fun H3 e3 => by
    have hlt := List.idxOf_lt_length_of_mem hx
    refine ⟨l, nv r, .int x, r.idxOf x, .int x, rfl, rfl, sq_of (e3 l _ (e2 l _ (e l _ hl))), rfl, nv_flat r, nv_get (by rw [List.getElem?_eq_getElem hlt, List.getElem_idxOf hlt]), beq_self_eq_true _, fun m z hm hz => ?_, q H3 (e2.trans e3)⟩
    have hml : m < r.length := by omega
    have := nv_get (List.getElem?_eq_getElem hml)
    rw [hz] at this
    have ez := Option.some.inj this
    subst ez
    show ((r[m] : Int) == (x : Int)) = false
    rw [beq_eq_false_iff_ne]
    intro ee
    have ee' : r[m] = x := by omega
    have h1 : r.idxOf x ≤ m := by
      have hh : r.findIdx (· == x) ≤ m := by
        refine Nat.le_of_not_lt fun hlt2 => ?_
        have := List.not_of_lt_findIdx hlt2
        rw [ee'] at this
        simp at this
      exact hh
    omega⟩
end

/-! ### checks -/
def inD (l m : Int) : PyData → Bool
  | .int i => decide (l ≤ i) && decide (i ≤ m)
  | _ => false
def sp_is_within (K : PySem.W.Frag) : Sp := fun vs H Q _ => ∃ (v : V) (d : PyData) (l m : Int), vs = [v, .int l, .int m] ∧ Iv H v d ∧ RetV (.bl (inD l m d)) H Q
theorem sv_within {K : PySem.W.Frag} {H : Hp} {v : V} {d : PyData} {l m : Int} (h : Iv H v d) : SpV (sp_is_within K) ([v, .int l, .int m] ++ []) H (.bl (inD l m d)) := fun H1 e Q q E => ⟨v, d, l, m, rfl, h.ex e, q⟩
theorem sv_between {K : PySem.W.Frag} {H : Hp} {x l m : Int} : SpV (sp_is_within K) ([.int x, .int l, .int m] ++ []) H (.bl (decide (l ≤ x) && decide (x ≤ m))) := fun H1 _ Q q E => ⟨.int x, .int x, l, m, rfl, iv_int, q⟩
theorem inD_int {l m : Int} {d : PyData} (h : inD l m d = true) : ∃ i : Int, d = .int i ∧ l ≤ i ∧ i ≤ m := by
  cases d with
  | int i =>
    refine ⟨i, rfl, ?_⟩
    have h : (decide (l ≤ i) && decide (i ≤ m)) = true := h
    simpa using h
  | _ => exact Bool.noConfusion h
section
variable {P : Program} {w : World} {K : PySem.W.Frag} {mg : Str → Option Value} {base : Heap}
theorem ok_is_within (T : Tx K mg) : FnOk P w K mg base CX0 2 T.f_is_within T.d_is_within ["thing", "least", "most"] (sp_is_within K) := by
  refine T.F_is_within.ok sc_is_within (fun vs H Q E h => ?_) (fun cdv A outer s H vs Q E hr h => ?_)
  · obtain ⟨v, d, l, m, rfl, _⟩ := h
    rfl
  · obtain ⟨v, d, l, m, rfl, hv, k⟩ := h
    refine ⟨_, (pss_one (ps_ret (pe_and (pe_call (ok_is_whole T) (hr.mono (by decide)) (by rfl) T.g_is_whole T.F_is_whole.kp T.b_is_whole .nil pass0 (pa_cons (pv 0) pa_nil)) (pe_one (pe_chain op_le op_le (pv 1) (pv 0) (pv 2)))))), ?_⟩
    cases hd : isI d with
    | false =>
      have e : inD l m d = false := by cases d <;> first | rfl | exact Bool.noConfusion hd
      rw [e] at k
      have wh := ev_call (E := E0) (ea_cons (ev_var (i := 0) (v := v) (σ := start n_is_within [v, .int l, .int m]) (H := H) rfl) ea_nil) (sv_wholeD (K := K) hv)
      rw [hd] at wh
      exact s_ret (ev_is (ev_andV (b := false) wh fun z => Bool.noConfusion z) rfl) fun H1 e1 => k _ e1
    | true =>
      cases d with
      | int i =>
        obtain rfl := hv.2.1 i rfl
        refine s_ret (v := .bl (inD l m (.int i))) (ev_is (by walk_at "ev") (by rfl)) fun H1 e1 => k _ e1
      | _ => exact Bool.noConfusion hd
local macro_rules | `(tactic| walk_at "call") => `(tactic| (with_reducible exact sv_between))
theorem ok_check_guests (T : Tx K mg) : FnOk P w K mg base (L2N.CX P w) 3 T.f_check_guests T.d_check_guests ["guests"] (sp_chk1 T.cl_InvalidGuests 1 20) := by
  refine Kit.okN T.F_check_guests sc_check_guests (fun vs H Q E h => ?_) (fun cdv A outer s H vs Q E hr h => ?_)
  · obtain ⟨x, rfl, _⟩ := h
    rfl
  · obtain ⟨x, rfl, k⟩ := h
    refine ⟨_, (pss_one (ps_if (pt_not (pt_val (pe_call (ok_is_within T) (hr.mono (by decide)) (by rfl) T.g_is_within T.F_is_within.kp T.b_is_within .nil pass0 (pa_cons (pv 0) (pa_cons pe_int (pa_cons (pe_gc (by rfl) T.c_MOST_GUESTS) pa_nil)))))) (pss_one (Kit.ps_raiseN rfl Kit.takesN T.e_InvalidGuests T.gc_InvalidGuests (by rfl) pe_str)) pss_nil)), ?_⟩
    refine s_when (by walk_at "et") (fun hb H1 e1 => ?_) fun hb H1 e1 => ?_
    · exact k.yes _ (if_neg fun z => by simp at hb; omega) _ e1
    · exact k.no (if_pos (by simpa using hb)) _ _ e1
theorem ok_check_weight (T : Tx K mg) : FnOk P w K mg base (L2N.CX P w) 3 T.f_check_weight T.d_check_weight ["weight"] (sp_chk1 T.cl_InvalidWeight 1 1000000000000) := by
  refine Kit.okN T.F_check_weight sc_check_weight (fun vs H Q E h => ?_) (fun cdv A outer s H vs Q E hr h => ?_)
  · obtain ⟨x, rfl, _⟩ := h
    rfl
  · obtain ⟨x, rfl, k⟩ := h
    refine ⟨_, (pss_one (ps_if (pt_not (pt_val (pe_call (ok_is_within T) (hr.mono (by decide)) (by rfl) T.g_is_within T.F_is_within.kp T.b_is_within .nil pass0 (pa_cons (pv 0) (pa_cons pe_int (pa_cons (pe_gc (by rfl) T.c_MOST_WEIGHT) pa_nil)))))) (pss_one (Kit.ps_raiseN rfl Kit.takesN T.e_InvalidWeight T.gc_InvalidWeight (by rfl) pe_str)) pss_nil)), ?_⟩
    refine s_when (by walk_at "et") (fun hb H1 e1 => ?_) fun hb H1 e1 => ?_
    · exact k.yes _ (if_neg fun z => by simp at hb; omega) _ e1
    · exact k.no (if_pos (by simpa using hb)) _ _ e1
theorem ok_check_number (T : Tx K mg) : FnOk P w K mg base (L2N.CX P w) 3 T.f_check_number T.d_check_number ["number", "least", "most"] (sp_chkN T.cl_InvalidNumber) := by
  refine Kit.okN T.F_check_number sc_check_number (fun vs H Q E h => ?_) (fun cdv A outer s H vs Q E hr h => ?_)
  · obtain ⟨x, lo, hi, rfl, _⟩ := h
    rfl
  · obtain ⟨x, lo, hi, rfl, h0, h1, k⟩ := h
    refine ⟨_, (pss_one (ps_if (pt_not (pt_val (pe_call (ok_is_within T) (hr.mono (by decide)) (by rfl) T.g_is_within T.F_is_within.kp T.b_is_within .nil pass0 (pa_cons (pv 0) (pa_cons (pv 1) (pa_cons (pv 2) pa_nil)))))) (pss_one (Kit.ps_raiseN rfl Kit.takesN T.e_InvalidNumber T.gc_InvalidNumber (by rfl) (pe_joined (PJ.cons pe_str (PJ.cons (pe_fmt (pv 1)) (PJ.cons pe_str (PJ.cons (pe_fmt (pv 2)) PJ.nil))))))) pss_nil)), ?_⟩
    refine s_when (by walk_at "et") (fun hb H1 e1 => ?_) fun hb H1 e1 => ?_
    · exact tjs_go (n := 2000) (σ := start n_check_number [.int x, .int lo, .int hi]) (H := H1) (fun t ht => by
        simp only [List.mem_cons, List.not_mem_nil, or_false] at ht
        rcases ht with rfl | rfl | rfl | rfl
        · exact es_c (by decide +kernel)
        · exact fun H2 e2 Q q => es_fmt (ev_var rfl) h0 H2 e2 Q fun y H3 e3 hy => q y H3 e3 (by omega)
        · exact es_c (by decide +kernel)
        · exact fun H2 e2 Q q => es_fmt (ev_var rfl) h1 H2 e2 Q fun y H3 e3 hy => q y H3 e3 (by omega)) (Ex.refl _) (by decide) fun y H2 e2 => k.yes _ (if_neg fun z => by simp at hb; omega) _ (e1.trans e2)
    · exact k.no (if_pos (by simpa using hb)) _ _ e1
theorem ok_check_seating (T : Tx K mg) : FnOk P w K mg base (L2N.CX P w) 4 T.f_check_seating T.d_check_seating ["seating"] (sp_chkS K T.cl_InvalidSeating) := by
  refine Kit.okN T.F_check_seating sc_check_seating (fun vs H Q E h => ?_) (fun cdv A outer s H vs Q E hr h => ?_)
  · obtain ⟨v, o, rfl, _⟩ := h
    rfl
  · obtain ⟨v, o, rfl, hv, k⟩ := h
    refine ⟨_, (pss_one (ps_if (pt_not (pt_val (pe_call (ok_is_seating T) (hr.mono (by decide)) (by rfl) T.g_is_seating T.F_is_seating.kp T.b_is_seating .nil pass0 (pa_cons (pv 0) pa_nil)))) (pss_one (Kit.ps_raiseN rfl Kit.takesN T.e_InvalidSeating T.gc_InvalidSeating (by rfl) pe_str)) pss_nil)), ?_⟩
    refine s_when (b := !judge o) (et_is (et_not (et_B (ev_call (ea_cons (ev_var rfl) ea_nil) (sv_any hv)))) rfl) (fun hb H1 e1 => ?_) fun hb H1 e1 => ?_
    · exact k.yes _ (if_neg (by simpa using hb)) _ e1
    · exact k.no (if_pos (by simpa using hb)) _ _ e1
end
theorem th_row {K : PySem.W.Frag} {H : Hp} {a : Addr} {h : List Nat} (ha : H a = some (.lst (nv h))) : Bd K H (.ref a) (some ((iz h).map PyData.int)) := .lst rfl ha (iv_ints _)


local macro_rules | `(tactic| walk_at "call") => `(tactic| (with_reducible exact sv_whole))

/-! ### walk_left, tables_of -/
def sp_walk_left : Sp := fun vs H Q _ => ∃ (a : Addr) (h r : List Nat) (g : Nat), vs = [.ref a, .int g] ∧ H a = some (.lst (nv h)) ∧ Rg h r ∧ r[0]? = some g ∧ r.length ≤ 20 ∧ RetU (nv r) H Q
theorem su_walk {H : Hp} {a : Addr} {h r : List Nat} {g : Nat} (ha : H a = some (.lst (nv h))) (R : Rg h r) (h0 : r[0]? = some g) (hl : r.length ≤ 20) : SpU sp_walk_left ([.ref a, .int (g : Int)] ++ []) H (nv r) := fun H1 e Q q E => ⟨a, h, r, g, rfl, e a _ ha, R, h0, hl, q⟩
theorem take_next {α : Type} {l : List α} {i : Nat} {x : α} (h : l[i]? = some x) : l.take (i + 1) = l.take i ++ [x] := by
  rw [List.take_add_one, h]
  rfl
section
variable {P : Program} {w : World} {K : PySem.W.Frag} {mg : Str → Option Value} {base : Heap}
theorem ok_walk_left (T : Tx K mg) : FnOk P w K mg base CX0 1 T.f_walk_left T.d_walk_left ["lefts", "guest"] sp_walk_left := by
  refine T.F_walk_left.ok sc_walk_left (fun vs H Q E h => ?_) (fun cdv A outer s H vs Q E hr h => ?_)
  · obtain ⟨a, h, r, g, rfl, _⟩ := h
    rfl
  · obtain ⟨a, h, r, g, rfl, ha, R, h0, hl, k⟩ := h
    refine ⟨_, (pss_cons (ps_set (i := 2) sc_walk_left.nd rfl (Or.inl rfl) (pe_lst (pa_cons (pv 1) pa_nil)))
      (pss_cons (ps_while PassesOwn.never (pt_cmpR op_ne (pe_ix ix_list (pv 0) (pe_ix ix_list (pv 2) (pe_un un_neg pe_int) (fun _ _ => rfl)) (fun _ _ => rfl)) (pv 1) (nomark _)) (pss_one (ps_expr (pe_bm PySem.F.plainAttrs_list PySem.F.slot_list_append PySem.F.type_list_append mt_append (pv 2) (pa_cons (pe_ix ix_list (pv 0) (pe_ix ix_list (pv 2) (pe_un un_neg pe_int) (fun _ _ => rfl)) (fun _ _ => rfl)) pa_nil)))))
      (pss_one (ps_ret (pe_callTy call_tupR (by rfl) T.m_tuple (by decide +kernel) (pa_cons (pv 2) pa_nil)))))), ?_⟩
    refine q_asgL (by walk_at "el") fun p H1 hp e1 h1 => ?_
    refine q_while (fun m σ' H' => ∃ i, σ' = [some (.ref a), some (.int g), some (.ref p)] ∧ i < r.length ∧ Ex H H' ∧ H' p = some (.lst (nv (r.take (i + 1)))) ∧ m = r.length - i) r.length ⟨0, rfl, R.ne, e1, ?_, by omega⟩ ?_
    · rw [h1, take_next h0]
      rfl
    · rintro m σ' H' ⟨i, rfl, hi, e, hl', rfl⟩
      obtain ⟨x, y, hx, hy, hxy⟩ := R.st i hi
      have hlast : atI (nv (r.take (i + 1))) (-1) = some (.int (x : Int)) := by
        rw [take_next hx, nv_app]
        exact atI_last _ _
      have hax := e a _ ha
      have evx : ∀ H2, Ex H' H2 → Ev (tOp (rIxL K) (tVar 0) (tOp (rIxL K) (tVar 2) (tUn (rU fun i => .int (-i)) (tC (.int 1))))) [some (.ref a), some (.int g), some (.ref p)] H2 (.int (y : Int)) := fun H2 e2 =>
        ev_op (ev_var rfl) (ev_op (ev_var rfl) (ev_un ev_c ru_neg) (rv_ixL (sq_of (e2 p _ hl')) hlast)) (rv_ixL (sq_of (e2 a _ hax)) (atI_nat (nv_get hxy)))
      refine ⟨decide (i + 1 < r.length), et_is (et_test (ev_op (evx H' (Ex.refl _)) (ev_var rfl) (rv_ne rfl))) ?_, fun hb H2 e2 => ?_, fun hb H2 e2 => ?_⟩
      · rw [dec_int]
        by_cases hn : i + 1 < r.length
        · rw [Nat.mod_eq_of_lt hn] at hy
          have ne : y ≠ g := fun z => by
            subst z
            have := nd_ix R.nd hy h0
            omega
          have : ((y : Int) == (g : Int)) = false := by
            rw [beq_eq_false_iff_ne]
            omega
          rw [this]
          simp [hn]
        · have e0 : i + 1 = r.length := by omega
          rw [e0, Nat.mod_self, h0] at hy
          have : y = g := (Option.some.inj hy).symm
          subst this
          simp [hn]
      · have hn := of_decide_eq_true hb
        rw [Nat.mod_eq_of_lt hn] at hy
        have hl2 := e2 p _ hl'
        refine ⟨fun σ2 H3 => σ2 = [some (.ref a), some (.int g), some (.ref p)] ∧ Ex H H3 ∧ H3 p = some (.lst (nv (r.take (i + 1 + 1)))), fun σ2 H3 ⟨h1, h2, h3⟩ => ⟨r.length - (i + 1), by omega, i + 1, h1, hn, h2, h3, rfl⟩, ?_⟩
        refine s_app hl2 (ev_var rfl) (evx H2 e2) (by rw [nv_len, List.length_take]; omega) fun H3 e3 => ⟨rfl, Ex.mut (e.trans (e2.trans e3)) hp, ?_⟩
        rw [upd_same, take_next hy, nv_app]
        rfl
      · have hn := of_decide_eq_false hb
        have ht : r.take (i + 1) = r := List.take_of_length_le (by omega)
        rw [ht] at hl'
        exact s_retU (eu_tupOf (ev_var rfl) (sq_of (e2 p _ hl'))) fun q H3 hq e3 h3 => k q H3 (fresh_back (e.trans e2) hq) (e.trans (e2.trans e3)) h3
theorem Rings.short {h : List Nat} {rs : List (List Nat)} (R : Rings h rs) {r : List Nat} (hr : r ∈ rs) : r.length ≤ h.length := by
  have := List.Sublist.length_le (List.sublist_flatten_of_mem hr)
  rw [R.all.length_eq, List.length_range] at this
  exact this
theorem lead_val {r : List Nat} (ne : 0 < r.length) : ∃ (x : Nat) (l : List Int), iz r = (x : Int) :: l ∧ r[0]? = some x ∧ decide (V.int (x : Int) = V.int (l.foldl min (x : Int))) = leads r := by
  cases r with
  | nil => simp at ne
  | cons x l =>
    refine ⟨x, iz l, rfl, rfl, ?_⟩
    obtain ⟨h1, h2⟩ := foldl_min_spec (iz l) (x : Int)
    rw [dec_int]
    unfold leads
    rw [Bool.eq_iff_iff]
    simp only [beq_iff_eq, decide_eq_true_eq]
    constructor
    · intro e y hy
      show x ≤ y
      have := h2 (y : Int) (by
        rcases List.mem_cons.mp hy with q | q
        · rw [q]; simp
        · exact List.mem_cons_of_mem _ (List.mem_map.mpr ⟨y, q, rfl⟩))
      omega
    · intro hle
      have a := h2 (x : Int) (by simp)
      have b : ∀ z ∈ (x : Int) :: iz l, (x : Int) ≤ z := fun z hz => by
        rcases List.mem_cons.mp hz with q | q
        · omega
        · obtain ⟨y, hy, rfl⟩ := List.mem_map.mp q
          have : x ≤ y := hle y (by simp [hy])
          omega
      have := b _ h1
      omega
/-- tables_among: of all guests of a seating -/
def sp_tables_among : Sp := fun vs H Q _ => ∃ (a b : Addr) (h : List Nat) (rs : List (List Nat)), vs = [.ref a, .ref b] ∧ H a = some (.lst (nv h)) ∧ H b = some (.lst (nv (List.range h.length))) ∧ Ord h ∧ Rings h rs ∧ (∀ p ws H2, H p = none → Ex H H2 → H2 p = some (.lst ws) → TL H2 ws (rs.map nv) → Q (.ref p) H2)
theorem ok_tables_among (T : Tx K mg) : FnOk P w K mg base CX0 2 T.f_tables_among T.d_tables_among ["lefts", "guests"] sp_tables_among := by
  refine T.F_tables_among.ok sc_tables_among (fun vs H Q E h => ?_) (fun cdv A outer s H vs Q E hr h => ?_)
  · obtain ⟨a, b, h, rs, rfl, _⟩ := h
    rfl
  · obtain ⟨a, b, h, rs, rfl, ha, hb0, o, R, k⟩ := h
    refine ⟨_, (pss_cons (ps_setLc (i := 3) (own := [("guest", 2)]) (g := (gName 2)) (tt := tYes) rfl sc_tables_among.nd rfl rfl (sw_true rfl rfl rfl (by decide +kernel)) (pi_list (pv 1)) (blkOk_by (own := [("guest", 2)]) (N := n_tables_among) (sc := defScope s_tables_among) (by decide +kernel)) (fun _ _ _ _ _ => (pg_name (i := 2) sc_tables_among.nd rfl (Or.inl rfl))) (fun _ _ _ _ _ => pts_nil) (fun _ _ _ _ _ => (pe_call (ok_walk_left T) (hr.mono (by decide)) (by rfl) T.g_walk_left T.F_walk_left.kp T.b_walk_left .nil pass0 (pa_cons (pv 0) (pa_cons (pv 2) pa_nil)))))
      (pss_one (ps_ret (pe_lc (own := [("walk", 4)]) (g := (gName 4)) rfl sc_tables_among.nd (pi_list (pv 3)) (blkOk_by (own := [("walk", 4)]) (N := n_tables_among) (sc := defScope s_tables_among) (by decide +kernel)) (fun _ _ _ _ _ => (pg_name (i := 4) sc_tables_among.nd rfl (Or.inl rfl))) (fun _ _ _ _ _ => (pts_one (pt_cmpR op_eq (pe_ix (r := rIxT K) ix_tup (pv 4) pe_int (fun _ _ => rfl)) (pe_callB (id := "min") (r := rMinT K) (cr_minT rfl (hu_of hr)) (by rfl) T.m_min (by decide +kernel) (pa_cons (pv 4) pa_nil)) (nomark _)))) (fun _ _ _ _ _ => (pv 4)))))), ?_⟩
    obtain ⟨f, hf⟩ := R.walks
    have ho := o.2
    have e1 := Ex.refl H
    have h1 := ha
    refine q_asgLT (rs := (List.range h.length).map fun g => nv (f g)) ?_ fun p ws H2 hp e2 h2 ht => ?_
    · have g := elt_map (K := K) (te := tCall sp_walk_left [] E0 (tCons (tVar 0) (tCons (tVar 2) tNil))) (tl := tVar 1) (σ := [some (.ref a), some (.ref b), none, none, none]) (H := H) (j := 2) (vs := [2]) (xs := nv (List.range h.length)) (fun g => nv (f g)) (ev_var rfl) (sq_of hb0) (by rw [nv_len, List.length_range]; omega) (fun _ => rfl) fun i x H2 e2 hi0 => ?_
      · rw [nv_len, List.length_range] at g
        exact g
      · have hi : i < h.length := by
          have := (List.getElem?_eq_some_iff.mp hi0).1
          rw [nv_len, List.length_range] at this
          exact this
        have hx : x = .int (i : Int) := by
          have := nv_get (xs := List.range h.length) (i := i) (x := i) (by rw [List.getElem?_range hi])
          rw [this] at hi0
          exact (Option.some.inj hi0).symm
        subst hx
        obtain ⟨r, hr, kk, hk, e⟩ := hf i (by omega)
        have hkl := (List.getElem?_eq_some_iff.mp hk).1
        have hrs := R.short hr
        refine eu_call (by walk_at "ea") ?_
        have := su_walk (a := a) (g := i) (e2 a _ h1) ((R.rg r hr).rot hkl) (by rw [rot_get hkl (R.rg r hr).ne, Nat.zero_add, Nat.mod_eq_of_lt hkl]; exact hk) (by rw [rot_len (by omega)]; omega)
        rw [← e] at this
        exact this
    · have hlen := ht.len
      simp at hlen
      refine s_retLT (rs := rs.map nv) ?_ fun q vs H3 hq e3 h3 ht3 => k q vs H3 (fresh_back (e1.trans e2) hq) (e1.trans (e2.trans e3)) h3 ht3
      have g := elt_filter (K := K) (σ := [some (.ref a), some (.ref b), none, some (.ref p), none]) (H := H2) (tl := tVar 3) (j := 4) (vs := [4]) (t := tTest (tOp rEq (tOp (rIxT K) (tVar 4) (tC (.int 0))) (tCB (rMinT K) (tCons (tVar 4) tNil)))) (xs := ws) (rs := (List.range h.length).map fun g => nv (f g))
        (fun r => leads (r.map fun v => match v with | .int z => z.toNat | _ => 0)) (ev_var rfl) (sq_of h2) ht (by omega) (fun _ => rfl) (fun _ => rfl) fun b r H3 e3 hr hb => ?_
      · have e : ((List.range h.length).map fun g => nv (f g)).filter (fun r => leads (r.map fun v => match v with | .int z => z.toNat | _ => 0)) = rs.map nv := by
          rw [show ((List.range h.length).map fun g => nv (f g)) = ((List.range h.length).map f).map nv by rw [List.map_map]; rfl, List.filter_map]
          congr 1
          have : ((fun r : List V => leads (r.map fun v => match v with | .int z => z.toNat | _ => 0)) ∘ nv) = leads := by
            funext r
            show leads ((nv r).map _) = leads r
            rw [nv_eq, List.map_map]
            congr 1
            refine (List.map_congr_left fun x _ => ?_).trans (List.map_id _)
            simp
          rw [this]
          exact R.lead hf
        rw [e] at g
        exact g
      · obtain ⟨g, hg, rfl⟩ := List.mem_map.mp hr
        obtain ⟨r, hr, kk, hk, e⟩ := hf g (List.mem_range.mp hg)
        have hkl := (List.getElem?_eq_some_iff.mp hk).1
        have ne : 0 < (f g).length := by rw [e, rot_len (by omega)]; exact (R.rg r hr).ne
        obtain ⟨x, l, i1, i2, i3⟩ := lead_val ne
        have e5 : leads ((nv (f g)).map fun v => match v with | .int z => z.toNat | _ => 0) = leads (f g) := by
          rw [nv_eq, List.map_map]
          congr 1
          refine (List.map_congr_left fun x _ => ?_).trans (List.map_id _)
          simp
        rw [e5, ← i3]
        have hb2 : SqT K H3 b (((x : Int) :: l).map V.int) := st_of (by rw [hb]; unfold nv; rw [i1])
        exact et_test (ev_op (ev_op (ev_var rfl) ev_c (rv_ixT (st_of hb) (atI_nat (j := 0) (nv_get i2)))) (ev_minT (ev_var rfl) hb2) (rv_eq rfl))
theorem elt_among {H : Hp} {a : Addr} {h : List Nat} {rs : List (List Nat)} {σ : L2.St} {ta tb : TE} {E : XK} (h1 : Ev ta σ H (.ref a)) (h2 : EvL tb σ H (nv (List.range h.length))) (ha : H a = some (.lst (nv h))) (o : Ord h) (R : Rings h rs) : EvLT (tCall sp_tables_among [] E (tCons ta (tCons tb tNil))) σ H (rs.map nv) := fun H1 e Q q => h1 H1 e _ fun H2 e2 => h2 H2 (e.trans e2) _ fun b H3 nb e3 hb => ⟨a, b, h, rs, rfl, (e.trans (e2.trans e3)) a _ ha, hb, o, R, fun p ws H4 hp e4 h4 t => q p ws H4 (fresh_back (e2.trans e3) hp) ((e2.trans e3).trans e4) h4 t⟩
def sp_tables_of (T : Tx K mg) : Sp := fun vs H Q E => ∃ (v : V) (o : Option (List PyData)), vs = [v] ∧ Bd K H v o ∧ (judge o = false → ∀ H1, Ex H H1 → E (.ref T.cl_InvalidSeating) none H1) ∧
  ∀ (a : Addr) (h : List Nat) (rs : List (List Nat)) (p : Addr) (ws : List V) (H2 : Hp), judge o = true → v = .ref a → H a = some (.lst (nv h)) → Ord h → Rings h rs → rs.length ≤ h.length → H p = none → Ex H H2 → H2 p = some (.lst ws) → TL H2 ws (rs.map nv) → Q (.ref p) H2
theorem ok_tables_of (T : Tx K mg) : FnOk P w K mg base (L2N.CX P w) 5 T.f_tables_of T.d_tables_of ["seating"] (sp_tables_of T) := by
  refine Kit.okN T.F_tables_of sc_tables_of (fun vs H Q E h => ?_) (fun cdv A outer s H vs Q E hr h => ?_)
  · obtain ⟨v, o, rfl, _⟩ := h
    rfl
  · obtain ⟨v, o, rfl, hv, kE, k⟩ := h
    refine ⟨_, (pss_cons (ps_expr (pe_call (ok_check_seating T) (hr.mono (by decide)) (by rfl) T.g_check_seating T.F_check_seating.kp T.b_check_seating .nil Kit.passN (pa_cons (pv 0) pa_nil)))
      (PSs.nox (pss_one (ps_ret (pe_call (ok_tables_among T) (hr.mono (by decide)) (by rfl) T.g_tables_among T.F_tables_among.kp T.b_tables_among .nil pass0 (pa_cons (pv 0) (pa_cons (pe_listRg rfl (by rfl) T.m_list (prg_1 (by rfl) T.m_range (pe_callB call_lenR (by rfl) T.m_len (by decide +kernel) (pa_cons (pv 0) pa_nil)))) pa_nil))))))), ?_⟩
    refine q_chk (ea_cons (ev_var rfl) ea_nil) (so_chkS hv) (fun hn H1 e1 => ?_) fun C hC H1 e1 => ?_
    · have hj : judge o = true := by
        cases hb : judge o with
        | true => rfl
        | false =>
          rw [hb] at hn
          cases hn
      obtain ⟨a, h, rfl, ha, oh⟩ := judge_yes hv hj
      obtain ⟨rs, R, rl⟩ := ord_rings oh
      have ho := oh.2
      have h1 := e1 a _ ha
      refine s_retLT (rs := rs.map nv) (elt_among (ev_var rfl) ?_ h1 oh R) fun q vs H3 hq e3 h3 ht3 => k a h rs q vs H3 hj rfl ha oh R rl (fresh_back e1 hq) (e1.trans e3) h3 ht3
      have g := el_rg1 (σ := start n_tables_of [.ref a]) (ev_len (K := K) (ta := tVar 0) (ev_var (i := 0) (v := .ref a) rfl) (sq_of h1)) (RgOk.of_le (by decide) (by rw [nv_len]; omega) (by decide) (by rw [nv_len]; omega))
      rw [nv_len, range_iz] at g
      exact g
    · cases hb : judge o with
      | true =>
        rw [hb] at hC
        cases hC
      | false =>
        rw [hb] at hC
        cases hC
        exact kE hb _ e1
end


local macro_rules | `(tactic| walk_at "call") => `(tactic| (with_reducible exact sv_whole))

/-! ### tables of a seating, where it is one -/
theorem nv_back : ∀ {a b : List Nat}, nv a = nv b → a = b
  | [], [], _ => rfl
  | [], _ :: _, h => by cases h
  | _ :: _, [], h => by cases h
  | x :: a, y :: b, h => by
    have h : V.int (x : Int) :: nv a = V.int (y : Int) :: nv b := h
    obtain ⟨h1, h2⟩ := List.cons.inj h
    have := V.int.inj h1
    rw [nv_back h2, show x = y by omega]
theorem paired_get {α β : Type} {F : α → β → Prop} : ∀ {l : List α} {m : List β} {i : Nat} {x : α}, Paired F l m → l[i]? = some x → ∃ y, m[i]? = some y ∧ F x y
  | _, _, 0, x, .cons h t, hx => ⟨_, rfl, (Option.some.inj (by simpa using hx)) ▸ h⟩
  | _, _, i + 1, x, .cons h t, hx => by
    obtain ⟨y, h1, h2⟩ := paired_get (i := i) t (by simpa using hx)
    exact ⟨y, by simpa using h1, h2⟩
  | _, _, 0, x, .nil, hx => by simp at hx
  | _, _, i + 1, x, .nil, hx => by simp at hx
theorem nv_set {c : List Nat} {x y : Nat} : (nv c).set x (.int y) = nv (c.set x y) := by
  rw [nv_eq, nv_eq, List.map_set]
theorem flat_next {rs : List (List Nat)} {i : Nat} {r : List Nat} (h : rs[i]? = some r) : (rs.take (i + 1)).flatten = (rs.take i).flatten ++ r := by
  rw [take_next h, List.flatten_append]
  simp
theorem TL.mut {H : Hp} {p : Addr} {l : List V} {o : HO} (hp : H p = some (.lst l)) : ∀ {ws : List V} {rs : List (List V)}, TL H ws rs → TL (upd H p o) ws rs
  | [], [], _ => .nil
  | _ :: _, _ :: _, .cons ⟨b, e, h⟩ t => .cons ⟨b, e, by
    rw [upd_ne (fun z => by
      rw [z, hp] at h
      cases h)]
    exact h⟩ (TL.mut hp t)
theorem TL.mutD {H : Hp} {p : Addr} {l : List (Key × V)} {o : HO} (hp : H p = some (.dK l)) : ∀ {ws : List V} {rs : List (List V)}, TL H ws rs → TL (upd H p o) ws rs
  | [], [], _ => .nil
  | _ :: _, _ :: _, .cons ⟨b, e, h⟩ t => .cons ⟨b, e, by
    rw [upd_ne (fun z => by
      rw [z, hp] at h
      cases h)]
    exact h⟩ (TL.mutD hp t)
theorem nv_rep (n : Nat) : (List.replicate n [V.int 0]).flatten = nv (List.replicate n 0) := by
  rw [nv_eq, List.map_replicate]
  induction n with
  | zero => rfl
  | succ k ih =>
    rw [List.replicate_succ, List.flatten_cons, ih, List.replicate_succ]
    rfl
section
variable {K : PySem.W.Frag} {mg : Str → Option Value} {T : Tx K mg} {σ : L2.St} {H : Hp} {ta : TE} {g : TG} {tu tz : TS} {D : Ends} {E : XK} {a : Addr} {h : List Nat}
theorem q_forTabs (hv : Ev ta σ H (.ref a)) (ha : H a = some (.lst (nv h))) (o : Ord h) (k : ∀ rs p ws H1, Rings h rs → rs.length ≤ h.length → H p = none → Ex H H1 → H1 p = some (.lst ws) → TL H1 ws (rs.map nv) → tSeq (tFor (iList K (tC (.ref p))) g tu) tz D σ H1) : tSeq (tFor (iList K (tCall (sp_tables_of T) [] E (tCons ta tNil))) g tu) tz D σ H :=
  hv H (Ex.refl _) _ fun H2 e2 => ⟨.ref a, some ((iz h).map PyData.int), rfl, Ord.th (e2 a _ ha), (fun z => absurd (judge_ord o) (by rw [z]; decide)), fun a' h' rs p ws H3 _ ea ha' oh R rl np e3 hp t => by
    cases ea
    have e := ha'.symm.trans (e2 a _ ha)
    obtain rfl := nv_back (HO.lst.inj (Option.some.inj e))
    exact k rs p ws H3 R rl (fresh_back e2 np) (e2.trans e3) hp t⟩
end
/-- what is due of one argument -/
def Due1 {K : PySem.W.Frag} (J : Option (List PyData) → Bool) (C : Addr) (o : Option (List PyData)) (H : Hp) (E : XK) (q : Prop) : Prop := (J o = false → ∀ H1, Ex H H1 → E (.ref C) none H1) ∧ (J o = true → q)

/-! ### power, period_of -/
def sp_check_any : Sp := fun vs H Q _ => ∃ z : Int, vs = [.int z] ∧ RetV .non H Q
theorem sv_check_any {H : Hp} {z : Int} : SpV sp_check_any ([.int z] ++ []) H .non := fun H1 _ Q q E => ⟨z, rfl, q⟩
def sp_power {K : PySem.W.Frag} {mg : Str → Option Value} (T : Tx K mg) : Sp := fun vs H Q E => ∃ (v : V) (o : Option (List PyData)) (z : Int), vs = [v, .int z] ∧ Bd K H v o ∧ (judge o = false → ∀ H1, Ex H H1 → E (.ref T.cl_InvalidSeating) none H1) ∧
  (∀ (a : Addr) (h t : List Nat) (p : Addr) (H' : Hp), judge o = true → v = .ref a → H a = some (.lst (nv h)) → Ord h → H p = none → Ex H H' → H' p = some (.lst (nv t)) → t.length = h.length → (∀ x ∈ t, x < h.length) → Q (.ref p) H')
def sp_period {K : PySem.W.Frag} {mg : Str → Option Value} (T : Tx K mg) : Sp := fun vs H Q E => ∃ (v : V) (o : Option (List PyData)), vs = [v] ∧ Bd K H v o ∧ (judge o = false → ∀ H1, Ex H H1 → E (.ref T.cl_InvalidSeating) none H1) ∧ (judge o = true → ∀ (i : Int) H1, Ex H H1 → Q (.int i) H1)
theorem set_lt {c : List Nat} {n i y : Nat} (h : ∀ x ∈ c, x < n) (hy : y < n) : ∀ x ∈ c.set i y, x < n := fun x hx => by
  rcases List.mem_or_eq_of_mem_set hx with z | z
  · exact h x z
  · omega
/-! the period's bound -/
def lcmL (ns : List Nat) : Nat := ns.foldl Nat.lcm 1
theorem lcm_le {a b : Nat} : Nat.lcm a b ≤ a * b := by
  unfold Nat.lcm
  exact Nat.div_le_self _ _
theorem two_pow_ge (x : Nat) : x ≤ 2 ^ x := Nat.le_of_lt Nat.lt_two_pow_self
theorem lcmL_pow : ∀ (ns : List Nat) (m : Nat), ns.foldl Nat.lcm m ≤ m * 2 ^ ns.sum
  | [], m => by simp
  | x :: l, m => by
    have a := lcmL_pow l (Nat.lcm m x)
    rw [List.foldl_cons, List.sum_cons, Nat.pow_add, ← Nat.mul_assoc]
    exact Nat.le_trans a (Nat.mul_le_mul_right _ (Nat.le_trans lcm_le (Nat.mul_le_mul_left _ (two_pow_ge x))))
def perR (rs : List (List Nat)) : Nat := lcmL (rs.map (·.length))
theorem perR_next {rs : List (List Nat)} {i : Nat} {r : List Nat} (h : rs[i]? = some r) : perR (rs.take (i + 1)) = Nat.lcm (perR (rs.take i)) r.length := by
  unfold perR lcmL
  rw [take_next h, List.map_append, List.foldl_append]
  rfl
theorem sum_flat : ∀ rs : List (List Nat), (rs.map (·.length)).sum = rs.flatten.length
  | [] => rfl
  | r :: l => by rw [List.map_cons, List.sum_cons, sum_flat l, List.flatten_cons, List.length_append]
theorem perR_bd {h : List Nat} {rs : List (List Nat)} (R : Rings h rs) (o : Ord h) (i : Nat) : perR (rs.take i) < 2 ^ 60 := by
  have a := lcmL_pow ((rs.take i).map (·.length)) 1
  rw [sum_flat, Nat.one_mul] at a
  have b : (rs.take i).flatten.length ≤ rs.flatten.length := by
    have : rs.flatten = (rs.take i).flatten ++ (rs.drop i).flatten := by rw [← List.flatten_append, List.take_append_drop]
    rw [this, List.length_append]
    omega
  have c : rs.flatten.length = h.length := by rw [R.all.length_eq, List.length_range]
  have o2 := o.2
  refine Nat.lt_of_le_of_lt (Nat.le_trans a (Nat.pow_le_pow_right (by decide) (show (rs.take i).flatten.length ≤ 20 by omega))) (by decide)
theorem nv_at {l : List Nat} {i : Nat} (h : i < l.length) : (nv l)[i]? = some (.int ((l.getD i 0 : Nat) : Int)) := nv_get (by
  rw [List.getD_eq_getElem?_getD, List.getElem?_eq_getElem h]
  rfl)
theorem if_no {p : Prop} [Decidable p] {C : Addr} (h : (if p then none else some C : Option Addr) = none) : p := due_no h
section
variable {P : Program} {w : World} {K : PySem.W.Frag} {mg : Str → Option Value} {base : Heap}
theorem ok_check_any_number (T : Tx K mg) : FnOk P w K mg base CX0 2 T.f_check_any_number T.d_check_any_number ["number"] sp_check_any := by
  refine T.F_check_any_number.ok sc_check_any_number (fun vs H Q E h => ?_) (fun cdv A outer s H vs Q E hr h => ?_)
  · obtain ⟨z, rfl, _⟩ := h
    rfl
  · obtain ⟨z, rfl, k⟩ := h
    refine ⟨_, (pss_one (ps_if (pt_not (pt_val (pe_call (ok_is_whole T) (hr.mono (by decide)) (by rfl) T.g_is_whole T.F_is_whole.kp T.b_is_whole .nil pass0 (pa_cons (pv 0) pa_nil)))) (pss_one ps_never) pss_nil)), ?_⟩
    exact s_when (b := false) (et_is (by walk_at "et") (by rfl)) (fun hb => Bool.noConfusion hb) fun _ H1 e1 => k _ e1
theorem ok_power (T : Tx K mg) : FnOk P w K mg base (L2N.CX P w) 6 T.f_power T.d_power ["seating", "number"] (sp_power T) := by
  refine Kit.okN T.F_power sc_power (fun vs H Q E h => ?_) (fun cdv A outer s0 H vs Q E hr h => ?_)
  · obtain ⟨v, o, z, rfl, _⟩ := h
    rfl
  · obtain ⟨v, o, z, rfl, hv, kE, k⟩ := h
    refine ⟨_, (pss_cons (ps_expr (pe_call (ok_check_seating T) (hr.mono (by decide)) (by rfl) T.g_check_seating T.F_check_seating.kp T.b_check_seating .nil Kit.passN (pa_cons (pv 0) pa_nil)))
      (pss_cons (ps_expr (pe_call (ok_check_any_number T) (hr.mono (by decide)) (by rfl) T.g_check_any_number T.F_check_any_number.kp T.b_check_any_number .nil pass0 (pa_cons (pv 1) pa_nil)))
      (pss_cons (ps_set (i := 2) sc_power.nd rfl (Or.inl rfl) (pe_op op_rep (pe_lst (pa_cons pe_int pa_nil)) (pe_callB call_lenR (by rfl) T.m_len (by decide +kernel) (pa_cons (pv 0) pa_nil))))
      (pss_cons (ps_for (passes_of rfl) rfl (pi_list (pe_call (ok_tables_of T) (hr.mono (by decide)) (by rfl) T.g_tables_of T.F_tables_of.kp T.b_tables_of .nil Kit.passN (pa_cons (pv 0) pa_nil))) (pg_name (i := 3) sc_power.nd rfl (Or.inl rfl)) (PSs.nox (pss_one (ps_for PassesOwn.never rfl (pi_enumS (by rfl) T.m_enumerate (pa_cons (pv 3) pa_nil)) (pg_tup rfl (pgs_cons (pg_name (i := 4) sc_power.nd rfl (Or.inl rfl)) (pgs_cons (pg_name (i := 5) sc_power.nd rfl (Or.inl rfl)) pgs_nil))) (pss_one (ps_asg (pe_ix ix_tup (pv 3) (pe_op op_mod (pe_op op_add (pv 4) (pv 1)) (pe_callB call_lenR (by rfl) T.m_len (by decide +kernel) (pa_cons (pv 3) pa_nil))) (fun _ _ => rfl)) (pg_sub (pv 2) (pv 5) set_list)))))))
      (PSs.nox (pss_one (ps_ret (pv 2)))))))), ?_⟩
    refine q_chk (ea_cons (ev_var rfl) ea_nil) (so_chkS hv) (fun hn H1 e1 => ?_) fun C hC H1 e1 => ?_
    rotate_left
    · obtain ⟨hm, rfl⟩ := due_yes hC
      exact kE (by simpa using hm) _ e1
    have hj : judge o = true := due_no hn
    obtain ⟨a, h, rfl, ha, oh⟩ := judge_yes hv hj
    have k := fun t p H' => k a h t p H' hj rfl ha oh
    have o2 := oh.2
    refine q_drop (ev_call (z := .non) (ea_cons (ev_var rfl) ea_nil) sv_check_any) fun H2 e2 => ?_
    have ha2 := e2 a _ (e1 a _ ha)
    have lenA : ∀ {σ : L2.St}, σ[0]? = some (some (.ref a)) → Ev (tCB (rLenS K) (tCons (tVar 0) tNil)) σ H2 (.int (h.length : Int)) := fun h0 => ev_is (ev_len (K := K) (ev_var h0) (sq_of ha2)) (by rw [nv_len])
    refine q_asgL (xs := nv (List.replicate h.length 0)) ?_ fun p H3 np e3 hpp => ?_
    · have := el_rep (ta := tLst (tCons (tC (.int 0)) tNil)) (tb := tCB (rLenS K) (tCons (tVar 0) tNil)) (σ := [some (.ref a), some (.int z), none, none, none, none]) (H := H2) (xs := [.int 0]) (k := (h.length : Int)) (el_lst (ea_cons ev_c ea_nil) (Nat.le_of_ble_eq_true rfl)) (lenA rfl) (by omega) (by omega) (by decide)
      rw [Int.toNat_natCast, nv_rep] at this
      exact this
    have np0 := fresh_back (e1.trans e2) np
    refine q_forTabs (ev_var rfl) (e3 a _ ha2) oh fun rs q ws H4 R rl nq e4 hq tq => ?_
    have hp := R.all
    have wl := tq.len
    rw [List.length_map] at wl
    have hpp4 := e4 p _ hpp
    have e04 := e1.trans (e2.trans (e3.trans e4))
    have qp : q ≠ p := fun z => by
      rw [z, hpp] at nq
      cases nq
    refine q_forL (K := K) (a := q) (xs := ws) ev_c (sq_of hq) (fun i σ' H' => ∃ (c : List Nat) (y3 y4 y5 : Option V), σ' = [some (.ref a), some (.int z), some (.ref p), y3, y4, y5] ∧ Ex H H' ∧ H' p = some (.lst (nv c)) ∧ c.length = h.length ∧ (∀ x ∈ c, x < h.length) ∧ H' q = some (.lst ws) ∧ TL H' ws (rs.map nv)) (fun H5 e5 => ⟨List.replicate h.length 0, _, _, _, rfl, e04.trans e5, e5 p _ hpp4, by simp, fun x hx => by
      have := (List.mem_replicate.mp hx).2
      omega, e5 q _ hq, tq.ex e5⟩) (fun i σ' H' _ ⟨_, _, _, _, _, _, _, _, _, z, _⟩ => sq_of z) ?_ ?_
    · rintro i v σ' H5 hv ⟨c, y3, y4, y5, rfl, e5, hc, hcl, hd, hq5, tq5⟩
      obtain ⟨y, hy, b, rfl, hb⟩ := paired_get tq5 hv
      rw [List.getElem?_map] at hy
      obtain ⟨r, hr, rfl⟩ := Option.map_eq_some_iff.mp hy
      have hrm := List.mem_of_getElem? hr
      have rl := R.short hrm
      have rlt : ∀ {i : Nat}, i < r.length → r.getD i 0 < h.length := fun {i} hi => by
        have : r.getD i 0 ∈ r := by
          rw [List.getD_eq_getElem?_getD, List.getElem?_eq_getElem hi]
          exact List.getElem_mem hi
        exact List.mem_range.mp (hp.mem_iff.mp (List.mem_flatten.mpr ⟨r, hrm, this⟩))
      have bp : b ≠ p := fun z => by
        rw [z, hc] at hb
        cases hb
      refine s_forEnS (K := K) (i := 4) (j := 5) (xs := nv r) (ea_cons (ev_var rfl) ea_nil) (fun H => H b = some (.tup (nv r))) (.inr fun H g => st_of g) (fun H1 e1 => e1 b _ hb) (fun m σ' H2 => ∃ (c : List Nat) (y4 y5 : Option V), σ' = [some (.ref a), some (.int z), some (.ref p), some (.ref b), y4, y5] ∧ Ex H H2 ∧ H2 p = some (.lst (nv c)) ∧ c.length = h.length ∧ (∀ x ∈ c, x < h.length) ∧ H2 q = some (.lst ws) ∧ TL H2 ws (rs.map nv) ∧ H2 b = some (.tup (nv r))) (fun H6 e6 => ⟨c, _, _, rfl, e5.trans e6, e6 p _ hc, hcl, hd, e6 q _ hq5, tq5.ex e6, e6 b _ hb⟩) (fun m σ' H2 _ ⟨_, _, _, _, _, _, _, _, _, _, z⟩ => z) ?_ ?_
      · rintro m x σ' H6 H7 hx ⟨c, y4, y5, rfl, e6, hc6, hcl6, hd6, hq6, tq6, hb6⟩ e7
        have hml : m < r.length := by
          have := (List.getElem?_eq_some_iff.mp hx).1
          rwa [nv_len] at this
        rw [nv_at hml] at hx
        cases hx
        have x0l := rlt hml
        have rpos : (0 : Int) < (r.length : Int) := by omega
        have m0 := Int.emod_nonneg ((m : Int) + z) (show (r.length : Int) ≠ 0 by omega)
        have m1 := Int.emod_lt_of_pos ((m : Int) + z) rpos
        obtain ⟨j, hj⟩ : ∃ j : Nat, ((m : Int) + z) % (r.length : Int) = (j : Int) := ⟨_, (Int.toNat_of_nonneg m0).symm⟩
        have jl : j < r.length := by omega
        have hjr : r[j]? = some (r.getD j 0) := by
          rw [List.getD_eq_getElem?_getD, List.getElem?_eq_getElem jl]
          rfl
        have hb7 := e7 b _ hb6
        have hc7 := e7 p _ hc6
        refine s_setL (j := r.getD m 0) (v := .int ((r.getD j 0 : Nat) : Int)) hc7 (ev_op (ev_var rfl) (ev_is (ev_op (ev_op (ev_var rfl) (ev_var rfl) rv_I0) (ev_is (ev_lenT (K := K) (ev_var rfl) (st_of hb7)) (by rw [nv_len])) (rv_I rpos)) (by rw [hj])) (rv_ixT (K := K) (st_of hb7) (atI_nat (nv_get hjr)))) (ev_var rfl) (ev_var rfl) (by rw [nv_len]; omega) fun H8 e8 => ?_
        refine ⟨c.set (r.getD m 0) (r.getD j 0), _, _, rfl, Ex.mut (e6.trans (e7.trans e8)) np0, ?_, by simp [hcl6], set_lt hd6 (rlt jl), ?_, TL.mut (e8 p _ hc7) (tq6.ex (e7.trans e8)), ?_⟩
        · rw [upd_same, nv_set]
        · rw [upd_ne qp]
          exact (e7.trans e8) q _ hq6
        · rw [upd_ne bp]
          exact (e7.trans e8) b _ hb6
      · rintro σ' H6 ⟨c, y4, y5, rfl, e6, hc6, hcl6, hd6, hq6, tq6, hb6⟩
        exact ⟨c, _, _, _, rfl, e6, hc6, hcl6, hd6, hq6, tq6⟩
    · rintro σ' H5 ⟨c, y3, y4, y5, rfl, e5, hc, hcl, hd, _, _⟩
      exact s_ret (ev_var rfl) fun H6 e6 => k c p H6 np0 (e5.trans e6) (e6 p _ hc) hcl hd
theorem ok_period_of (T : Tx K mg) : FnOk P w K mg base (L2N.CX P w) 6 T.f_period_of T.d_period_of ["seating"] (sp_period T) := by
  refine Kit.okN T.F_period_of sc_period_of (fun vs H Q E h => ?_) (fun cdv A outer s0 H vs Q E hr h => ?_)
  · obtain ⟨v, o, rfl, _⟩ := h
    rfl
  · obtain ⟨v, o, rfl, hv, kE, k⟩ := h
    refine ⟨_, (pss_cons (ps_set (i := 1) sc_period_of.nd rfl (Or.inl rfl) pe_int)
      (pss_cons (ps_for (passes_of rfl) rfl (pi_list (pe_call (ok_tables_of T) (hr.mono (by decide)) (by rfl) T.g_tables_of T.F_tables_of.kp T.b_tables_of .nil Kit.passN (pa_cons (pv 0) pa_nil))) (pg_name (i := 2) sc_period_of.nd rfl (Or.inl rfl)) (PSs.nox (pss_one (ps_set (i := 1) sc_period_of.nd rfl (Or.inl rfl) (pe_callBfun cr_lcm (by rfl) T.i_lcm (pa_cons (pv 1) (pa_cons (pe_callB call_lenR (by rfl) T.m_len (by decide +kernel) (pa_cons (pv 2) pa_nil)) pa_nil)))))))
      (PSs.nox (pss_one (ps_ret (pv 1)))))), ?_⟩
    refine q_asg (v := .int 1) ev_c fun H1 e1 => ?_
    refine q_forCall (vs := [v]) (ea_cons (ev_var rfl) ea_nil) fun H2 e2 => ?_
    refine ⟨v, o, rfl, hv.ex (e1.trans e2), fun hn H3 e3 => kE hn _ (e1.trans (e2.trans e3)), fun a h rs q ws H3 hj ea ha oh R rl nq e3 hq tq => ?_⟩
    subst ea
    have k := k hj
    have o2 := oh.2
    have hfl : rs.flatten.length = h.length := by rw [R.all.length_eq, List.length_range]
    have wl := tq.len
    rw [List.length_map] at wl
    refine forQ_of (K := K) (a := q) (xs := ws) (fun i σ' H' => ∃ y2, σ' = [some (.ref a), some (.int ((perR (rs.take i) : Nat) : Int)), y2] ∧ Ex H3 H') ⟨_, rfl, Ex.refl _⟩ (fun i σ' H' _ ⟨_, _, e⟩ => sq_of (e q _ hq)) ?_ ?_
    · rintro i v σ' H4 hv ⟨y2, rfl, e4⟩
      obtain ⟨y, hy, b, rfl, hbb⟩ := paired_get (tq.ex e4) hv
      rw [List.getElem?_map] at hy
      obtain ⟨r, hr, rfl⟩ := Option.map_eq_some_iff.mp hy
      have hrm := List.mem_of_getElem? hr
      have rl := R.short hrm
      exact s_asg (v := .int ((perR (rs.take (i + 1)) : Nat) : Int)) (ev_is (ev_lcm (ev_var rfl) (ev_is (ev_lenT (K := K) (ev_var rfl) (st_of hbb)) (by rw [nv_len])) (perR_bd R oh i) (Nat.lt_of_le_of_lt (show r.length ≤ 20 by omega) (by decide))) (by rw [perR_next hr])) fun H5 e5 => ⟨_, rfl, e4.trans e5⟩
    · rintro σ' H4 ⟨y2, rfl, e4⟩
      exact s_ret (ev_var rfl) fun H5 e5 => k _ H5 (e1.trans (e2.trans (e3.trans (e4.trans e5))))
end


local macro_rules | `(tactic| walk_at "call") => `(tactic| (with_reducible exact sv_whole))

/-! ### raised, joinable, ways_of_roots -/
def sp_raised : Sp := fun vs H Q _ => ∃ x n : Nat, vs = [.int (x : Int), .int (n : Int)] ∧ x ≤ 20 ∧ n ≤ 40 ∧ RetV (.int ((x ^ n : Nat) : Int)) H Q
theorem sv_raised {H : Hp} {x n : Nat} (h1 : x ≤ 20) (h2 : n ≤ 40) : SpV sp_raised ([.int (x : Int), .int (n : Int)] ++ []) H (.int ((x ^ n : Nat) : Int)) := fun H1 _ Q q E => ⟨x, n, rfl, h1, h2, q⟩
theorem pow_small {x n m : Nat} (h : x ≤ 20) (h2 : n ≤ m) : x ^ n < 2 ^ (5 * m + 1) := by
  have a : x ^ n ≤ 32 ^ n := Nat.pow_le_pow_left (by omega) n
  have b : (32 : Nat) ^ n ≤ 32 ^ m := Nat.pow_le_pow_right (by decide) h2
  have c : (32 : Nat) ^ m = 2 ^ (5 * m) := by rw [show (32 : Nat) = 2 ^ 5 by decide, ← Nat.pow_mul]
  have d : (2 : Nat) ^ (5 * m) < 2 ^ (5 * m + 1) := Nat.pow_lt_pow_right (by decide) (by omega)
  omega
def joinL (s m z : Nat) : List Nat := ((List.range m).filter fun i => decide (Nat.gcd (s * (1 + i)) z = 1 + i)).map fun i => 1 + i
theorem join_in {s m z j : Nat} (h : j ∈ joinL s m z) : 1 ≤ j ∧ j ≤ m := by
  obtain ⟨i, hi, rfl⟩ := List.mem_map.mp h
  have := List.mem_range.mp (List.mem_filter.mp hi).1
  omega
theorem join_len (s m z : Nat) : (joinL s m z).length ≤ m := by
  unfold joinL
  rw [List.length_map]
  have := List.length_filter_le (fun i => decide (Nat.gcd (s * (1 + i)) z = 1 + i)) (List.range m)
  rw [List.length_range] at this
  exact this
def sp_joinable : Sp := fun vs H Q _ => ∃ s m z : Nat, vs = [.int (s : Int), .int (m : Int), .int (z : Int)] ∧ s ≤ 20 ∧ m ≤ 20 ∧ RetL (nv (joinL s m z)) H Q
theorem sl_joinable {H : Hp} {s m z : Nat} (h1 : s ≤ 20) (h2 : m ≤ 20) : SpL sp_joinable ([.int (s : Int), .int (m : Int), .int (z : Int)] ++ []) H (nv (joinL s m z)) := fun H1 _ Q q E => ⟨s, m, z, rfl, h1, h2, q⟩
theorem prm_sm : ∀ a < 20, ∀ b < 20, 0 ≤ prm a b ∧ prm a b < 2 ^ 62 := by decide +kernel
/-- the ways, number of tables by number of tables -/
def wrP (s z : Nat) (ws : List Int) (t : Nat) : List Int := (joinL s t z).map fun j => prm (t - 1) (j - 1) * ((s ^ (j - 1) : Nat) : Int) * ws.getD (t - j) 0
def wrS (s z : Nat) : Nat → List Int
  | 0 => [1]
  | t + 1 => wrS s z t ++ [(wrP s z (wrS s z t) (t + 1)).sum]
def wrN (s m z : Nat) : Int := (wrS s z m).getD m 0
theorem wrS_len (s z : Nat) : ∀ t, (wrS s z t).length = t + 1
  | 0 => rfl
  | t + 1 => by
    rw [wrS, List.length_append, wrS_len s z t]
    rfl
theorem mul_bd {a b : Int} {x y : Nat} (ha : 0 ≤ a ∧ a < 2 ^ x) (hb : 0 ≤ b ∧ b < 2 ^ y) : 0 ≤ a * b ∧ a * b < 2 ^ (x + y) := by
  refine ⟨Int.mul_nonneg ha.1 hb.1, ?_⟩
  obtain ⟨a, rfl⟩ := Int.eq_ofNat_of_zero_le ha.1
  obtain ⟨b, rfl⟩ := Int.eq_ofNat_of_zero_le hb.1
  have h1 : a < 2 ^ x := by have := ha.2; exact_mod_cast this
  have h2 : b < 2 ^ y := by have := hb.2; exact_mod_cast this
  have h3 : a * b < 2 ^ (x + y) := by
    rw [Nat.pow_add]
    exact Nat.mul_lt_mul'' h1 h2
  exact_mod_cast h3
theorem le_bd {a : Int} {x y : Nat} (ha : 0 ≤ a ∧ a < 2 ^ x) (h : x ≤ y) : 0 ≤ a ∧ a < 2 ^ y := by
  refine ⟨ha.1, ?_⟩
  obtain ⟨a, rfl⟩ := Int.eq_ofNat_of_zero_le ha.1
  have h1 : a < 2 ^ x := by have := ha.2; exact_mod_cast this
  have h2 : a < 2 ^ y := Nat.lt_of_lt_of_le h1 (Nat.pow_le_pow_right (by decide) h)
  exact_mod_cast h2
theorem abs_bd {a : Int} {x : Nat} (ha : 0 ≤ a ∧ a < 2 ^ x) : a.natAbs < 2 ^ x := by
  obtain ⟨a, rfl⟩ := Int.eq_ofNat_of_zero_le ha.1
  have h1 : a < 2 ^ x := by have := ha.2; exact_mod_cast this
  exact h1
theorem sum_bd {b : Nat} {l : List Int} (h : ∀ x ∈ l, 0 ≤ x ∧ x < 2 ^ b) (hl : l.length ≤ 20) : 0 ≤ l.sum ∧ l.sum < 2 ^ (b + 5) := by
  have key : ∀ {l : List Int}, (∀ x ∈ l, 0 ≤ x ∧ x < 2 ^ b) → 0 ≤ l.sum ∧ l.sum ≤ (l.length : Int) * 2 ^ b := by
    intro l
    induction l with
    | nil => intro _; simp
    | cons x l ih =>
      intro h
      have a := ih fun y hy => h y (List.mem_cons_of_mem _ hy)
      have c := h x List.mem_cons_self
      rw [List.sum_cons, List.length_cons]
      have e : ((l.length + 1 : Nat) : Int) * 2 ^ b = (l.length : Int) * 2 ^ b + 2 ^ b := by
        rw [Int.natCast_add, Int.add_mul]
        simp
      rw [e]
      omega
  have a := key h
  refine ⟨a.1, ?_⟩
  have e : (2 : Int) ^ (b + 5) = 2 ^ b * 32 := by
    rw [Int.pow_add]
    rfl
  have p : (0 : Int) < 2 ^ b := Int.pow_pos (by decide)
  have c : (l.length : Int) * 2 ^ b ≤ 20 * 2 ^ b := Int.mul_le_mul_of_nonneg_right (by omega) (Int.le_of_lt p)
  rw [e]
  omega
theorem pow_bd {s n m : Nat} (h : s ≤ 20) (h2 : n ≤ m) : 0 ≤ ((s ^ n : Nat) : Int) ∧ ((s ^ n : Nat) : Int) < 2 ^ (5 * m + 1) := by
  have a := pow_small h h2
  refine ⟨by omega, ?_⟩
  exact_mod_cast a
theorem wrS_bd {s z : Nat} (hs : s ≤ 20) : ∀ t ≤ 20, ∀ (i : Nat) (x : Int), (wrS s z t)[i]? = some x → 0 ≤ x ∧ x < 2 ^ (200 * i + 1)
  | 0, _, i, x, h => by
    cases i with
    | zero =>
      have e : 1 = x := by simpa [wrS] using h
      subst e
      decide
    | succ i => simp [wrS] at h
  | t + 1, ht, i, x, h => by
    have ih := wrS_bd (z := z) hs t (by omega)
    rw [wrS] at h
    by_cases hi : i < (wrS s z t).length
    · rw [List.getElem?_append_left hi] at h
      exact ih i x h
    · rw [List.getElem?_append_right (by omega)] at h
      have i0 : i - (wrS s z t).length = 0 := by
        have := (List.getElem?_eq_some_iff.mp h).1
        simp at this
        omega
      rw [i0] at h
      have e : (wrP s z (wrS s z t) (t + 1)).sum = x := by simpa using h
      rw [wrS_len] at hi i0
      have it : i = t + 1 := by omega
      subst it
      rw [← e]
      refine le_bd (sum_bd (b := 200 * t + 159) (fun y hy => ?_) ?_) (by omega)
      · unfold wrP at hy
        obtain ⟨j, hj, rfl⟩ := List.mem_map.mp hy
        obtain ⟨j1, j2⟩ := join_in hj
        have wl : t + 1 - j < (wrS s z t).length := by rw [wrS_len]; omega
        have wg : (wrS s z t)[t + 1 - j]? = some ((wrS s z t).getD (t + 1 - j) 0) := by
          rw [List.getD_eq_getElem?_getD, List.getElem?_eq_getElem wl]
          rfl
        have b1 := ih _ _ wg
        have b2 := prm_sm (t + 1 - 1) (by omega) (j - 1) (by omega)
        have b3 := pow_bd (n := j - 1) (m := 19) hs (by omega)
        exact le_bd (mul_bd (mul_bd b2 b3) b1) (by omega)
      · unfold wrP
        rw [List.length_map]
        exact Nat.le_trans (join_len _ _ _) ht
theorem wrS_get {s z t i : Nat} (h : i ≤ t) : (wrS s z t)[i]? = some ((wrS s z t).getD i 0) := by
  rw [List.getD_eq_getElem?_getD, List.getElem?_eq_getElem (by rw [wrS_len]; omega)]
  rfl
theorem wrN_bd {s m z : Nat} (hs : s ≤ 20) (hm : m ≤ 20) : 0 ≤ wrN s m z ∧ wrN s m z < 2 ^ (200 * m + 1) := wrS_bd hs m hm m _ (wrS_get (Nat.le_refl _))
/-- where there are ways, some tables are joinable -/
theorem wr_join {s m z : Nat} (hm : 1 ≤ m) (h : wrN s m z ≠ 0) : joinL s m z ≠ [] := by
  intro e
  obtain ⟨t, rfl⟩ : ∃ t, m = t + 1 := ⟨m - 1, by omega⟩
  refine h ?_
  unfold wrN
  rw [wrS, List.getD_eq_getElem?_getD, List.getElem?_append_right (by rw [wrS_len]; omega), wrS_len, Nat.sub_self]
  unfold wrP
  rw [e]
  rfl
def sp_ways : Sp := fun vs H Q _ => ∃ s m z : Nat, vs = [.int (s : Int), .int (m : Int), .int (z : Int)] ∧ s ≤ 20 ∧ m ≤ 20 ∧ RetV (.int (wrN s m z)) H Q
theorem sv_ways {H : Hp} {s m z : Nat} (h1 : s ≤ 20) (h2 : m ≤ 20) : SpV sp_ways ([.int (s : Int), .int (m : Int), .int (z : Int)] ++ []) H (.int (wrN s m z)) := fun H1 _ Q q E => ⟨s, m, z, rfl, h1, h2, q⟩
theorem im_at {l : List Int} {i : Nat} {x : Int} (h : l[i]? = some x) : (l.map V.int)[i]? = some (.int x) := by rw [List.getElem?_map, h]; rfl
section
variable {K : PySem.W.Frag} {σ : L2.St} {H : Hp} {ta : TE}
theorem ev_sumV {a : Addr} {ns : List Int} (h : Ev ta σ H (.ref a)) (ha : SqL K H a (ns.map V.int)) : Ev (tCB (rSum K) (tCons ta tNil)) σ H (.int ns.sum) := fun H1 e Q q => h H1 e _ fun H2 e2 => ⟨a, ns, rfl, ex_l (e.trans e2) ha, q H2 e2⟩
end
section
variable {P : Program} {w : World} {K : PySem.W.Frag} {mg : Str → Option Value} {base : Heap}
theorem ok_raised (T : Tx K mg) : FnOk P w K mg base CX0 1 T.f_raised T.d_raised ["base", "times"] sp_raised := by
  refine T.F_raised.ok sc_raised (fun vs H Q E h => ?_) (fun cdv A outer s H vs Q E hr h => ?_)
  · obtain ⟨x, n, rfl, _⟩ := h
    rfl
  · obtain ⟨x, n, rfl, h0, h1, k⟩ := h
    refine ⟨_, (pss_cons (ps_set (i := 2) sc_raised.nd rfl (Or.inl rfl) pe_int)
      (pss_cons (ps_for PassesOwn.never rfl (pi_range1 (by rfl) T.m_range (pa_cons (pv 1) pa_nil)) (pg_name (i := 3) sc_raised.nd rfl (Or.inl rfl)) (pss_one (ps_set (i := 2) sc_raised.nd rfl (Or.inl rfl) (pe_op op_mulX (pv 2) (pv 0)))))
      (pss_one (ps_ret (pv 2))))), ?_⟩
    refine q_asg (v := .int 1) ev_c fun H1 e1 => ?_
    refine q_forR1 (n := (n : Int)) (ea_cons (ev_var rfl) ea_nil) ⟨by omega, by omega⟩ (fun i σ' H' => ∃ y : Option V, σ' = [some (.int (x : Int)), some (.int (n : Int)), some (.int ((x ^ i : Nat) : Int)), y] ∧ Ex H H') (fun H2 e2 => ⟨none, rfl, e1.trans e2⟩) ?_ ?_
    · rintro i σ' H' hi ⟨y, rfl, e⟩
      have b := pow_bd (s := x) (n := i) (m := 40) h0 (by omega)
      have m : CMulX ((x ^ i : Nat) : Int) (x : Int) := mulx_ok (a := 201) (b := 64) (abs_bd b) (by omega) (by decide)
      exact s_asg (v := .int ((x ^ (i + 1) : Nat) : Int)) (ev_is (ev_op (ev_var rfl) (ev_var rfl) (rv_I m)) (by rw [Nat.pow_succ, Int.natCast_mul])) fun H2 e2 => ⟨_, rfl, e.trans e2⟩
    · rintro σ' H' ⟨y, rfl, e⟩
      rw [Int.toNat_natCast]
      exact s_ret (ev_var rfl) fun H2 e2 => k H2 (e.trans e2)
theorem ok_joinable (T : Tx K mg) : FnOk P w K mg base CX0 1 T.f_joinable T.d_joinable ["size", "many", "number"] sp_joinable := by
  refine T.F_joinable.ok sc_joinable (fun vs H Q E h => ?_) (fun cdv A outer s0 H vs Q E hr h => ?_)
  · obtain ⟨s, m, z, rfl, _⟩ := h
    rfl
  · obtain ⟨s, m, z, rfl, h1, h2, k⟩ := h
    refine ⟨_, (pss_one (ps_ret (pe_lc (own := [("joined", 3)]) (g := (gName 3)) rfl sc_joinable.nd (pi_range2 (by rfl) T.m_range (pa_cons pe_int (pa_cons (pe_op op_add (pv 1) pe_int) pa_nil))) (blkOk_by (own := [("joined", 3)]) (N := n_joinable) (sc := defScope s_joinable) (by decide +kernel)) (fun _ _ _ _ _ => (pg_name (i := 3) sc_joinable.nd rfl (Or.inl rfl))) (fun _ _ _ _ _ => (pts_one (pt_cmpR op_eq (pe_callBfun cr_gcd (by rfl) T.i_gcd (pa_cons (pe_op op_mulX (pv 0) (pv 3)) (pa_cons (pv 2) pa_nil))) (pv 3) (nomark _)))) (fun _ _ _ _ _ => (pv 3))))), ?_⟩
    refine s_retL (xs := nv (joinL s m z)) ?_ fun p H1 np e1 hp => k p H1 np e1 hp
    have g := el_lcR2 (te := tVar 3) (t := tTest (tOp rEq (tCB rGcd (tCons (tOp (rI CMulX fun i j => .int (i * j)) (tVar 0) (tVar 3)) (tCons (tVar 2) tNil))) (tVar 3))) (ta := tCons (tC (.int 1)) (tCons (tOp (rI0 fun i j => .int (i + j)) (tVar 1) (tC (.int 1))) tNil)) (σ := start n_joinable [.int (s : Int), .int (m : Int), .int (z : Int)]) (H := H) (j := 3) (vs := [3]) (lo := 1) (n := (m : Int) + 1) (fun i => decide (Nat.gcd (s * (1 + i)) z = 1 + i)) (fun i => V.int ((1 + i : Nat) : Int)) (ea_cons ev_c (ea_cons (ev_op (ev_var rfl) ev_c rv_I0) ea_nil)) (by omega) (fun _ => rfl) (fun i H1 e1 hi => ?_) fun i H1 e1 hi _ => ?_
    · have e : given ((m : Int) + 1 - 1).toNat (fun i => decide (Nat.gcd (s * (1 + i)) z = 1 + i)) (fun i => V.int ((1 + i : Nat) : Int)) = nv (joinL s m z) := by
        unfold given joinL
        rw [show ((m : Int) + 1 - 1).toNat = m by omega, nv_eq, List.map_map]
        rfl
      rw [e] at g
      exact g
    · have mm : CMulX (s : Int) (1 + (i : Int)) := mulx_ok (a := 10) (b := 10) (by omega) (by omega) (by decide)
      refine et_is (et_test (ev_op (ev_gcd (ev_op (ev_var rfl) (ev_var rfl) (rv_I mm)) (ev_var rfl)) (ev_var rfl) (rv_eq rfl))) ?_
      have ea : ((s : Int) * (1 + (i : Int))).natAbs = s * (1 + i) := by
        rw [show (1 + (i : Int)) = ((1 + i : Nat) : Int) by omega, ← Int.natCast_mul]
        rfl
      rw [ea, show ((z : Int)).natAbs = z from rfl]
      refine decide_eq_decide.mpr ⟨fun h => ?_, fun h => ?_⟩
      · have := V.int.inj h
        omega
      · rw [h]
        exact congrArg V.int (by omega)
    · exact ev_is (ev_var rfl) (congrArg V.int (by omega))
theorem ok_ways_of_roots (T : Tx K mg) : FnOk P w K mg base CX0 2 T.f_ways_of_roots T.d_ways_of_roots ["size", "many", "number"] sp_ways := by
  refine T.F_ways_of_roots.ok sc_ways_of_roots (fun vs H Q E h => ?_) (fun cdv A outer s0 H vs Q E hr h => ?_)
  · obtain ⟨s, m, z, rfl, _⟩ := h
    rfl
  · obtain ⟨s, m, z, rfl, h1, h2, k⟩ := h
    refine ⟨_, (pss_cons (ps_set (i := 3) sc_ways_of_roots.nd rfl (Or.inl rfl) (pe_lst (pa_cons pe_int pa_nil)))
      (pss_cons (ps_for PassesOwn.never rfl (pi_range2 (by rfl) T.m_range (pa_cons pe_int (pa_cons (pe_op op_add (pv 1) pe_int) pa_nil))) (pg_name (i := 4) sc_ways_of_roots.nd rfl (Or.inl rfl)) (pss_cons (ps_set (i := 5) sc_ways_of_roots.nd rfl (Or.inl rfl) (pe_lst pa_nil))
      (pss_cons (ps_for PassesOwn.never rfl (pi_list (pe_call (ok_joinable T) (hr.mono (by decide)) (by rfl) T.g_joinable T.F_joinable.kp T.b_joinable .nil pass0 (pa_cons (pv 0) (pa_cons (pv 4) (pa_cons (pv 2) pa_nil))))) (pg_name (i := 6) sc_ways_of_roots.nd rfl (Or.inl rfl)) (pss_cons (ps_set (i := 7) sc_ways_of_roots.nd rfl (Or.inl rfl) (pe_op op_mulX (pe_callBfun cr_perm (by rfl) T.i_perm (pa_cons (pe_op op_sub (pv 4) pe_int) (pa_cons (pe_op op_sub (pv 6) pe_int) pa_nil))) (pe_call (ok_raised T) (hr.mono (by decide)) (by rfl) T.g_raised T.F_raised.kp T.b_raised .nil pass0 (pa_cons (pv 0) (pa_cons (pe_op op_sub (pv 6) pe_int) pa_nil)))))
      (pss_one (ps_expr (pe_bm PySem.F.plainAttrs_list PySem.F.slot_list_append PySem.F.type_list_append mt_append (pv 5) (pa_cons (pe_op op_mulX (pv 7) (pe_ix ix_list (pv 3) (pe_op op_sub (pv 4) (pv 6)) (fun _ _ => rfl))) pa_nil))))))
      (pss_one (ps_expr (pe_bm PySem.F.plainAttrs_list PySem.F.slot_list_append PySem.F.type_list_append mt_append (pv 3) (pa_cons (pe_callB (cr_sum rfl) (by rfl) T.m_sum (by decide +kernel) (pa_cons (pv 5) pa_nil)) pa_nil)))))))
      (pss_one (ps_ret (pe_ix ix_list (pv 3) (pv 1) (fun _ _ => rfl)))))), ?_⟩
    refine q_asgL (xs := [.int 1]) (el_lst (ea_cons ev_c ea_nil) (Nat.le_of_ble_eq_true rfl)) fun p H1 np e1 hp => ?_
    refine q_forR2 (lo := 1) (n := (m : Int) + 1) (ea_cons ev_c (ea_cons (ev_op (ev_var rfl) ev_c rv_I0) ea_nil)) (by omega) (fun t σ' H' => ∃ y4 y5 y6 y7 : Option V, σ' = [some (.int (s : Int)), some (.int (m : Int)), some (.int (z : Int)), some (.ref p), y4, y5, y6, y7] ∧ Ex H H' ∧ H' p = some (.lst ((wrS s z t).map V.int))) (fun H2 e2 => ⟨_, _, _, _, rfl, e1.trans e2, e2 p _ hp⟩) ?_ ?_
    · rintro t σ' H' ht ⟨y4, y5, y6, y7, rfl, e, hp'⟩
      refine q_asgL (xs := []) (el_lst ea_nil (Nat.le_of_ble_eq_true rfl)) fun q H2 nq e2 hq => ?_
      have hp2 := e2 p _ hp'
      have pq : q ≠ p := fun z => by
        rw [z, hp'] at nq
        cases nq
      refine q_forNLn (K := K) (xs := nv (joinL s (t + 1) z)) ?_ (fun l i σ' H' => ∃ y6 y7 : Option V, σ' = [some (.int (s : Int)), some (.int (m : Int)), some (.int (z : Int)), some (.ref p), some (.int (1 + (t : Int))), some (.ref q), y6, y7] ∧ Ex H H' ∧ H' p = some (.lst ((wrS s z t).map V.int)) ∧ H' l = some (.lst (nv (joinL s (t + 1) z))) ∧ l ≠ q ∧ H' q = some (.lst (((wrP s z (wrS s z t) (t + 1)).take i).map V.int))) (fun l H3 nl e3 hl => ⟨_, _, rfl, e.trans (e2.trans e3), e3 p _ hp2, hl, (fun z => by rw [z, hq] at nl; cases nl), e3 q _ hq⟩) (fun l i σ' H' _ ⟨_, _, _, _, _, z, _⟩ => sq_of z) ?_ ?_
      · exact el_call (ea_cons (ev_var rfl) (ea_cons (ev_is (ev_var rfl) (congrArg V.int (show 1 + (t : Int) = ((t + 1 : Nat) : Int) by omega))) (ea_cons (ev_var rfl) ea_nil))) (sl_joinable h1 (by omega))
      · rintro l i x σ' H3 hx ⟨y6, y7, rfl, e3, hp3, hl3, lq, hq3⟩
        have hil : i < (joinL s (t + 1) z).length := by
          have := (List.getElem?_eq_some_iff.mp hx).1
          rwa [nv_len] at this
        have hj : (joinL s (t + 1) z)[i]? = some ((joinL s (t + 1) z).getD i 0) := by
          rw [List.getD_eq_getElem?_getD, List.getElem?_eq_getElem hil]
          rfl
        rw [nv_get hj] at hx
        cases hx
        obtain ⟨j, ej⟩ : ∃ j, j = (joinL s (t + 1) z).getD i 0 := ⟨_, rfl⟩
        rw [← ej] at hj ⊢
        obtain ⟨j1, j2⟩ := join_in (List.mem_of_getElem? hj)
        have b1 := prm_sm t (by omega) (j - 1) (by omega)
        have b2 := pow_bd (s := s) (n := j - 1) (m := 19) h1 (by omega)
        have b12 := mul_bd b1 b2
        have b3 := wrS_bd (z := z) h1 t (by omega) _ _ (wrS_get (i := t + 1 - j) (by omega))
        have m1 : CMulX (prm t (j - 1)) ((s ^ (j - 1) : Nat) : Int) := mulx_ok (abs_bd b1) (abs_bd b2) (by decide)
        have m2 : CMulX (prm t (j - 1) * ((s ^ (j - 1) : Nat) : Int)) ((wrS s z t).getD (t + 1 - j) 0) := mulx_ok (b := 4201) (abs_bd b12) (abs_bd (le_bd b3 (by omega))) (by decide)
        refine q_asg (v := .int (prm t (j - 1) * ((s ^ (j - 1) : Nat) : Int))) (ev_op (ev_perm (n := t) (k := j - 1) (ev_is (ev_op (ev_var rfl) ev_c rv_I0) (congrArg V.int (by omega))) (ev_is (ev_op (ev_var rfl) ev_c rv_I0) (congrArg V.int (by omega))) (by omega) (by omega)) (ev_call (ea_cons (ev_var rfl) (ea_cons (ev_is (ev_op (ev_var rfl) ev_c rv_I0) (congrArg V.int (show (j : Int) - 1 = ((j - 1 : Nat) : Int) by omega))) ea_nil)) (sv_raised h1 (by omega))) (rv_I m1)) fun H4 e4 => ?_
        have hq4 := e4 q _ hq3
        have wl : (wrP s z (wrS s z t) (t + 1)).length = (joinL s (t + 1) z).length := by unfold wrP; rw [List.length_map]
        refine s_app hq4 (ev_var rfl) (ev_op (ev_var rfl) (ev_op (ev_var rfl) (ev_is (ev_op (ev_var rfl) (ev_var rfl) rv_I0) (congrArg V.int (show 1 + (t : Int) - (j : Int) = ((t + 1 - j : Nat) : Int) by omega))) (rv_ixL (K := K) (sq_of (e4 p _ hp3)) (atI_nat (im_at (wrS_get (by omega)))))) (rv_I m2)) (by rw [List.length_map, List.length_take]; have := join_len s (t + 1) z; omega) fun H5 e5 => ⟨_, _, rfl, Ex.mut (e3.trans (e4.trans e5)) (fresh_back e nq), ?_, ?_, lq, ?_⟩
        · rw [upd_ne (Ne.symm pq)]
          exact (e4.trans e5) p _ hp3
        · rw [upd_ne lq]
          exact (e4.trans e5) l _ hl3
        · rw [upd_same]
          have g : (wrP s z (wrS s z t) (t + 1))[i]? = some (prm t (j - 1) * ((s ^ (j - 1) : Nat) : Int) * (wrS s z t).getD (t + 1 - j) 0) := by
            unfold wrP
            rw [List.getElem?_map, hj]
            rfl
          rw [take_next g, List.map_append]
          rfl
      · rintro l σ' H3 ⟨y6, y7, rfl, e3, hp3, hl3, lq, hq3⟩
        have wl : (wrP s z (wrS s z t) (t + 1)).length = (nv (joinL s (t + 1) z)).length := by unfold wrP; rw [List.length_map, nv_len]
        rw [← wl, List.take_length] at hq3
        refine s_app hp3 (ev_var rfl) (ev_sumV (K := K) (ev_var rfl) (sq_of hq3)) (by rw [List.length_map, wrS_len]; omega) fun H4 e4 => ⟨_, _, _, _, rfl, Ex.mut (e3.trans e4) np, ?_⟩
        rw [upd_same, wrS, List.map_append]
        rfl
    · rintro σ' H' ⟨y4, y5, y6, y7, rfl, e, hp'⟩
      rw [show ((m : Int) + 1 - 1).toNat = m by omega] at hp'
      exact s_ret (ev_op (ev_var rfl) (ev_var rfl) (rv_ixL (K := K) (sq_of hp') (atI_nat (im_at (wrS_get (Nat.le_refl _)))))) fun H2 e2 => k H2 (e.trans e2)
end


local macro_rules | `(tactic| walk_at "call") => `(tactic| (with_reducible exact sv_whole))

/-! ### the rings of a seating are determined -/
theorem rg_step {h r s : List Nat} (R : Rg h r) (S : Rg h s) (h0 : r[0]? = s[0]?) : ∀ i, i < r.length → i < s.length → r[i]? = s[i]?
  | 0, _, _ => h0
  | i + 1, h1, h2 => by
    have ih := rg_step R S h0 i (by omega) (by omega)
    obtain ⟨x, y, a1, a2, a3⟩ := R.st i (by omega)
    obtain ⟨x', y', b1, b2, b3⟩ := S.st i (by omega)
    rw [Nat.mod_eq_of_lt h1] at a2
    rw [Nat.mod_eq_of_lt h2] at b2
    rw [a1, b1] at ih
    cases ih
    rw [a2, b2, ← a3, ← b3]
theorem rg_len {h r s : List Nat} (R : Rg h r) (S : Rg h s) (h0 : r[0]? = s[0]?) : s.length ≤ r.length := by
  refine Nat.le_of_not_lt fun hl => ?_
  have rn := R.ne
  obtain ⟨x, y, a1, a2, a3⟩ := R.st (r.length - 1) (by omega)
  obtain ⟨x', y', b1, b2, b3⟩ := S.st (r.length - 1) (by omega)
  have e := rg_step R S h0 (r.length - 1) (by omega) (by omega)
  rw [a1, b1] at e
  cases e
  rw [show r.length - 1 + 1 = r.length by omega, Nat.mod_self] at a2
  rw [show r.length - 1 + 1 = r.length by omega, Nat.mod_eq_of_lt hl] at b2
  have : y = y' := Option.some.inj (a3.symm.trans b3)
  subst this
  rw [h0] at a2
  have := nd_ix S.nd a2 b2
  omega
theorem rg_eq {h r s : List Nat} (R : Rg h r) (S : Rg h s) (h0 : r[0]? = s[0]?) : r = s := by
  have l : r.length = s.length := Nat.le_antisymm (rg_len S R h0.symm) (rg_len R S h0)
  refine List.ext_getElem? fun i => ?_
  by_cases hi : i < r.length
  · exact rg_step R S h0 i hi (by omega)
  · rw [List.getElem?_eq_none (by omega), List.getElem?_eq_none (by omega)]
theorem Rings.uniq {h : List Nat} {rs ss : List (List Nat)} (R : Rings h rs) (S : Rings h ss) : rs = ss := by
  obtain ⟨f, hf⟩ := R.walks
  have a := R.lead hf
  have b := S.lead (f := f) fun g hg => by
    obtain ⟨r, hr, k, hk, e⟩ := hf g hg
    obtain ⟨_, s, hs, j, hj, _⟩ := S.turn hg
    refine ⟨s, hs, j, hj, ?_⟩
    have kl := (List.getElem?_eq_some_iff.mp hk).1
    have jl := (List.getElem?_eq_some_iff.mp hj).1
    rw [e]
    refine rg_eq ((R.rg r hr).rot kl) ((S.rg s hs).rot jl) ?_
    rw [rot_get kl (by omega), rot_get jl (by omega), Nat.zero_add, Nat.zero_add, Nat.mod_eq_of_lt kl, Nat.mod_eq_of_lt jl, hk, hj]
  rw [← a, b]
/-! ### tables by their size -/
abbrev Gr := List (Nat × List (List Nat))
def addG : Gr → List Nat → Gr
  | [], r => [(r.length, [r])]
  | g :: G, r => if g.1 = r.length then (g.1, g.2 ++ [r]) :: G else g :: addG G r
def grp (rs : List (List Nat)) : Gr := rs.foldl addG []
theorem grp_next {rs : List (List Nat)} {i : Nat} {r : List Nat} (h : rs[i]? = some r) : grp (rs.take (i + 1)) = addG (grp (rs.take i)) r := by
  unfold grp
  rw [take_next h, List.foldl_append]
  rfl
theorem add_keys (r : List Nat) : ∀ G : Gr, (addG G r).map (·.1) = if r.length ∈ G.map (·.1) then G.map (·.1) else G.map (·.1) ++ [r.length]
  | [] => rfl
  | g :: G => by
    rw [addG]
    by_cases h : g.1 = r.length
    · rw [if_pos h, if_pos (by simp [h])]
      rfl
    · rw [if_neg h, List.map_cons, add_keys r G, List.map_cons]
      by_cases z : r.length ∈ G.map (·.1)
      · rw [if_pos z, if_pos (List.mem_cons_of_mem _ z)]
      · rw [if_neg z, if_neg (fun w => by
          rcases List.mem_cons.mp w with q | q
          · exact h q.symm
          · exact z q)]
        rfl
theorem add_perm (r : List Nat) : ∀ G : Gr, ((addG G r).map (·.2)).flatten.Perm ((G.map (·.2)).flatten ++ [r])
  | [] => List.Perm.refl _
  | g :: G => by
    rw [addG]
    split
    · rw [List.map_cons, List.map_cons, List.flatten_cons, List.flatten_cons, List.append_assoc, List.append_assoc]
      exact List.Perm.append_left _ List.perm_append_comm
    · rw [List.map_cons, List.map_cons, List.flatten_cons, List.flatten_cons, List.append_assoc]
      exact List.Perm.append_left _ (add_perm r G)
/-- what is so of the groups -/
structure GOk (G : Gr) : Prop where
  nd : (G.map (·.1)).Nodup
  ne : ∀ g ∈ G, g.2 ≠ []
  sz : ∀ g ∈ G, ∀ r ∈ g.2, r.length = g.1
theorem add_ok (r : List Nat) {G : Gr} (h : GOk G) : GOk (addG G r) := by
  refine ⟨?_, ?_, ?_⟩
  · rw [add_keys]
    split
    · exact h.nd
    · rename_i n
      exact List.nodup_append.mpr ⟨h.nd, by simp, fun a ha b hb => by
        rw [List.mem_singleton.mp hb]
        intro z
        exact n (z ▸ ha)⟩
  · have : ∀ G : Gr, (∀ g ∈ G, g.2 ≠ []) → ∀ g ∈ addG G r, g.2 ≠ [] := by
      intro G
      induction G with
      | nil =>
        intro _ g hg
        rw [addG, List.mem_singleton] at hg
        subst hg
        simp
      | cons g0 G ih =>
        intro h g hg
        rw [addG] at hg
        split at hg
        · rcases List.mem_cons.mp hg with z | z
          · subst z
            simp
          · exact h g (List.mem_cons_of_mem _ z)
        · rcases List.mem_cons.mp hg with z | z
          · subst z
            exact h g List.mem_cons_self
          · exact ih (fun g hg => h g (List.mem_cons_of_mem _ hg)) g z
    exact this G h.ne
  · have : ∀ G : Gr, (∀ g ∈ G, ∀ s ∈ g.2, s.length = g.1) → ∀ g ∈ addG G r, ∀ s ∈ g.2, s.length = g.1 := by
      intro G
      induction G with
      | nil =>
        intro _ g hg s hs
        rw [addG, List.mem_singleton] at hg
        subst hg
        rw [List.mem_singleton.mp hs]
      | cons g0 G ih =>
        intro h g hg s hs
        rw [addG] at hg
        split at hg
        · rename_i e
          rcases List.mem_cons.mp hg with z | z
          · subst z
            rcases List.mem_append.mp hs with q | q
            · exact h g0 List.mem_cons_self s q
            · rw [List.mem_singleton.mp q]
              exact e.symm
          · exact h g (List.mem_cons_of_mem _ z) s hs
        · rcases List.mem_cons.mp hg with z | z
          · subst z
            exact h g List.mem_cons_self s hs
          · exact ih (fun g hg => h g (List.mem_cons_of_mem _ hg)) g z s hs
    exact this G h.sz
theorem grp_ok (rs : List (List Nat)) : GOk (grp rs) := by
  have key : ∀ (rs : List (List Nat)) (G : Gr), GOk G → GOk (rs.foldl addG G) := by
    intro rs
    induction rs with
    | nil => intro G h; exact h
    | cons r rs ih => intro G h; exact ih _ (add_ok r h)
  exact key rs [] ⟨by simp, by simp, by simp⟩
theorem grp_perm (rs : List (List Nat)) : ((grp rs).map (·.2)).flatten.Perm rs := by
  have key : ∀ (rs : List (List Nat)) (G : Gr), ((rs.foldl addG G).map (·.2)).flatten.Perm ((G.map (·.2)).flatten ++ rs) := by
    intro rs
    induction rs with
    | nil => intro G; rw [List.append_nil]; exact List.Perm.refl _
    | cons r rs ih =>
      intro G
      refine (ih _).trans ?_
      have := (add_perm r G).append_right rs
      rw [List.append_assoc] at this
      exact this
  exact key rs []
theorem grp_mem {rs : List (List Nat)} {g : Nat × List (List Nat)} (hg : g ∈ grp rs) {r : List Nat} (hr : r ∈ g.2) : r ∈ rs := (grp_perm rs).mem_iff.mp (List.mem_flatten.mpr ⟨g.2, List.mem_map.mpr ⟨g, hg, rfl⟩, hr⟩)
theorem grp_many {rs : List (List Nat)} {g : Nat × List (List Nat)} (hg : g ∈ grp rs) : g.2.length ≤ rs.length := by
  rw [← (grp_perm rs).length_eq]
  exact (List.sublist_flatten_of_mem (List.mem_map.mpr ⟨g, hg, rfl⟩)).length_le
theorem grp_lens (rs : List (List Nat)) : (grp rs).length ≤ rs.length := by
  have key : ∀ (rs : List (List Nat)) (G : Gr), (rs.foldl addG G).length ≤ G.length + rs.length := by
    intro rs
    induction rs with
    | nil => intro G; simp
    | cons r rs ih =>
      intro G
      have a := ih (addG G r)
      have b : (addG G r).length ≤ G.length + 1 := by
        have e := congrArg List.length (add_keys r G)
        rw [List.length_map] at e
        rw [e]
        split <;> simp
      rw [List.foldl_cons, List.length_cons]
      omega
  have := key rs []
  rw [List.length_nil, Nat.zero_add] at this
  exact this
def encG (G : Gr) (bs : List Addr) : List (Key × V) := List.zipWith (fun g b => ((Sum.inl (g.1 : Int) : Key), V.ref b)) G bs
theorem key_eq {x y : Nat} : (Sum.inl (x : Int) : Key) = .inl (y : Int) ↔ x = y := ⟨fun h => by have := Sum.inl.inj h; omega, fun h => by rw [h]⟩
theorem add_cases (r : List Nat) : ∀ (G : Gr) (bs : List Addr), bs.length = G.length → (∃ i g b, G[i]? = some g ∧ bs[i]? = some b ∧ g.1 = r.length ∧ valV (encG G bs) (.inl (r.length : Int)) = some (.ref b) ∧ addG G r = G.set i (g.1, g.2 ++ [r])) ∨
    (valV (encG G bs) (.inl (r.length : Int)) = none ∧ (∀ g ∈ G, g.1 ≠ r.length) ∧ addG G r = G ++ [(r.length, [r])])
  | [], [], _ => .inr ⟨rfl, by simp, rfl⟩
  | g :: G, b :: bs, hl => by
    by_cases h : g.1 = r.length
    · refine .inl ⟨0, g, b, rfl, rfl, h, ?_, ?_⟩
      · exact valV_pos (key_eq.mpr h)
      · rw [addG, if_pos h]
        rfl
    · have nk : ¬ (Sum.inl (g.1 : Int) : Key) = .inl (r.length : Int) := fun z => h (key_eq.mp z)
      rcases add_cases r G bs (by simpa using hl) with ⟨i, g', b', h1, h2, h3, h4, h5⟩ | ⟨h1, h2, h3⟩
      · refine .inl ⟨i + 1, g', b', by simpa using h1, by simpa using h2, h3, ?_, ?_⟩
        · exact (valV_neg nk).trans h4
        · rw [addG, if_neg h, h5]
          rfl
      · refine .inr ⟨(valV_neg nk).trans h1, fun x hx => ?_, ?_⟩
        · rcases List.mem_cons.mp hx with z | z
          · rw [z]
            exact h
          · exact h2 x z
        · rw [addG, if_neg h, h3]
          rfl
theorem encG_keys : ∀ (G : Gr) (bs : List Addr) (kv : Key × V), kv ∈ encG G bs → ∃ g ∈ G, kv.1 = .inl (g.1 : Int)
  | [], _, _, h => by simp [encG] at h
  | g :: G, [], _, h => by simp [encG] at h
  | g :: G, b :: bs, kv, h => by
    rcases List.mem_cons.mp (show kv ∈ ((Sum.inl (g.1 : Int) : Key), V.ref b) :: encG G bs from h) with z | z
    · exact ⟨g, List.mem_cons_self, by rw [z]⟩
    · obtain ⟨g', h1, h2⟩ := encG_keys G bs kv z
      exact ⟨g', List.mem_cons_of_mem _ h1, h2⟩
theorem encG_new {G : Gr} {bs : List Addr} {n : Nat} {v : V} (h : ∀ g ∈ G, g.1 ≠ n) : putK (encG G bs) (.inl (n : Int)) v = encG G bs ++ [(.inl (n : Int), v)] := by
  unfold putK
  rw [if_neg]
  intro z
  obtain ⟨kv, h1, h2⟩ := List.any_eq_true.mp z
  obtain ⟨g, hg, e⟩ := encG_keys G bs kv h1
  have := of_decide_eq_true h2
  rw [e] at this
  exact h g hg (key_eq.mp this)
theorem encG_app {G : Gr} {bs : List Addr} {g : Nat × List (List Nat)} {b : Addr} (h : bs.length = G.length) : encG (G ++ [g]) (bs ++ [b]) = encG G bs ++ [(.inl (g.1 : Int), .ref b)] := by
  unfold encG
  rw [List.zipWith_append h.symm]
  rfl
theorem encG_set : ∀ {G : Gr} {bs : List Addr} {i : Nat} {g : Nat × List (List Nat)} {l : List (List Nat)}, G[i]? = some g → encG (G.set i (g.1, l)) bs = encG G bs
  | [], _, _, _, _, h => by simp at h
  | g :: G, [], 0, _, _, h => rfl
  | g :: G, [], _ + 1, _, _, h => rfl
  | g :: G, b :: bs, 0, g', l, h => by
    have : g = g' := by simpa using h
    subst this
    rfl
  | g :: G, b :: bs, i + 1, g', l, h => by
    have := encG_set (G := G) (bs := bs) (i := i) (g := g') (l := l) (by simpa using h)
    show ((Sum.inl (g.1 : Int) : Key), V.ref b) :: encG (G.set i (g'.1, l)) bs = ((Sum.inl (g.1 : Int) : Key), V.ref b) :: encG G bs
    rw [this]
theorem encG_len {G : Gr} {bs : List Addr} (h : bs.length = G.length) : (encG G bs).length = G.length := by
  unfold encG
  rw [List.length_zipWith]
  omega
theorem encG_get {G : Gr} {bs : List Addr} {i : Nat} {kv : Key × V} (h : (encG G bs)[i]? = some kv) : ∃ g b, G[i]? = some g ∧ bs[i]? = some b ∧ kv = (.inl (g.1 : Int), .ref b) := by
  unfold encG at h
  rw [List.getElem?_zipWith] at h
  cases h1 : G[i]? with
  | none => rw [h1] at h; simp at h
  | some g =>
    cases h2 : bs[i]? with
    | none => rw [h1, h2] at h; simp at h
    | some b =>
      rw [h1, h2] at h
      exact ⟨g, b, rfl, rfl, (Option.some.inj h).symm⟩
theorem encG_val : ∀ {G : Gr} {bs : List Addr} {i : Nat} {g : Nat × List (List Nat)} {b : Addr}, (G.map (·.1)).Nodup → G[i]? = some g → bs[i]? = some b → valV (encG G bs) (.inl (g.1 : Int)) = some (.ref b)
  | [], _, _, _, _, _, h, _ => by simp at h
  | _ :: _, [], _, _, _, _, _, h => by simp at h
  | g :: G, b :: bs, 0, g', b', nd, h1, h2 => by
    have e1 : g = g' := by simpa using h1
    have e2 : b = b' := by simpa using h2
    subst e1 e2
    exact valV_pos rfl
  | g :: G, b :: bs, i + 1, g', b', nd, h1, h2 => by
    rw [List.map_cons, List.nodup_cons] at nd
    have h1 : G[i]? = some g' := by simpa using h1
    refine (valV_neg (fun z => nd.1 ?_)).trans (encG_val (i := i) nd.2 h1 (by simpa using h2))
    rw [key_eq.mp z]
    exact List.mem_map.mpr ⟨g', List.mem_of_getElem? h1, rfl⟩
structure Grp (H : Hp) (d : Addr) (G : Gr) (bs : List Addr) : Prop where
  nd : bs.Nodup
  len : bs.length = G.length
  dict : H d = some (.dK (encG G bs))
  rows : ∀ (i : Nat) (g : Nat × List (List Nat)) (b : Addr), G[i]? = some g → bs[i]? = some b → ∃ ws, H b = some (.lst ws) ∧ TL H ws (g.2.map nv)
def sp_tbs : Sp := fun vs H Q _ => ∃ (a : Addr) (h : List Nat), vs = [.ref a] ∧ H a = some (.lst (nv h)) ∧ Ord h ∧ ∀ rs d bs H', Rings h rs → rs.length ≤ h.length → H d = none → Ex H H' → (∀ b ∈ bs, H b = none) → Grp H' d (grp rs) bs → Q (.ref d) H'
/-- d.setdefault(n, []).append(e) -/
theorem s_setd {K : PySem.W.Frag} {σ : L2.St} {H : Hp} {td ty te : TE} {D : Ends} {d : Addr} {kvs : List (Key × V)} {n : Int} (h1 : Ev td σ H (.ref d)) (h2 : Ev ty σ H (.int n)) (hd : H d = some (.dK kvs)) (hz : kvs.length ≤ 1000)
    (k1 : ∀ x l H1, H l = none → Ex H H1 → H1 l = some (.lst []) → valV kvs (.inl n) = some x → tDrop (tBM K "list" rAppend (tC x) (tCons te tNil)) D σ H1)
    (k2 : ∀ l H1, H l = none → Ex H H1 → H1 l = some (.lst []) → valV kvs (.inl n) = none → tDrop (tBM K "list" rAppend (tC (.ref l)) (tCons te tNil)) D σ (upd H1 d (.dK (putK kvs (.inl n) (.ref l))))) :
    tDrop (tBM K "list" rAppend (tDSetd td ty (tLst tNil)) (tCons te tNil)) D σ H :=
  h1 H (Ex.refl H) _ fun H4 e4 => ⟨d, rfl, .inl ⟨_, .inl (e4 d _ hd)⟩, h2 H4 e4 _ fun H5 e5 => (el_lst (σ := σ) (H := H5) ea_nil (Nat.le_of_ble_eq_true rfl)) H5 (Ex.refl _) _ fun l H6 nl e6 hl =>
    ⟨kvs, .inl n, (e4.trans (e5.trans e6)) d _ hd, rfl, sz_lt (by omega), fun x hx => k1 x l H6 (fresh_back (e4.trans e5) nl) (e4.trans (e5.trans e6)) hl hx, fun hx => k2 l H6 (fresh_back (e4.trans e5) nl) (e4.trans (e5.trans e6)) hl hx⟩⟩
section
variable {P : Program} {w : World} {K : PySem.W.Frag} {mg : Str → Option Value} {base : Heap}
theorem ok_tables_by_size (T : Tx K mg) : FnOk P w K mg base CX0 6 T.f_tables_by_size T.d_tables_by_size ["seating"] sp_tbs := by
  refine T.F_tables_by_size.ok sc_tables_by_size (fun vs H Q E h => ?_) (fun cdv A outer s0 H vs Q E hr h => ?_)
  · obtain ⟨a, h, rfl, _⟩ := h
    rfl
  · obtain ⟨a, h, rfl, ha, oh, k⟩ := h
    refine ⟨_, (pss_cons (ps_set (i := 1) sc_tables_by_size.nd rfl (Or.inl rfl) pe_dnewK)
      (pss_cons (ps_for PassesOwn.never rfl (pi_list (pe_call (ok_tables_of T) (hr.mono (by decide)) (by rfl) T.g_tables_of T.F_tables_of.kp T.b_tables_of .nil Kit.passE0 (pa_cons (pv 0) pa_nil))) (pg_name (i := 2) sc_tables_by_size.nd rfl (Or.inl rfl)) (pss_one (ps_expr (pe_bm PySem.F.plainAttrs_list PySem.F.slot_list_append PySem.F.type_list_append mt_append (pe_dsetd (pv 1) (pe_callB call_lenR (by rfl) T.m_len (by decide +kernel) (pa_cons (pv 2) pa_nil)) (pe_lst pa_nil) ⟨by rfl, by rfl, by rfl, by rfl⟩) (pa_cons (pv 2) pa_nil)))))
      (pss_one (ps_ret (pv 1))))), ?_⟩
    have o2 := oh.2
    refine q_dnewI fun d H1 nd e1 hd => ?_
    refine q_forTabs (ev_var rfl) (e1 a _ ha) oh fun rs q ws H2 R rl nq e2 hq tq => ?_
    have wl := tq.len
    rw [List.length_map] at wl
    have hd2 := e2 d _ hd
    refine q_forL (K := K) (a := q) (xs := ws) ev_c (sq_of hq) (fun i σ' H' => ∃ (bs : List Addr) (y2 : Option V), σ' = [some (.ref a), some (.ref d), y2] ∧ Ex H H' ∧ H' q = some (.lst ws) ∧ TL H' ws (rs.map nv) ∧ (∀ b ∈ bs, H b = none) ∧ (∀ b ∈ bs, b ≠ q) ∧ Grp H' d (grp (rs.take i)) bs) (fun H3 e3 => ⟨[], _, rfl, e1.trans (e2.trans e3), e3 q _ hq, tq.ex e3, by simp, by simp, by simp, rfl, e3 d _ hd2, fun i g b h => by simp [grp] at h⟩) (fun i σ' H' _ ⟨_, _, _, _, z, _⟩ => sq_of z) ?_ ?_
    · rintro i v σ' H3 hv ⟨bs, y2, rfl, e3, hq3, tq3, fr, nq3, Gp⟩
      obtain ⟨y, hy, t, rfl, ht⟩ := paired_get tq3 hv
      rw [List.getElem?_map] at hy
      obtain ⟨r, hr, rfl⟩ := Option.map_eq_some_iff.mp hy
      rw [grp_next hr]
      obtain ⟨G, eG⟩ : ∃ G, G = grp (rs.take i) := ⟨_, rfl⟩
      rw [← eG] at Gp ⊢
      have gl : G.length ≤ 20 := by
        have := grp_lens (rs.take i)
        rw [← eG, List.length_take] at this
        omega
      refine s_setd (K := K) (d := d) (kvs := encG G bs) (n := (r.length : Int)) (ev_var rfl) (ev_is (ev_lenT (K := K) (ev_var (i := 2) (v := .ref t) rfl) (st_of ht)) (by rw [nv_len])) Gp.dict (by rw [encG_len Gp.len]; omega) (fun v l H6 nl e36 hl hv => ?_) fun l H6 nl e36 hl hn => ?_
      · rcases add_cases r G bs Gp.len with ⟨j, g, b, h1, h2, h3, h4, h5⟩ | ⟨h1, _⟩
        · rw [h4] at hv
          cases hv
          obtain ⟨us, hb, tb⟩ := Gp.rows j g b h1 h2
          have bm := List.mem_of_getElem? h2
          have hb6 := e36 b _ hb
          have ul := tb.len
          rw [List.length_map] at ul
          have gm := grp_many (rs := rs.take i) (by rw [← eG]; exact List.mem_of_getElem? h1)
          rw [List.length_take] at gm
          have gl2 : us.length < 100000 := by omega
          have bd : b ≠ d := fun z => by
            rw [z, Gp.dict] at hb
            cases hb
          refine s_app (K := K) (ta := tC (.ref b)) (te := tVar 2) (xs := us) (v := .ref t) hb6 ev_c (ev_var rfl) gl2 fun H7 e7 => ⟨bs, _, rfl, Ex.mut (e3.trans (e36.trans e7)) (fr b bm), ?_, TL.mut (e7 b _ hb6) (tq3.ex (e36.trans e7)), fr, nq3, Gp.nd, ?_, ?_, fun j2 g2 b2 q1 q2 => ?_⟩
          · rw [upd_ne (Ne.symm (nq3 b bm))]
            exact (e36.trans e7) q _ hq3
          · rw [h5, List.length_set]
            exact Gp.len
          · rw [upd_ne (Ne.symm bd), h5, encG_set h1]
            exact (e36.trans e7) d _ Gp.dict
          · rw [h5] at q1
            by_cases ej : j = j2
            · subst ej
              rw [h2] at q2
              cases q2
              rw [List.getElem?_set_self (List.getElem?_eq_some_iff.mp h1).1] at q1
              cases q1
              refine ⟨us ++ [.ref t], upd_same, ?_⟩
              rw [List.map_append]
              exact TL.mut (e7 b _ hb6) (TL.app ⟨t, rfl, (e36.trans e7) t _ ht⟩ (tb.ex (e36.trans e7)))
            · rw [List.getElem?_set_ne ej] at q1
              obtain ⟨us2, hb2, tb2⟩ := Gp.rows j2 g2 b2 q1 q2
              have nb : b2 ≠ b := fun z => ej (by
                subst z
                exact nd_ix Gp.nd h2 q2)
              exact ⟨us2, by rw [upd_ne nb]; exact (e36.trans e7) b2 _ hb2, TL.mut (e7 b _ hb6) (tb2.ex (e36.trans e7))⟩
        · rw [h1] at hv
          cases hv
      · rcases add_cases r G bs Gp.len with ⟨j, g, b, _, _, _, h4, _⟩ | ⟨_, h2, h3⟩
        · rw [h4] at hn
          cases hn
        · have nlH : H l = none := fresh_back e3 nl
          have ld : l ≠ d := fun z => by
            rw [z, Gp.dict] at nl
            cases nl
          have lq : l ≠ q := fun z => by
            rw [z, hq3] at nl
            cases nl
          have ndH : H d = none := nd
          have exd : Ex H (upd H6 d (.dK (putK (encG G bs) (.inl (r.length : Int)) (.ref l)))) := Ex.mut (e3.trans e36) ndH
          have hl7 : (upd H6 d (.dK (putK (encG G bs) (.inl (r.length : Int)) (.ref l)))) l = some (.lst []) := by rw [upd_ne ld]; exact hl
          have kd : ∀ {b : Addr} {o : HO}, b ≠ d → H3 b = some o → (upd H6 d (.dK (putK (encG G bs) (.inl (r.length : Int)) (.ref l)))) b = some o := fun hb ho => by rw [upd_ne hb]; exact e36 _ _ ho
          refine s_app (K := K) (ta := tC (.ref l)) (te := tVar 2) (xs := []) (v := .ref t) hl7 ev_c (ev_var rfl) (by decide) fun H8 e8 => ?_
          have nbl : ∀ b ∈ bs, b ≠ l := fun b hb z => by
            obtain ⟨j, hj⟩ := List.mem_iff_getElem?.mp hb
            obtain ⟨us, hu, _⟩ := Gp.rows j (G.getD j (0, [])) b (by
              rw [List.getD_eq_getElem?_getD, List.getElem?_eq_getElem (by have := (List.getElem?_eq_some_iff.mp hj).1; have := Gp.len; omega)]
              rfl) hj
            rw [z] at hu
            rw [hu] at nl
            cases nl
          have td : t ≠ d := fun z => by
            rw [z, Gp.dict] at ht
            cases ht
          have tr : ∀ {us : List V} {ss : List (List V)}, TL H3 us ss → TL (upd H8 l (.lst ([] ++ [V.ref t]))) us ss := fun tt => TL.mut (e8 l _ hl7) ((TL.mutD (e36 d _ Gp.dict) (tt.ex e36)).ex e8)
          refine ⟨bs ++ [l], _, rfl, Ex.mut (exd.trans e8) nlH, ?_, tr tq3, fun b hb => ?_, fun b hb => ?_, ?_, ?_, ?_, fun j2 g2 b2 q1 q2 => ?_⟩
          · rw [upd_ne (Ne.symm lq)]
            exact e8 q _ (kd (fun z => by rw [z, Gp.dict] at hq3; cases hq3) hq3)
          · rcases List.mem_append.mp hb with z | z
            · exact fr b z
            · rw [List.mem_singleton.mp z]
              exact nlH
          · rcases List.mem_append.mp hb with z | z
            · exact nq3 b z
            · rw [List.mem_singleton.mp z]
              exact lq
          · exact List.nodup_append.mpr ⟨Gp.nd, by simp, fun x hx y hy => by
              rw [List.mem_singleton.mp hy]
              exact nbl x hx⟩
          · rw [h3, List.length_append, List.length_append, Gp.len]
            rfl
          · rw [upd_ne (Ne.symm ld), h3, encG_app Gp.len]
            have := e8 d _ upd_same
            rw [encG_new h2] at this
            exact this
          · rw [h3] at q1
            by_cases hj : j2 < G.length
            · rw [List.getElem?_append_left hj] at q1
              rw [List.getElem?_append_left (by rw [Gp.len]; exact hj)] at q2
              obtain ⟨us2, hb2, tb2⟩ := Gp.rows j2 g2 b2 q1 q2
              refine ⟨us2, ?_, tr tb2⟩
              rw [upd_ne (nbl b2 (List.mem_of_getElem? q2))]
              exact e8 b2 _ (kd (fun z => by rw [z, Gp.dict] at hb2; cases hb2) hb2)
            · rw [List.getElem?_append_right (by omega)] at q1
              rw [List.getElem?_append_right (by rw [Gp.len]; omega)] at q2
              have j0 : j2 - G.length = 0 := by
                have := (List.getElem?_eq_some_iff.mp q1).1
                simp at this
                omega
              rw [j0] at q1
              rw [Gp.len, j0] at q2
              cases q1
              cases q2
              exact ⟨[.ref t], upd_same, .cons ⟨t, rfl, by
                rw [upd_ne (fun z => by
                  have := e8 t _ (kd td ht)
                  rw [z, e8 l _ hl7] at this
                  cases this)]
                exact e8 t _ (kd td ht)⟩ .nil⟩
    · rintro σ' H3 ⟨bs, y2, rfl, e3, hq3, tq3, fr, nq3, Gp⟩
      rw [wl, List.take_length] at Gp
      exact s_ret (ev_var rfl) fun H4 e4 => k rs d bs H4 R rl nd (e3.trans e4) fr ⟨Gp.nd, Gp.len, e4 d _ Gp.dict, fun i g b h1 h2 => by
        obtain ⟨us, hb, tb⟩ := Gp.rows i g b h1 h2
        exact ⟨us, e4 b _ hb, tb.ex e4⟩⟩
end


local macro_rules | `(tactic| walk_at "call") => `(tactic| (with_reducible exact sv_whole))

/-! ### sizes without a root; how many roots -/
theorem given_list {α : Type} (G : List α) (d : α) (F : α → Bool) (W : α → V) : given G.length (fun n => F (G.getD n d)) (fun n => W (G.getD n d)) = (G.filter F).map W := by
  unfold given
  conv => rhs; rw [range_get G d]
  rw [List.filter_map, List.map_map]
  rfl
def noRoot (G : Gr) (z : Nat) : List Nat := (G.filter fun g => decide (wrN g.1 g.2.length z = 0)).map (·.1)
theorem grp_size {h : List Nat} {rs : List (List Nat)} (R : Rings h rs) (o : Ord h) {g : Nat × List (List Nat)} (hg : g ∈ grp rs) : 1 ≤ g.1 ∧ g.1 ≤ 20 := by
  have ne := (grp_ok rs).ne g hg
  obtain ⟨r, hr⟩ := List.exists_mem_of_ne_nil _ ne
  have e := (grp_ok rs).sz g hg r hr
  have hrs := grp_mem hg hr
  have a := R.short hrs
  have b := (R.rg r hrs).ne
  have o2 := o.2
  omega
theorem noRoot_le {h : List Nat} {rs : List (List Nat)} (R : Rings h rs) (o : Ord h) (z : Nat) : ∀ x ∈ noRoot (grp rs) z, x ≤ 20 := fun x hx => by
  obtain ⟨g, hg, rfl⟩ := List.mem_map.mp hx
  exact (grp_size R o (List.mem_filter.mp hg).1).2
section
variable {K : PySem.W.Frag} {σ : L2.St} {H : Hp} {ta tb td te : TE} {tr : TA} {D : Ends} {tu tz : TS} {sp : Sp} {vs dvs : List V} {E : XK}
theorem ev_dgetF {a : Addr} {o : Obj} {kvs : List (Key × V)} {x : Int} {v : V} (h : Ev ta σ H (.ref a)) (hx : Ev tb σ H (.int x)) (ha : H a = some (.frz o (.dK kvs))) (hv : valV kvs (.inl x) = some v) : Ev (tDGet ta tb) σ H v := fun H1 e Q q =>
  h H1 e _ fun H2 e2 => hx H2 (e.trans e2) _ fun H3 e3 => ⟨a, v, rfl, .inl ⟨kvs, .inl x, .inr ⟨o, e3 a _ (e2 a _ (e a _ ha))⟩, rfl, hv.symm⟩, q H3 (e2.trans e3)⟩
theorem q_forItCall {g : TG} (ha : EvA tr σ H vs) (k : ∀ H1, Ex H H1 → sp (vs ++ dvs) H1 (fun x H2 => tSeq (tFor (iItems (tFrz (tC x))) g tu) tz D σ H2) E) : tSeq (tFor (iItems (tFrz (tCall sp dvs E tr))) g tu) tz D σ H := ha H (Ex.refl H) _ fun H1 e1 => k H1 e1
theorem ev_minV {l : Addr} {x : Nat} {r : List Nat} (h : Ev ta σ H (.ref l)) (hl : H l = some (.lst (nv (x :: r)))) : Ev (tCB (rMin K) (tCons ta tNil)) σ H (.int ((iz r).foldl min (x : Int))) := fun H1 e Q q => h H1 e _ fun H2 e2 =>
  ⟨l, iz (x :: r), rfl, sq_of ((e.trans e2) l _ hl), by simp [iz], fun k hk hle => by
    obtain ⟨h1, h2⟩ := foldl_min_spec (iz r) (x : Int)
    have a := hle _ h1
    have b := h2 k hk
    have : k = (iz r).foldl min (x : Int) := by omega
    rw [this]
    exact q H2 e2⟩
end
/-- errors of a seating and a number -/
def Chk2 {K : PySem.W.Frag} {mg : Str → Option Value} (T : Tx K mg) (o : Option (List PyData)) (z : Int) (H : Hp) (E : XK) : Prop := (judge o = false → ∀ H1, Ex H H1 → E (.ref T.cl_InvalidSeating) none H1) ∧ (judge o = true → ¬ (1 ≤ z ∧ z ≤ 1000000) → ∀ H1, Ex H H1 → E (.ref T.cl_InvalidNumber) none H1)
def sp_swr : Sp := fun vs H Q _ => ∃ (a : Addr) (h : List Nat) (z : Nat), vs = [.ref a, .int (z : Int)] ∧ H a = some (.lst (nv h)) ∧ Ord h ∧ ∀ rs p H', Rings h rs → H p = none → Ex H H' → H' p = some (.lst (nv (noRoot (grp rs) z))) → Q (.ref p) H'
def sp_count {K : PySem.W.Frag} {mg : Str → Option Value} (T : Tx K mg) : Sp := fun vs H Q E => ∃ (v : V) (o : Option (List PyData)) (z : Int), vs = [v, .int z] ∧ Bd K H v o ∧ Chk2 T o z H E ∧ (judge o = true → 1 ≤ z ∧ z ≤ 1000000 → ∀ (i : Int) H1, Ex H H1 → Q (.int i) H1)
def sp_paper {K : PySem.W.Frag} {mg : Str → Option Value} (T : Tx K mg) : Sp := fun vs H Q E => ∃ (v : V) (o : Option (List PyData)) (z : Int), vs = [v, .int z] ∧ Bd K H v o ∧ Chk2 T o z H E ∧ (∀ (a : Addr) (h : List Nat) (rs : List (List Nat)) (n : Nat), z = (n : Int) → 1 ≤ n → n ≤ 1000000 → judge o = true → v = .ref a → H a = some (.lst (nv h)) → Ord h → Rings h rs →
  (noRoot (grp rs) n = [] → RetV .non H Q) ∧ (noRoot (grp rs) n ≠ [] → ∀ (i : Int) H1, Ex H H1 → Q (.int i) H1))
def sp_shroot {K : PySem.W.Frag} {mg : Str → Option Value} (T : Tx K mg) : Sp := fun vs H Q E => ∃ (v : V) (o : Option (List PyData)) (z : Int) (t : V) (o2 : Option (List PyData)), vs = [v, .int z, t] ∧ Bd K H v o ∧ Chk2 T o z H E ∧ (judge o = true → 1 ≤ z ∧ z ≤ 1000000 → Bd K H t o2 ∧ (judge o2 = false → RetV (.bl false) H Q) ∧ (judge o2 = true → ∀ (b : Bool) H1, (∀ a c, v = .ref a → t = .ref c → H a = some (.lst (nv [0])) → H c = some (.lst (nv [0])) → b = true) → Ex H H1 → Q (.bl b) H1))
def sp_shpaper {K : PySem.W.Frag} {mg : Str → Option Value} (T : Tx K mg) : Sp := fun vs H Q E => ∃ (v : V) (o : Option (List PyData)) (z : Int) (t : V), vs = [v, .int z, t] ∧ Bd K H v o ∧ Chk2 T o z H E ∧ (∀ (a : Addr) (h : List Nat) (rs : List (List Nat)) (n : Nat), z = (n : Int) → 1 ≤ n → n ≤ 1000000 → judge o = true → v = .ref a → H a = some (.lst (nv h)) → Ord h → Rings h rs →
  ∃ d : PyData, (Iv H t d ∨ (Od K H t ∧ isI d = false)) ∧ (isI d = false → RetV (.bl false) H Q) ∧ (∀ i : Int, d = .int i → RetV (.bl (inV (.int i) (nv (noRoot (grp rs) n)))) H Q))
theorem sl_swr {H : Hp} {a : Addr} {h : List Nat} {rs : List (List Nat)} {n : Nat} (ha : H a = some (.lst (nv h))) (o : Ord h) (R : Rings h rs) : SpL sp_swr ([.ref a, .int (n : Int)] ++ []) H (nv (noRoot (grp rs) n)) := fun H1 e Q q E => ⟨a, h, n, rfl, e a _ ha, o, fun rs' p H' R' np e' hp => q p H' np e' (by rw [R.uniq R']; exact hp)⟩
theorem dp_L {K : PySem.W.Frag} {H : Hp} {a : Addr} {r : List Nat} (h : H a = some (.lst (nv r))) : Dp K H (.ref a) (.list ((iz r).map PyData.int)) := .lst (sq_of h) (dpa_ints _)
section
variable {P : Program} {w : World} {K : PySem.W.Frag} {mg : Str → Option Value} {base : Heap}
theorem ok_sizes_without_root (T : Tx K mg) : FnOk P w K mg base CX0 7 T.f_sizes_without_root T.d_sizes_without_root ["seating", "number"] sp_swr := by
  refine T.F_sizes_without_root.ok sc_sizes_without_root (fun vs H Q E h => ?_) (fun cdv A outer s0 H vs Q E hr h => ?_)
  · obtain ⟨a, h, z, rfl, _⟩ := h
    rfl
  · obtain ⟨a, h, z, rfl, ha, oh, k⟩ := h
    refine ⟨_, (pss_cons (ps_set (i := 2) sc_sizes_without_root.nd rfl (Or.inr rfl) (pe_call (ok_tables_by_size T) (hr.mono (by decide)) (by rfl) T.g_tables_by_size T.F_tables_by_size.kp T.b_tables_by_size .nil pass0 (pa_cons (pv 0) pa_nil)))
      (pss_one (ps_ret (pe_lock (pe_lc (own := [("size", 3)]) (g := (gName 3)) rfl sc_sizes_without_root.nd (pi_keys (pv 2)) (blkOk_by (own := [("size", 3)]) (N := n_sizes_without_root) (sc := defScope s_sizes_without_root) (by decide +kernel)) (fun _ _ _ _ _ => (pg_name (i := 3) sc_sizes_without_root.nd rfl (Or.inl rfl))) (fun _ _ _ _ _ => (pts_one (pt_cmpR op_eq (pe_call (ok_ways_of_roots T) (hr.mono (by decide)) (by rfl) T.g_ways_of_roots T.F_ways_of_roots.kp T.b_ways_of_roots .nil pass0 (pa_cons (pv 3) (pa_cons (pe_callB (id := "len") (r := rLenS K) call_lenR (by rfl) T.m_len (by decide +kernel) (pa_cons (pe_dget (hu_of hr) (pv 2) (pv 3) (fun _ _ => rfl)) pa_nil)) (pa_cons (pv 1) pa_nil)))) pe_int (nomark _)))) (fun _ _ _ _ _ => (pv 3))))))), ?_⟩
    refine q_asgCall (vs := [.ref a]) (ea_cons (ev_var rfl) ea_nil) fun H1 e1 => ⟨a, h, rfl, e1 a _ ha, oh, fun rs d bs H2 R rl nd e2 fr Gp => ?_⟩
    refine s_retL (xs := nv (noRoot (grp rs) z)) ?_ fun p H3 np e3 hp => k rs p H3 R (fresh_back (e1.trans e2) np) ((e1.trans e2).trans e3) hp
    have o2 := oh.2
    have gl := encG_len Gp.len
    have gls := grp_lens rs
    have g := el_keysG (kvs := encG (grp rs) bs) (d := d) (j := 3) (vs := [3]) (te := tVar 3) (td := tVar 2) (σ := [some (.ref a), some (.int (z : Int)), some (.ref d), none]) (H := H2) (t := tTest (tOp rEq (tCall sp_ways [] E0 (tCons (tVar 3) (tCons (tCB (rLenS K) (tCons (tDGet (tVar 2) (tVar 3)) tNil)) (tCons (tVar 1) tNil)))) (tC (.int 0))))
      (fun n => decide (wrN ((grp rs).getD n (0, [])).1 ((grp rs).getD n (0, [])).2.length z = 0)) (fun n => V.int (((grp rs).getD n (0, [])).1 : Int)) (fun _ => ev_var rfl) Gp.dict (by omega) (fun _ => rfl) (fun o n ky b H3 hn e3 => ?_) (fun o n ky b H3 hn e3 _ => ?_)
    · rw [gl, given_list (grp rs) (0, []) (fun g => decide (wrN g.1 g.2.length z = 0)) (fun g => V.int (g.1 : Int))] at g
      have e : nv (noRoot (grp rs) z) = ((grp rs).filter fun g => decide (wrN g.1 g.2.length z = 0)).map (fun g => V.int (g.1 : Int)) := by
        unfold noRoot
        rw [nv_eq, List.map_map]
        rfl
      rw [e]
      exact g
    · obtain ⟨g, b', g1, g2, eq⟩ := encG_get hn
      cases eq
      have gd : (grp rs).getD n (0, []) = g := by rw [List.getD_eq_getElem?_getD, g1]; rfl
      rw [gd]
      obtain ⟨us, hb, tb⟩ := Gp.rows n g b' g1 g2
      have gm := List.mem_of_getElem? g1
      have s20 := grp_size R oh gm
      have m20 := grp_many gm
      have ul := tb.len
      rw [List.length_map] at ul
      have bd : b' ≠ d := fun z => by
        rw [z, Gp.dict] at hb
        cases hb
      have hb3 := e3 b' _ (by rw [upd_ne bd]; exact hb)
      refine et_is (et_test (ev_op (ev_call (ea_cons (ev_var rfl) (ea_cons (ev_is (ev_len (K := K) (ev_dgetF (ev_var rfl) (ev_var (v := .int (g.1 : Int)) rfl) (e3 d _ upd_same) (encG_val (grp_ok rs).nd g1 g2)) (sq_of hb3)) (congrArg V.int (show (us.length : Int) = (g.2.length : Int) by omega))) (ea_cons (ev_var rfl) ea_nil))) (sv_ways s20.2 (by omega))) ev_c (rv_eq rfl))) ?_
      refine decide_eq_decide.mpr ⟨fun h => V.int.inj h, fun h => by rw [h]⟩
    · obtain ⟨g, b', g1, g2, eq⟩ := encG_get hn
      cases eq
      have gd : (grp rs).getD n (0, []) = g := by rw [List.getD_eq_getElem?_getD, g1]; rfl
      rw [gd]
      exact ev_var rfl
theorem op_call {r : R2} {sp : Sp} {E : XK} {ta : TA} {tb : TE} {σ : L2.St} {H : Hp} {Q : VK} {vs : List V} (ha : EvA ta σ H vs) (k : ∀ H1, Ex H H1 → sp (vs ++ []) H1 (fun x H2 => tb σ H2 fun y H3 => r x y H3 Q) E) : tOp r (tCall sp [] E ta) tb σ H Q := ha H (Ex.refl H) _ fun H1 e1 => k H1 e1
theorem ev_go {te : TE} {σ : L2.St} {H : Hp} {Q : VK} {v : V} (h : Ev te σ H v) (k : ∀ H1, Ex H H1 → Q v H1) : te σ H Q := h H (Ex.refl H) _ k
theorem ret_of {te : TE} {D : Ends} {σ : L2.St} {H : Hp} (h : te σ H D.rt) : tRet te D σ H := h
/-- both checks -/
theorem chk2 {T : Tx K mg} {σ : L2.St} {H : Hp} {D : Ends} {tz : TS} {E : XK} {v : V} {o : Option (List PyData)} {z : Int} {tm : TE} (h0 : ∀ H, Ev (tVar 0) σ H v) (h1 : ∀ H, Ev (tVar 1) σ H (.int z)) (hm : ∀ H, Ev tm σ H (.int 1000000)) (hv : Bd K H v o) (kE : Chk2 T o z H E)
    (k : ∀ (a : Addr) (h : List Nat) (n : Nat) H1, judge o = true → v = .ref a → H a = some (.lst (nv h)) → Ord h → z = (n : Int) → 1 ≤ n → n ≤ 1000000 → Ex H H1 → tz D σ H1) :
    tSeq (tDrop (tCall (sp_chkS K T.cl_InvalidSeating) [] E (tCons (tVar 0) tNil))) (tSeq (tDrop (tCall (sp_chkN T.cl_InvalidNumber) [] E (tCons (tVar 1) (tCons (tC (.int 1)) (tCons tm tNil))))) tz) D σ H := by
  refine q_chk (ea_cons (h0 _) ea_nil) (so_chkS hv) (fun hn H1 e1 => ?_) fun C hC H1 e1 => ?_
  rotate_left
  · obtain ⟨hm, rfl⟩ := due_yes hC
    exact kE.1 (by simpa using hm) _ e1
  have hj : judge o = true := due_no hn
  obtain ⟨a, h, rfl, ha, oh⟩ := judge_yes hv hj
  refine q_chk (ea_cons (h1 _) (ea_cons ev_c (ea_cons (hm _) ea_nil))) (so_chkN (by decide +kernel) (by decide +kernel)) (fun hn H2 e2 => ?_) fun C hC H2 e2 => ?_
  rotate_left
  · obtain ⟨hm, rfl⟩ := due_yes hC
    exact kE.2 hj hm _ (e1.trans e2)
  have hz : 1 ≤ z ∧ z ≤ 1000000 := due_no hn
  obtain ⟨n, rfl⟩ := Int.eq_ofNat_of_zero_le (show 0 ≤ z by omega)
  exact k a h n H2 hj rfl ha oh rfl (by omega) (by omega) (e1.trans e2)
theorem ok_root_paper (T : Tx K mg) : FnOk P w K mg base (L2N.CX P w) 8 T.f_root_paper T.d_root_paper ["seating", "number"] (sp_paper T) := by
  refine Kit.okN T.F_root_paper sc_root_paper (fun vs H Q E h => ?_) (fun cdv A outer s0 H vs Q E hr h => ?_)
  · obtain ⟨v, o, z, rfl, _⟩ := h
    rfl
  · obtain ⟨v, o, z, rfl, hv, kE, k⟩ := h
    refine ⟨_, (pss_cons (ps_expr (pe_call (ok_check_seating T) (hr.mono (by decide)) (by rfl) T.g_check_seating T.F_check_seating.kp T.b_check_seating .nil Kit.passN (pa_cons (pv 0) pa_nil)))
      (pss_cons (ps_expr (pe_call (ok_check_number T) (hr.mono (by decide)) (by rfl) T.g_check_number T.F_check_number.kp T.b_check_number .nil Kit.passN (pa_cons (pv 1) (pa_cons pe_int (pa_cons (pe_gc (by rfl) T.c_MOST_ROOT) pa_nil)))))
      (PSs.nox (pss_cons (ps_set (i := 2) sc_root_paper.nd rfl (Or.inl rfl) (pe_call (ok_sizes_without_root T) (hr.mono (by decide)) (by rfl) T.g_sizes_without_root T.F_sizes_without_root.kp T.b_sizes_without_root .nil pass0 (pa_cons (pv 0) (pa_cons (pv 1) pa_nil))))
      (pss_one (ps_ret (pe_ifExp (pt_truth (pv 2) (by intro _; rfl)) (pe_callB (cr_min rfl) (by rfl) T.m_min (by decide +kernel) (pa_cons (pv 2) pa_nil)) pe_non))))))), ?_⟩
    refine chk2 (T := T) (fun _ => ev_var rfl) (fun _ => ev_var rfl) (fun _ => ev_c) hv kE fun a h n H1 hj ev ha oh hz n1 n2 e1 => ?_
    subst ev hz
    refine q_asgCall (vs := [.ref a, .int (n : Int)]) (ea_cons (ev_var rfl) (ea_cons (ev_var rfl) ea_nil)) fun H2 e2 => ⟨a, h, n, rfl, (e1.trans e2) a _ ha, oh, fun rs p H3 R np e3 hp => ?_⟩
    obtain ⟨k1, k2⟩ := k a h rs n rfl n1 n2 hj rfl ha oh R
    have e13 := e1.trans (e2.trans e3)
    cases hl : noRoot (grp rs) n with
    | nil =>
      rw [hl] at hp
      exact s_ret (v := .non) (ev_if (b := false) (et_is (et_tru (K := K) (ev_var rfl) (sq_of hp)) rfl) (fun z => Bool.noConfusion z) fun _ => ev_c) fun H4 e4 => k1 hl _ (e13.trans e4)
    | cons x r =>
      rw [hl] at hp
      refine s_ret (v := .int ((iz r).foldl min (x : Int))) (ev_if (b := true) (et_is (et_tru (K := K) (ev_var rfl) (sq_of hp)) rfl) (fun _ => ev_minV (K := K) (ev_var rfl) hp) fun z => Bool.noConfusion z) fun H4 e4 => k2 (by rw [hl]; exact nofun) _ _ (e13.trans e4)
theorem ok_count_roots (T : Tx K mg) : FnOk P w K mg base (L2N.CX P w) 8 T.f_count_roots T.d_count_roots ["seating", "number"] (sp_count T) := by
  refine Kit.okN T.F_count_roots sc_count_roots (fun vs H Q E h => ?_) (fun cdv A outer s0 H vs Q E hr h => ?_)
  · obtain ⟨v, o, z, rfl, _⟩ := h
    rfl
  · obtain ⟨v, o, z, rfl, hv, kE, k⟩ := h
    refine ⟨_, (pss_cons (ps_expr (pe_call (ok_check_seating T) (hr.mono (by decide)) (by rfl) T.g_check_seating T.F_check_seating.kp T.b_check_seating .nil Kit.passN (pa_cons (pv 0) pa_nil)))
      (pss_cons (ps_expr (pe_call (ok_check_number T) (hr.mono (by decide)) (by rfl) T.g_check_number T.F_check_number.kp T.b_check_number .nil Kit.passN (pa_cons (pv 1) (pa_cons pe_int (pa_cons (pe_gc (by rfl) T.c_MOST_ROOT) pa_nil)))))
      (PSs.nox (pss_cons (ps_set (i := 2) sc_count_roots.nd rfl (Or.inl rfl) pe_int)
      (pss_cons (ps_for PassesOwn.never rfl (pi_items (Kit.pe_frzN (pe_call (ok_tables_by_size T) (hr.mono (by decide)) (by rfl) T.g_tables_by_size T.F_tables_by_size.kp T.b_tables_by_size .nil pass0 (pa_cons (pv 0) pa_nil)))) (pg_tup rfl (pgs_cons (pg_name (i := 3) sc_count_roots.nd rfl (Or.inl rfl)) (pgs_cons (pg_name (i := 4) sc_count_roots.nd rfl (Or.inl rfl)) pgs_nil))) (pss_one (ps_set (i := 2) sc_count_roots.nd rfl (Or.inl rfl) (pe_op op_mulX (pv 2) (pe_call (ok_ways_of_roots T) (hr.mono (by decide)) (by rfl) T.g_ways_of_roots T.F_ways_of_roots.kp T.b_ways_of_roots .nil pass0 (pa_cons (pv 3) (pa_cons (pe_callB call_lenR (by rfl) T.m_len (by decide +kernel) (pa_cons (pv 4) pa_nil)) (pa_cons (pv 1) pa_nil))))))))
      (pss_one (ps_ret (pv 2)))))))), ?_⟩
    refine chk2 (T := T) (fun _ => ev_var rfl) (fun _ => ev_var rfl) (fun _ => ev_c) hv kE fun a h n H1 hj ev ha oh hz n1 n2 e1 => ?_
    subst ev hz
    have k := k hj (by omega)
    have o2 := oh.2
    refine q_asg (v := .int 1) ev_c fun H2 e2 => ?_
    refine q_forItCall (vs := [.ref a]) (ea_cons (ev_var rfl) ea_nil) fun H3 e3 => ⟨a, h, rfl, (e1.trans (e2.trans e3)) a _ ha, oh, fun rs d bs H4 R rl nd e4 fr Gp => ?_⟩
    have e14 := e1.trans (e2.trans (e3.trans e4))
    have ndH : H d = none := fresh_back (e1.trans (e2.trans e3)) nd
    have gls := grp_lens rs
    refine q_forItN (K := K) Gp.dict (fun o k σ' H' => ∃ (y : Int) (y3 y4 : Option V), (0 ≤ y ∧ y < 2 ^ (4001 * k + 1)) ∧ σ' = [some (.ref a), some (.int (n : Int)), some (.int y), y3, y4] ∧ Ex (upd H4 d (.frz o (.dK (encG (grp rs) bs)))) H') (fun o => ⟨1, _, _, by decide, rfl, Ex.refl _⟩) (fun o k σ' H' _ ⟨_, _, _, _, _, e⟩ => e d _ upd_same) ?_ ?_
    · rintro o i ky b σ' H5 H6 hn ⟨y, y3, y4, hy, rfl, e5⟩ e6
      obtain ⟨g, b', g1, g2, eq⟩ := encG_get hn
      cases eq
      obtain ⟨us, hb, tb⟩ := Gp.rows i g b' g1 g2
      have gm := List.mem_of_getElem? g1
      have il := (List.getElem?_eq_some_iff.mp g1).1
      have s20 := grp_size R oh gm
      have m20 := grp_many gm
      have ul := tb.len
      rw [List.length_map] at ul
      have bd : b' ≠ d := fun z => by
        rw [z, Gp.dict] at hb
        cases hb
      have hb6 := (e5.trans e6) b' _ (by rw [upd_ne bd]; exact hb)
      have wb := le_bd (wrN_bd (z := n) s20.2 (show g.2.length ≤ 20 by omega)) (show 200 * g.2.length + 1 ≤ 4001 by omega)
      have mb := mul_bd hy wb
      have mm : CMulX y (wrN g.1 g.2.length n) := mulx_ok (a := 100000) (b := 4001) (abs_bd (le_bd hy (by omega))) (abs_bd wb) (by decide)
      exact s_asg (ev_op (ev_var rfl) (ev_call (ea_cons (ev_var (v := .int (g.1 : Int)) rfl) (ea_cons (ev_is (ev_len (K := K) (ev_var rfl) (sq_of hb6)) (congrArg V.int (show (us.length : Int) = (g.2.length : Int) by omega))) (ea_cons (ev_var rfl) ea_nil))) (sv_ways s20.2 (by omega))) (rv_I mm)) fun H7 e7 => ⟨_, _, _, le_bd mb (by omega), rfl, e5.trans (e6.trans e7)⟩
    · rintro o σ' H5 ⟨y, y3, y4, hy, rfl, e5⟩
      have eu : Ex H (upd H4 d (.frz o (.dK (encG (grp rs) bs)))) := Ex.mut e14 ndH
      exact s_ret (ev_var rfl) fun H6 e6 => k _ _ (eu.trans (e5.trans e6))
theorem ok_shows_root_paper (T : Tx K mg) : FnOk P w K mg base (L2N.CX P w) 8 T.f_shows_root_paper T.d_shows_root_paper ["seating", "number", "thing"] (sp_shpaper T) := by
  refine Kit.okN T.F_shows_root_paper sc_shows_root_paper (fun vs H Q E h => ?_) (fun cdv A outer s0 H vs Q E hr h => ?_)
  · obtain ⟨v, o, z, t, rfl, _⟩ := h
    rfl
  · obtain ⟨v, o, z, t, rfl, hv, kE, k⟩ := h
    refine ⟨_, (pss_cons (ps_expr (pe_call (ok_check_seating T) (hr.mono (by decide)) (by rfl) T.g_check_seating T.F_check_seating.kp T.b_check_seating .nil Kit.passN (pa_cons (pv 0) pa_nil)))
      (pss_cons (ps_expr (pe_call (ok_check_number T) (hr.mono (by decide)) (by rfl) T.g_check_number T.F_check_number.kp T.b_check_number .nil Kit.passN (pa_cons (pv 1) (pa_cons pe_int (pa_cons (pe_gc (by rfl) T.c_MOST_ROOT) pa_nil)))))
      (PSs.nox (pss_one (ps_ret (pe_and (pe_call (ok_is_whole T) (hr.mono (by decide)) (by rfl) T.g_is_whole T.F_is_whole.kp T.b_is_whole .nil pass0 (pa_cons (pv 2) pa_nil)) (pe_one (pe_cmpR op_in_seq (pv 2) (pe_call (ok_sizes_without_root T) (hr.mono (by decide)) (by rfl) T.g_sizes_without_root T.F_sizes_without_root.kp T.b_sizes_without_root .nil pass0 (pa_cons (pv 0) (pa_cons (pv 1) pa_nil))) (by rfl))))))))), ?_⟩
    refine chk2 (T := T) (fun _ => ev_var rfl) (fun _ => ev_var rfl) (fun _ => ev_c) hv kE fun a h n H1 hj ev ha oh hz n1 n2 e1 => ?_
    subst ev hz
    obtain ⟨rs, R, _⟩ := ord_rings oh
    obtain ⟨d, ht, k1, k2⟩ := k a h rs n rfl n1 n2 hj rfl ha oh R
    have wh : Ev (tCall (sp_is_whole K) [] E0 (tCons (tVar 2) tNil)) [some (.ref a), some (.int (n : Int)), some t] H1 (.bl (isI d)) := by
      rcases ht with ht | ⟨ht, hd⟩
      · exact ev_call (ea_cons (ev_var rfl) ea_nil) (sv_wholeD (ht.ex e1))
      · rw [hd]
        exact ev_call (ea_cons (ev_var rfl) ea_nil) (sv_wholeX (ht.ex e1))
    cases hd : isI d with
    | false =>
      rw [hd] at wh
      exact s_ret (ev_is (ev_andV (b := false) wh fun z => Bool.noConfusion z) rfl) fun H2 e2 => k1 hd _ (e1.trans e2)
    | true =>
      rw [hd] at wh
      obtain ⟨i, rfl⟩ : ∃ i, d = .int i := by
        cases d with
        | int i => exact ⟨i, rfl⟩
        | _ => exact Bool.noConfusion hd
      have ht : Iv H t (.int i) := by
        rcases ht with ht | ⟨_, hd⟩
        · exact ht
        · cases hd
      obtain rfl := ht.2.1 i rfl
      refine s_ret (v := .bl (inV (.int i) (nv (noRoot (grp rs) n)))) (ev_is (ev_andV (b := inV (.int i) (nv (noRoot (grp rs) n))) wh fun _ => ?_) rfl) fun H2 e2 => k2 i rfl _ (e1.trans e2)
      exact ev_opL (ev_var rfl) (el_call (ea_cons (ev_var rfl) (ea_cons (ev_var rfl) ea_nil)) (sl_swr (e1 a _ ha) oh R)) fun p G hp _ => rv_isL (K := K) (sq_of hp) rfl (nv_flat _)
theorem ok_shows_root (T : Tx K mg) : FnOk P w K mg base (L2N.CX P w) 8 T.f_shows_root T.d_shows_root ["seating", "number", "thing"] (sp_shroot T) := by
  refine Kit.okN T.F_shows_root sc_shows_root (fun vs H Q E h => ?_) (fun cdv A outer s0 H vs Q E hr h => ?_)
  · obtain ⟨v, o, z, t, o2, rfl, _⟩ := h
    rfl
  · obtain ⟨v, o, z, t, o2, rfl, hv, kE, k⟩ := h
    refine ⟨_, (pss_cons (ps_expr (pe_call (ok_check_seating T) (hr.mono (by decide)) (by rfl) T.g_check_seating T.F_check_seating.kp T.b_check_seating .nil Kit.passN (pa_cons (pv 0) pa_nil)))
      (pss_cons (ps_expr (pe_call (ok_check_number T) (hr.mono (by decide)) (by rfl) T.g_check_number T.F_check_number.kp T.b_check_number .nil Kit.passN (pa_cons (pv 1) (pa_cons pe_int (pa_cons (pe_gc (by rfl) T.c_MOST_ROOT) pa_nil)))))
      (pss_one (ps_ret (pe_and (pe_call (ok_is_seating T) (hr.mono (by decide)) (by rfl) T.g_is_seating T.F_is_seating.kp T.b_is_seating .nil pass0 (pa_cons (pv 2) pa_nil)) (pe_one (pe_cmpR (op_eqD hr.units) (pe_call (ok_power T) (hr.mono (by decide)) (by rfl) T.g_power T.F_power.kp T.b_power .nil Kit.passN (pa_cons (pv 2) (pa_cons (pv 1) pa_nil))) (pv 0) (nomark _)))))))), ?_⟩
    refine chk2 (T := T) (fun _ => ev_var rfl) (fun _ => ev_var rfl) (fun _ => ev_c) hv kE fun a h n H1 hj ev ha oh hz n1 n2 e1 => ?_
    subst ev hz
    obtain ⟨ht, k1, k2⟩ := k hj (by omega)
    have is := ev_call (E := E0) (ea_cons (ev_var (i := 2) (v := t) (σ := [some (.ref a), some (.int (n : Int)), some t]) (H := H1) rfl) ea_nil) (sv_any (K := K) (ht.ex e1))
    cases hj2 : judge o2 with
    | false =>
      rw [hj2] at is
      refine ret_of (is H1 (Ex.refl _) _ fun H2 e2 => ⟨false, rfl, ?_⟩)
      rw [if_neg (by decide)]
      exact k1 hj2 _ (e1.trans e2)
    | true =>
      rw [hj2] at is
      refine ret_of (is H1 (Ex.refl _) _ fun H2 e2 => ⟨true, rfl, ?_⟩)
      rw [if_pos rfl]
      refine op_call (vs := [t, .int (n : Int)]) (ea_cons (ev_var rfl) (ea_cons (ev_var rfl) ea_nil)) fun H3 e3 => ?_
      have e13 := e1.trans (e2.trans e3)
      refine ⟨t, o2, n, rfl, ht.ex e13, (fun hn => by rw [hj2] at hn; cases hn), fun c h2 u p H4 _ et hc oh2 np e4 hp ul ub => ?_⟩
      refine ev_go (v := .ref a) (ev_var rfl) fun H5 e5 => ?_
      refine ⟨_, _, dp_L (e5 p _ hp), dp_L ((e13.trans (e4.trans e5)) a _ ha), shaped_ints _, shaped_ints _, k2 hj2 _ H5 (fun a' c' ea ec q1 q2 => ?_) (e13.trans (e4.trans e5))⟩
      cases ea
      subst et
      cases ec
      have eh : h = [0] := nv_back (HO.lst.inj (Option.some.inj (ha.symm.trans q1)))
      have eh2 : h2 = [0] := nv_back (HO.lst.inj (Option.some.inj (hc.symm.trans (e13 c _ q2))))
      subst eh eh2
      have eu : u = [0] := by
        match u, ul with
        | [x], _ =>
          have := ub x List.mem_cons_self
          have : x = 0 := by simp at this; exact this
          rw [this]
      rw [eu]
      exact eqv_same (shaped_ints _)
end


local macro_rules | `(tactic| walk_at "call") => `(tactic| (with_reducible exact sv_whole))

/-! ### woven_table, seating_with, a_root: no error -/
def sp_woven : Sp := fun vs H Q _ => ∃ (a : Addr) (ws : List V) (g : List (List Nat)) (s n z : Nat), vs = [.ref a, .int (z : Int)] ∧ H a = some (.lst ws) ∧ TL H ws (g.map nv) ∧ g ≠ [] ∧ g.length ≤ 20 ∧ (∀ r ∈ g, r.length = s) ∧ 1 ≤ s ∧ s ≤ 20 ∧ z ≤ 1000000 ∧ (∀ r ∈ g, ∀ x ∈ r, x < n) ∧ 1 ≤ n ∧
  ∀ p t H', H p = none → Ex H H' → H' p = some (.lst (nv t)) → t.length = g.length * s → (∀ x ∈ t, x < n) → Q (.ref p) H'
theorem paired_impW {α β : Type} {F G : α → β → Prop} (f : ∀ x y, F x y → G x y) : ∀ {xs : List α} {ys : List β}, Paired F xs ys → Paired G xs ys
  | _, _, .nil => .nil
  | _, _, .cons h t => .cons (f _ _ h) (paired_impW f t)
theorem paired_appW {α β : Type} {F : α → β → Prop} {x : α} {y : β} (h : F x y) : ∀ {xs : List α} {ys : List β}, Paired F xs ys → Paired F (xs ++ [x]) (ys ++ [y])
  | _, _, .nil => .cons h .nil
  | _, _, .cons a t => .cons a (paired_appW h t)
def WL (H : Hp) (us : List V) (rows : List (List Nat)) : Prop := Paired (fun v r => ∃ b, v = .ref b ∧ H b = some (.lst (nv r))) us rows
theorem WL.ex {H H' : Hp} {us : List V} {rows : List (List Nat)} (e : Ex H H') (h : WL H us rows) : WL H' us rows := paired_impW (fun _ _ ⟨b, e1, h⟩ => ⟨b, e1, e b _ h⟩) h
def sp_sw : Sp := fun vs H Q _ => ∃ (a : Addr) (us : List V) (rows : List (List Nat)) (n : Nat), vs = [.ref a] ∧ H a = some (.lst us) ∧ WL H us rows ∧ (∀ r ∈ rows, r ≠ [] ∧ ∀ x ∈ r, x < n) ∧ rows.flatten.length = n ∧ 1 ≤ n ∧ n ≤ 20 ∧ ∀ p H', H p = none → Ex H H' → Q (.ref p) H'
def sp_aroot {K : PySem.W.Frag} {mg : Str → Option Value} (T : Tx K mg) : Sp := fun vs H Q E => ∃ (v : V) (o : Option (List PyData)) (z : Int), vs = [v, .int z] ∧ Bd K H v o ∧ Chk2 T o z H E ∧ (judge o = true → 1 ≤ z ∧ z ≤ 1000000 → ∀ u H1, Ex H H1 → Q u H1)
theorem sum_lenI : ∀ rs : List (List Nat), ((rs.map fun r => (r.length : Int))).sum = (rs.flatten.length : Int)
  | [] => rfl
  | r :: l => by
    rw [List.map_cons, List.sum_cons, sum_lenI l, List.flatten_cons, List.length_append]
    omega
theorem many_rows : ∀ {l : List (List Nat)}, (∀ r ∈ l, r ≠ []) → l.length ≤ l.flatten.length
  | [], _ => Nat.le_refl _
  | r :: l, h => by
    have a := many_rows (l := l) fun x hx => h x (List.mem_cons_of_mem _ hx)
    have b := List.length_pos_iff.mpr (h r List.mem_cons_self)
    rw [List.flatten_cons, List.length_append, List.length_cons]
    omega
theorem app_at {D : Ends} {σ : L2.St} {H : Hp} {l : Addr} {xs : List V} {x : V} (h : H l = some (.lst xs)) (hz : xs.length < 100000) (k : D.nx σ (upd H l (.lst (xs ++ [x])))) : rAppend (.ref l) [x] H fun _ H3 => D.nx σ H3 := ⟨l, xs, x, rfl, rfl, h, sz_lt hz, k⟩
/-- xs.append(f(a, b)), whatever f promises -/
theorem s_appCall {K : PySem.W.Frag} {D : Ends} {σ : L2.St} {H : Hp} {l : Addr} {xs : List V} {tv ta : TE} {tb : TA} {sp : Sp} {E : XK} (hv : Ev tv σ H (.ref l)) (hl : H l = some (.lst xs)) {ys : List V} (ha : EvL ta σ H ys) {us : List V} (hb : ∀ H1, Ex H H1 → EvA tb σ H1 us)
    (k : ∀ p H1, H p = none → Ex H H1 → H1 p = some (.lst ys) → sp ((.ref p :: us) ++ []) H1 (fun x H2 => rAppend (.ref l) [x] H2 fun _ H3 => D.nx σ H3) E) : tDrop (tBM K "list" rAppend tv (tCons (tCall sp [] E (tCons ta tb)) tNil)) D σ H :=
  hv H (Ex.refl _) _ fun H1 e1 => ⟨Or.inl ⟨rfl, xs, sq_of (e1 l _ hl)⟩, ha H1 e1 _ fun p H2 np e2 hp => hb H2 (e1.trans e2) H2 (Ex.refl _) _ fun H3 e3 => k p H3 (fresh_back e1 np) (e1.trans (e2.trans e3)) (e3 p _ hp)⟩
def totG (G : Gr) : Nat := (G.map fun g => g.2.length * g.1).sum
theorem len_all : ∀ {l : List (List Nat)} {s : Nat}, (∀ r ∈ l, r.length = s) → l.flatten.length = l.length * s
  | [], s, _ => by simp
  | r :: l, s, h => by
    rw [List.flatten_cons, List.length_append, h r List.mem_cons_self, len_all fun x hx => h x (List.mem_cons_of_mem _ hx), List.length_cons, Nat.add_mul]
    omega
theorem tot_flat : ∀ {G : Gr}, (∀ g ∈ G, ∀ r ∈ g.2, r.length = g.1) → totG G = (G.map (·.2)).flatten.flatten.length
  | [], _ => rfl
  | g :: G, h => by
    have a := tot_flat (G := G) fun x hx => h x (List.mem_cons_of_mem _ hx)
    unfold totG at a ⊢
    rw [List.map_cons, List.sum_cons, a, List.map_cons, List.flatten_cons, List.flatten_append, List.length_append, len_all (h g List.mem_cons_self)]
theorem tot_next {G : Gr} {i : Nat} {g : Nat × List (List Nat)} (h : G[i]? = some g) : totG (G.take (i + 1)) = totG (G.take i) + g.2.length * g.1 := by
  unfold totG
  rw [take_next h, List.map_append, List.sum_append]
  simp
theorem flat_perm {a b : List (List Nat)} (h : a.Perm b) : a.flatten.length = b.flatten.length := h.flatten.length_eq
theorem noRoot_nil {G : Gr} {z : Nat} (h : noRoot G z = []) {g : Nat × List (List Nat)} (hg : g ∈ G) : wrN g.1 g.2.length z ≠ 0 := fun e => by
  have : g.1 ∈ noRoot G z := List.mem_map.mpr ⟨g, List.mem_filter.mpr ⟨hg, decide_eq_true e⟩, rfl⟩
  rw [h] at this
  cases this
theorem cut_rows {H : Hp} {us : List V} {g : List (List Nat)} (h : TL H us (g.map nv)) (i j : Nat) : TL H ((us.drop i).take j) (((g.drop i).take j).map nv) := by
  have key : ∀ {us : List V} {rs : List (List V)} (i j : Nat), TL H us rs → TL H ((us.drop i).take j) ((rs.drop i).take j) := by
    intro us rs i
    induction i generalizing us rs with
    | zero =>
      intro j h
      rw [List.drop_zero, List.drop_zero]
      induction j generalizing us rs with
      | zero => exact .nil
      | succ j ih =>
        cases h with
        | nil => exact .nil
        | cons a t => exact .cons a (ih t)
    | succ i ih =>
      intro j h
      cases h with
      | nil =>
        rw [List.drop_nil, List.drop_nil, List.take_nil, List.take_nil]
        exact .nil
      | cons a t => exact ih j t
  have := key i j h
  rw [← List.map_drop, ← List.map_take] at this
  exact this
section
variable {P : Program} {w : World} {K : PySem.W.Frag} {mg : Str → Option Value} {base : Heap}
theorem ok_woven_table (T : Tx K mg) : FnOk P w K mg base CX0 1 T.f_woven_table T.d_woven_table ["tables", "number"] sp_woven := by
  refine T.F_woven_table.ok sc_woven_table (fun vs H Q E h => ?_) (fun cdv A outer s0 H vs Q E hr h => ?_)
  · obtain ⟨a, ws, g, s, n, z, rfl, _⟩ := h
    rfl
  · obtain ⟨a, ws, g, s, n, z, rfl, ha, ht, gne, g20, hs, s1, s20, z6, hn, n1, k⟩ := h
    refine ⟨_, (pss_cons (ps_set (i := 2) sc_woven_table.nd rfl (Or.inl rfl) (pe_op op_mulX (pe_callB call_lenR (by rfl) T.m_len (by decide +kernel) (pa_cons (pv 0) pa_nil)) (pe_callB call_lenR (by rfl) T.m_len (by decide +kernel) (pa_cons (pe_ix ix_list (pv 0) pe_int (fun _ _ => rfl)) pa_nil))))
      (pss_cons (ps_set (i := 3) sc_woven_table.nd rfl (Or.inl rfl) (pe_op op_rep (pe_lst (pa_cons pe_int pa_nil)) (pv 2)))
      (pss_cons (ps_for PassesOwn.never rfl (pi_enum (by rfl) T.m_enumerate (pa_cons (pv 0) pa_nil)) (pg_tup rfl (pgs_cons (pg_name (i := 4) sc_woven_table.nd rfl (Or.inl rfl)) (pgs_cons (pg_name (i := 5) sc_woven_table.nd rfl (Or.inl rfl)) pgs_nil))) (pss_one (ps_for PassesOwn.never rfl (pi_enumS (by rfl) T.m_enumerate (pa_cons (pv 5) pa_nil)) (pg_tup rfl (pgs_cons (pg_name (i := 6) sc_woven_table.nd rfl (Or.inl rfl)) (pgs_cons (pg_name (i := 7) sc_woven_table.nd rfl (Or.inl rfl)) pgs_nil))) (pss_one (ps_asg (pv 7) (pg_sub (pv 3) (pe_op op_mod (pe_op op_add (pv 4) (pe_op op_mulX (pv 6) (pv 1))) (pv 2)) set_list))))))
      (pss_one (ps_ret (pv 3)))))), ?_⟩
    have wl := ht.len
    rw [List.length_map] at wl
    have gpos := List.length_pos_iff.mpr gne
    obtain ⟨L, hL⟩ : ∃ L, L = g.length * s := ⟨_, rfl⟩
    have L0 : 0 < L := by rw [hL]; exact Nat.mul_pos gpos s1
    have L4 : L ≤ 400 := by rw [hL]; exact Nat.mul_le_mul g20 s20
    have m1 : CMulX (ws.length : Int) (s : Int) := mulx_ok (a := 10) (b := 10) (by omega) (by omega) (by decide)
    obtain ⟨r0, hr0⟩ : ∃ r, g[0]? = some r := ⟨_, List.getElem?_eq_getElem gpos⟩
    obtain ⟨v0, hv0⟩ : ∃ v, ws[0]? = some v := ⟨_, List.getElem?_eq_getElem (by omega)⟩
    obtain ⟨t0, y0, rfl, ht0, hy0⟩ := ht.get hv0
    rw [List.getElem?_map, hr0] at hy0
    cases hy0
    refine q_asg (v := .int (L : Int)) (ev_is (ev_op (ev_len (K := K) (ev_var rfl) (sq_of ha)) (ev_is (ev_lenT (K := K) (ev_op (ev_var rfl) ev_c (rv_ixL (K := K) (sq_of ha) (atI_nat (j := 0) hv0))) (st_of ht0)) (by rw [nv_len, hs r0 (List.mem_of_getElem? hr0)])) (rv_I m1)) (congrArg V.int (by rw [hL, wl, Int.natCast_mul]))) fun H1 e1 => ?_
    refine q_asgL (xs := nv (List.replicate L 0)) ?_ fun p H2 np e2 hp => ?_
    · have := el_rep (ta := tLst (tCons (tC (.int 0)) tNil)) (tb := tVar 2) (σ := [some (.ref a), some (.int (z : Int)), some (.int (L : Int)), none, none, none, none, none]) (H := H1) (xs := [.int 0]) (k := (L : Int)) (el_lst (ea_cons ev_c ea_nil) (Nat.le_of_ble_eq_true rfl)) (ev_var rfl) (by omega) (by omega) (by decide)
      rw [Int.toNat_natCast, nv_rep] at this
      exact this
    have np0 := fresh_back e1 np
    refine q_forEn (K := K) (a := a) (xs := ws) (ea_cons (ev_var rfl) ea_nil) (sq_of (e2 a _ (e1 a _ ha))) (fun i σ' H' => ∃ (c : List Nat) (y4 y5 y6 y7 : Option V), σ' = [some (.ref a), some (.int (z : Int)), some (.int (L : Int)), some (.ref p), y4, y5, y6, y7] ∧ Ex H H' ∧ H' p = some (.lst (nv c)) ∧ c.length = L ∧ (∀ x ∈ c, x < n)) (fun H3 e3 => ⟨List.replicate L 0, _, _, _, _, rfl, e1.trans (e2.trans e3), e3 p _ hp, by simp, fun x hx => by
      have := (List.mem_replicate.mp hx).2
      omega⟩) (fun i σ' H' _ ⟨_, _, _, _, _, _, e, _⟩ => sq_of (e a _ ha)) ?_ ?_
    · rintro i v σ' H3 H4 hv ⟨c, y4, y5, y6, y7, rfl, e3, hc, hcl, hcn⟩ e4
      obtain ⟨b, y, rfl, hb, hy⟩ := ht.get hv
      rw [List.getElem?_map] at hy
      obtain ⟨r, hr, rfl⟩ := Option.map_eq_some_iff.mp hy
      have hrm := List.mem_of_getElem? hr
      have il : i < ws.length := (List.getElem?_eq_some_iff.mp hv).1
      have hb4 := (e3.trans e4) b _ hb
      refine s_forEnS (K := K) (i := 6) (j := 7) (xs := nv r) (ea_cons (ev_var rfl) ea_nil) (fun H => H b = some (.tup (nv r))) (.inr fun H g => st_of g) (fun H1 e1 => e1 b _ hb4) (fun m σ' H2 => ∃ (c : List Nat) (y6 y7 : Option V), σ' = [some (.ref a), some (.int (z : Int)), some (.int (L : Int)), some (.ref p), some (.int (i : Int)), some (.ref b), y6, y7] ∧ Ex H H2 ∧ H2 p = some (.lst (nv c)) ∧ c.length = L ∧ (∀ x ∈ c, x < n)) (fun H6 e6 => ⟨c, _, _, rfl, e3.trans (e4.trans e6), (e4.trans e6) p _ hc, hcl, hcn⟩) (fun m σ' H2 _ ⟨_, _, _, _, e, _⟩ => e b _ hb) ?_ ?_
      · rintro m x σ' H6 H7 hx ⟨c, y6, y7, rfl, e6, hc6, hcl6, hcn6⟩ e7
        have hml : m < r.length := by
          have := (List.getElem?_eq_some_iff.mp hx).1
          rwa [nv_len] at this
        rw [nv_at hml] at hx
        cases hx
        have rs := hs r hrm
        have xn : r.getD m 0 < n := hn r hrm _ (by
          rw [List.getD_eq_getElem?_getD, List.getElem?_eq_getElem hml]
          exact List.getElem_mem hml)
        have m2 : CMulX (m : Int) (z : Int) := mulx_ok (a := 10) (b := 30) (by omega) (by omega) (by decide)
        have il2 : (i + m * z) % L < L := Nat.mod_lt _ L0
        refine s_setL (j := (i + m * z) % L) (v := .int ((r.getD m 0 : Nat) : Int)) (e7 p _ hc6) (ev_var rfl) (ev_var rfl) (ev_is (ev_op (ev_op (ev_var rfl) (ev_op (ev_var rfl) (ev_var rfl) (rv_I m2)) rv_I0) (ev_var rfl) (rv_I (by omega))) (congrArg V.int (by
          show ((i : Int) + (m : Int) * (z : Int)) % (L : Int) = (((i + m * z) % L : Nat) : Int)
          rw [Int.natCast_emod, Int.natCast_add, Int.natCast_mul]))) (by rw [nv_len]; omega) fun H8 e8 => ?_
        exact ⟨c.set ((i + m * z) % L) (r.getD m 0), _, _, rfl, Ex.mut (e6.trans (e7.trans e8)) np0, by rw [upd_same, nv_set], by simp [hcl6], set_lt hcn6 xn⟩
      · rintro σ' H6 ⟨c, y6, y7, rfl, e6, hc6, hcl6, hcn6⟩
        exact ⟨c, _, _, _, _, rfl, e6, hc6, hcl6, hcn6⟩
    · rintro σ' H3 ⟨c, y4, y5, y6, y7, rfl, e3, hc, hcl, hcn⟩
      exact s_ret (ev_var rfl) fun H4 e4 => k p c H4 np0 (e3.trans e4) (e4 p _ hc) (by rw [hcl, hL]) hcn
theorem ok_seating_with (T : Tx K mg) : FnOk P w K mg base CX0 1 T.f_seating_with T.d_seating_with ["tables"] sp_sw := by
  refine T.F_seating_with.ok sc_seating_with (fun vs H Q E h => ?_) (fun cdv A outer s H vs Q E hr h => ?_)
  · obtain ⟨a, us, rows, n, rfl, _⟩ := h
    rfl
  · obtain ⟨a, ws, rs, n, rfl, ha, ht, hR, hfl, n1, n20, k⟩ := h
    refine ⟨_, (pss_cons (ps_set (i := 2) sc_seating_with.nd rfl (Or.inl rfl) (pe_op op_rep (pe_lst (pa_cons pe_int pa_nil)) (pe_callB (cr_sum rfl) (by rfl) T.m_sum (by decide +kernel) (pa_cons (pe_lc (own := [("table", 1)]) (g := (gName 1)) (tt := tYes) rfl sc_seating_with.nd (pi_list (pv 0)) (blkOk_by (own := [("table", 1)]) (N := n_seating_with) (sc := defScope s_seating_with) (by decide +kernel)) (fun _ _ _ _ _ => (pg_name (i := 1) sc_seating_with.nd rfl (Or.inl rfl))) (fun _ _ _ _ _ => pts_nil) (fun _ _ _ _ _ => (pe_callB (id := "len") (r := rLenS K) call_lenR (by rfl) T.m_len (by decide +kernel) (pa_cons (pv 1) pa_nil)))) pa_nil))))
      (pss_cons (ps_for PassesOwn.never rfl (pi_list (pv 0)) (pg_name (i := 1) sc_seating_with.nd rfl (Or.inl rfl)) (pss_one (ps_for PassesOwn.never rfl (pi_enumS (by rfl) T.m_enumerate (pa_cons (pv 1) pa_nil)) (pg_tup rfl (pgs_cons (pg_name (i := 3) sc_seating_with.nd rfl (Or.inl rfl)) (pgs_cons (pg_name (i := 4) sc_seating_with.nd rfl (Or.inl rfl)) pgs_nil))) (pss_one (ps_asg (pe_ix ix_seq (pv 1) (pe_op op_mod (pe_op op_add (pv 3) pe_int) (pe_callB call_lenR (by rfl) T.m_len (by decide +kernel) (pa_cons (pv 1) pa_nil))) (fun _ _ => rfl)) (pg_sub (pv 2) (pv 4) set_list))))))
      (pss_one (ps_ret (pv 2))))), ?_⟩
    have hlen : ws.length = rs.length := Paired.length ht
    have many := many_rows fun r hr => (hR r hr).1
    have e0 : ((List.range ws.length).map fun i => V.int ((rs.getD i []).length : Int)) = (rs.map fun r => (r.length : Int)).map V.int := by
      rw [hlen, List.map_map]
      conv => rhs; rw [range_get rs []]
      rw [List.map_map]
      rfl
    refine q_asgL (xs := nv (List.replicate n 0)) ?_ fun p H1 hp1 e1 h1 => ?_
    · rw [← nv_rep, ← Int.toNat_natCast n]
      refine el_rep (el_lst (ea_cons ev_c ea_nil) (Nat.le_of_ble_eq_true rfl)) ?_ (by omega) (by omega) (by decide)
      rw [← hfl, ← sum_lenI rs]
      refine ev_sumN (ns := rs.map fun r => (r.length : Int)) ?_
      rw [← e0]
      refine el_mapI _ (ev_var rfl) (sq_of ha) (by omega) (fun _ => rfl) fun i x H1 e1 hx => ?_
      obtain ⟨r, hr, b, rfl, hb⟩ := paired_get ht hx
      have g : rs.getD i [] = r := by rw [List.getD_eq_getElem?_getD, hr] <;> rfl
      rw [g, ← nv_len r]
      exact ev_len (K := K) (ev_var rfl) (sq_of (e1 b _ hb))
    refine q_forLn (xs := ws) (K := K) (ev_var rfl) (sq_of (e1 a _ ha)) (fun i σ' H' => ∃ (c : List Nat) (y1 y3 y4 : Option V), σ' = [some (.ref a), y1, some (.ref p), y3, y4] ∧ Ex H H' ∧ H' p = some (.lst (nv c)) ∧ c.length = n)
      (fun H2 e2 => ⟨List.replicate n 0, none, none, none, rfl, e1.trans e2, e2 p _ h1, by simp⟩) (fun i σ' H' _ ⟨_, _, _, _, _, e, _⟩ => sq_of (e a _ ha)) ?_ ?_
    · rintro i v σ' H' hv ⟨c, y1, y3, y4, rfl, e, hc, hcl⟩
      obtain ⟨r, hr, b, rfl, hb⟩ := paired_get ht hv
      have hrm : r ∈ rs := List.mem_of_getElem? hr
      have R := hR r hrm
      have rpos := List.length_pos_iff.mpr R.1
      refine s_forEnS (K := K) (i := 3) (j := 4) (xs := nv r) (ea_cons (ev_var rfl) ea_nil) (fun H => H b = some (.lst (nv r))) (.inl fun H g => sq_of g) (fun H1 e1 => (e.trans e1) b _ hb) (fun m σ' H2 => ∃ (c : List Nat) (y3 y4 : Option V), σ' = [some (.ref a), some (.ref b), some (.ref p), y3, y4] ∧ Ex H H2 ∧ H2 p = some (.lst (nv c)) ∧ c.length = n) (fun H2 e2 => ⟨c, y3, y4, rfl, e.trans e2, e2 p _ hc, hcl⟩) (fun m σ' H2 _ ⟨_, _, _, _, e2, _⟩ => e2 b _ hb) ?_ ?_
      · rintro m x σ' H2 H3 hx ⟨c, y3, y4, rfl, e2, hc2, hcl2⟩ e3
        have hml : m < r.length := by
          have := (List.getElem?_eq_some_iff.mp hx).1
          rwa [nv_len] at this
        rw [nv_at hml] at hx
        cases hx
        have xn : r.getD m 0 < n := R.2 _ (by
          rw [List.getD_eq_getElem?_getD, List.getElem?_eq_getElem hml]
          exact List.getElem_mem hml)
        have hb3 := (e2.trans e3) b _ hb
        have jl : (m + 1) % r.length < r.length := Nat.mod_lt _ rpos
        have hjr : r[(m + 1) % r.length]? = some (r.getD ((m + 1) % r.length) 0) := by
          rw [List.getD_eq_getElem?_getD, List.getElem?_eq_getElem jl]
          rfl
        have hix : RV (rIx K) (.ref b) (.int (((m + 1) % r.length : Nat) : Int)) H3 (.int ((r.getD ((m + 1) % r.length) 0 : Nat) : Int)) := fun H4 e4 Q q => .inl ⟨b, nv r, _, _, rfl, rfl, ex_l e4 (sq_of hb3), atI_nat (nv_get hjr), q H4 (Ex.refl H4)⟩
        refine s_setL (j := r.getD m 0) (v := .int ((r.getD ((m + 1) % r.length) 0 : Nat) : Int)) (e3 p _ hc2) (ev_op (ev_var rfl) (ev_is (ev_op (ev_op (ev_var rfl) ev_c rv_I0) (ev_is (ev_len (K := K) (ev_var rfl) (sq_of hb3)) (by rw [nv_len])) (rv_I (by omega))) (congrArg V.int (show ((m : Int) + 1) % (r.length : Int) = (((m + 1) % r.length : Nat) : Int) by rw [Int.natCast_emod]; rfl))) hix) (ev_var rfl) (ev_var rfl) (by rw [nv_len]; omega) fun H4 e4 => ?_
        exact ⟨c.set (r.getD m 0) (r.getD ((m + 1) % r.length) 0), _, _, rfl, Ex.mut (e2.trans (e3.trans e4)) hp1, by rw [upd_same, nv_set], by simp [hcl2]⟩
      · rintro σ' H2 ⟨c, y3, y4, rfl, e2, hc2, hcl2⟩
        exact ⟨c, _, _, _, rfl, e2, hc2, hcl2⟩
    · rintro σ' H' ⟨c, y1, y3, y4, rfl, e, hc, hcl⟩
      exact s_ret (ev_var rfl) fun H2 e2 => k p H2 hp1 (e.trans e2)
end


local macro_rules | `(tactic| walk_at "call") => `(tactic| (with_reducible exact sv_whole))

/-- rows of a list at p: new lists, none of them p -/
def WLp (p : Addr) (H : Hp) (us : List V) (rows : List (List Nat)) : Prop := Paired (fun v r => ∃ b, v = .ref b ∧ b ≠ p ∧ H b = some (.lst (nv r))) us rows
theorem WLp.ex {p : Addr} {H H' : Hp} {us : List V} {rows : List (List Nat)} (e : Ex H H') (h : WLp p H us rows) : WLp p H' us rows := paired_impW (fun _ _ ⟨b, e1, n, h⟩ => ⟨b, e1, n, e b _ h⟩) h
theorem WLp.mut {p : Addr} {H : Hp} {o : HO} {us : List V} {rows : List (List Nat)} (h : WLp p H us rows) : WLp p (upd H p o) us rows := paired_impW (fun _ _ ⟨b, e1, n, h⟩ => ⟨b, e1, n, by rw [upd_ne n]; exact h⟩) h
theorem WLp.wl {p : Addr} {H : Hp} {us : List V} {rows : List (List Nat)} (h : WLp p H us rows) : WL H us rows := paired_impW (fun _ _ ⟨b, e1, _, h⟩ => ⟨b, e1, h⟩) h
theorem ne_all {rows : List (List Nat)} {n : Nat} {t : List Nat} (h : ∀ r ∈ rows, r ≠ [] ∧ ∀ x ∈ r, x < n) (h1 : t ≠ []) (h2 : ∀ x ∈ t, x < n) : ∀ r ∈ rows ++ [t], r ≠ [] ∧ ∀ x ∈ r, x < n := fun r hr => by
  rcases List.mem_append.mp hr with z | z
  · exact h r z
  · rw [List.mem_singleton.mp z]
    exact ⟨h1, h2⟩
theorem hm_ne {p : Addr} {H : Hp} {b : Addr} {o : HO} (h : H b = some o) (n : b ≠ p) : Hm p H b = some o := by
  unfold Hm
  rw [if_neg n]
  exact h
theorem s_forUp {σ : L2.St} {H : Hp} {D : Ends} {tu : TS} {t : TA} {j m c : Nat} (hc : 1 ≤ c ∧ c ≤ 100000) (h : EvA t σ H [.int 0, .int (m : Int), .int (c : Int)]) (hm : m ≤ 1000) (Pv : Nat → L2.St → Hp → Prop) (h0 : ∀ H1, Ex H H1 → Pv 0 σ H1)
    (hs : ∀ (i : Nat) σ' H', i * c < m → Pv i σ' H' → tu { D with nx := Pv (i + 1), ct := Pv (i + 1), bk := D.nx } (σ'.set j (some (.int ((i * c : Nat) : Int)))) H') (hd : ∀ i σ' H', m ≤ i * c → Pv i σ' H' → D.nx σ' H') : tFor (iRng3 t) (gName j) tu D σ H :=
  q_forUp (D := D) (tz := fun D σ H => D.nx σ H) hc h hm Pv h0 hs hd
section
variable {P : Program} {w : World} {K : PySem.W.Frag} {mg : Str → Option Value} {base : Heap}
theorem ok_a_root (T : Tx K mg) : FnOk P w K mg base (L2N.CX P w) 9 T.f_a_root T.d_a_root ["seating", "number"] (sp_aroot T) := by
  refine Kit.okN T.F_a_root sc_a_root (fun vs H Q E h => ?_) (fun cdv A outer s0 H vs Q E hr h => ?_)
  · obtain ⟨v, o, z, rfl, _⟩ := h
    rfl
  · obtain ⟨v, o, z, rfl, hv, kE, k⟩ := h
    refine ⟨_, (pss_cons (ps_if (pt_cmpR op_notNR (pe_call (ok_root_paper T) (hr.mono (by decide)) (by rfl) T.g_root_paper T.F_root_paper.kp T.b_root_paper .nil Kit.passN (pa_cons (pv 0) (pa_cons (pv 1) pa_nil))) pe_non (nomark _)) (PSs.nox (pss_one (ps_ret pe_non))) pss_nil)
      (PSs.nox (pss_cons (ps_set (i := 2) sc_a_root.nd rfl (Or.inl rfl) (pe_lst pa_nil))
      (pss_cons (ps_for PassesOwn.never rfl (pi_items (Kit.pe_frzN (pe_call (ok_tables_by_size T) (hr.mono (by decide)) (by rfl) T.g_tables_by_size T.F_tables_by_size.kp T.b_tables_by_size .nil pass0 (pa_cons (pv 0) pa_nil)))) (pg_tup rfl (pgs_cons (pg_name (i := 3) sc_a_root.nd rfl (Or.inl rfl)) (pgs_cons (pg_name (i := 4) sc_a_root.nd rfl (Or.inl rfl)) pgs_nil))) (pss_cons (ps_set (i := 5) sc_a_root.nd rfl (Or.inl rfl) (pe_ix ix_list (pe_call (ok_joinable T) (hr.mono (by decide)) (by rfl) T.g_joinable T.F_joinable.kp T.b_joinable .nil pass0 (pa_cons (pv 3) (pa_cons (pe_callB call_lenR (by rfl) T.m_len (by decide +kernel) (pa_cons (pv 4) pa_nil)) (pa_cons (pv 1) pa_nil)))) pe_int (fun _ _ => rfl)))
      (pss_one (ps_for PassesOwn.never rfl (pi_range3 (by rfl) T.m_range (pa_cons pe_int (pa_cons (pe_callB call_lenR (by rfl) T.m_len (by decide +kernel) (pa_cons (pv 4) pa_nil)) (pa_cons (pv 5) pa_nil)))) (pg_name (i := 6) sc_a_root.nd rfl (Or.inl rfl)) (pss_one (ps_expr (pe_bm PySem.F.plainAttrs_list PySem.F.slot_list_append PySem.F.type_list_append mt_append (pv 2) (pa_cons (pe_call (ok_woven_table T) (hr.mono (by decide)) (by rfl) T.g_woven_table T.F_woven_table.kp T.b_woven_table .nil pass0 (pa_cons (pe_slice sl_list (pv 4) (po_some (pv 6)) (po_some (pe_op op_add (pv 6) (pv 5)))) (pa_cons (pv 1) pa_nil))) pa_nil))))))))
      (pss_one (ps_ret (pe_call (ok_seating_with T) (hr.mono (by decide)) (by rfl) T.g_seating_with T.F_seating_with.kp T.b_seating_with .nil pass0 (pa_cons (pv 2) pa_nil)))))))), ?_⟩
    refine op_call (vs := [v, .int z]) (ea_cons (ev_var rfl) (ea_cons (ev_var rfl) ea_nil)) fun H1 e1 => ⟨v, o, z, rfl, hv.ex e1, ⟨fun hn H2 e2 => kE.1 hn _ (e1.trans e2), fun hj hn H2 e2 => kE.2 hj hn _ (e1.trans e2)⟩, fun a h rs n hz n1 n2 hj ev ha oh R => ⟨fun hno H2 e2 => ?_, fun hno i H2 e2 => ?_⟩⟩
    · -- a root
      subst ev hz
      have k := k hj (by omega)
      have o2 := oh.2
      refine ev_go (v := .non) ev_c fun H3 e3 => ?_
      refine rv_notN H3 (Ex.refl _) _ fun H4 e4 => ⟨_, rfl, iteF ?_⟩
      have ha4 := (e2.trans (e3.trans e4)) a _ ha
      have e04 := e1.trans (e2.trans (e3.trans e4))
      refine q_asgL (xs := []) (el_lst ea_nil (Nat.le_of_ble_eq_true rfl)) fun p H5 np e5 hp => ?_
      have npH := fresh_back e04 np
      have pa : a ≠ p := fun z => by
        rw [z, np] at ha4
        cases ha4
      refine q_forItCall (vs := [.ref a]) (ea_cons (ev_var rfl) ea_nil) fun H6 e6 => ⟨a, h, rfl, (e5.trans e6) a _ ha4, oh, fun rs' d bs H7 R' rl nd e7 fr Gp => ?_⟩
      obtain rfl := R.uniq R'
      have hp7 := (e6.trans e7) p _ hp
      have dp : d ≠ p := fun z => by
        rw [z, e6 p _ hp] at nd
        cases nd
      have ndH : H d = none := fresh_back (e04.trans (e5.trans e6)) nd
      have bp : ∀ b ∈ bs, b ≠ p := fun b hb z => by
        have := fr b hb
        rw [z, e6 p _ hp] at this
        cases this
      have GK := grp_ok rs
      have gtot : totG (grp rs) = h.length := by
        rw [tot_flat GK.sz, flat_perm (grp_perm rs), R.all.length_eq, List.length_range]
      have inv0 : ∀ o : Obj, Ex H (Hm p (upd H7 d (.frz o (.dK (encG (grp rs) bs))))) := fun o b ob hb => by
        have b1 : b ≠ p := fun z => by rw [z, npH] at hb; cases hb
        have b2 : b ≠ d := fun z => by rw [z, ndH] at hb; cases hb
        refine hm_ne ?_ b1
        rw [upd_ne b2]
        exact (e04.trans (e5.trans (e6.trans e7))) b _ hb
      refine q_forItN (K := K) Gp.dict (fun o i σ' H' => ∃ (us : List V) (rows : List (List Nat)) (y3 y4 y5 y6 : Option V), σ' = [some (.ref a), some (.int (n : Int)), some (.ref p), y3, y4, y5, y6] ∧ Ex (Hm p (upd H7 d (.frz o (.dK (encG (grp rs) bs))))) H' ∧ H' p = some (.lst us) ∧ WLp p H' us rows ∧ (∀ r ∈ rows, r ≠ [] ∧ ∀ x ∈ r, x < h.length) ∧ rows.flatten.length = totG ((grp rs).take i))
        (fun o => ⟨[], [], _, _, _, _, rfl, hm_sub, by rw [upd_ne (Ne.symm dp)]; exact hp7, .nil, by simp, rfl⟩) (fun o i σ' H' _ ⟨_, _, _, _, _, _, _, e, _⟩ => e d _ (hm_ne upd_same dp)) ?_ ?_
      · rintro o i ky b σ' H8 H9 hn ⟨us, rows, y3, y4, y5, y6, rfl, e8, hp8, hw, hrow, htot⟩ e9
        obtain ⟨g, b', g1, g2, eq⟩ := encG_get hn
        cases eq
        obtain ⟨ts, hb, tb⟩ := Gp.rows i g b' g1 g2
        have gm := List.mem_of_getElem? g1
        have s20 := grp_size R oh gm
        have m20 := grp_many gm
        have ul := tb.len
        rw [List.length_map] at ul
        have gne := GK.ne g gm
        have gpos := List.length_pos_iff.mpr gne
        have bd : b' ≠ d := fun z => by
          rw [z, Gp.dict] at hb
          cases hb
        have b'p := bp b' (List.mem_of_getElem? g2)
        have keep : ∀ {c : Addr} {ob : HO}, c ≠ d → c ≠ p → H7 c = some ob → H9 c = some ob := fun h1 h2 h3 => (e8.trans e9) _ _ (hm_ne (by rw [upd_ne h1]; exact h3) h2)
        have hb9 := keep bd b'p hb
        -- the tables stay
        have tbm : TL (Hm p (upd H7 d (.frz o (.dK (encG (grp rs) bs))))) ts (g.2.map nv) := tb.imp fun c r hc => hm_ne (by
          rw [upd_ne (fun z => by
            rw [z, Gp.dict] at hc
            cases hc)]
          exact hc) (fun z => by
          rw [z, hp7] at hc
          cases hc)
        have jn := wr_join (s := g.1) (m := g.2.length) (z := n) gpos (noRoot_nil hno gm)
        obtain ⟨c, rest, hj⟩ := List.exists_cons_of_ne_nil jn
        have cj := join_in (show c ∈ joinL g.1 g.2.length n by rw [hj]; exact List.mem_cons_self)
        have lenT : ∀ {σ : L2.St} {G : Hp}, σ[4]? = some (some (.ref b')) → H9 b' = some (.lst ts) → Ex H9 G → Ev (tCB (rLenS K) (tCons (tVar 4) tNil)) σ G (.int (g.2.length : Int)) := fun h0 hb eg => ev_is (ev_len (K := K) (ev_var h0) (sq_of (eg b' _ hb))) (congrArg V.int (by omega))
        refine q_asg (v := .int (c : Int)) (ev_opL1 (el_call (ea_cons (ev_var (v := .int (g.1 : Int)) rfl) (ea_cons (lenT rfl hb9 (Ex.refl _)) (ea_cons (ev_var rfl) ea_nil))) (sl_joinable s20.2 (by omega))) (fun G eg => ev_c) fun l G hl _ => rv_ixL (K := K) (sq_of hl) (atI_nat (j := 0) (by rw [hj]; rfl))) fun H10 e10 => ?_
        refine s_forUp (c := c) (m := g.2.length) ⟨cj.1, by omega⟩ (ea_cons ev_c (ea_cons (lenT rfl hb9 e10) (ea_cons (ev_var rfl) ea_nil))) (by omega) (fun m σ' H' => ∃ (us : List V) (rows : List (List Nat)) (y6 : Option V), σ' = [some (.ref a), some (.int (n : Int)), some (.ref p), some (.int (g.1 : Int)), some (.ref b'), some (.int (c : Int)), y6] ∧ Ex (Hm p (upd H7 d (.frz o (.dK (encG (grp rs) bs))))) H' ∧ H' p = some (.lst us) ∧ WLp p H' us rows ∧ (∀ r ∈ rows, r ≠ [] ∧ ∀ x ∈ r, x < h.length) ∧ rows.flatten.length = totG ((grp rs).take i) + min (m * c) g.2.length * g.1)
          (fun H11 e11 => ⟨us, rows, _, rfl, e8.trans (e9.trans (e10.trans e11)), (e9.trans (e10.trans e11)) p _ hp8, hw.ex (e9.trans (e10.trans e11)), hrow, by rw [htot, Nat.zero_mul, Nat.zero_min, Nat.zero_mul, Nat.add_zero]⟩) ?_ ?_
        · rintro m σ' H11 hm ⟨us, rows, y6, rfl, e11, hp11, hw11, hrow11, htot11⟩
          have hb11 : H11 b' = some (.lst ts) := e11 _ _ (hm_ne (by rw [upd_ne bd]; exact hb) b'p)
          have rl1 : us.length ≤ 100 := by
            have a1 := Paired.length hw11
            have a2 := many_rows fun r hr => (hrow11 r hr).1
            have a3 : min (m * c) g.2.length * g.1 ≤ 20 * 20 := Nat.mul_le_mul (by omega) s20.2
            have a4 : totG ((grp rs).take i) ≤ totG (grp rs) := by
              have : totG (grp rs) = totG ((grp rs).take i) + totG ((grp rs).drop i) := by
                unfold totG
                rw [← List.sum_append, ← List.map_append, List.take_append_drop]
              omega
            have a5 : totG ((grp rs).take i) + g.2.length * g.1 ≤ totG (grp rs) := by
              rw [← tot_next g1]
              have : totG (grp rs) = totG ((grp rs).take (i + 1)) + totG ((grp rs).drop (i + 1)) := by
                unfold totG
                rw [← List.sum_append, ← List.map_append, List.take_append_drop]
              omega
            have a6 : min (m * c) g.2.length * g.1 ≤ g.2.length * g.1 := Nat.mul_le_mul_right _ (Nat.min_le_right _ _)
            omega
          have hc1 : HT.sIx ts.length 0 (some ((m * c : Nat) : Int)) = m * c := by rw [HT.sIx_nat, Nat.min_eq_left (by omega)]
          have hc2 : HT.sIx ts.length ts.length (some (((m * c : Nat) : Int) + (c : Int))) = min (m * c + c) g.2.length := by
            rw [← Int.natCast_add, HT.sIx_nat, ul]
          refine s_appCall (K := K) (us := [.int (n : Int)]) (ev_var rfl) hp11 (el_sl (ev_var rfl) (eo_some (ev_var rfl)) (eo_some (ev_op (ev_var rfl) (ev_var rfl) rv_I0)) (sq_of hb11)) (fun G eg => ea_cons (ev_var rfl) ea_nil) fun q H12 nq e12 hq => ?_
          unfold cutV at hq
          rw [hc1, hc2] at hq
          have pq : q ≠ p := fun z => by
            rw [z, hp11] at nq
            cases nq
          obtain ⟨gs, hgs⟩ : ∃ gs, gs = (g.2.drop (m * c)).take (min (m * c + c) g.2.length - m * c) := ⟨_, rfl⟩
          have gsm : ∀ r ∈ gs, r ∈ g.2 := fun r hr => by
            rw [hgs] at hr
            exact List.mem_of_mem_drop (List.mem_of_mem_take hr)
          have gsl : gs.length = min (m * c + c) g.2.length - m * c := by
            rw [hgs, List.length_take, List.length_drop]
            omega
          refine ⟨q, _, gs, g.1, h.length, n, rfl, hq, ?_, ?_, by omega, fun r hr => GK.sz g gm r (gsm r hr), s20.1, s20.2, n2, fun r hr x hx => ?_, by omega, fun t u H13 nt e13 ht tl tn => ?_⟩
          · rw [hgs]
            exact cut_rows ((tbm.ex e11).ex e12) _ _
          · intro z
            rw [z] at gsl
            simp at gsl
            omega
          · have := R.all.mem_iff.mp (List.mem_flatten.mpr ⟨r, grp_mem gm (gsm r hr), hx⟩)
            exact List.mem_range.mp this
          · have e1113 := e12.trans e13
            have tp : t ≠ p := fun z => by
              rw [z, e12 p _ hp11] at nt
              cases nt
            refine app_at (e1113 p _ hp11) (by omega) ⟨us ++ [.ref t], rows ++ [u], _, rfl, Ex.mut (e11.trans e1113) hm_p, upd_same, WLp.mut (paired_appW ⟨t, rfl, tp, ht⟩ (hw11.ex e1113)), ne_all hrow11 (fun z => ?_) tn, ?_⟩
            · rw [z] at tl
              have : 0 < gs.length * g.1 := Nat.mul_pos (by omega) s20.1
              simp at tl
              omega
            · rw [List.flatten_append, List.length_append, htot11, Nat.add_assoc]
              congr 1
              rw [List.flatten_singleton, tl, gsl, ← Nat.add_mul]
              congr 1
              rw [Nat.min_eq_left (Nat.le_of_lt hm), Nat.add_mul, Nat.one_mul]
              omega
        · rintro m σ' H11 hm ⟨us, rows, y6, rfl, e11, hp11, hw11, hrow11, htot11⟩
          refine ⟨us, rows, _, _, _, _, rfl, e11, hp11, hw11, hrow11, ?_⟩
          rw [htot11, tot_next g1, Nat.min_eq_right hm]
      · rintro o σ' H8 ⟨us, rows, y3, y4, y5, y6, rfl, e8, hp8, hw, hrow, htot⟩
        rw [encG_len Gp.len, List.take_length, gtot] at htot
        refine s_retCall (vs := [.ref p]) (ea_cons (ev_var rfl) ea_nil) fun H9 e9 => ⟨p, us, rows, h.length, rfl, e9 p _ hp8, (hw.ex e9).wl, hrow, htot, by omega, o2.2, fun l H10 nl e10 => k _ _ ((inv0 o).trans (e8.trans (e9.trans e10)))⟩
    · -- no root
      subst ev hz
      have k := k hj (by omega)
      refine ev_go (v := .non) ev_c fun H3 e3 => ?_
      refine rv_notN H3 (Ex.refl _) _ fun H4 e4 => ⟨_, rfl, iteT ?_⟩
      exact s_ret ev_c fun H5 e5 => k _ _ (e1.trans (e2.trans (e3.trans (e4.trans e5))))
end


local macro_rules | `(tactic| walk_at "call") => `(tactic| (with_reducible exact sv_whole))

def Lb (H : Hp) (v : V) (r : List Nat) : Prop := ∃ b, v = .ref b ∧ H b = some (.lst (nv r))
theorem Lb.ex {H H' : Hp} {v : V} {r : List Nat} (e : Ex H H') (h : Lb H v r) : Lb H' v r := by
  obtain ⟨b, rfl, h⟩ := h
  exact ⟨b, rfl, e b _ h⟩
def EvLB (te : TE) (σ : L2.St) (H : Hp) (rs : List (List Nat)) : Prop := ∀ H1, Ex H H1 → ∀ Q : VK, (∀ p vs H2, H1 p = none → Ex H1 H2 → H2 p = some (.lst vs) → Paired (Lb H2) vs rs → Q (.ref p) H2) → te σ H1 Q
def Lc (Dl : Addr) (H : Hp) (v : V) (r : List Nat) : Prop := ∃ b, v = .ref b ∧ b ≠ Dl ∧ H b = some (.lst (nv r))
theorem Lc.ex {Dl : Addr} {H H' : Hp} {v : V} {r : List Nat} (e : Ex H H') (h : Lc Dl H v r) : Lc Dl H' v r := by
  obtain ⟨b, rfl, n, h⟩ := h
  exact ⟨b, rfl, n, e b _ h⟩
theorem Lc.upd {Dl : Addr} {H : Hp} {o : HO} {v : V} {r : List Nat} (h : Lc Dl H v r) : Lc Dl (upd H Dl o) v r := by
  obtain ⟨b, rfl, n, h⟩ := h
  exact ⟨b, rfl, n, by rw [upd_ne n]; exact h⟩
theorem Lc.lb {Dl : Addr} {H : Hp} {v : V} {r : List Nat} (h : Lc Dl H v r) : Lb H v r := by
  obtain ⟨b, rfl, n, h⟩ := h
  exact ⟨b, rfl, h⟩

theorem it_gen {J : It} {n : Nat} {G : Hp → Prop} {Y : Nat → Hp → V → Hp → Prop} (w : Walk J n G Y) {S : Hp} {Qd : Hp → Prop} {B : (Hp → Prop) → V → Hp → Prop} (Pv : Nat → Hp → Prop) (h0 : Pv 0 S) (hG : ∀ i H, i ≤ n → Pv i H → G H)
    (hs : ∀ i x H H', i < n → Pv i H → Y i H x H' → B (Pv (i + 1)) x H') (hd : ∀ H, Pv n H → Qd H) :
    ∃ W : Nat → Nat → Hp → Prop, (∃ m, W 0 m S) ∧ ∀ i m H, W i m H →
      (J.stop i H ∧ Qd H) ∨ (J.go i H ∧ ∃ Nx : Hp → Prop, (∀ H', Nx H' → ∃ m', m' < m ∧ W (i + 1) m' H') ∧ ∀ x H', J.yld i H x H' → B Nx x H') := by
  refine ⟨fun i m H => m = n - i ∧ i ≤ n ∧ Pv i H, ⟨n, by simp, Nat.zero_le _, h0⟩, ?_⟩
  rintro i m H ⟨rfl, hi, p⟩
  have q := hG i H hi p
  by_cases hlt : i < n
  · exact .inr ⟨w.goes i H hlt q, Pv (i + 1), fun H' p' => ⟨n - (i + 1), by omega, rfl, hlt, p'⟩, fun x H' y => hs i x H H' hlt p (w.yields i H x H' hlt q y)⟩
  · have e : i = n := by omega
    subst e
    exact .inl ⟨w.stops H q, hd H p⟩
abbrev PL (H : Hp) (ws : List V) (gs : List (List Nat)) : Prop := Paired (Lb H) ws gs
theorem PL.ex {H H' : Hp} (e : Ex H H') : ∀ {ws : List V} {gs : List (List Nat)}, PL H ws gs → PL H' ws gs
  | [], [], .nil => .nil
  | _ :: _, _ :: _, .cons a r => .cons (a.ex e) (PL.ex e r)
theorem flat_take {gs : List (List Nat)} {i : Nat} {g : List Nat} (h : gs[i]? = some g) : (gs.take (i + 1)).flatten = (gs.take i).flatten ++ g := by
  rw [List.take_add_one, h, List.flatten_append]
  simp
theorem el_lc2L {K : PySem.W.Frag} {σ : L2.St} {H : Hp} {tl : TE} {j l : Nat} {vs vs1 : List Nat} {a : Addr} {ws : List V} {gs : List (List Nat)} (h : Ev tl σ H (.ref a)) (ha : H a = some (.lst ws)) (ht : PL H ws gs) (hz : gs.flatten.length ≤ 40000)
    (hw : ∀ x, wipe ((wipe σ vs).set j (some x)) vs = wipe σ vs) (hj : ∀ x, ((wipe σ vs).set j (some x))[j]? = some (some x))
    (hw1 : ∀ x y, wipe ((wipe ((wipe σ vs).set j (some x)) vs1).set l (some y)) vs1 = wipe ((wipe σ vs).set j (some x)) vs1) (hl : ∀ x y, ((wipe ((wipe σ vs).set j (some x)) vs1).set l (some y))[l]? = some (some y)) :
    EvL (tLc2 (iList K tl) (gName j) tYes (iList K (tVar j)) (gName l) tYes (tVar l) vs vs1) σ H (nv gs.flatten) := fun H0 e Q q => h H0 e _ fun H1 e1 => ⟨a, rfl, ⟨ws, sq_of (e1 a _ (e a _ ha))⟩, fun Dl hD => by
  have ht := PL.ex (e.trans e1) ht
  have h1 := e1 a _ (e a _ ha)
  have hlen : ws.length = gs.length := Paired.length ht
  refine it_gen walk_list (fun i H' => Ex H1 H' ∧ H' Dl = some (.lst (nv (gs.take i).flatten))) ⟨Ex.new hD, upd_same⟩ (fun i H' _ p => sq_of (p.1 a _ h1)) ?_ fun H' p => ?_
  · rintro i x Hh H' hi ⟨p1, p2⟩ ⟨rfl, hx⟩
    obtain ⟨r, hr, b, rfl, hb⟩ := paired_get ht hx
    have hlr : (gs.take (i + 1)).flatten.length ≤ 40000 := by
      have : (gs.take (i + 1)).flatten.length ≤ gs.flatten.length := by
        conv => rhs; rw [← List.take_append_drop (i + 1) gs, List.flatten_append, List.length_append]
        omega
      omega
    rw [flat_take hr, List.length_append] at hlr
    refine ⟨hw _, ?_⟩
    simp only [tYes, ↓reduceIte]
    refine ⟨.ref b, hj _, b, rfl, ⟨nv r, sq_of (p1 b _ hb)⟩, ?_⟩
    refine it_gen (walk_list (K := K) (a := b) (xs := nv r)) (fun m H2 => Ex H1 H2 ∧ H2 Dl = some (.lst (nv (gs.take i).flatten ++ (nv r).take m))) ⟨p1, by rw [p2]; simp⟩ (fun m H2 _ p => sq_of (p.1 b _ hb)) ?_ fun H2 p => ?_
    · rintro m y H2 H3 hm ⟨p3, p4⟩ ⟨rfl, hy⟩
      refine ⟨hw1 _ _, ?_⟩
      simp only [tYes, ↓reduceIte]
      refine ⟨y, hl _ _, _, p4, sz_lt (by rw [List.length_append, List.length_take, nv_len, nv_len]; omega), Ex.mut p3 hD, ?_⟩
      rw [upd_same, List.take_add_one, hy, List.append_assoc]
      rfl
    · obtain ⟨p3, p4⟩ := p
      refine ⟨p3, ?_⟩
      rw [p4, flat_take hr, List.take_of_length_le (Nat.le_refl _), nv_app]
  · obtain ⟨p1, p2⟩ := p
    rw [hlen, List.take_of_length_le (Nat.le_refl _)] at p2
    exact q Dl H' (fresh_back e1 hD) (e1.trans p1) p2⟩
/-- [a new list for x in xs], xs a list of ints -/
theorem elb_mapI {K : PySem.W.Frag} {σ : L2.St} {H : Hp} {ta te : TE} {a : Addr} {s : List Nat} {j : Nat} {vs : List Nat} (F : Nat → List Nat) (h : Ev ta σ H (.ref a)) (ha : H a = some (.lst (nv s))) (hz : s.length ≤ 1000) (hw : ∀ x, wipe ((wipe σ vs).set j (some x)) vs = wipe σ vs)
    (he : ∀ (y : Nat) H1, Ex H H1 → y ∈ s → EvL te ((wipe σ vs).set j (some (.int (y : Int)))) H1 (nv (F y))) : EvLB (tLc (iList K ta) (gName j) tYes te vs) σ H (s.map F) := fun H0 e Q q => h H0 e _ fun H1 e1 => ⟨a, rfl, ⟨nv s, sq_of (e1 a _ (e a _ ha))⟩, fun Dl hD =>
  lc_list (xs := nv s) (fun i H' => Ex H1 H' ∧ ∃ us, H' Dl = some (.lst us) ∧ Paired (Lc Dl H') us ((s.map F).take i)) ⟨Ex.new hD, [], upd_same, .nil⟩ (fun i H' _ p => sq_of (p.1 a _ (e1 a _ (e a _ ha)))) (fun i x H' hi p => by
    obtain ⟨p1, us, p2, p3⟩ := p
    have hil : i < s.length := by
      have := (List.getElem?_eq_some_iff.mp hi).1
      rwa [nv_len] at this
    have hy : s[i]? = some (s.getD i 0) := by
      rw [List.getD_eq_getElem?_getD, List.getElem?_eq_getElem hil]
      rfl
    rw [nv_get hy] at hi
    cases hi
    have ul : us.length = i := by
      have := Paired.length p3
      rw [List.length_take, List.length_map] at this
      omega
    show wipe ((wipe σ vs).set j (some (.int ((s.getD i 0 : Nat) : Int)))) vs = wipe σ vs ∧ te ((wipe σ vs).set j (some (.int ((s.getD i 0 : Nat) : Int)))) H' fun y H4 => ∃ acc, H4 Dl = some (.lst acc) ∧ acc.length < sizeLine ∧ _
    refine ⟨hw _, he _ H1 (e.trans e1) (List.mem_of_getElem? hy) H' p1 _ fun l H4 hl4 e4 h4 => ?_⟩
    have lD : l ≠ Dl := fun z => by
      subst z
      rw [hl4] at p2
      cases p2
    refine ⟨us, e4 Dl _ p2, sz_lt (by omega), Ex.mut (p1.trans e4) hD, _, upd_same, ?_⟩
    have gz : (s.map F)[i]? = some (F (s.getD i 0)) := by rw [List.getElem?_map, hy]; rfl
    rw [List.take_add_one, gz]
    exact paired_appW ⟨l, rfl, lD, by rw [upd_ne lD]; exact h4⟩ (paired_impW (fun _ _ z => (z.ex e4).upd) p3)) (fun H' p => by
      obtain ⟨p1, us, p2, p3⟩ := p
      rw [List.take_of_length_le (by rw [List.length_map, nv_len]; exact Nat.le_refl _)] at p3
      exact q Dl us H' (fresh_back e1 hD) (e1.trans p1) p2 (paired_impW (fun _ _ z => z.lb) p3))⟩
/-! ### sizes -/
def posI : PyData → Bool
  | .int i => decide (i ≥ 1)
  | _ => false
def judgeZ : Option (List PyData) → Bool
  | none => false
  | some ds => ds.all posI && (decide (1 ≤ (intsOf ds).sum) && decide ((intsOf ds).sum ≤ 20))
theorem pos_isI {ds : List PyData} (h : ds.all posI = true) : ds.all isI = true := by
  rw [List.all_eq_true] at h ⊢
  intro d hd
  have := h d hd
  cases d with
  | int i => rfl
  | _ => exact Bool.noConfusion this
def sp_anyZ (K : PySem.W.Frag) : Sp := fun vs H Q _ => ∃ (v : V) (o : Option (List PyData)), vs = [v] ∧ Bd K H v o ∧ (o.getD []).length ≤ 60 ∧ RetV (.bl (judgeZ o)) H Q
def sp_chkZ (K : PySem.W.Frag) (C : Addr) : Sp := fun vs H Q E => ∃ (v : V) (o : Option (List PyData)), vs = [v] ∧ Bd K H v o ∧ (o.getD []).length ≤ 60 ∧ Out (if judgeZ o then none else some C) H Q E
def sp_psz {K : PySem.W.Frag} {mg : Str → Option Value} (T : Tx K mg) : Sp := fun vs H Q E => ∃ (v : V) (o : Option (List PyData)) (z : Int), vs = [v, .int z] ∧ Bd K H v o ∧ (o.getD []).length ≤ 60 ∧ (judgeZ o = false → ∀ H1, Ex H H1 → E (.ref T.cl_InvalidSizes) none H1) ∧ (judgeZ o = true → ∀ u H1, Ex H H1 → Q u H1)
theorem sum_each : ∀ {ns : List Int}, (∀ n ∈ ns, 1 ≤ n) → (ns.length : Int) ≤ ns.sum ∧ ∀ n ∈ ns, n ≤ ns.sum
  | [], _ => ⟨by simp, by simp⟩
  | n :: r, h => by
    obtain ⟨a, b⟩ := sum_each (ns := r) fun m hm => h m (List.mem_cons_of_mem _ hm)
    have c := h n List.mem_cons_self
    rw [List.sum_cons, List.length_cons]
    refine ⟨by omega, fun m hm => ?_⟩
    rcases List.mem_cons.mp hm with z | z
    · omega
    · have := b m z
      omega
/-- what is judged true is a list of sizes -/
theorem judgeZ_yes {K : PySem.W.Frag} {H : Hp} {v : V} {o : Option (List PyData)} (hv : Bd K H v o) (hj : judgeZ o = true) : ∃ (a : Addr) (s : List Nat), v = .ref a ∧ H a = some (.lst (nv s)) ∧ s.length ≤ 20 ∧ s.sum ≤ 20 ∧ ∀ x ∈ s, 1 ≤ x ∧ x ≤ 20 := by
  cases hv with
  | @lst a xs ds ev ha hd =>
    have hj : (ds.all posI && (decide (1 ≤ (intsOf ds).sum) && decide ((intsOf ds).sum ≤ 20))) = true := hj
    simp only [Bool.and_eq_true, decide_eq_true_eq] at hj
    obtain ⟨hp, h1, h2⟩ := hj
    have ex := ints_of hd (pos_isI hp)
    have each : ∀ n ∈ intsOf ds, 1 ≤ n := fun n hn => by
      obtain ⟨d, hd, rfl⟩ := List.mem_map.mp hn
      have := List.all_eq_true.mp hp d hd
      cases d with
      | int i => exact of_decide_eq_true this
      | _ => exact Bool.noConfusion this
    obtain ⟨a1, a2⟩ := sum_each each
    obtain ⟨s, es⟩ := nat_of_ints (ns := intsOf ds) fun n hn => by have := each n hn; omega
    have sl : (intsOf ds).length = s.length := by rw [es]; simp [iz]
    have ss : (intsOf ds).sum = (s.sum : Int) := by
      rw [es]
      unfold iz
      generalize s = l
      induction l with
      | nil => rfl
      | cons x l ih => rw [List.map_cons, List.sum_cons, List.sum_cons, ih, Int.natCast_add]
    refine ⟨a, s, ev, by rw [ha, ex, es]; rfl, by omega, by omega, fun x hx => ?_⟩
    · have xm : (x : Int) ∈ intsOf ds := by rw [es]; exact List.mem_map.mpr ⟨x, hx, rfl⟩
      have b1 := each _ xm
      have b2 := a2 _ xm
      omega
  | ty n h m ne => exact Bool.noConfusion hj
  | dct e h => exact Bool.noConfusion hj
  | own e h t => exact Bool.noConfusion hj
theorem cb_L {r : List V → Hp → VK → Prop} {te : TE} {σ : L2.St} {H : Hp} {Q : VK} {xs : List V} (h : EvL te σ H xs) (k : ∀ p H1, H p = none → Ex H H1 → H1 p = some (.lst xs) → r [.ref p] H1 Q) : tCB r (tCons te tNil) σ H Q := h H (Ex.refl H) _ fun p H1 np e hp => k p H1 np e hp
theorem q_asgLBz {te : TE} {σ : L2.St} {H : Hp} {D : Ends} {tz : TS} {i : Nat} {rs : List (List Nat)} (h : EvLB te σ H rs) (k : ∀ p vs H1, H p = none → Ex H H1 → H1 p = some (.lst vs) → Paired (Lb H1) vs rs → tz D (σ.set i (some (.ref p))) H1) : tSeq (tAsg te (gName i)) tz D σ H := h H (Ex.refl H) _ k
section
variable {P : Program} {w : World} {K : PySem.W.Frag} {mg : Str → Option Value} {base : Heap}
theorem ok_are_sizes (T : Tx K mg) : FnOk P w K mg base CX0 3 T.f_are_sizes T.d_are_sizes ["thing"] (sp_anyZ K) := by
  refine T.F_are_sizes.ok sc_are_sizes (fun vs H Q E h => ?_) (fun cdv A outer s H vs Q E hr h => ?_)
  · obtain ⟨v, o, rfl, _⟩ := h
    rfl
  · obtain ⟨v, o, rfl, hv, hz, k⟩ := h
    refine ⟨_, (pss_cons (ps_if (PW.pt (pw_or (pt_cmpR (op_neTyO (hu_of hr)) (pe_typeOf3 (by rfl) T.m_type (pv 0)) (pe_bltn (v := .ty "list") (by rfl) T.m_list (by decide +kernel) rfl) (nomark _)) (pw_or1 (pt_not (pt_val (pe_callB (cr_all rfl) (by rfl) T.m_all (by decide +kernel) (pa_cons (pe_lc (own := [("item", 1)]) (g := (gName 1)) (tt := tYes) rfl sc_are_sizes.nd (pi_list (pv 0)) (blkOk_by (own := [("item", 1)]) (N := n_are_sizes) (sc := defScope s_are_sizes) (by decide +kernel)) (fun _ _ _ _ _ => (pg_name (i := 1) sc_are_sizes.nd rfl (Or.inl rfl))) (fun _ _ _ _ _ => pts_nil) (fun _ _ _ _ _ => (pe_and (pe_call (ok_is_whole T) (hr.mono (by decide)) (by rfl) T.g_is_whole T.F_is_whole.kp T.b_is_whole .nil pass0 (pa_cons (pv 1) pa_nil)) (pe_one (pe_cmpR op_ge (pv 1) pe_int (nomark _)))))) pa_nil))))))) (pss_one (ps_ret pe_bl)) pss_nil)
      (pss_one (ps_ret (pe_call (ok_is_within T) (hr.mono (by decide)) (by rfl) T.g_is_within T.F_is_within.kp T.b_is_within .nil pass0 (pa_cons (pe_callB (cr_sum rfl) (by rfl) T.m_sum (by decide +kernel) (pa_cons (pv 0) pa_nil)) (pa_cons pe_int (pa_cons (pe_gc (by rfl) T.c_MOST_GUESTS) pa_nil))))))), ?_⟩
    cases o with
    | none => exact q_when (b := true) (et_is (et_or (b := false) (et_test (ev_noListO (ev_var rfl) hv)) fun z => Bool.noConfusion z) rfl) (fun _ H1 e1 => s_ret ev_c fun H2 e2 => k _ (e1.trans e2)) fun z => Bool.noConfusion z
    | some ds =>
      have hv0 := hv
      have hz : ds.length ≤ 60 := hz
      cases hv with
      | @lst a xs _ ev ha hd =>
        subst ev
        have hl : xs.length = ds.length := hd.length
        refine q_when (b := !(ds.all posI)) (et_is (et_or (et_test (ev_noListO (ev_var rfl) hv0)) fun _ => et_not (et_B (ev_allN (bs := ds.map posI) ?_))) (by rw [List.all_map]; simp)) (fun hb H1 e1 => ?_) fun hb H1 e1 => ?_
        · have e : (List.range xs.length).map (fun i => V.bl (posI (ds.getD i .none))) = (ds.map posI).map V.bl := by
            rw [hl]
            conv => rhs; rw [range_get ds .none]
            rw [List.map_map, List.map_map]
            rfl
          rw [← e]
          refine el_mapI _ (ev_var rfl) (sq_of ha) (by omega) (fun _ => rfl) fun i x H2 e2 hx => ?_
          obtain ⟨d, hd1, hd2⟩ := paired_get hd hx
          have gd : ds.getD i .none = d := by rw [List.getD_eq_getElem?_getD, hd1] <;> rfl
          rw [gd]
          have hI := hd2.ex e2
          cases hq : isI d with
          | false =>
            have e0 : posI d = false := by cases d <;> first | rfl | exact Bool.noConfusion hq
            rw [e0]
            have wh := ev_call (E := E0) (ea_cons (ev_var (i := 1) (v := x) (σ := (wipe (start n_are_sizes [.ref a]) [1]).set 1 (some x)) (H := H2) rfl) ea_nil) (sv_wholeD (K := K) hI)
            rw [hq] at wh
            exact ev_is (ev_andV (b := false) wh fun z => Bool.noConfusion z) rfl
          | true =>
            cases d with
            | int i =>
              obtain rfl := hI.2.1 i rfl
              exact ev_is (ev_andV (ev_call (ea_cons (ev_var rfl) ea_nil) (sv_whole (K := K))) fun _ => ev_op (ev_var rfl) ev_c rv_I0) (by rfl)
            | _ => exact Bool.noConfusion hq
        · have hb : ds.all posI = false := by simpa using hb
          have ej : judgeZ (some ds) = false := by
            show (ds.all posI && _) = false
            rw [hb]
            rfl
          rw [ej] at k
          exact s_ret ev_c fun H2 e2 => k _ (e1.trans e2)
        · have hb : ds.all posI = true := by simpa using hb
          have ex := ints_of hd (pos_isI hb)
          have ej : judgeZ (some ds) = (decide (1 ≤ (intsOf ds).sum) && decide ((intsOf ds).sum ≤ 20)) := by
            show (ds.all posI && _) = _
            rw [hb]
            rfl
          rw [ej] at k
          have h1 := e1 a _ ha
          rw [ex] at h1
          exact s_ret (ev_call (ea_cons (ev_sumV (K := K) (ev_var rfl) (sq_of h1)) (ea_cons ev_c (ea_cons ev_c ea_nil))) (sv_between (K := K))) fun H2 e2 => k _ (e1.trans e2)
theorem ok_check_sizes (T : Tx K mg) : FnOk P w K mg base (L2N.CX P w) 4 T.f_check_sizes T.d_check_sizes ["sizes"] (sp_chkZ K T.cl_InvalidSizes) := by
  refine Kit.okN T.F_check_sizes sc_check_sizes (fun vs H Q E h => ?_) (fun cdv A outer s H vs Q E hr h => ?_)
  · obtain ⟨v, o, rfl, _⟩ := h
    rfl
  · obtain ⟨v, o, rfl, hv, hz, k⟩ := h
    refine ⟨_, (pss_one (ps_if (pt_not (pt_val (pe_call (ok_are_sizes T) (hr.mono (by decide)) (by rfl) T.g_are_sizes T.F_are_sizes.kp T.b_are_sizes .nil pass0 (pa_cons (pv 0) pa_nil)))) (pss_one (Kit.ps_raiseN rfl Kit.takesN T.e_InvalidSizes T.gc_InvalidSizes (by rfl) pe_str)) pss_nil)), ?_⟩
    refine s_when (b := !judgeZ o) (et_is (et_not (et_B (ev_call (ea_cons (ev_var rfl) ea_nil) fun H1 e1 Q q E => ⟨v, o, rfl, hv.ex e1, hz, q⟩))) rfl) (fun hb H1 e1 => ?_) fun hb H1 e1 => ?_
    · exact k.yes _ (if_neg (by simpa using hb)) _ e1
    · exact k.no (if_pos (by simpa using hb)) _ _ e1
theorem ok_power_sizes (T : Tx K mg) : FnOk P w K mg base (L2N.CX P w) 5 T.f_power_sizes T.d_power_sizes ["sizes", "number"] (sp_psz T) := by
  refine Kit.okN T.F_power_sizes sc_power_sizes (fun vs H Q E h => ?_) (fun cdv A outer s0 H vs Q E hr h => ?_)
  · obtain ⟨v, o, z, rfl, _⟩ := h
    rfl
  · obtain ⟨v, o, z, rfl, hv, hz, kE, k⟩ := h
    refine ⟨_, (pss_cons (ps_expr (pe_call (ok_check_sizes T) (hr.mono (by decide)) (by rfl) T.g_check_sizes T.F_check_sizes.kp T.b_check_sizes .nil Kit.passN (pa_cons (pv 0) pa_nil)))
      (PSs.nox (pss_cons (ps_expr (pe_call (ok_check_any_number T) (hr.mono (by decide)) (by rfl) T.g_check_any_number T.F_check_any_number.kp T.b_check_any_number .nil pass0 (pa_cons (pv 1) pa_nil)))
      (pss_cons (ps_setLc (i := 3) (own := [("size", 2)]) (g := (gName 2)) (tt := tYes) rfl sc_power_sizes.nd rfl rfl (sw_true rfl rfl rfl (by decide +kernel)) (pi_list (pv 0)) (blkOk_by (own := [("size", 2)]) (N := n_power_sizes) (sc := defScope s_power_sizes) (by decide +kernel)) (fun _ _ _ _ _ => (pg_name (i := 2) sc_power_sizes.nd rfl (Or.inl rfl))) (fun _ _ _ _ _ => pts_nil) (fun _ _ _ _ _ => (pe_op op_rep (pe_lst (pa_cons (pe_op op_fdivW (pv 2) (pe_callBfun cr_gcd (by rfl) T.i_gcd (pa_cons (pv 2) (pa_cons (pv 1) pa_nil)))) pa_nil)) (pe_callBfun cr_gcd (by rfl) T.i_gcd (pa_cons (pv 2) (pa_cons (pv 1) pa_nil))))))
      (pss_one (ps_ret (pe_callB cr_sorted (by rfl) T.m_sorted (by decide +kernel) (pa_cons (pe_lc2 (wi1 := iList K (tVar 4)) (own := [("part", 4), ("size", 2)]) (vs1 := [2]) (g := (gName 4)) (g1 := (gName 2)) (tt := tYes) (tt1 := tYes) rfl sc_power_sizes.nd (pi_list (pv 3)) (blkOk_by (own := [("part", 4), ("size", 2)]) (N := n_power_sizes) (sc := defScope s_power_sizes) (by decide +kernel)) (by decide) (fun _ _ _ _ _ => (pg_name (i := 4) sc_power_sizes.nd rfl (Or.inl rfl))) (fun _ _ _ _ _ => pts_nil) (fun _ _ _ _ _ => (pi_list (pv 4))) (fun _ _ _ _ _ => (pg_name (i := 2) sc_power_sizes.nd rfl (Or.inl rfl))) (fun _ _ _ _ _ => pts_nil) (fun _ _ _ _ _ => (pv 2))) pa_nil)))))))), ?_⟩
    refine q_chk (vs := [v]) (due := if judgeZ o then none else some T.cl_InvalidSizes) (ea_cons (ev_var rfl) ea_nil) (fun H1 e1 Q E q => ⟨v, o, rfl, hv.ex e1, hz, q⟩) (fun hn H1 e1 => ?_) fun C hC H1 e1 => ?_
    rotate_left
    · obtain ⟨hm, rfl⟩ := due_yes hC
      exact kE (by simpa using hm) _ e1
    have hj : judgeZ o = true := due_no hn
    have k := k hj
    obtain ⟨a, s, rfl, ha, s20, ssum, hs⟩ := judgeZ_yes hv hj
    refine q_drop (ev_call (z := .non) (ea_cons (ev_var rfl) ea_nil) sv_check_any) fun H2 e2 => ?_
    have e12 := e1.trans e2
    have ha2 := e12 a _ ha
    have gb : ∀ x ∈ s, 1 ≤ Nat.gcd x z.natAbs ∧ Nat.gcd x z.natAbs ≤ 20 := fun x hx => by
      have := hs x hx
      refine ⟨Nat.gcd_pos_of_pos_left _ this.1, ?_⟩
      exact Nat.le_trans (Nat.le_of_dvd this.1 (Nat.gcd_dvd_left x z.natAbs)) this.2
    obtain ⟨F, hF⟩ : ∃ F : Nat → List Nat, F = fun x => List.replicate (Nat.gcd x z.natAbs) (x / Nat.gcd x z.natAbs) := ⟨_, rfl⟩
    refine q_asgLBz (rs := s.map F) (elb_mapI F (ev_var rfl) ha2 (by omega) (fun _ => rfl) fun y H3 e3 hy => ?_) fun p vs H3 np e3 hp hw => ?_
    · have g := gb y hy
      have f1 : ∀ x d : Nat, V.int ((x : Int) / (d : Int)) = V.int ((x / d : Nat) : Int) := fun x d => by rw [Int.natCast_ediv]
      have ev : Ev (tCB rGcd (tCons (tVar 2) (tCons (tVar 1) tNil))) ((wipe [some (.ref a), some (.int z), none, none, none] [2]).set 2 (some (.int (y : Int)))) H3 (.int ((Nat.gcd y z.natAbs : Nat) : Int)) := ev_gcd (a := (y : Int)) (b := z) (ev_var rfl) (ev_var rfl)
      have := el_rep (k := ((Nat.gcd y z.natAbs : Nat) : Int)) (xs := [.int ((y / Nat.gcd y z.natAbs : Nat) : Int)]) (el_lst (ea_cons (ev_is (ev_op (ev_var (i := 2) (v := .int (y : Int)) rfl) ev (rv_I (g := fun i j => .int (i / j)) (divw_ok (by omega) (by omega)))) (f1 y _)) ea_nil) (Nat.le_of_ble_eq_true rfl)) ev (by omega) (by omega) (Nat.le_of_ble_eq_true rfl)
      rw [Int.toNat_natCast] at this
      rw [hF]
      have e : (List.replicate (Nat.gcd y z.natAbs) [V.int ((y / Nat.gcd y z.natAbs : Nat) : Int)]).flatten = nv (List.replicate (Nat.gcd y z.natAbs) (y / Nat.gcd y z.natAbs)) := by
        rw [nv_eq, List.map_replicate]
        generalize Nat.gcd y z.natAbs = m
        generalize y / m = c
        induction m with
        | zero => rfl
        | succ k ih => rw [List.replicate_succ, List.flatten_cons, ih, List.replicate_succ]; rfl
      rw [e] at this
      exact this
    · have fl : ∀ l : List Nat, (∀ x ∈ l, x ∈ s) → (l.map F).flatten.length ≤ l.sum := by
        intro l
        induction l with
        | nil => intro _; simp
        | cons x l ih =>
          intro h
          have a := ih fun y hy => h y (List.mem_cons_of_mem _ hy)
          have xs := h x List.mem_cons_self
          have b : Nat.gcd x z.natAbs ≤ x := Nat.le_of_dvd (hs x xs).1 (Nat.gcd_dvd_left x z.natAbs)
          rw [List.map_cons, List.flatten_cons, List.length_append, List.sum_cons]
          have : (F x).length = Nat.gcd x z.natAbs := by rw [hF]; simp
          omega
      have f20 := fl s fun _ h => h
      refine ret_of ?_
      refine cb_L (el_lc2L (K := K) (a := p) (ws := vs) (gs := s.map F) (ev_var (i := 3) rfl) hp hw (by omega) (fun _ => rfl) (fun _ => rfl) (fun _ _ => rfl) (fun _ _ => rfl)) fun l H4 nl e4 hl => ⟨l, iz (s.map F).flatten, rfl, sq_of hl, by rw [show (iz (s.map F).flatten).length = (s.map F).flatten.length from List.length_map ..]; omega, fun ns' p' _ _ np' => k _ _ (e12.trans (e3.trans (e4.trans (Ex.new np'))))⟩
end


local macro_rules | `(tactic| walk_at "call") => `(tactic| (with_reducible exact sv_whole))

/-! ### how many seatings have which period: the mathematics -/
def pstep (tb : Int) (size : Nat) (acc : List (Int × Int)) (p : Int × Int) : List (Int × Int) := putI acc ((Nat.lcm p.1.toNat size : Nat) : Int) (gI acc ((Nat.lcm p.1.toNat size : Nat) : Int) + p.2 * tb)
def prow (W : List (List (Int × Int))) (many : Nat) (acc : List (Int × Int)) (size : Nat) : List (Int × Int) := (W.getD (many - size) []).foldl (pstep (prm (many - 1) (size - 1)) size) acc
def pnewTo (W : List (List (Int × Int))) (many i : Nat) : List (Int × Int) := (List.range i).foldl (fun acc j => prow W many acc (j + 1)) []
def pcs : Nat → List (List (Int × Int))
  | 0 => [[(1, 1)]]
  | m + 1 => pcs m ++ [pnewTo (pcs m) (m + 1) (m + 1)]
def okP (r : List (Int × Int)) : Bool := decide (0 < r.length) && decide (r.length ≤ 100) && r.all fun p => decide (1 ≤ p.1) && decide (p.1 < 2 ^ 40) && decide (0 ≤ p.2) && decide (p.2 < 2 ^ 64)
theorem pcs_all : (pcs 20).all okP = true := by decide +kernel
theorem pcs_len : ∀ m, (pcs m).length = m + 1
  | 0 => rfl
  | m + 1 => by
    show (pcs m ++ [_]).length = _
    rw [List.length_append, pcs_len m]
    rfl
theorem pcs_pre : ∀ {m n : Nat}, m ≤ n → ∃ t, pcs n = pcs m ++ t
  | m, 0, h => by
    obtain rfl : m = 0 := by omega
    exact ⟨[], (List.append_nil _).symm⟩
  | m, n + 1, h => by
    by_cases e : m = n + 1
    · subst e
      exact ⟨[], (List.append_nil _).symm⟩
    · obtain ⟨t, ht⟩ := pcs_pre (m := m) (n := n) (by omega)
      refine ⟨t ++ [pnewTo (pcs n) (n + 1) (n + 1)], ?_⟩
      show pcs n ++ [pnewTo (pcs n) (n + 1) (n + 1)] = _
      rw [ht, List.append_assoc]
theorem pcs_ok {m : Nat} (hm : m ≤ 20) {r : List (Int × Int)} (hr : r ∈ pcs m) : 0 < r.length ∧ r.length ≤ 100 ∧ ∀ p ∈ r, 1 ≤ p.1 ∧ p.1 < 2 ^ 40 ∧ 0 ≤ p.2 ∧ p.2 < 2 ^ 64 := by
  obtain ⟨t, ht⟩ := pcs_pre hm
  have h := List.all_eq_true.mp pcs_all r (by rw [ht]; exact List.mem_append_left _ hr)
  unfold okP at h
  rw [Bool.and_eq_true, Bool.and_eq_true] at h
  refine ⟨of_decide_eq_true h.1.1, of_decide_eq_true h.1.2, fun p hp => ?_⟩
  have := List.all_eq_true.mp h.2 p hp
  rw [Bool.and_eq_true, Bool.and_eq_true, Bool.and_eq_true] at this
  exact ⟨of_decide_eq_true this.1.1.1, of_decide_eq_true this.1.1.2, of_decide_eq_true this.1.2, of_decide_eq_true this.2⟩
theorem prm_small : ∀ a < 20, ∀ b < 20, 0 ≤ prm a b ∧ prm a b < 2 ^ 60 := by decide +kernel
theorem pstep_len (tb : Int) (size : Nat) : ∀ (r acc : List (Int × Int)), (r.foldl (pstep tb size) acc).length ≤ acc.length + r.length
  | [], acc => Nat.le_refl _
  | p :: r, acc => by
    have a := pstep_len tb size r (pstep tb size acc p)
    have b : (pstep tb size acc p).length ≤ acc.length + 1 := put_len ..
    rw [List.foldl_cons, List.length_cons]
    omega
theorem getD_mem {α : Type} {l : List α} {i : Nat} {d : α} (h : i < l.length) : l.getD i d ∈ l := by
  rw [List.getD_eq_getElem?_getD, List.getElem?_eq_getElem h]
  exact List.getElem_mem h
theorem pnew_next (W : List (List (Int × Int))) (many i : Nat) : pnewTo W many (i + 1) = prow W many (pnewTo W many i) (i + 1) := by
  unfold pnewTo
  rw [List.range_succ, List.foldl_append]
  rfl
theorem pnew_len {m : Nat} (hm : m + 1 ≤ 20) : ∀ i, i ≤ m + 1 → (pnewTo (pcs m) (m + 1) i).length ≤ 100 * i
  | 0, _ => Nat.zero_le _
  | i + 1, h => by
    have a := pnew_len hm i (by omega)
    have b := (pcs_ok (m := m) (by omega) (getD_mem (l := pcs m) (i := m + 1 - (i + 1)) (d := []) (by rw [pcs_len]; omega))).2.1
    rw [pnew_next]
    unfold prow
    have c := pstep_len (prm (m + 1 - 1) (i + 1 - 1)) (i + 1) ((pcs m).getD (m + 1 - (i + 1)) []) (pnewTo (pcs m) (m + 1) i)
    omega

theorem paired_imp {α β : Type} {F G : α → β → Prop} (f : ∀ a b, F a b → G a b) : ∀ {l : List α} {m : List β}, Paired F l m → Paired G l m
  | _, _, .nil => .nil
  | _, _, .cons h t => .cons (f _ _ h) (paired_imp f t)
theorem paired_app {α β : Type} {F : α → β → Prop} : ∀ {l l' : List α} {m m' : List β}, Paired F l m → Paired F l' m' → Paired F (l ++ l') (m ++ m')
  | _, _, _, _, .nil, h => h
  | _, _, _, _, .cons a t, h => .cons a (paired_app t h)

/-! ### period_counts -/
def DW (H : Hp) (x : V) (r : List (Int × Int)) : Prop := ∃ q, x = V.ref q ∧ H q = some (.dK (enc r))
theorem DW.ex {H H' : Hp} (e : Ex H H') {x : V} {r : List (Int × Int)} : DW H x r → DW H' x r := fun ⟨q, e1, h⟩ => ⟨q, e1, e q _ h⟩
theorem dw_ex {H H' : Hp} (e : Ex H H') {xs : List V} {rs : List (List (Int × Int))} (h : Paired (DW H) xs rs) : Paired (DW H') xs rs := paired_imp (fun _ _ x => DW.ex e x) h
def sp_pcounts {K : PySem.W.Frag} {mg : Str → Option Value} (T : Tx K mg) : Sp := fun vs H Q E => ∃ x : Int, vs = [.int x] ∧ (¬ (1 ≤ x ∧ x ≤ 20) → ∀ H1, Ex H H1 → E (.ref T.cl_InvalidGuests) none H1) ∧ (1 ≤ x ∧ x ≤ 20 → ∀ v H1, Ex H H1 → Q v H1)
section
variable {P : Program} {w : World} {K : PySem.W.Frag} {mg : Str → Option Value} {base : Heap}
theorem ok_period_counts (T : Tx K mg) : FnOk P w K mg base (L2N.CX P w) 4 T.f_period_counts T.d_period_counts ["guests"] (sp_pcounts T) := by
  refine Kit.okN T.F_period_counts sc_period_counts (fun vs H Q E h => ?_) (fun cdv A outer s0 H vs Q E hr h => ?_)
  · obtain ⟨x, rfl, _⟩ := h
    rfl
  · obtain ⟨x, rfl, kE, k⟩ := h
    refine ⟨_, (pss_cons (ps_expr (pe_call (ok_check_guests T) (hr.mono (by decide)) (by rfl) T.g_check_guests T.F_check_guests.kp T.b_check_guests .nil Kit.passN (pa_cons (pv 0) pa_nil)))
      (PSs.nox (pss_cons (ps_set (i := 1) sc_period_counts.nd rfl (Or.inl rfl) (pe_lst (pa_cons (pe_disp (pps_cons pe_int pe_int pps_nil) rfl rfl (by simp) (by decide)) pa_nil)))
      (pss_cons (ps_for PassesOwn.never rfl (pi_range2 (by rfl) T.m_range (pa_cons pe_int (pa_cons (pe_op op_add (pv 0) pe_int) pa_nil))) (pg_name (i := 2) sc_period_counts.nd rfl (Or.inl rfl)) (pss_cons (ps_set (i := 3) sc_period_counts.nd rfl (Or.inl rfl) pe_dnewK)
      (pss_cons (ps_for PassesOwn.never rfl (pi_range2 (by rfl) T.m_range (pa_cons pe_int (pa_cons (pe_op op_add (pv 2) pe_int) pa_nil))) (pg_name (i := 4) sc_period_counts.nd rfl (Or.inl rfl)) (pss_cons (ps_set (i := 5) sc_period_counts.nd rfl (Or.inl rfl) (pe_callBfun cr_perm (by rfl) T.i_perm (pa_cons (pe_op op_sub (pv 2) pe_int) (pa_cons (pe_op op_sub (pv 4) pe_int) pa_nil))))
      (pss_one (ps_lock (ps_for PassesOwn.never rfl (pi_items (pe_ix ix_list (pv 1) (pe_op op_sub (pv 2) (pv 4)) (fun _ _ => rfl))) (pg_tup rfl (pgs_cons (pg_name (i := 6) sc_period_counts.nd rfl (Or.inl rfl)) (pgs_cons (pg_name (i := 7) sc_period_counts.nd rfl (Or.inl rfl)) pgs_nil))) (pss_cons (ps_set (i := 8) sc_period_counts.nd rfl (Or.inl rfl) (pe_callBfun cr_lcm (by rfl) T.i_lcm (pa_cons (pv 6) (pa_cons (pv 4) pa_nil))))
      (pss_one (ps_dput (hu_of hr) (pv 3) (pv 8) (pe_op op_add (pe_dget2 (hu_of hr) (pv 3) (pv 8) pe_int ⟨by rfl, by rfl, by rfl, by rfl⟩) (pe_op op_mulX (pv 7) (pv 5))) rfl))))))))
      (pss_one (ps_expr (pe_bm PySem.F.plainAttrs_list PySem.F.slot_list_append PySem.F.type_list_append mt_append (pv 1) (pa_cons (pv 3) pa_nil)))))))
      (pss_one (ps_ret (pe_callB (id := "sorted") (r := rSortItK) (cr_sortItK rfl) (by rfl) T.m_sorted (by decide +kernel) (pa_cons (pe_bm0 PySem.F.plainAttrs_dict PySem.F.slot_dict_items PySem.F.type_dict_items mt_itemsK (pe_ix ix_list (pv 1) (pv 0) (fun _ _ => rfl))) pa_nil)))))))), ?_⟩
    refine q_chk (ea_cons (ev_var rfl) ea_nil) so_chk1 (fun hn H1 e1 => ?_) fun C hC H1 e1 => ?_
    rotate_left
    · obtain ⟨hm, rfl⟩ := due_yes hC
      exact kE hm _ e1
    have hx : 1 ≤ x ∧ x ≤ 20 := due_no hn
    obtain ⟨g, rfl⟩ := Int.eq_ofNat_of_zero_le (show 0 ≤ x by omega)
    have g1 : 1 ≤ g := by omega
    have g20 : g ≤ 20 := by omega
    have k : ∀ (H' : Hp) (l : Addr) (zs : List (Addr × Int × Int)), Ex H H' → H l = none → (zs.map (·.2)).Perm ((pcs g).getD g []) → (zs.map (·.2)).Pairwise (fun x y => SrtO.lexB y x = false) → H' l = some (.lst (zs.map fun z => V.ref z.1)) →
        (∀ z ∈ zs, H z.1 = none ∧ z.1 ≠ l ∧ H' z.1 = some (.tup [.int z.2.1, .int z.2.2])) → Q (.ref l) H' := fun H' l _ e _ _ _ _ _ => k hx _ _ e
    refine q_asgD1 (x := 1) (v := 1) (fun _ => ev_c) (fun _ => ev_c) fun p0 q H2 np0 nq npq e2 hp0 hq => ?_
    refine q_forR2 (lo := 1) (n := (g : Int) + 1) (ea_cons ev_c (ea_cons (ev_op (ev_var rfl) ev_c rv_I0) ea_nil)) ⟨by decide, by decide, by omega, by omega⟩
      (fun m σ' H' => ∃ (ws : List V) (y2 y3 y4 y5 y6 y7 y8 : Option V), σ' = [some (.int (g : Int)), some (.ref q), y2, y3, y4, y5, y6, y7, y8] ∧ Ex H1 H' ∧ H' q = some (.lst ws) ∧ Paired (DW H') ws (pcs m))
      (fun H3 e3 => ⟨[.ref p0], none, none, none, none, none, none, none, rfl, e2.trans e3, e3 q _ hq, .cons ⟨p0, rfl, e3 p0 _ hp0⟩ .nil⟩) ?_ ?_
    · rintro m σ' H3 hm ⟨ws, y2, y3, y4, y5, y6, y7, y8, rfl, e3, hq3, hw⟩
      have hm20 : m + 1 ≤ 20 := by omega
      have wl := Paired.length hw
      rw [pcs_len] at wl
      refine q_dnewI fun f H4 nf e4 hf => ?_
      have nfq : f ≠ q := fun z => by
        rw [z, hq3] at nf
        cases nf
      have hq4 := e4 q _ hq3
      have hw4 := dw_ex e4 hw
      refine q_forR2 (lo := 1) (n := 1 + (m : Int) + 1) (ea_cons ev_c (ea_cons (ev_op (ev_var rfl) ev_c rv_I0) ea_nil)) ⟨by decide, by decide, by omega, by omega⟩
        (fun i σ' H' => ∃ (y4 y5 y6 y7 y8 : Option V), σ' = [some (.int (g : Int)), some (.ref q), some (.int (1 + (m : Int))), some (.ref f), y4, y5, y6, y7, y8] ∧ Ex H3 H' ∧ H' f = some (.dK (enc (pnewTo (pcs m) (m + 1) i))))
        (fun H5 e5 => ⟨_, _, _, _, _, rfl, e4.trans e5, e5 f _ hf⟩) ?_ ?_
      · rintro i σ' H5 hi ⟨y4, y5, y6, y7, y8, rfl, e5, hf5⟩
        have hi' : i < m + 1 := by omega
        refine q_asg (v := .int (prm (m + 1 - 1) (i + 1 - 1))) (ev_perm (n := m + 1 - 1) (k := i + 1 - 1) (ev_is (ev_op (ev_var rfl) ev_c rv_I0) (by congr 1; omega)) (ev_is (ev_op (ev_var rfl) ev_c rv_I0) (by congr 1; omega)) (by omega) (by omega)) fun H6 e6 => ?_
        -- the row that is walked
        have jl : m - i < ws.length := by omega
        obtain ⟨r, hr, d, ed, hd⟩ := paired_get hw (List.getElem?_eq_getElem jl)
        have hrD : (pcs m).getD (m + 1 - (i + 1)) [] = r := by
          rw [List.getD_eq_getElem?_getD, show m + 1 - (i + 1) = m - i by omega, hr]
          rfl
        have rok := pcs_ok (m := m) (by omega) (List.mem_of_getElem? hr)
        have hd6 := (e5.trans e6) d _ hd
        have nfd : f ≠ d := fun z => by
          rw [z, hd] at nf
          cases nf
        have hq6 := (e5.trans e6) q _ hq3
        have ndq : d ≠ q := fun z => by
          rw [z, hq3] at hd
          cases hd
        obtain ⟨tb, htb⟩ : ∃ tb, tb = prm (m + 1 - 1) (i + 1 - 1) := ⟨_, rfl⟩
        have tbs := prm_small (m + 1 - 1) (by omega) (i + 1 - 1) (by omega)
        rw [← htb] at tbs ⊢
        obtain ⟨A, hA⟩ : ∃ A, A = pnewTo (pcs m) (m + 1) i := ⟨_, rfl⟩
        have hAl := pnew_len hm20 i (by omega)
        rw [← hA] at hf5 hAl
        have hnx : pnewTo (pcs m) (m + 1) (i + 1) = r.foldl (pstep tb (i + 1)) A := by
          rw [pnew_next, hA, htb]
          unfold prow
          rw [hrD]
        rw [hnx]
        refine s_forItI (d := d) (ps := r) hd6 (fun o => ?_) (fun o j σ' H' => ∃ (y6 y7 y8 : Option V), σ' = [some (.int (g : Int)), some (.ref q), some (.int (1 + (m : Int))), some (.ref f), some (.int (1 + (i : Int))), some (.int tb), y6, y7, y8] ∧ Ex (upd H3 d (.frz o (.dK (enc r)))) H' ∧ H' f = some (.dK (enc ((r.take j).foldl (pstep tb (i + 1)) A)))) ?_ ?_ ?_ ?_
        · refine ev_op (ev_var rfl) (ev_is (ev_op (ev_var rfl) (ev_var rfl) rv_I0) (show V.int (1 + (m : Int) - (1 + (i : Int))) = V.int ((m - i : Nat) : Int) by congr 1; omega)) (rv_ixL (K := K) (sq_of (by rw [upd_ne ndq.symm]; exact hq6)) ?_)
          have := atI_nat (List.getElem?_eq_getElem jl)
          rw [ed] at this
          exact this
        · intro o H7 e7
          refine ⟨y6, y7, y8, rfl, fun b ob eb => e7 b ob ?_, e7 f _ ?_⟩
          · by_cases z : b = d
            · subst z
              rw [upd_same] at eb
              rw [upd_same]
              exact eb
            · rw [upd_ne z] at eb
              rw [upd_ne z]
              exact (e5.trans e6) b ob eb
          · rw [upd_ne nfd]
            exact e6 f _ hf5
        · rintro o j σ' H7 hj ⟨z6, z7, z8, rfl, e7, hf7⟩
          exact e7 d _ upd_same
        · rintro o j a v σ' H7 H8 hj ⟨z6, z7, z8, rfl, e7, hf7⟩ e8
          have jl2 := (List.getElem?_eq_some_iff.mp hj).1
          obtain ⟨b1, b2, b3, b4⟩ := rok.2.2 _ (List.mem_of_getElem? hj)
          have b1 : 1 ≤ a := b1
          have b2 : a < 2 ^ 40 := b2
          have b3 : 0 ≤ v := b3
          have b4 : v < 2 ^ 64 := b4
          obtain ⟨B, hB⟩ : ∃ B, B = (r.take j).foldl (pstep tb (i + 1)) A := ⟨_, rfl⟩
          have hBl : B.length < 10000 := by
            have := pstep_len tb (i + 1) (r.take j) A
            rw [← hB, List.length_take] at this
            omega
          rw [← hB] at hf7
          have nB : (r.take (j + 1)).foldl (pstep tb (i + 1)) A = pstep tb (i + 1) B (a, v) := by
            rw [take_next hj, List.foldl_append, ← hB]
            rfl
          rw [nB]
          have mm : CMulX v tb := mulx_ok (a := 64) (b := 60) (by omega) (by omega) (by decide)
          refine q_asg (v := .int ((Nat.lcm a.toNat (i + 1) : Nat) : Int)) (ev_lcm (ev_is (ev_var rfl) (by congr 1; omega)) (ev_is (ev_var rfl) (by congr 1; omega)) (by omega) (by omega)) fun H9 e9 => ?_
          have hf9 := (e8.trans e9) f _ hf7
          refine s_putI (ps := B) (ev_var rfl) (ev_var rfl) (ev_op (ev_getI (ps := B) (ev_var rfl) (ev_var rfl) ev_c hf9) (ev_op (ev_var rfl) (ev_var rfl) (rv_I mm)) rv_I0) hf9 hBl fun H10 e10 => ⟨_, _, _, rfl, ?_, upd_same⟩
          exact Ex.mut (e7.trans (e8.trans (e9.trans e10))) (by rw [upd_ne nfd]; exact nf)
        · rintro o σ' H7 ⟨z6, z7, z8, rfl, e7, hf7⟩
          rw [List.take_length] at hf7
          refine ⟨_, _, _, _, _, rfl, fun b ob eb => ?_, by rw [upd_ne nfd]; exact hf7⟩
          by_cases z : b = d
          · subst z
            rw [hd] at eb
            rw [upd_same]
            exact eb
          · rw [upd_ne z]
            exact e7 b ob (by rw [upd_ne z]; exact eb)
      · rintro σ' H5 ⟨y4, y5, y6, y7, y8, rfl, e5, hf5⟩
        have en : (1 + (m : Int) + 1 - 1).toNat = m + 1 := by omega
        rw [en] at hf5
        have hq5 := e5 q _ hq3
        refine s_app hq5 (ev_var rfl) (ev_var rfl) (by omega) fun H6 e6 => ⟨ws ++ [.ref f], _, _, _, _, _, _, _, rfl, ?_, upd_same, ?_⟩
        · refine Ex.mut (e3.trans (e5.trans e6)) ?_
          cases hh : H1 q with
          | none => rfl
          | some o =>
            have := e2 q o hh
            have nq' : H1 q = none := nq
            rw [nq'] at hh
            cases hh
        · have nqd : ∀ x r, DW H6 x r → DW (upd H6 q (.lst (ws ++ [.ref f]))) x r := fun x r ⟨c, ec, hc⟩ => ⟨c, ec, by
            have : c ≠ q := fun z => by
              rw [z, e6 q _ hq5] at hc
              cases hc
            rw [upd_ne this]
            exact hc⟩
          exact paired_app (paired_imp nqd (dw_ex (e5.trans e6) hw)) (.cons (nqd _ _ ⟨f, rfl, e6 f _ hf5⟩) .nil)
    · rintro σ' H3 ⟨ws, y2, y3, y4, y5, y6, y7, y8, rfl, e3, hq3, hw⟩
      have en : ((g : Int) + 1 - 1).toNat = g := by omega
      rw [en] at hw
      have wl := Paired.length hw
      rw [pcs_len] at wl
      have gl : g < ws.length := by omega
      obtain ⟨r, hr, d, ed, hd⟩ := paired_get hw (List.getElem?_eq_getElem gl)
      have hrD : (pcs g).getD g [] = r := by
        rw [List.getD_eq_getElem?_getD, hr]
        rfl
      have rok := pcs_ok (m := g) g20 (List.mem_of_getElem? hr)
      have back : ∀ c, H3 c = none → H c = none := fun c hc => by
        cases hh : H c with
        | none => rfl
        | some o =>
          have := (e1.trans e3) c o hh
          rw [hc] at this
          cases this
      refine s_retSI (ps := r) (a := d) (ev_op (ev_var rfl) (ev_var rfl) (rv_ixL (K := K) (sq_of hq3) ?_)) hd (fun z => by rw [z] at rok; exact absurd rok.1 (Nat.lt_irrefl _)) fun H' l zs x1 x2 x3 x4 x5 x6 => ?_
      · have := atI_nat (List.getElem?_eq_getElem gl)
        rw [ed] at this
        exact this
      · exact k H' l zs (e1.trans (e3.trans x1)) (back l x2) (by rw [hrD]; exact x3) x4 x5 fun z hz => ⟨back _ (x6 z hz).1, (x6 z hz).2⟩
end


local macro_rules | `(tactic| walk_at "call") => `(tactic| (with_reducible exact sv_whole))

section
variable {σ : L2.St} {H : Hp} {tu : TS} {tz : TS} {D : Ends}
theorem q_whenM {tt : TT} {b : Bool} (M : L2.St → Hp → Prop) (h : EvT tt σ H b) (h1 : b = true → ∀ H1, Ex H H1 → ∀ N : L2.St → Hp → Prop, (∀ σ' H', M σ' H' → N σ' H') → tu { D with nx := N } σ H1) (h2 : b = false → ∀ H1, Ex H H1 → M σ H1) (k : ∀ σ' H', M σ' H' → tz D σ' H') : tSeq (tIfS tt tu tNext) tz D σ H :=
  q_when h (fun hb H1 e => h1 hb H1 e (tz D) k) (fun hb H1 e => k σ H1 (h2 hb H1 e))
end

/-! ### the prime powers of a number: the mathematics -/
def outR : Nat → Nat → Nat → Nat
  | 0, _, r => r
  | f + 1, p, r => if r % p = 0 then outR f p (r / p) else r
def outQ : Nat → Nat → Nat → Nat
  | 0, _, _ => 1
  | f + 1, p, r => if r % p = 0 then p * outQ f p (r / p) else 1
def ppF : Nat → Nat → Nat → List Nat
  | 0, _, r => if 1 < r then [r] else []
  | f + 1, p, r => if p * p ≤ r then (if 1 < outQ 64 p r then [outQ 64 p r] else []) ++ ppF f (p + 1) (outR 64 p r) else if 1 < r then [r] else []
def ppL (n : Nat) : List Nat := ppF 40000 2 n
theorem div_pos2 {p r : Nat} (hr : 0 < r) (h : r % p = 0) : 0 < r / p := by
  have e := Nat.div_add_mod r p
  rw [h, Nat.add_zero] at e
  refine Nat.pos_of_ne_zero fun z => ?_
  rw [z, Nat.mul_zero] at e
  omega
theorem div_half {p r f : Nat} (hp : 2 ≤ p) (h : r < 2 ^ (f + 1)) : r / p < 2 ^ f := by
  have a : r / p ≤ r / 2 := Nat.div_le_div_left hp (by decide)
  rw [Nat.pow_succ] at h
  omega
theorem out_mul : ∀ (f p r : Nat), outQ f p r * outR f p r = r
  | 0, p, r => Nat.one_mul r
  | f + 1, p, r => by
    unfold outQ outR
    by_cases h : r % p = 0
    · rw [if_pos h, if_pos h, Nat.mul_assoc, out_mul f p (r / p), Nat.mul_comm]
      exact Nat.div_mul_cancel (Nat.dvd_of_mod_eq_zero h)
    · rw [if_neg h, if_neg h, Nat.one_mul]
theorem outR_le (f p r : Nat) (hr : 0 < r) : 0 < outR f p r ∧ outR f p r ≤ r ∧ 0 < outQ f p r ∧ outQ f p r ≤ r := by
  have h := out_mul f p r
  have a : 0 < outQ f p r := Nat.pos_of_ne_zero fun z => by
    rw [z, Nat.zero_mul] at h
    omega
  have b : 0 < outR f p r := Nat.pos_of_ne_zero fun z => by
    rw [z, Nat.mul_zero] at h
    omega
  have c := Nat.le_mul_of_pos_left (outR f p r) a
  have d := Nat.le_mul_of_pos_right (outQ f p r) b
  exact ⟨b, by omega, a, by omega⟩

/-! ### prime_powers, least_guests -/
def sp_ppow : Sp := fun vs H Q _ => ∃ n : Nat, vs = [.int (n : Int)] ∧ 1 ≤ n ∧ n ≤ 10 ^ 9 ∧ RetL (nv (ppL n)) H Q
def leastN (n : Nat) : Nat := if n = 1 then 1 else (ppL n).sum
def sp_least : Sp := fun vs H Q _ => ∃ n : Nat, vs = [.int (n : Int)] ∧ 1 ≤ n ∧ n ≤ 10 ^ 9 ∧ RetV (.int (leastN n : Int)) H Q
theorem sl_ppow {H : Hp} {n : Nat} (h1 : 1 ≤ n) (h2 : n ≤ 10 ^ 9) : SpL sp_ppow ([.int (n : Int)] ++ []) H (nv (ppL n)) := fun H1 e Q q E => ⟨n, rfl, h1, h2, q⟩
theorem sv_least {H : Hp} {n : Nat} (h1 : 1 ≤ n) (h2 : n ≤ 10 ^ 9) : SpV sp_least ([.int (n : Int)] ++ []) H (.int (leastN n : Int)) := fun H1 e Q q E => ⟨n, rfl, h1, h2, q⟩
section
variable {P : Program} {w : World} {K : PySem.W.Frag} {mg : Str → Option Value} {base : Heap}
theorem ok_prime_powers (T : Tx K mg) : FnOk P w K mg base CX0 1 T.f_prime_powers T.d_prime_powers ["number"] sp_ppow := by
  refine T.F_prime_powers.ok sc_prime_powers (fun vs H Q E h => ?_) (fun cdv A outer s0 H vs Q E hr h => ?_)
  · obtain ⟨n, rfl, _⟩ := h
    rfl
  · obtain ⟨n, rfl, n1, n9, k⟩ := h
    refine ⟨_, (pss_cons (ps_set (i := 1) sc_prime_powers.nd rfl (Or.inl rfl) (pe_lst pa_nil))
      (pss_cons (ps_set (i := 2) sc_prime_powers.nd rfl (Or.inl rfl) (pv 0))
      (pss_cons (ps_set (i := 3) sc_prime_powers.nd rfl (Or.inl rfl) pe_int)
      (pss_cons (ps_while PassesOwn.never (pt_cmpR op_le (pe_op op_mulX (pv 3) (pv 3)) (pv 2) (nomark _)) (pss_cons (ps_set (i := 4) sc_prime_powers.nd rfl (Or.inl rfl) pe_int)
      (pss_cons (ps_while PassesOwn.never (pt_cmpR op_eq (pe_op op_mod (pv 2) (pv 3)) pe_int (nomark _)) (pss_cons (ps_set (i := 2) sc_prime_powers.nd rfl (Or.inl rfl) (pe_op op_fdivW (pv 2) (pv 3)))
      (pss_one (ps_set (i := 4) sc_prime_powers.nd rfl (Or.inl rfl) (pe_op op_mulX (pv 4) (pv 3))))))
      (pss_cons (ps_if (pt_cmpR op_gt (pv 4) pe_int (nomark _)) (pss_one (ps_expr (pe_bm PySem.F.plainAttrs_list PySem.F.slot_list_append PySem.F.type_list_append mt_append (pv 1) (pa_cons (pv 4) pa_nil)))) pss_nil)
      (pss_one (ps_aug (i := 3) sc_prime_powers.nd rfl (Or.inl rfl) pe_int ip_add))))))
      (pss_one (ps_ret (pe_ifExp (pt_cmpR op_gt (pv 2) pe_int (nomark _)) (pe_op op_cat (pv 1) (pe_lst (pa_cons (pv 2) pa_nil))) (pv 1)))))))), ?_⟩
    refine q_asgL (xs := []) (el_lst ea_nil (Nat.zero_le _)) fun q H1 nq e1 hq => ?_
    refine q_asg (v := .int (n : Int)) (ev_var rfl) fun H2 e2 => ?_
    refine q_asg (v := .int 2) ev_c fun H3 e3 => ?_
    refine q_while (fun m σ' H' => ∃ (r p : Nat) (y4 : Option V) (L : List Nat), σ' = [some (.int (n : Int)), some (.ref q), some (.int (r : Int)), some (.int (p : Int)), y4] ∧ Ex H H' ∧ H' q = some (.lst (nv L)) ∧ L ++ ppF m p r = ppL n ∧ 0 < r ∧ r < (p + m) * (p + m) ∧ 2 ≤ p ∧ p + m ≤ 40002 ∧ 2 ^ L.length * r ≤ 10 ^ 9) 40000
      ⟨n, 2, none, [], rfl, e1.trans (e2.trans e3), (e2.trans e3) q _ hq, rfl, by omega, by omega, Nat.le_refl _, Nat.le_refl _, by simpa using n9⟩ ?_
    rintro m σ' H4 ⟨r, p, y4, L, rfl, e4, hq4, hL, hr0, hrm, hp2, hpm, hLr⟩
    have r9 : r ≤ 10 ^ 9 := Nat.le_trans (Nat.le_mul_of_pos_left r (Nat.pow_pos (by decide))) hLr
    have mm : CMulX (p : Int) (p : Int) := mulx_ok (a := 32) (b := 32) (by omega) (by omega) (by decide)
    refine ⟨decide (p * p ≤ r), et_is (et_test (ev_op (ev_op (ev_var rfl) (ev_var rfl) (rv_I mm)) (ev_var rfl) rv_I0)) ?_, fun hb H5 e5 => ?_, fun hb H5 e5 => ?_⟩
    · refine decide_eq_decide.mpr ?_
      rw [← Int.natCast_mul]
      exact Int.ofNat_le
    · have hb := of_decide_eq_true hb
      cases m with
      | zero =>
        rw [Nat.add_zero] at hrm
        omega
      | succ m =>
        have hF : ppF (m + 1) p r = (if 1 < outQ 64 p r then [outQ 64 p r] else []) ++ ppF m (p + 1) (outR 64 p r) := by
          rw [ppF, if_pos hb]
        rw [hF] at hL
        obtain ⟨o1, o2, o3, o4⟩ := outR_le 64 p r hr0
        have om := out_mul 64 p r
        obtain ⟨R0, hR0⟩ : ∃ R0, R0 = outR 64 p r := ⟨_, rfl⟩
        obtain ⟨Q0, hQ0⟩ : ∃ Q0, Q0 = outQ 64 p r := ⟨_, rfl⟩
        rw [← hR0] at o1 o2 om hL
        rw [← hQ0] at o3 o4 om hL
        refine ⟨fun σ' H' => ∃ L' : List Nat, σ' = [some (.int (n : Int)), some (.ref q), some (.int (R0 : Int)), some (.int ((p + 1 : Nat) : Int)), some (.int (Q0 : Int))] ∧ Ex H H' ∧ H' q = some (.lst (nv L')) ∧ L' = L ++ (if 1 < Q0 then [Q0] else []), ?_, ?_⟩
        · rintro σ2 H6 ⟨L', rfl, e6, hq6, hL'⟩
          refine ⟨m, Nat.lt_succ_self m, R0, p + 1, _, L', rfl, e6, hq6, ?_, o1, ?_, by omega, by omega, ?_⟩
          · rw [hL', List.append_assoc]
            exact hL
          · have : p + 1 + m = p + (m + 1) := by omega
            rw [this]
            exact Nat.lt_of_le_of_lt o2 hrm
          · rw [hL', List.length_append]
            by_cases hq1 : 1 < Q0
            · rw [if_pos hq1]
              show 2 ^ (L.length + 1) * R0 ≤ _
              rw [Nat.pow_succ, Nat.mul_assoc]
              refine Nat.le_trans (Nat.mul_le_mul_left _ ?_) hLr
              rw [← om]
              exact Nat.mul_le_mul_right _ hq1
            · rw [if_neg hq1]
              exact Nat.le_trans (Nat.mul_le_mul_left _ o2) hLr
        · refine q_asg (v := .int 1) ev_c fun H6 e6 => ?_
          have hq6 := (e5.trans e6) q _ hq4
          refine q_while (fun f σ' H' => ∃ (x y : Nat), σ' = [some (.int (n : Int)), some (.ref q), some (.int (x : Int)), some (.int (p : Int)), some (.int (y : Int))] ∧ Ex H4 H' ∧ outR f p x = R0 ∧ y * outQ f p x = Q0 ∧ 0 < x ∧ x < 2 ^ f ∧ y * x ≤ r ∧ 0 < y) 64
            ⟨r, 1, rfl, e5.trans e6, hR0.symm, by rw [Nat.one_mul]; exact hQ0.symm, hr0, Nat.lt_of_le_of_lt r9 (by decide), by rw [Nat.one_mul]; exact Nat.le_refl _, by decide⟩ ?_
          rintro f σ' H7 ⟨x, y, rfl, e7, hx, hy, x0, xf, yx, y0⟩
          have xr : x ≤ r := Nat.le_trans (Nat.le_mul_of_pos_left x y0) yx
          have yr : y ≤ r := Nat.le_trans (Nat.le_mul_of_pos_right y x0) yx
          refine ⟨decide (x % p = 0), et_is (et_test (ev_op (ev_op (ev_var rfl) (ev_var rfl) (rv_I (by omega))) ev_c (rv_eq rfl))) ?_, fun hz H8 e8 => ?_, fun hz H8 e8 => ?_⟩
          · refine decide_eq_decide.mpr ⟨fun z => ?_, fun z => ?_⟩
            · have := V.int.inj z
              omega
            · refine congrArg V.int ?_
              omega
          · have hz := of_decide_eq_true hz
            cases f with
            | zero => omega
            | succ f =>
              rw [outR, if_pos hz] at hx
              rw [outQ, if_pos hz] at hy
              have xd := Nat.div_mul_cancel (Nat.dvd_of_mod_eq_zero hz)
              have xp : p ≤ x := Nat.le_of_dvd x0 (Nat.dvd_of_mod_eq_zero hz)
              have m2 : CMulX (y : Int) (p : Int) := mulx_ok (a := 32) (b := 32) (by omega) (by omega) (by decide)
              refine ⟨fun σ' H' => σ' = [some (.int (n : Int)), some (.ref q), some (.int ((x / p : Nat) : Int)), some (.int (p : Int)), some (.int ((y * p : Nat) : Int))] ∧ Ex H4 H', ?_, ?_⟩
              · rintro σ2 H9 ⟨rfl, e9⟩
                refine ⟨f, Nat.lt_succ_self f, x / p, y * p, rfl, e9, hx, ?_, div_pos2 x0 hz, div_half hp2 xf, ?_, Nat.mul_pos y0 (by omega)⟩
                · rw [Nat.mul_assoc]
                  exact hy
                · rw [Nat.mul_assoc, Nat.mul_comm p, xd]
                  exact yx
              · refine q_asg (v := .int ((x / p : Nat) : Int)) (ev_is (ev_op (ev_var rfl) (ev_var rfl) (rv_I (divw_ok (by omega) (by omega)))) (by rw [Int.natCast_ediv])) fun H9 e9 => ?_
                refine s_asg (v := .int ((y * p : Nat) : Int)) (ev_is (ev_op (ev_var rfl) (ev_var rfl) (rv_I m2)) (by rw [Int.natCast_mul])) fun H10 e10 => ⟨rfl, e7.trans (e8.trans (e9.trans e10))⟩
          · have hz : ¬ x % p = 0 := of_decide_eq_false hz
            have hx : x = R0 := by
              cases f with
              | zero => exact hx
              | succ f =>
                rw [outR, if_neg hz] at hx
                exact hx
            have hy : y = Q0 := by
              cases f with
              | zero =>
                rw [← hy]
                exact (Nat.mul_one y).symm
              | succ f =>
                rw [outQ, if_neg hz, Nat.mul_one] at hy
                exact hy
            subst hx hy
            have hq8 := (e7.trans e8) q _ hq4
            have ll : L.length < 100000 := by
              have a : L.length < 2 ^ L.length := Nat.lt_two_pow_self
              have b : 2 ^ L.length ≤ 2 ^ L.length * r := Nat.le_mul_of_pos_right _ hr0
              have c : 2 ^ L.length < 2 ^ 30 := Nat.lt_of_le_of_lt (Nat.le_trans b hLr) (by decide)
              have := (Nat.pow_lt_pow_iff_right (a := 2) (by decide)).mp c
              omega
            refine q_whenM (b := decide (1 < y)) (fun σ' H' => ∃ L' : List Nat, σ' = [some (.int (n : Int)), some (.ref q), some (.int (x : Int)), some (.int (p : Int)), some (.int (y : Int))] ∧ Ex H H' ∧ H' q = some (.lst (nv L')) ∧ L' = L ++ (if 1 < y then [y] else [])) (et_is (et_test (ev_op (ev_var rfl) ev_c rv_I0)) ?_) (fun hy1 H9 e9 N hN => ?_) (fun hy1 H9 e9 => ?_) ?_
            · refine decide_eq_decide.mpr ?_
              omega
            · have hy1 := of_decide_eq_true hy1
              refine s_app (e9 q _ hq8) (ev_var rfl) (ev_var rfl) (by rw [nv_len]; exact ll) fun H10 e10 => hN _ _ ⟨L ++ [y], rfl, Ex.mut (e4.trans (e7.trans (e8.trans (e9.trans e10)))) nq, ?_, by rw [if_pos hy1]⟩
              rw [upd_same, nv_app]
              rfl
            · have hy1 : ¬ 1 < y := of_decide_eq_false hy1
              exact ⟨L, rfl, e4.trans (e7.trans (e8.trans e9)), e9 q _ hq8, by rw [if_neg hy1, List.append_nil]⟩
            · rintro σ' H9 ⟨L', rfl, e9, hq9, hL'⟩
              exact s_aug rfl ev_c fun H10 e10 => ⟨L', by rw [Int.natCast_add]; rfl, e9.trans e10, e10 q _ hq9, hL'⟩
    · have hb : ¬ p * p ≤ r := of_decide_eq_false hb
      have hF : ppF m p r = if 1 < r then [r] else [] := by
        cases m with
        | zero => rfl
        | succ m => rw [ppF, if_neg hb]
      rw [hF] at hL
      have hq5 := e5 q _ hq4
      have ll : L.length ≤ 30 := by
        have b : 2 ^ L.length ≤ 2 ^ L.length * r := Nat.le_mul_of_pos_right _ hr0
        have c : 2 ^ L.length < 2 ^ 30 := Nat.lt_of_le_of_lt (Nat.le_trans b hLr) (by decide)
        exact Nat.le_of_lt ((Nat.pow_lt_pow_iff_right (a := 2) (by decide)).mp c)
      have et : EvT _ _ H5 (decide (1 < r)) := et_is (et_test (ev_op (ta := tVar 2) (tb := tC (.int 1)) (σ := [some (.int (n : Int)), some (.ref q), some (.int (r : Int)), some (.int (p : Int)), y4]) (ev_var rfl) ev_c (rv_I0 (g := fun i j => .bl (decide (i > j)))))) (decide_eq_decide.mpr (by omega))
      refine et _ (Ex.refl _) _ fun H6 e6 => ?_
      by_cases hr1 : 1 < r
      · rw [if_pos hr1] at hL
        rw [if_pos (decide_eq_true hr1)]
        refine el_catL (xs := nv L) (ys := [.int (r : Int)]) (ev_var rfl) (e6 q _ hq5) (el_lst (ea_cons (ev_var rfl) ea_nil) (Nat.le_of_ble_eq_true rfl)) (by rw [nv_len]; show L.length + 1 ≤ 1000; omega) H6 (Ex.refl _) _ fun z H7 nz e7 hz => ?_
        refine k z H7 ?_ (e4.trans (e5.trans (e6.trans e7))) ?_
        · cases hh : H z with
          | none => rfl
          | some o =>
            have := (e4.trans (e5.trans e6)) z o hh
            rw [nz] at this
            cases this
        · rw [hz, ← hL, nv_app]
          rfl
      · rw [if_neg hr1, List.append_nil] at hL
        rw [if_neg (by simpa using hr1)]
        refine (ev_var rfl : Ev (tVar 1) _ H6 (.ref q)) H6 (Ex.refl _) _ fun H7 e7 => ?_
        exact k q H7 nq (e4.trans (e5.trans (e6.trans e7))) (by rw [← hL]; exact (e6.trans e7) q _ hq5)
end

/-! ### the least number of guests, as the law reckons it: the mathematics -/
theorem out_self {r : Nat} (h : 1 < r) : outR 64 r r = 1 ∧ outQ 64 r r = r := by
  have h1 : r / r = 1 := Nat.div_self (by omega)
  have h2 : 1 % r = 1 := Nat.mod_eq_of_lt h
  constructor
  · rw [outR, if_pos (Nat.mod_self r), h1, outR, if_neg (by rw [h2]; decide)]
  · rw [outQ, if_pos (Nat.mod_self r), h1, outQ, if_neg (by rw [h2]; decide), Nat.mul_one]
theorem outR_dvd (f p r : Nat) : outR f p r ∣ r := ⟨outQ f p r, by rw [Nat.mul_comm]; exact (out_mul f p r).symm⟩
theorem outR_not : ∀ (f p r : Nat), 2 ≤ p → 0 < r → r < 2 ^ f → ¬ p ∣ outR f p r
  | 0, p, r, _, h0, h => by
    have : r < 1 := h
    omega
  | f + 1, p, r, hp, h0, h => by
    unfold outR
    by_cases hz : r % p = 0
    · rw [if_pos hz]
      exact outR_not f p (r / p) hp (div_pos2 h0 hz) (div_half hp h)
    · rw [if_neg hz]
      exact fun d => hz (Nat.mod_eq_zero_of_dvd d)
theorem ppF_pos : ∀ (m p r : Nat), 1 < r → 0 < (ppF m p r).sum
  | 0, p, r, h => by
    rw [ppF, if_pos h]
    simp
    omega
  | m + 1, p, r, h => by
    rw [ppF]
    by_cases hp : p * p ≤ r
    · rw [if_pos hp, List.sum_append]
      obtain ⟨o1, o2, o3, o4⟩ := outR_le 64 p r (by omega)
      have om := out_mul 64 p r
      by_cases hq : 1 < outQ 64 p r
      · rw [if_pos hq]
        simp
        omega
      · have e : outQ 64 p r = 1 := by omega
        rw [e, Nat.one_mul] at om
        have := ppF_pos m (p + 1) (outR 64 p r) (by omega)
        omega
    · rw [if_neg hp, if_pos h]
      simp
      omega
theorem ppF_one (m p : Nat) (hp : 2 ≤ p) : ppF m p 1 = [] := by
  have h4 := Nat.mul_le_mul hp hp
  cases m with
  | zero => rfl
  | succ m => rw [ppF, if_neg (by omega), if_neg (by decide)]
def LI (n M F r p : Nat) : Prop := 0 < r ∧ r ≤ 10 ^ 9 ∧ 2 ≤ p ∧ p ≤ 10 ^ 9 ∧ ((r = 1 ∧ F = (ppL n).sum) ∨ (M = 1 ∧ p = r ∧ 1 < r ∧ F + r = (ppL n).sum) ∨ ∃ m, M = m + 2 ∧ F + (ppF m p r).sum = (ppL n).sum ∧ r < (p + m) * (p + m) ∧ p + m ≤ 40002 ∧ ∀ d, 2 ≤ d → d < p → ¬ d ∣ r)
theorem LI_start {n : Nat} (h1 : 1 ≤ n) (h9 : n ≤ 10 ^ 9) : LI n 40002 0 n 2 := ⟨h1, h9, by decide, by decide, .inr (.inr ⟨40000, rfl, Nat.zero_add _, by omega, by decide, fun d h2 h3 => by omega⟩)⟩
theorem LI_end {n M F r p : Nat} (h : LI n M F r p) (h1 : ¬ 1 < r) : F = (ppL n).sum := by
  obtain ⟨r0, r9, p2, p9, h⟩ := h
  have e : r = 1 := by omega
  subst e
  rcases h with ⟨_, h⟩ | ⟨_, _, h, _⟩ | ⟨m, _, h, _⟩
  · exact h
  · omega
  · rw [ppF_one m p p2] at h
    simpa using h
theorem LI_next {n M F r p : Nat} (h : LI n M F r p) (h1 : 1 < r) : ∃ M', M' < M ∧ LI n M' (F + if 1 < outQ 64 p r then outQ 64 p r else 0) (outR 64 p r) (if p * p ≤ outR 64 p r then p + 1 else max (outR 64 p r) 2) := by
  obtain ⟨r0, r9, p2, p9, h⟩ := h
  rcases h with ⟨h, _⟩ | ⟨hM, hp, _, hF⟩ | ⟨m, hM, hF, hrm, hpm, hd⟩
  · omega
  · subst hp
    obtain ⟨s1, s2⟩ := out_self h1
    have pp : ¬ p * p ≤ 1 := by
      have := Nat.mul_le_mul p2 p2
      omega
    rw [s1, s2, if_pos h1, if_neg pp]
    exact ⟨0, by omega, by decide, by decide, by decide, by decide, .inl ⟨rfl, hF⟩⟩
  · obtain ⟨o1, o2, o3, o4⟩ := outR_le 64 p r r0
    have om := out_mul 64 p r
    have od := outR_dvd 64 p r
    have on := outR_not 64 p r p2 r0 (Nat.lt_of_le_of_lt r9 (by decide))
    have h4 := Nat.mul_le_mul p2 p2
    by_cases hp : p * p ≤ r
    · cases m with
      | zero =>
        rw [Nat.add_zero] at hrm
        omega
      | succ m =>
        have hFs : F + (if 1 < outQ 64 p r then outQ 64 p r else 0) + (ppF m (p + 1) (outR 64 p r)).sum = (ppL n).sum := by
          rw [← hF, ppF, if_pos hp, List.sum_append]
          by_cases hq : 1 < outQ 64 p r
          · rw [if_pos hq, if_pos hq]
            simp
            omega
          · rw [if_neg hq, if_neg hq]
            simp
        by_cases hpR : p * p ≤ outR 64 p r
        · rw [if_pos hpR]
          refine ⟨m + 2, by omega, o1, by omega, by omega, by omega, .inr (.inr ⟨m, rfl, hFs, ?_, by omega, fun d h2 h3 hdv => ?_⟩)⟩
          · have : p + 1 + m = p + (m + 1) := by omega
            rw [this]
            exact Nat.lt_of_le_of_lt o2 hrm
          · by_cases e : d = p
            · rw [e] at hdv
              exact on hdv
            · exact hd d h2 (by omega) (Nat.dvd_trans hdv od)
        · rw [if_neg hpR]
          have h5 : ¬ (p + 1) * (p + 1) ≤ outR 64 p r := by
            have : p * p ≤ (p + 1) * (p + 1) := Nat.mul_le_mul (by omega) (by omega)
            omega
          have e : ppF m (p + 1) (outR 64 p r) = if 1 < outR 64 p r then [outR 64 p r] else [] := by
            cases m with
            | zero => rfl
            | succ m => rw [ppF, if_neg h5]
          rw [e] at hFs
          by_cases hR : 1 < outR 64 p r
          · rw [if_pos hR] at hFs
            have em : max (outR 64 p r) 2 = outR 64 p r := by omega
            rw [em]
            refine ⟨1, by omega, o1, by omega, by omega, by omega, .inr (.inl ⟨rfl, rfl, hR, ?_⟩)⟩
            simpa using hFs
          · rw [if_neg hR] at hFs
            refine ⟨0, by omega, o1, by omega, by omega, by omega, .inl ⟨by omega, ?_⟩⟩
            simpa using hFs
    · have e : ppF m p r = [r] := by
        cases m with
        | zero => rw [ppF, if_pos h1]
        | succ m => rw [ppF, if_neg hp, if_pos h1]
      rw [e] at hF
      have hF : F + r = (ppL n).sum := by simpa using hF
      by_cases hz : p ∣ r
      · obtain ⟨q, hq⟩ := hz
        have q1 : q = 1 := by
          by_cases hq2 : 2 ≤ q
          · have ql : q < p := by
              refine Nat.lt_of_not_le fun z => hp ?_
              rw [hq]
              exact Nat.mul_le_mul_left p z
            exact absurd ⟨p, by rw [hq, Nat.mul_comm]⟩ (hd q hq2 ql)
          · have : q ≠ 0 := fun z => by
              rw [z, Nat.mul_zero] at hq
              omega
            omega
        rw [q1, Nat.mul_one] at hq
        subst hq
        obtain ⟨s1, s2⟩ := out_self h1
        have pp : ¬ r * r ≤ 1 := by omega
        rw [s1, s2, if_pos h1, if_neg pp]
        exact ⟨0, by omega, by decide, by decide, by decide, by decide, .inl ⟨rfl, hF⟩⟩
      · have s1 : outR 64 p r = r := by rw [outR, if_neg fun z => hz (Nat.dvd_of_mod_eq_zero z)]
        have s2 : outQ 64 p r = 1 := by rw [outQ, if_neg fun z => hz (Nat.dvd_of_mod_eq_zero z)]
        rw [s1, s2, if_neg (by decide), if_neg hp]
        have em : max r 2 = r := by omega
        rw [em]
        exact ⟨1, by omega, r0, r9, by omega, r9, .inr (.inl ⟨rfl, rfl, h1, hF⟩)⟩

/-! ### least_guests, _law_least -/
def sp_leastR {K : PySem.W.Frag} {mg : Str → Option Value} (T : Tx K mg) : Sp := fun vs H Q E => ∃ x : Int, vs = [.int x] ∧ (¬ (1 ≤ x ∧ x ≤ 1000000000) → ∀ H1, Ex H H1 → E (.ref T.cl_InvalidNumber) none H1) ∧ (1 ≤ x ∧ x ≤ 1000000000 → ∀ v H1, Ex H H1 → Q v H1)
theorem sv_ll {H : Hp} {n : Nat} (h1 : 1 ≤ n) (h2 : n ≤ 10 ^ 9) : SpV sp_least ([.int (n : Int)] ++ []) H (.int (leastN n : Int)) := sv_least h1 h2
theorem ev_sumL {K : PySem.W.Frag} {σ : L2.St} {H : Hp} {te : TE} {ns : List Int} (h : EvL te σ H (ns.map V.int)) : Ev (tCB (rSum K) (tCons te tNil)) σ H (.int ns.sum) := fun H1 e Q q => h H1 e _ fun p H2 np e2 hp => ⟨p, ns, rfl, sq_of hp, q H2 e2⟩
theorem leastN_max {n : Nat} (h1 : 1 ≤ n) : leastN n = max 1 (ppL n).sum := by
  unfold leastN
  by_cases e : n = 1
  · subst e
    rw [if_pos rfl]
    have : ppL 1 = [] := ppF_one 40000 2 (by decide)
    rw [this]
    rfl
  · rw [if_neg e]
    have : 0 < (ppL n).sum := ppF_pos 40000 2 n (by omega)
    omega
section
variable {P : Program} {w : World} {K : PySem.W.Frag} {mg : Str → Option Value} {base : Heap}
theorem ok_least_guests (T : Tx K mg) : FnOk P w K mg base (L2N.CX P w) 4 T.f_least_guests T.d_least_guests ["period"] (sp_leastR T) := by
  refine Kit.okN T.F_least_guests sc_least_guests (fun vs H Q E h => ?_) (fun cdv A outer s0 H vs Q E hr h => ?_)
  · obtain ⟨x, rfl, _⟩ := h
    rfl
  · obtain ⟨x, rfl, kE, k⟩ := h
    refine ⟨_, (pss_cons (ps_expr (pe_call (ok_check_number T) (hr.mono (by decide)) (by rfl) T.g_check_number T.F_check_number.kp T.b_check_number .nil Kit.passN (pa_cons (pv 0) (pa_cons pe_int (pa_cons (pe_gc (by rfl) T.c_MOST_PERIOD) pa_nil)))))
      (PSs.nox (pss_cons (ps_if (pt_cmpR op_eq (pv 0) pe_int (nomark _)) (pss_one (ps_ret pe_int)) pss_nil)
      (pss_one (ps_ret (pe_callB (cr_sum rfl) (by rfl) T.m_sum (by decide +kernel) (pa_cons (pe_call (ok_prime_powers T) (hr.mono (by decide)) (by rfl) T.g_prime_powers T.F_prime_powers.kp T.b_prime_powers .nil pass0 (pa_cons (pv 0) pa_nil)) pa_nil))))))), ?_⟩
    refine q_chk (ea_cons (ev_var rfl) (ea_cons ev_c (ea_cons ev_c ea_nil))) (so_chkN (lo := 1) (hi := 1000000000) (by decide +kernel) (by decide +kernel)) (fun hn H1 e1 => ?_) fun C hC H1 e1 => ?_
    rotate_left
    · obtain ⟨hm, rfl⟩ := due_yes hC
      exact kE hm _ e1
    have hx : 1 ≤ x ∧ x ≤ 1000000000 := due_no hn
    obtain ⟨n, rfl⟩ := Int.eq_ofNat_of_zero_le (show 0 ≤ x by omega)
    have n1 : 1 ≤ n := by omega
    have n9 : n ≤ 10 ^ 9 := by omega
    have k : RetV (.int (leastN n : Int)) H Q := fun H1 e => k hx _ _ e
    refine q_when (b := decide (n = 1)) (et_is (et_test (ev_op (ev_var rfl) ev_c (rv_eq rfl))) ?_) (fun hb H2 e2 => ?_) fun hb H2 e2 => ?_
    · refine decide_eq_decide.mpr ⟨fun z => ?_, fun z => ?_⟩
      · have := V.int.inj z
        omega
      · exact congrArg V.int (by omega)
    · have hb := of_decide_eq_true hb
      have e : leastN n = 1 := if_pos hb
      exact s_ret ev_c fun H3 e3 => by
        have := k H3 (e1.trans (e2.trans e3))
        rw [e] at this
        exact this
    · have hb : ¬ n = 1 := of_decide_eq_false hb
      have e : leastN n = (ppL n).sum := if_neg hb
      refine s_ret (v := .int (leastN n : Int)) (ev_is (ev_sumL (ns := (ppL n).map fun x : Nat => (x : Int)) ?_) ?_) fun H3 e3 => k H3 (e1.trans (e2.trans e3))
      · have := el_call (E := E) (ea_cons (ev_var (i := 0) (σ := [some (.int (n : Int))]) (H := H2) rfl) ea_nil) (sl_ppow (H := H2) n1 n9)
        rw [nv_eq] at this
        rw [List.map_map]
        exact this
      · rw [e]
        congr 1
        generalize ppL n = L
        induction L with
        | nil => rfl
        | cons x l ih => rw [List.map_cons, List.sum_cons, List.sum_cons, ih, Int.natCast_add]
end


local macro_rules | `(tactic| walk_at "call") => `(tactic| (with_reducible exact sv_whole))

/-! ### Hall(): an object with its five fields -/
section
variable {P : Program} {w : World} {K : PySem.W.Frag} {mg : Str → Option Value} {base : Heap}
theorem q_fldI {σ : L2.St} {H G : Hp} {D : Ends} {tz : TS} {tv : TE} {a C dx : Addr} {fs : List (Str × V)} {f : Str} (hv : ∀ H1, Ex H H1 → ∀ Q : VK, (∀ v H2, Ex H1 H2 → Q v H2) → tv σ H1 Q) (ha : σ[0]? = some (some (.ref a))) (h : H a = some (.ins C dx fs)) (c : Cls K C) (n : NoAttr K C f) (hl : fs.length < 1000)
    (e0 : Ex (Hm a G) H) (k : ∀ v H1, Ex (Hm a G) H1 → H1 a = some (.ins C dx (putF f v fs)) → tz D σ H1) : tSeq (sFld K (tVar 0) tv f) tz D σ H :=
  hv H (Ex.refl _) _ fun v H1 e1 => (ev_var (i := 0) ha) H1 (Ex.refl _) _ fun H2 e2 => ⟨a, C, dx, fs, rfl, (e1.trans e2) a _ h, c, n, hl, k v _ (Ex.mut (e0.trans (e1.trans e2)) hm_p) upd_same⟩
theorem s_fldI {σ : L2.St} {H G : Hp} {D : Ends} {tv : TE} {a C dx : Addr} {fs : List (Str × V)} {f : Str} (hv : ∀ H1, Ex H H1 → ∀ Q : VK, (∀ v H2, Ex H1 H2 → Q v H2) → tv σ H1 Q) (ha : σ[0]? = some (some (.ref a))) (h : H a = some (.ins C dx fs)) (c : Cls K C) (n : NoAttr K C f) (hl : fs.length < 1000)
    (e0 : Ex (Hm a G) H) (k : ∀ v H1, Ex (Hm a G) H1 → H1 a = some (.ins C dx (putF f v fs)) → D.nx σ H1) : sFld K (tVar 0) tv f D σ H :=
  q_fldI (tz := fun D => D.nx) hv ha h c n hl e0 k
theorem put_lt {f : Str} {v : V} {fs : List (Str × V)} {n : Nat} (h : fs.length ≤ n) : (putF f v fs).length ≤ n + 1 := Nat.le_trans (length_putF f v fs) (by omega)
theorem pv_ev {σ : L2.St} {H : Hp} {tv : TE} {v : V} (h : Ev tv σ H v) : ∀ H1, Ex H H1 → ∀ Q : VK, (∀ v H2, Ex H1 H2 → Q v H2) → tv σ H1 Q := fun H1 e Q q => h H1 e Q fun H2 e2 => q v H2 e2
theorem pv_L {σ : L2.St} {H : Hp} {tv : TE} {xs : List V} (h : EvL tv σ H xs) : ∀ H1, Ex H H1 → ∀ Q : VK, (∀ v H2, Ex H1 H2 → Q v H2) → tv σ H1 Q := fun H1 e Q q => h H1 e Q fun p H2 _ e2 _ => q _ H2 e2
theorem pv_U {σ : L2.St} {H : Hp} {tv : TE} {xs : List V} (h : EvU tv σ H xs) : ∀ H1, Ex H H1 → ∀ Q : VK, (∀ v H2, Ex H1 H2 → Q v H2) → tv σ H1 Q := fun H1 e Q q => h H1 e Q fun p H2 _ e2 _ => q _ H2 e2
theorem pv_D {σ : L2.St} {H : Hp} : ∀ H1, Ex H H1 → ∀ Q : VK, (∀ v H2, Ex H1 H2 → Q v H2) → tDNewK σ H1 Q := fun H1 _ Q q l hl => q _ _ (Ex.new hl)
def sp_hall (T : Tx K mg) : Sp := fun vs H Q _ => ∃ (a dx : Addr), vs = [.ref a, .int 1] ∧ H a = some (.ins T.cl_Hall dx []) ∧ ∀ fs H', Ex (Hm a H) H' → H' a = some (.ins T.cl_Hall dx fs) → Q .non H'
theorem ok_Hall_init (T : Tx K mg) : FnOk P w K mg base (L2N.CX P w) 4 T.f_Hall_init T.d_Hall_init ["self", "weight"] (sp_hall T) := by
  refine Kit.okM T.F_Hall_init sc_Hall_init (fun vs H Q E h => ?_) (fun cdv A outer s H vs Q E hr h => ?_)
  · obtain ⟨a, dx, rfl, _⟩ := h
    rfl
  · obtain ⟨a, dx, rfl, ha, k⟩ := h
    refine ⟨_, (pss_cons (ps_expr (pe_call (ok_check_weight T) (hr.mono (by decide)) (by rfl) T.g_check_weight T.F_check_weight.kp T.b_check_weight .nil Kit.passN (pa_cons (pv 1) pa_nil)))
      (PSs.nox (pss_cons (ps_fld (pv 0) (pv 1) rfl)
      (pss_cons (ps_fld (pv 0) pe_dnewK rfl)
      (pss_cons (ps_fld (pv 0) pe_int rfl)
      (pss_cons (ps_fld (pv 0) (pe_tup (pa_cons pe_int (pa_cons pe_int pa_nil))) rfl)
      (pss_one (ps_fld (pv 0) (pe_lst pa_nil) rfl)))))))), ?_⟩
    have c := T.o_Hall.cls
    refine q_chk (ea_cons (ev_var rfl) ea_nil) so_chk1 (fun _ H1 e1 => ?_) fun C hC H1 e1 => ?_
    · refine q_fldI (G := H) (pv_ev (ev_var (i := 1) rfl)) rfl (e1 a _ ha) c (T.o_Hall.na _ (by decide)) (by decide) (hm_sub.trans e1) fun v1 H2 e2 h2 => ?_
      have l1 := put_lt (f := "_weight") (v := v1) (fs := []) (n := 0) (Nat.le_refl _)
      refine q_fldI (G := H) pv_D rfl h2 c (T.o_Hall.na _ (by decide)) (by omega) e2 fun v2 H3 e3 h3 => ?_
      have l2 := put_lt (f := "_lefts") (v := v2) l1
      refine q_fldI (G := H) (pv_ev (ev_c (v := .int 0))) rfl h3 c (T.o_Hall.na _ (by decide)) (by omega) e3 fun v3 H4 e4 h4 => ?_
      have l3 := put_lt (f := "_newcomer") (v := v3) l2
      refine q_fldI (G := H) (pv_U (eu_tup (ea_cons ev_c (ea_cons ev_c ea_nil)) (Nat.le_of_ble_eq_true rfl))) rfl h4 c (T.o_Hall.na _ (by decide)) (by omega) e4 fun v4 H5 e5 h5 => ?_
      have l4 := put_lt (f := "_chance") (v := v4) l3
      exact s_fldI (G := H) (pv_L (el_lst ea_nil (Nat.le_of_ble_eq_true rfl))) rfl h5 c (T.o_Hall.na _ (by decide)) (by omega) e5 fun v5 H6 e6 h6 => k _ _ e6 h6
    · obtain ⟨z, _⟩ := due_yes hC
      exact absurd (show (1 : Int) ≤ 1 ∧ (1 : Int) ≤ 1000000000000 by decide) z
end

/-! ### things that are no seating -/
section
variable {K : PySem.W.Frag} {σ : L2.St} {H H' : Hp} {p : Addr} {te ta tb : TE} {t tr : TA} {R : Hp → V → Prop} {D : Ends} {tz : TS}
def EvJ (p : Addr) (R : Hp → V → Prop) (te : TE) (σ : L2.St) (H : Hp) : Prop := ∀ H1, Ex H H1 → H1 p ≠ none → ∀ Q : VK, (∀ v H2, Ex H1 H2 → R (Hm p H2) v → Q v H2) → te σ H1 Q
def EvJA (p : Addr) (R : Hp → V → Prop) (ta : TA) (σ : L2.St) (H : Hp) (n : Nat) : Prop := ∀ H1, Ex H H1 → H1 p ≠ none → ∀ Q : List V → Hp → Prop, (∀ vs H2, Ex H1 H2 → vs.length = n → (∀ v ∈ vs, R (Hm p H2) v) → Q vs H2) → ta σ H1 Q
def EvJL (p : Addr) (R : Hp → V → Prop) (te : TE) (σ : L2.St) (H : Hp) (n : Nat) : Prop := ∀ H1, Ex H H1 → H1 p ≠ none → ∀ Q : VK, (∀ l vs H2, H1 l = none → Ex H1 H2 → H2 l = some (.lst vs) → vs.length = n → (∀ v ∈ vs, R (Hm p H2) v) → Q (.ref l) H2) → te σ H1 Q
def MonoJ (R : Hp → V → Prop) : Prop := ∀ H H' v, Ex H H' → R H v → R H' v
theorem some_ex {H H' : Hp} {p : Addr} (e : Ex H H') (h : H p ≠ none) : H' p ≠ none := by
  cases hp : H p with
  | none => exact absurd hp h
  | some o =>
    rw [e p o hp]
    exact nofun
theorem hm_get {H : Hp} {p l : Addr} {o : HO} (h : H l = some o) (ne : l ≠ p) : Hm p H l = some o := by
  unfold Hm
  rw [if_neg ne]
  exact h
theorem ne_fresh {H : Hp} {p l : Addr} (h : H p ≠ none) (hl : H l = none) : l ≠ p := fun z => h (z ▸ hl)
theorem ja_nil : EvJA p R tNil σ H 0 := fun H1 _ _ _ q => q [] H1 (Ex.refl H1) rfl (by simp)
theorem ja_cons (hR : MonoJ R) {n : Nat} (h : EvJ p R te σ H) (hr : EvJA p R tr σ H n) : EvJA p R (tCons te tr) σ H (n + 1) := fun H1 e hp _ q =>
  h H1 e hp _ fun v H2 e2 hv => hr H2 (e.trans e2) (some_ex e2 hp) _ fun vs H3 e3 hl hvs => q (v :: vs) H3 (e2.trans e3) (by simp [hl]) fun x hx => by
    rcases List.mem_cons.mp hx with z | z
    · rw [z]
      exact hR _ _ _ (hm_mono e3) hv
    · exact hvs x z
theorem jl_lst (hR : MonoJ R) {n : Nat} (h : EvJA p R t σ H n) (hn : n ≤ 100000) : EvJL p R (tLst t) σ H n := fun H1 e hp Q q =>
  h H1 e hp _ fun vs H2 e2 hl hv => ⟨sz_of (by omega), fun l hl' => q l vs _ (fresh_back e2 hl') (e2.trans (Ex.new hl')) upd_same hl fun v z => hR _ _ _ (hm_mono (Ex.new hl')) (hv v z)⟩
theorem j_c {v : V} (h : Ev te σ H v) (r : ∀ H, R H v) : EvJ p R te σ H := fun H1 e _ Q q => h H1 e Q fun H2 e2 => q v H2 e2 (r _)
theorem j_L {xs : List V} (h : EvL te σ H xs) (r : ∀ a H, H a = some (.lst xs) → R H (.ref a)) : EvJ p R te σ H := fun H1 e hp Q q => h H1 e Q fun l H2 hl e2 h2 => q _ H2 e2 (r l _ (hm_get h2 (ne_fresh hp hl)))
theorem j_U {xs : List V} (h : EvU te σ H xs) (r : ∀ a H, H a = some (.tup xs) → R H (.ref a)) : EvJ p R te σ H := fun H1 e hp Q q => h H1 e Q fun l H2 hl e2 h2 => q _ H2 e2 (r l _ (hm_get h2 (ne_fresh hp hl)))
theorem j_D (r : ∀ a H, H a = some (.dK []) → R H (.ref a)) : EvJ p R tDNewK σ H := fun H1 e hp Q q l hl => q _ _ (Ex.new hl) (r l _ (hm_get upd_same (ne_fresh hp hl)))
/-- a list of one new list -/
theorem j_LL {xs : List V} (h : EvL te σ H xs) (r : ∀ a b H, H a = some (.lst [.ref b]) → H b = some (.lst xs) → R H (.ref a)) : EvJ p R (tLst (tCons te tNil)) σ H := fun H1 e hp Q q =>
  h H1 e _ fun b H2 hb e2 h2 => ⟨sz_of (Nat.le_of_ble_eq_true rfl), fun l hl => q _ _ (e2.trans (Ex.new hl)) (r l b _ (hm_get upd_same (ne_fresh (some_ex e2 hp) hl)) (hm_get (Ex.new hl b _ h2) (ne_fresh hp hb)))⟩
theorem q_asgJL {i n : Nat} (h : EvJL p R te σ H n) (hp : H p ≠ none) (q : ∀ b vs H1, H b = none → Ex H H1 → H1 b = some (.lst vs) → vs.length = n → (∀ v ∈ vs, R (Hm p H1) v) → tz D (σ.set i (some (.ref b))) H1) : tSeq (tAsg te (gName i)) tz D σ H := h H (Ex.refl H) hp _ q
end
theorem Po.some {p l : Addr} {n : Nat} {H : Hp} (h : Po p l n H) : H p ≠ none := by
  obtain ⟨_, _, _, _, _, h1, _⟩ := h
  rw [h1]
  exact nofun
/-! what is no list of guests -/
theorem judge_perm {ds : List PyData} (hj : judge (some ds) = true) : ds.all isI = true ∧ (intsOf ds).Perm (iz (List.range ds.length)) := by
  unfold judge at hj
  simp only [Bool.and_eq_true] at hj
  obtain ⟨_, hi, hs⟩ := hj
  refine ⟨hi, ?_⟩
  rw [← eqv_ints_eq hs]
  exact (sortI_perm _).symm
theorem no_item {ds : List PyData} (d : PyData) (h : d ∈ ds) (hd : isI d = false) : judge (some ds) = false := by
  cases hj : judge (some ds) with
  | false => rfl
  | true =>
    have := List.all_eq_true.mp (judge_perm hj).1 d h
    rw [hd] at this
    cases this
theorem ints_mem {ds : List PyData} {x : Int} (h : PyData.int x ∈ ds) : x ∈ intsOf ds := List.mem_map.mpr ⟨_, h, rfl⟩
theorem no_out {ds : List PyData} (x : Int) (h : PyData.int x ∈ ds) (hx : x < 0 ∨ (ds.length : Int) ≤ x) : judge (some ds) = false := by
  cases hj : judge (some ds) with
  | false => rfl
  | true =>
    have := (judge_perm hj).2.mem_iff.mp (ints_mem h)
    obtain ⟨y, hy, rfl⟩ := List.mem_map.mp this
    have := List.mem_range.mp hy
    omega
theorem no_miss {ds : List PyData} (x : Nat) (h : x < ds.length) (hx : (x : Int) ∉ intsOf ds) : judge (some ds) = false := by
  cases hj : judge (some ds) with
  | false => rfl
  | true => exact absurd ((judge_perm hj).2.mem_iff.mpr (List.mem_map.mpr ⟨x, List.mem_range.mpr h, rfl⟩)) hx
def ivD : V → PyData
  | .int i => .int i
  | _ => .none
def Sc : V → Prop
  | .non => True
  | .bl _ => True
  | .int _ => True
  | .str _ => True
  | _ => False
theorem iv_sc {H : Hp} {v : V} (h : Sc v) : Iv H v (ivD v) := by
  cases v with
  | non => exact ⟨⟨"NoneType", rfl, PySem.TypeEq.meta_NoneType, rfl⟩, nofun, nofun⟩
  | bl b => exact ⟨⟨"bool", rfl, PySem.TypeEq.meta_bool, rfl⟩, nofun, nofun⟩
  | int i => exact iv_int
  | str s => exact ⟨⟨"str", rfl, PySem.TypeEq.meta_str, rfl⟩, nofun, nofun⟩
  | _ => exact (show False from h).elim
theorem iv_lst {H : Hp} {a : Addr} {xs : List V} (h : H a = some (.lst xs)) : Iv H (.ref a) .none := ⟨⟨"list", by simp [zTyV, h], PySem.TypeEq.meta_list, rfl⟩, nofun, nofun⟩
theorem iv_tup {H : Hp} {a : Addr} {xs : List V} (h : H a = some (.tup xs)) : Iv H (.ref a) .none := ⟨⟨"tuple", by simp [zTyV, h], PySem.TypeEq.meta_tuple, rfl⟩, nofun, nofun⟩
theorem ivs_sc {H : Hp} : ∀ {xs : List V}, (∀ v ∈ xs, Sc v) → Paired (Iv H) xs (xs.map ivD)
  | [], _ => .nil
  | x :: r, h => .cons (iv_sc (h x List.mem_cons_self)) (ivs_sc fun v hv => h v (List.mem_cons_of_mem _ hv))
/-- no list of guests: why does not matter -/
def Bad (K : PySem.W.Frag) (J : Option (List PyData) → Bool) (H : Hp) (v : V) : Prop := ∃ o, Bd K H v o ∧ J o = false
theorem bad_mono {K : PySem.W.Frag} {J : Option (List PyData) → Bool} : MonoJ (Bad K J) := fun H H' v e h => h.imp fun o x => ⟨x.1.ex e, x.2⟩
section
variable {K : PySem.W.Frag} {J : Option (List PyData) → Bool} {H : Hp}
theorem bad_sc {v : V} (h : Sc v) (j : J none = false) : Bad K J H v := by
  cases v with
  | non => exact ⟨none, .ty "NoneType" rfl PySem.TypeEq.meta_NoneType (by decide), j⟩
  | bl b => exact ⟨none, .ty "bool" rfl PySem.TypeEq.meta_bool (by decide), j⟩
  | int i => exact ⟨none, .ty "int" rfl PySem.TypeEq.meta_int (by decide), j⟩
  | str s => exact ⟨none, .ty "str" rfl PySem.TypeEq.meta_str (by decide), j⟩
  | _ => exact (show False from h).elim
theorem bad_tup {a : Addr} {xs : List V} (h : H a = some (.tup xs)) (j : J none = false) : Bad K J H (.ref a) := ⟨none, .ty "tuple" (by simp [zTyV, h]) PySem.TypeEq.meta_tuple (by decide), j⟩
theorem bad_dct {a : Addr} {kvs : List (Key × V)} (h : H a = some (.dK kvs)) (j : J none = false) : Bad K J H (.ref a) := ⟨none, .dct rfl h, j⟩
theorem bad_lst {a : Addr} {xs : List V} (h : H a = some (.lst xs)) (hs : ∀ v ∈ xs, Sc v) (j : J (some (xs.map ivD)) = false) : Bad K J H (.ref a) := ⟨_, .lst rfl h (ivs_sc hs), j⟩
theorem bad_ll {a b : Addr} {xs : List V} (h : H a = some (.lst [.ref b])) (h2 : H b = some (.lst xs)) (j : J (some [.none]) = false) : Bad K J H (.ref a) := ⟨_, .lst rfl h (.cons (iv_lst h2) .nil), j⟩
end
/-- an item that no list of n guests has -/
def Wi (n : Nat) (H : Hp) (v : V) : Prop := ∃ d, Iv H v d ∧ (isI d = false ∨ ∃ x, d = .int x ∧ (x < 0 ∨ (n : Int) ≤ x))
theorem wi_mono {n : Nat} : MonoJ (Wi n) := fun H H' v e h => h.imp fun d x => ⟨x.1.ex e, x.2⟩
theorem wi_sc {n : Nat} {H : Hp} {v : V} (h : Sc v) (i : isI (ivD v) = false) : Wi n H v := ⟨_, iv_sc h, .inl i⟩
theorem wi_int {n : Nat} {H : Hp} {x : Int} (h : x < 0 ∨ (n : Int) ≤ x) : Wi n H (.int x) := ⟨_, iv_int, .inr ⟨x, rfl, h⟩⟩
theorem sc_nv (h : List Nat) : ∀ v ∈ nv h, Sc v := fun v hv => by
  rw [nv_eq] at hv
  obtain ⟨x, _, rfl⟩ := List.mem_map.mp hv
  exact True.intro
theorem iv_nv {H : Hp} (h : List Nat) : Paired (Iv H) (nv h) ((iz h).map PyData.int) := iv_ints (iz h)
theorem paired_set {α β : Type} {P : α → β → Prop} : ∀ {xs : List α} {ys : List β} {i : Nat} {x : α} {y : β}, Paired P xs ys → P x y → Paired P (xs.set i x) (ys.set i y)
  | _, _, _, _, _, .nil, _ => .nil
  | _, _, 0, _, _, .cons _ t, h => .cons h t
  | _, _, i + 1, _, _, .cons h t, h2 => .cons h (paired_set (i := i) t h2)

/-! ### _law_bad_seating -/
section
variable {σ : L2.St} {H0 H : Hp} {p L : Addr} {k : Nat} {te : TE}
theorem pq_ifD {n : Nat} {D : Ends} {tu tz : TS} (h : EvP p L k te σ H0 (fun v _ => ∃ b, v = .bl b)) (e : Ex H0 H) (hp : Po p L n H) (hn : n + k ≤ 1000000000) (q1 : ∀ H2, Po p L (n + k) H2 → Ex (Hm p H) H2 → tu { D with nx := tz D } σ H2) (q2 : ∀ H2, Po p L (n + k) H2 → Ex (Hm p H) H2 → tz D σ H2) :
    tSeq (tIfS (tTest te) tu tNext) tz D σ H := h n H e hp hn _ fun v H2 ⟨b, hb⟩ p2 e2 => ⟨b, hb, by
  cases b
  · exact iteF (q2 H2 p2 e2)
  · exact iteT (q1 H2 p2 e2)⟩
theorem pq_asgRg {i n : Nat} {D : Ends} {tz : TS} {C : Nat → Prop} (h : EvP p L k te σ H0 (fun v _ => ∃ r : Nat, v = .int (r : Int) ∧ r ≤ 1000 ∧ C r)) (e : Ex H0 H) (hp : Po p L n H) (hn : n + k ≤ 1000000000)
    (q : ∀ (r : Nat) l H2 H3, C r → H2 l = none → Ex H2 H3 → H3 l = some (.lst (nv (List.range r))) → Po p L (n + k) H2 → Po p L (n + k) H3 → Ex (Hm p H) H2 → tz D (σ.set i (some (.ref l))) H3) : tSeq (tAsg (tLstRg (tRg1 te)) (gName i)) tz D σ H :=
  h n H e hp hn _ fun v H2 ⟨r, hv, hr, hc⟩ p2 e2 => by
    have g := el_rg1 (tb := tC (.int (r : Int))) (σ := σ) (H := H2) ev_c (RgOk.of_le (by decide) (by omega) (by decide) (by omega)) H2 (Ex.refl _) (fun x H4 => gName i x σ H4 fun s' H' => tz D s' H') fun l H3 hl e3 h3 => q r l H2 H3 hc hl e3 (by rw [h3, range_iz]) p2 (p2.ex e3) e2
    subst hv
    exact g
theorem ep_ixJ {K : PySem.W.Frag} {R : Hp → V → Prop} {tl tb : TE} {m : Nat} (hR : MonoJ R) (h : EvJL p R tl σ H0 m) (hd : EvP p L k tb σ H0 (fun v _ => ∃ r, v = .int r ∧ 0 ≤ r ∧ r < (m : Int))) : EvP p L k (tOp (rIxL K) tl tb) σ H0 (fun v H => R (Hm p H) v) := fun n H1 e hp hn Q q =>
  h H1 e hp.some _ fun l vs H2 nl e2 hl vl hvs => hd n H2 (e.trans e2) (hp.ex e2) hn _ fun x H3 ⟨r, hx, r0, r1⟩ p3 e3 => by
    subst hx
    obtain ⟨r, rfl⟩ : ∃ z : Nat, r = z := ⟨r.toNat, by omega⟩
    obtain ⟨z, hz⟩ : ∃ z, vs[r]? = some z := ⟨_, List.getElem?_eq_getElem (by omega)⟩
    have hl3 : H3 l = some (.lst vs) := hm_at e3 (hp.ne nl) hl
    exact (rv_ixL (K := K) (sq_of hl3) (atI_nat hz)) H3 (Ex.refl _) _ fun H4 e4 => q z H4 (hR (Hm p H2) (Hm p H4) z (ex_hm (hm_trans e3 (hm_of e4)) hm_p) (hvs z (List.mem_of_getElem? hz))) (p3.ex e4) (hm_trans (hm_of e2) (hm_trans e3 (hm_of e4)))
end
theorem hm_upd {H : Hp} {p l : Addr} {o : HO} (ne : l ≠ p) : Hm p (upd H l o) = upd (Hm p H) l o := by
  funext b
  show (if b = p then none else upd H l o b) = upd (Hm p H) l o b
  by_cases h1 : b = p
  · rw [if_pos h1, upd_ne (fun z => ne (z.symm.trans h1)), h1]
    exact hm_p.symm
  · rw [if_neg h1]
    by_cases h2 : b = l
    · rw [h2, upd_same, upd_same]
    · rw [upd_ne h2, upd_ne h2]
      exact (if_neg h1).symm
theorem ret_op {σ : L2.St} {H : Hp} {D : Ends} {ta tb : TE} {r : R2} {x : V} (ha : Ev ta σ H x) (k : ∀ H1, Ex H H1 → tb σ H1 fun y H2 => r x y H2 D.rt) : tRet (tOp r ta tb) D σ H := ha H (Ex.refl H) _ k
theorem set_by {σ : L2.St} {H : Hp} {D : Ends} {tz : TS} {te ta tb : TE} {v o : V} (h : Ev te σ H v) (ho : Ev ta σ H o) (k : ∀ H1, Ex H H1 → tb σ H1 fun i H2 => rSetL o i v H2 fun H3 => tz D σ H3) : tSeq (tAsg te (gSub ta tb rSetL)) tz D σ H := h H (Ex.refl H) _ fun H1 e1 => ho H1 e1 _ fun H2 e2 => k H2 (e1.trans e2)
theorem iv_upd {H : Hp} {l : Addr} {xs ys : List V} {v : V} {d : PyData} (hl : H l = some (.lst xs)) (h : Iv H v d) : Iv (upd H l (.lst ys)) v d := by
  obtain ⟨⟨n, hn, m⟩, h2⟩ := h
  refine ⟨⟨n, ?_, m⟩, h2⟩
  cases v with
  | ref q =>
    simp only [zTyV] at hn ⊢
    by_cases z : q = l
    · subst z
      rw [hl] at hn
      rw [upd_same]
      exact hn
    · rw [upd_ne z]
      exact hn
  | _ => exact hn
def sp_bad_seating (K : PySem.W.Frag) : Sp := fun vs H Q _ => ∃ (p L : Addr) (n : Nat), vs = [.ref p] ∧ Po p L n H ∧ n + 10 < 1000000000 ∧ ∀ v H', Bad K judge (Hm p H') v → Po p L (n + 10) H' → Ex (Hm p H) H' → Q v H'
section
variable {P : Program} {w : World} {K : PySem.W.Frag} {mg : Str → Option Value} {base : Heap}
theorem j_make (T : Tx K mg) {p : Addr} {σ : L2.St} {H : Hp} (j : judge none = false) : EvJ p (Bad K judge) (tMake T.cl_Hall (sp_hall T) [.int 1] E0 tNil) σ H := fun H1 e hp Q q x dx hx hdx ne =>
  ⟨x, dx, rfl, upd_same, fun fs H' e2 h2 => by
    have eX : Ex H1 H' := fun b o hb => by
      have b1 : b ≠ x := fun z => by
        rw [z, hx] at hb
        cases hb
      have b2 : b ≠ dx := fun z => by
        rw [z, hdx] at hb
        cases hb
      refine e2 b o (hm_get ?_ b1)
      rw [upd_ne b1, upd_ne b2]
      exact hb
    exact ⟨rfl, q _ H' eX ⟨none, .own rfl (hm_get h2 (ne_fresh hp hx)) T.o_Hall.ty, j⟩⟩⟩
theorem ok_law_bad_seating (T : Tx K mg) : FnOk P w K mg base CX0 6 T.f_law_bad_seating T.d_law_bad_seating ["bag"] (sp_bad_seating K) := by
  refine T.F_law_bad_seating.ok sc_law_bad_seating (fun vs H Q E h => ?_) (fun cdv A outer s H vs Q E hr h => ?_)
  · obtain ⟨p, L, n, rfl, _⟩ := h
    rfl
  · obtain ⟨p, L, n, rfl, hpo, hn, k⟩ := h
    refine ⟨_, (pss_cons (ps_set (i := 1) sc_law_bad_seating.nd rfl (Or.inl rfl) (pe_lst (pa_cons pe_non (pa_cons (pe_tup pa_nil) (pa_cons (pe_lst pa_nil) (pa_cons pe_dnewK (pa_cons pe_int (pa_cons pe_str (pa_cons (pe_lst (pa_cons pe_non pa_nil)) (pa_cons (pe_lst (pa_cons (pe_lst (pa_cons pe_int pa_nil)) pa_nil)) (pa_cons (pe_lst (pa_cons pe_str pa_nil)) (pa_cons (pe_lst (pa_cons pe_bl pa_nil)) (pa_cons (pe_lst (pa_cons pe_int pa_nil)) (pa_cons (pe_lst (pa_cons (pe_un un_neg pe_int) pa_nil)) (pa_cons (pe_tup (pa_cons pe_int (pa_cons pe_int pa_nil))) (pa_cons (pe_lst (pa_cons pe_int (pa_cons pe_int pa_nil))) (pa_cons (pe_lst (pa_cons pe_int (pa_cons pe_int pa_nil))) (pa_cons (pe_make0 T.o_Hall.made (ok_Hall_init T) (hr.mono (by decide)) (by rfl) T.gc_Hall T.bm_Hall_init T.bv_Hall_init Kit.passE0) (pa_cons pe_bl pa_nil)))))))))))))))))))
      (pss_cons (ps_if (pt_cmpR op_eq (pe_call (ok_law_draw T) (hr.mono (by decide)) (by rfl) T.g_law_draw T.F_law_draw.kp T.b_law_draw .nil pass0 (pa_cons (pv 0) (pa_cons pe_int pa_nil))) pe_int (nomark _)) (pss_one (ps_ret (pe_ix ix_list (pv 1) (pe_call (ok_law_draw T) (hr.mono (by decide)) (by rfl) T.g_law_draw T.F_law_draw.kp T.b_law_draw .nil pass0 (pa_cons (pv 0) (pa_cons pe_int pa_nil))) (fun _ _ => rfl)))) pss_nil)
      (pss_cons (ps_set (i := 2) sc_law_bad_seating.nd rfl (Or.inl rfl) (pe_listRg rfl (by rfl) T.m_list (prg_1 (by rfl) T.m_range (pe_op op_add pe_int (pe_call (ok_law_draw T) (hr.mono (by decide)) (by rfl) T.g_law_draw T.F_law_draw.kp T.b_law_draw .nil pass0 (pa_cons (pv 0) (pa_cons pe_int pa_nil)))))))
      (pss_cons (ps_set (i := 3) sc_law_bad_seating.nd rfl (Or.inl rfl) (pe_ix ix_list (pe_lst (pa_cons pe_non (pa_cons pe_bl (pa_cons pe_str (pa_cons (pe_lst (pa_cons pe_int pa_nil)) (pa_cons (pe_un un_neg pe_int) (pa_cons (pe_tup (pa_cons pe_int pa_nil)) (pa_cons (pe_callB call_lenR (by rfl) T.m_len (by decide +kernel) (pa_cons (pv 2) pa_nil)) (pa_cons (pe_op op_powX pe_int pe_int) pa_nil))))))))) (pe_call (ok_law_draw T) (hr.mono (by decide)) (by rfl) T.g_law_draw T.F_law_draw.kp T.b_law_draw .nil pass0 (pa_cons (pv 0) (pa_cons pe_int pa_nil))) (fun _ _ => rfl)))
      (pss_cons (ps_asg (pv 3) (pg_sub (pv 2) (pe_call (ok_law_draw T) (hr.mono (by decide)) (by rfl) T.g_law_draw T.F_law_draw.kp T.b_law_draw .nil pass0 (pa_cons (pv 0) (pa_cons (pe_callB call_lenR (by rfl) T.m_len (by decide +kernel) (pa_cons (pv 2) pa_nil)) pa_nil))) set_list))
      (pss_one (ps_ret (pv 2)))))))), ?_⟩
    have jn : judge none = false := rfl
    have one : ∀ {te : TE} {σ : L2.St} {G : Hp} {v : V}, Ev te σ G v → EvL (tLst (tCons te tNil)) σ G [v] := fun h => el_lst (ea_cons h ea_nil) (Nat.le_of_ble_eq_true rfl)
    have two : ∀ {te tf : TE} {σ : L2.St} {G : Hp} {v u : V}, Ev te σ G v → Ev tf σ G u → EvL (tLst (tCons te (tCons tf tNil))) σ G [v, u] := fun h h2 => el_lst (ea_cons h (ea_cons h2 ea_nil)) (Nat.le_of_ble_eq_true rfl)
    have sc1 : ∀ {v : V}, Sc v → ∀ x ∈ [v], Sc x := fun h x hx => by rw [List.mem_singleton.mp hx]; exact h
    have sc2 : ∀ {v u : V}, Sc v → Sc u → ∀ x ∈ [v, u], Sc x := fun h h2 x hx => by
      rcases List.mem_cons.mp hx with e | hx
      · rw [e]; exact h
      · rw [List.mem_singleton.mp hx]; exact h2
    have m1 : ∀ {σ : L2.St} {G : Hp}, Ev (tUn (rU fun i => .int (-i)) (tC (.int 1))) σ G (.int (-1)) := ev_un ev_c ru_neg
    refine q_asgJL (p := p) (R := Bad K judge) (n := 17) (jl_lst bad_mono (ja_cons bad_mono (j_c ev_c fun _ => bad_sc (v := .non) True.intro jn) (ja_cons bad_mono (j_U (eu_tup ea_nil (Nat.le_of_ble_eq_true rfl)) fun _ _ h => bad_tup h jn)
      (ja_cons bad_mono (j_L (el_lst ea_nil (Nat.le_of_ble_eq_true rfl)) fun _ _ h => bad_lst h (by simp) rfl) (ja_cons bad_mono (j_D fun _ _ h => bad_dct h jn) (ja_cons bad_mono (j_c ev_c fun _ => bad_sc (v := .int 3) True.intro jn)
      (ja_cons bad_mono (j_c ev_c fun _ => bad_sc (v := .str "0 1") True.intro jn) (ja_cons bad_mono (j_L (one (v := .non) ev_c) fun _ _ h => bad_lst h (sc1 True.intro) (no_item .none (by simp [ivD]) rfl))
      (ja_cons bad_mono (j_LL (one (v := .int 0) ev_c) fun _ _ _ h h2 => bad_ll h h2 (no_item .none (by simp) rfl)) (ja_cons bad_mono (j_L (one (v := .str "0") ev_c) fun _ _ h => bad_lst h (sc1 True.intro) (no_item .none (by simp [ivD]) rfl))
      (ja_cons bad_mono (j_L (one (v := .bl true) ev_c) fun _ _ h => bad_lst h (sc1 True.intro) (no_item .none (by simp [ivD]) rfl)) (ja_cons bad_mono (j_L (one (v := .int 1) ev_c) fun _ _ h => bad_lst h (sc1 True.intro) (no_out 1 (by simp [ivD]) (by decide)))
      (ja_cons bad_mono (j_L (one (v := .int (-1)) m1) fun _ _ h => bad_lst h (sc1 True.intro) (no_out (-1) (by simp [ivD]) (by decide))) (ja_cons bad_mono (j_U (eu_tup (ea_cons ev_c (ea_cons ev_c ea_nil)) (Nat.le_of_ble_eq_true rfl)) fun _ _ h => bad_tup h jn)
      (ja_cons bad_mono (j_L (two (v := .int 0) (u := .int 0) ev_c ev_c) fun _ _ h => bad_lst h (sc2 True.intro True.intro) (no_miss 1 (by decide) (by simp [ivD, intsOf]))) (ja_cons bad_mono (j_L (two (v := .int 1) (u := .int 2) ev_c ev_c) fun _ _ h => bad_lst h (sc2 True.intro True.intro) (no_out 2 (by simp [ivD]) (by decide)))
      (ja_cons bad_mono (j_make T jn) (ja_cons bad_mono (j_c ev_c fun _ => bad_sc (v := .bl false) True.intro jn) ja_nil)))))))))))))))))
      (by decide)) hpo.some fun b vs H1 nb e1 hb vl hvs => ?_
    have bp : b ≠ p := hpo.ne nb
    have p1 := hpo.ex e1
    refine pq_ifD (p := p) (L := L) (H0 := Hm p H1) (k := 1 + 0) (ep_op (Ra := fun v _ => ∃ r, v = .int r ∧ 0 ≤ r ∧ r < 2) (Rb := fun v _ => v = .int 0) hm_p (ep_dipI hm_p (ev_var rfl) ev_c (by decide) (by decide)) (ep_ev ev_c) stb_c stb_c fun x y G ⟨r, hx, _⟩ hy => ⟨.bl (decide (V.int r = V.int 0)), ⟨_, rfl⟩, by
      subst hx
      subst hy
      exact rv_eq rfl⟩) hm_sub p1 (by omega) (fun H2 p2 e2 => ?_) fun H2 p2 e2 => ?_
    · refine ret_op (ev_var (i := 1) (v := .ref b) rfl) fun H3 e3 => ?_
      have p3 := p2.ex e3
      refine (ep_dipI (p := p) (L := L) (w := 17) (H0 := Hm p H3) hm_p (ev_var rfl) ev_c (by decide) (by decide)) _ H3 hm_sub p3 (by omega) _ fun v H4 ⟨r, hv, r0, r1⟩ p4 e4 => ?_
      subst hv
      have e24 := hm_trans (hm_trans e2 (hm_of e3)) e4
      have hb4 : H4 b = some (.lst vs) := hm_at e24 bp hb
      obtain ⟨r, rfl⟩ : ∃ z : Nat, r = z := ⟨r.toNat, by omega⟩
      obtain ⟨z, hz⟩ : ∃ z, vs[r]? = some z := ⟨_, List.getElem?_eq_getElem (by omega)⟩
      refine (rv_ixL (K := K) (sq_of hb4) (atI_nat hz)) H4 (Ex.refl _) _ fun H5 e5 => ?_
      have e15 := hm_trans e24 (hm_of e5)
      refine k _ _ (bad_mono (Hm p H1) (Hm p H5) z (ex_hm e15 hm_p) (hvs z (List.mem_of_getElem? hz))) ((p4.ex e5).mono (by omega)) (hm_trans (hm_of e1) e15)
    · have e12 := hm_trans (hm_of e1) e2
      refine pq_asgRg (p := p) (L := L) (k := 0 + 1) (H0 := Hm p H2) (C := fun r => 1 ≤ r ∧ r ≤ 20) (ep_is (ep_add (a := 1) (C := fun r => 0 ≤ r ∧ r < 20) hm_p ev_c (ep_dipI hm_p (ev_var rfl) ev_c (by decide) (by decide))) fun v _ ⟨r, hv, r0, r1⟩ => ⟨(1 + r).toNat, by rw [hv]; congr 1; omega, by omega, by omega⟩) hm_sub p2 (by omega) fun m l H3 H4 hm nl e4 hl p3 p4 e3 => ?_
      obtain ⟨ma, mb⟩ := hm
      have lp : l ≠ p := p3.ne nl
      have lL : l ≠ L := p3.nl nl
      have nlH : H l = none := by
        have := fresh_back (hm_trans e12 e3) nl
        unfold Hm at this
        rw [if_neg lp] at this
        exact this
      have p30 : ∀ {σ : L2.St} {G : Hp}, Ev (tOp (rI CPowX fun i j => .int (i ^ j.toNat)) (tC (.int 10)) (tC (.int 30))) σ G (.int 1000000000000000000000000000000) := ev_op ev_c ev_c (rv_I (by constructor <;> decide +kernel))
      have ln : Ev (tCB (rLenS K) (tCons (tVar 2) tNil)) [some (.ref p), some (.ref b), some (.ref l), none] H4 (.int (m : Int)) := ev_is (ev_len (K := K) (ev_var rfl) (sq_of hl)) (by rw [nv_len, List.length_range])
      have lnm : Ev (tCB (rLenS K) (tCons (tVar 2) tNil)) [some (.ref p), some (.ref b), some (.ref l), none] (Hm p H4) (.int (m : Int)) := ev_is (ev_len (K := K) (ev_var rfl) (sq_of (hm_get hl lp))) (by rw [nv_len, List.length_range])
      refine pq_asg (p := p) (L := L) (k := 1) (H0 := Hm p H4) (R := fun v G => Wi m (Hm p G) v) (ep_ixJ (K := K) (m := 8) wi_mono (jl_lst wi_mono (ja_cons wi_mono (j_c ev_c fun _ => wi_sc (v := .non) True.intro rfl) (ja_cons wi_mono (j_c ev_c fun _ => wi_sc (v := .bl true) True.intro rfl) (ja_cons wi_mono (j_c ev_c fun _ => wi_sc (v := .str "0") True.intro rfl)
        (ja_cons wi_mono (j_L (one (v := .int 0) ev_c) fun _ _ h => ⟨_, iv_lst h, .inl rfl⟩) (ja_cons wi_mono (j_c m1 fun _ => wi_int (.inl (by decide))) (ja_cons wi_mono (j_U (eu_tup (ea_cons (ev_c (v := .int 0)) ea_nil) (Nat.le_of_ble_eq_true rfl)) fun _ _ h => ⟨_, iv_tup h, .inl rfl⟩)
        (ja_cons wi_mono (j_c lnm fun _ => wi_int (.inr (Int.le_refl _))) (ja_cons wi_mono (j_c p30 fun _ => wi_int (.inr (by omega))) ja_nil)))))))) (by decide)) (ep_dipI hm_p (ev_var rfl) ev_c (by decide) (by decide))) hm_sub p4 (by omega) fun v H5 hv p5 e5 => ?_
      have hl5 : H5 l = some (.lst (nv (List.range m))) := hm_at e5 lp hl
      -- found[draw] = wrong
      refine set_by (ev_var (i := 3) (v := v) rfl) (ev_var (i := 2) (v := .ref l) rfl) fun H7 e67 => ?_
      have hl7 := e67 l _ hl5
      refine (ep_dipI (p := p) (L := L) (w := (m : Int)) (H0 := Hm p H7) (σ := [some (.ref p), some (.ref b), some (.ref l), some v]) hm_p (ev_var rfl) (ev_is (ev_len (K := K) (ev_var (i := 2) rfl) (sq_of (hm_get hl7 lp))) (by rw [nv_len, List.length_range])) (by omega) (by omega)) _ H7 hm_sub (p5.ex e67) (by omega) _ fun x H8 ⟨r, hx, r0, r1⟩ p8 e8 => ?_
      subst hx
      obtain ⟨r, rfl⟩ : ∃ z : Nat, r = z := ⟨r.toNat, by omega⟩
      have hl8 : H8 l = some (.lst (nv (List.range m))) := hm_at e8 lp hl7
      refine ⟨l, _, (r : Int), r, rfl, rfl, hl8, ixN_nat (by rw [nv_len, List.length_range]; omega), ?_⟩
      refine s_ret (ev_var (i := 2) rfl) fun H9 e9 => ?_
      have e58 := hm_trans (hm_of e67) e8
      have eA : Ex (Hm p H) H8 := hm_trans (hm_trans e12 e3) (hm_trans (hm_of e4) (hm_trans e5 e58))
      refine k _ _ ?_ (((p8.upd lp lL).ex e9).mono (by omega)) ((Ex.mut eA (by unfold Hm; rw [if_neg lp]; exact nlH)).trans e9)
      refine bad_mono _ _ _ (hm_mono e9) ?_
      rw [hm_upd lp]
      have hv8 : Wi m (Hm p H8) v := wi_mono _ _ _ (ex_hm e58 hm_p) hv
      obtain ⟨d, hd, why⟩ := hv8
      have hlm := hm_get hl8 lp
      have dl : (((iz (List.range m)).map PyData.int).set r d).length = m := by simp [iz]
      have dm : d ∈ ((iz (List.range m)).map PyData.int).set r d := List.mem_iff_getElem?.mpr ⟨r, by rw [List.getElem?_set_self (by simp [iz]; omega)]⟩
      refine ⟨_, .lst (ds := ((iz (List.range m)).map PyData.int).set r d) rfl upd_same (paired_set (iv_nv _) (iv_upd hlm hd)), ?_⟩
      rcases why with z | ⟨x, rfl, z⟩
      · exact no_item d dm z
      · exact no_out x dm (by rw [dl]; exact z)
end


local macro_rules | `(tactic| walk_at "call") => `(tactic| (with_reducible exact sv_whole))

/-! ### _law_asked -/
section
variable {σ : L2.St} {H : Hp} {D : Ends} {te tf : TE} {t : TA} {vs : List V} {sp : Sp}
theorem s_chkIS {C : Addr → Sp → Prop} {due : Option Addr} {W : WX} {f : Addr} (hf : Ev tf σ H (.ref f)) (hC : C f sp) (ha : ∀ H1, Ex H H1 → EvA t σ H1 vs) (hs : SpO sp (vs ++ []) H due) (k : due = none → ∀ H1, Ex H H1 → D.nx σ H1) (ke : ∀ C, due = some C → ∀ H1, Ex H H1 → W (.ref C) none σ H1) :
    tDrop (tCallIS C (WE W) tf t) D σ H := hf H (Ex.refl H) _ fun H1 e1 => ⟨f, sp, rfl, hC, ha H1 e1 H1 (Ex.refl _) _ fun H2 e2 => hs H2 (e1.trans e2) _ _ ⟨fun z v H3 e3 => k z H3 ((e1.trans e2).trans e3), fun C z H3 e3 => ke C z H3 ((e1.trans e2).trans e3)⟩⟩
end
def vO : Option Nat → V
  | none => .non
  | some i => .int (i : Int)
theorem rev_ord {m : Nat} (h1 : 1 ≤ m) (h2 : m ≤ 20) : Ord (List.range m).reverse := by
  have l : (List.range m).reverse.length = m := by simp
  refine ⟨?_, by rw [l]; exact h1, by rw [l]; exact h2⟩
  rw [l]
  exact List.reverse_perm _
def erA {K : PySem.W.Frag} {mg : Str → Option Value} (T : Tx K mg) : Nat → Addr
  | 0 => T.cl_InvalidSeating
  | 1 => T.cl_InvalidNumber
  | 2 => T.cl_InvalidSizes
  | _ => T.cl_InvalidGuests
def dS (o : Option (List PyData)) : Option Nat := if judge o = true then none else some 0
def dN (o : Option (List PyData)) (x : Int) : Option Nat := if judge o = true then (if 1 ≤ x ∧ x ≤ 1000000 then none else some 1) else some 0
def dZ (o : Option (List PyData)) : Option Nat := if judgeZ o = true then none else some 2
def dG (x : Int) : Option Nat := if 1 ≤ x ∧ x ≤ 20 then none else some 3
def dL (x : Int) : Option Nat := if 1 ≤ x ∧ x ≤ 1000000000 then none else some 1
inductive Asked (K : PySem.W.Frag) (H : Hp) : Nat → V → V → Option Nat → Prop
  | pow (v : V) (o : Option (List PyData)) (x : Int) (hv : Bd K H v o) : Asked K H 0 v (.int x) (dS o)
  | rt (n : Nat) (hn : n = 1 ∨ n = 2 ∨ n = 3 ∨ n = 5 ∨ n = 6) (v : V) (o : Option (List PyData)) (x : Int) (hv : Bd K H v o) : Asked K H n v (.int x) (dN o x)
  | szs (v : V) (o : Option (List PyData)) (x : Int) (hv : Bd K H v o) (hz : (o.getD []).length ≤ 60) : Asked K H 4 v (.int x) (dZ o)
  | per (v : V) (o : Option (List PyData)) (t : V) (hv : Bd K H v o) : Asked K H 7 v t (dS o)
  | cnt (x : Int) (t : V) : Asked K H 8 (.int x) t (dG x)
  | least (x : Int) (t : V) : Asked K H 9 (.int x) t (dL x)
theorem Asked.ex {K : PySem.W.Frag} {H H1 : Hp} {n : Nat} {v t : V} {d : Option Nat} (h : Asked K H n v t d) (e : Ex H H1) : Asked K H1 n v t d := by
  cases h with
  | pow v o x hv => exact .pow v o x (hv.ex e)
  | rt n hn v o x hv => exact .rt n hn v o x (hv.ex e)
  | szs v o x hv hz => exact .szs v o x (hv.ex e) hz
  | per v o t hv => exact .per v o t (hv.ex e)
  | cnt x t => exact .cnt x t
  | least x t => exact .least x t
theorem Asked.lt {K : PySem.W.Frag} {H : Hp} {n : Nat} {v t : V} {d : Option Nat} (h : Asked K H n v t d) : ∀ i, d = some i → i < 4 := by
  intro i hi
  cases h with
  | pow => unfold dS at hi; split at hi; · cases hi
           · have := Option.some.inj hi; omega
  | rt => unfold dN at hi; repeat' (split at hi)
          all_goals first | (cases hi; done) | (have := Option.some.inj hi; omega)
  | szs => unfold dZ at hi; split at hi; · cases hi
           · have := Option.some.inj hi; omega
  | per => unfold dS at hi; split at hi; · cases hi
           · have := Option.some.inj hi; omega
  | cnt => unfold dG at hi; split at hi; · cases hi
           · have := Option.some.inj hi; omega
  | least => unfold dL at hi; split at hi; · cases hi
             · have := Option.some.inj hi; omega
theorem Asked.le {K : PySem.W.Frag} {H : Hp} {n : Nat} {v t : V} {d : Option Nat} (h : Asked K H n v t d) : n ≤ 9 := by
  cases h <;> omega
def sp_law_asked (K : PySem.W.Frag) : Sp := fun vs H Q _ => ∃ (n : Nat) (v t : V) (d : Option Nat), vs = [.int (n : Int), v, t] ∧ Asked K H n v t d ∧ RetV (vO d) H Q
theorem sv_asked {K : PySem.W.Frag} {H : Hp} {n : Nat} {v t z : V} {d : Option Nat} (h : Asked K H n v t d) (e : vO d = z) : SpV (sp_law_asked K) ([.int (n : Int), v, t] ++ []) H z := fun H1 e1 Q q E => ⟨n, v, t, d, rfl, h.ex e1, by rw [e]; exact q⟩
section
variable {P : Program} {w : World} {K : PySem.W.Frag} {mg : Str → Option Value} {base : Heap}
theorem outS {T : Tx K mg} {o : Option (List PyData)} {H : Hp} {Q : VK} {E : XK} (q : Out ((dS o).map (erA T)) H Q E) : (judge o = false → ∀ H1, Ex H H1 → E (.ref T.cl_InvalidSeating) none H1) ∧ (judge o = true → ∀ v H1, Ex H H1 → Q v H1) := by
  unfold dS at q
  refine ⟨fun h => ?_, fun h => ?_⟩
  · rw [if_neg (by rw [h]; decide)] at q
    exact fun H1 e => q.yes _ rfl _ e
  · rw [if_pos h] at q
    exact fun v H1 e => q.no rfl v _ e
theorem outN {T : Tx K mg} {o : Option (List PyData)} {x : Int} {H : Hp} {Q : VK} {E : XK} (q : Out ((dN o x).map (erA T)) H Q E) : Chk2 T o x H E ∧ (judge o = true → 1 ≤ x ∧ x ≤ 1000000 → ∀ v H1, Ex H H1 → Q v H1) := by
  unfold dN at q
  refine ⟨⟨fun h => ?_, fun h h2 => ?_⟩, fun h h2 => ?_⟩
  · rw [if_neg (by rw [h]; decide)] at q
    exact fun H1 e => q.yes _ rfl _ e
  · rw [if_pos h, if_neg h2] at q
    exact fun H1 e => q.yes _ rfl _ e
  · rw [if_pos h, if_pos h2] at q
    exact fun v H1 e => q.no rfl v _ e
theorem outZ {T : Tx K mg} {o : Option (List PyData)} {H : Hp} {Q : VK} {E : XK} (q : Out ((dZ o).map (erA T)) H Q E) : (judgeZ o = false → ∀ H1, Ex H H1 → E (.ref T.cl_InvalidSizes) none H1) ∧ (judgeZ o = true → ∀ v H1, Ex H H1 → Q v H1) := by
  unfold dZ at q
  refine ⟨fun h => ?_, fun h => ?_⟩
  · rw [if_neg (by rw [h]; decide)] at q
    exact fun H1 e => q.yes _ rfl _ e
  · rw [if_pos h] at q
    exact fun v H1 e => q.no rfl v _ e
theorem outG {T : Tx K mg} {x : Int} {H : Hp} {Q : VK} {E : XK} (q : Out ((dG x).map (erA T)) H Q E) : (¬ (1 ≤ x ∧ x ≤ 20) → ∀ H1, Ex H H1 → E (.ref T.cl_InvalidGuests) none H1) ∧ (1 ≤ x ∧ x ≤ 20 → ∀ v H1, Ex H H1 → Q v H1) := by
  unfold dG at q
  refine ⟨fun h => ?_, fun h => ?_⟩
  · rw [if_neg h] at q
    exact fun H1 e => q.yes _ rfl _ e
  · rw [if_pos h] at q
    exact fun v H1 e => q.no rfl v _ e
theorem outL {T : Tx K mg} {x : Int} {H : Hp} {Q : VK} {E : XK} (q : Out ((dL x).map (erA T)) H Q E) : (¬ (1 ≤ x ∧ x ≤ 1000000000) → ∀ H1, Ex H H1 → E (.ref T.cl_InvalidNumber) none H1) ∧ (1 ≤ x ∧ x ≤ 1000000000 → ∀ v H1, Ex H H1 → Q v H1) := by
  unfold dL at q
  refine ⟨fun h => ?_, fun h => ?_⟩
  · rw [if_neg h] at q
    exact fun H1 e => q.yes _ rfl _ e
  · rw [if_pos h] at q
    exact fun v H1 e => q.no rfl v _ e
theorem er_is (T : Tx K mg) {i : Nat} (hi : i < 4) : ExcD K (erA T i) ∧ PySem.W.exmOne K (.ref (erA T i)) (.ref T.cl_HallError) = some true ∧ ∀ j, j < 4 → PySem.W.kitOne K (.ref (erA T i)) (.ref (erA T j)) = some (decide (j = i)) := by
  have : i = 0 ∨ i = 1 ∨ i = 2 ∨ i = 3 := by omega
  rcases this with rfl | rfl | rfl | rfl
  · refine ⟨T.e_InvalidSeating, T.x_InvalidSeating, fun j hj => ?_⟩
    have : j = 0 ∨ j = 1 ∨ j = 2 ∨ j = 3 := by omega
    rcases this with rfl | rfl | rfl | rfl <;> exact isRow_at T.t_InvalidSeating (by simp [erA])
  · refine ⟨T.e_InvalidNumber, T.x_InvalidNumber, fun j hj => ?_⟩
    have : j = 0 ∨ j = 1 ∨ j = 2 ∨ j = 3 := by omega
    rcases this with rfl | rfl | rfl | rfl <;> exact isRow_at T.t_InvalidNumber (by simp [erA])
  · refine ⟨T.e_InvalidSizes, T.x_InvalidSizes, fun j hj => ?_⟩
    have : j = 0 ∨ j = 1 ∨ j = 2 ∨ j = 3 := by omega
    rcases this with rfl | rfl | rfl | rfl <;> exact isRow_at T.t_InvalidSizes (by simp [erA])
  · refine ⟨T.e_InvalidGuests, T.x_InvalidGuests, fun j hj => ?_⟩
    have : j = 0 ∨ j = 1 ∨ j = 2 ∨ j = 3 := by omega
    rcases this with rfl | rfl | rfl | rfl <;> exact isRow_at T.t_InvalidGuests (by simp [erA])
/-- the suite's reading -/
def suite (T : Tx K mg) (a : Addr) (cls : Value) (d : Option Addr) : TS :=
  tSeq (tAsg (tLst (tCons (tCB (rIsA K cls d a) (tCons (tVar 3) (tCons (tC (.ref T.cl_InvalidSeating)) tNil))) (tCons (tCB (rIsA K cls d a) (tCons (tVar 3) (tCons (tC (.ref T.cl_InvalidNumber)) tNil))) (tCons (tCB (rIsA K cls d a) (tCons (tVar 3) (tCons (tC (.ref T.cl_InvalidSizes)) tNil))) tNil)))) (gName 4))
    (tRet (tBM K "list" (rIndex K) (tOp rCat (tVar 4) (tLst (tCons (tCB (rIsA K cls d a) (tCons (tVar 3) (tCons (tC (.ref T.cl_InvalidGuests)) tNil))) (tCons (tC (.bl true)) tNil)))) (tCons (tC (.bl true)) tNil)))
theorem suite_ok (T : Tx K mg) {i : Nat} (hi : i < 4) {a : Addr} {D : Ends} {x y z : Option V} {H : Hp} (k : RetV (.int (i : Int)) H D.rt) : suite T a (.ref (erA T i)) none D [x, y, z, some (.ref a), none] H := by
  obtain ⟨hC, _, hk⟩ := er_is T hi
  unfold suite
  generalize hCe : erA T i = C at hC hk ⊢
  have ref : ∀ (b : Addr) (u : Value), RelV (.ref b) u → u = .ref b := fun b u r => r
  refine q_asgL (xs := [V.bl (decide (0 = i)), .bl (decide (1 = i)), .bl (decide (2 = i))]) (el_lst (ea_cons (ev_isA hC (ev_var rfl) ev_c (ref _) (hk 0 (by decide))) (ea_cons (ev_isA hC (ev_var rfl) ev_c (ref _) (hk 1 (by decide))) (ea_cons (ev_isA hC (ev_var rfl) ev_c (ref _) (hk 2 (by decide))) ea_nil))) (Nat.le_of_ble_eq_true rfl)) fun m H3 hm0 e3 h3 => ?_
  have ci : i = 0 ∨ i = 1 ∨ i = 2 ∨ i = 3 := by omega
  refine ret_of ?_
  refine (el_catO (xs := [V.bl (decide (0 = i)), .bl (decide (1 = i)), .bl (decide (2 = i))]) (ys := [V.bl (decide (3 = i)), .bl true]) (ev_var (i := 4) rfl) h3 (el_lst (ea_cons (ev_isA hC (ev_var rfl) ev_c (ref _) (hk 3 (by decide))) (ea_cons ev_c ea_nil)) (Nat.le_of_ble_eq_true rfl)) (Nat.le_of_ble_eq_true rfl)) H3 (Ex.refl _) _ fun q H4 nq e4 hq => ?_
  have g := ev_indexF (K := K) (y := .bl true) (ta := tC (.ref q)) (te := tC (.bl true)) (σ := [x, y, z, some (.ref a), some (.ref m)]) (H := H4) i ev_c hq ev_c rfl rfl ?_ ?_
  · exact g H4 (Ex.refl _) _ fun H5 e5 => k _ (e3.trans (e4.trans e5))
  · rcases ci with rfl | rfl | rfl | rfl <;> exact ⟨_, rfl, rfl⟩
  · intro j z hj hz
    have cj : j = 0 ∨ j = 1 ∨ j = 2 ∨ j = 3 := by omega
    rcases ci with rfl | rfl | rfl | rfl <;> rcases cj with rfl | rfl | rfl | rfl <;> first | omega | (cases hz; rfl)
theorem ok_law_asked (T : Tx K mg) : FnOk P w K mg base CX0 10 T.f_law_asked T.d_law_asked ["way", "some", "far"] (sp_law_asked K) := by
  refine T.F_law_asked.ok sc_law_asked (fun vs H Q E h => ?_) (fun cdv A outer s H vs Q E hr h => ?_)
  · obtain ⟨n, v, t, d, rfl, _⟩ := h
    rfl
  · obtain ⟨n, v, t, d, rfl, hA, k⟩ := h
    refine ⟨_, (pss_cons (L2N.ps_try_as (i := 3) (ts := fun a cls d => suite T a cls d) rfl rfl sc_law_asked.nd rfl rfl ⟨rfl, by decide, .inl T.gc_HallError⟩ Kit.takes0N (fun W pn xe tk _ => (pss_one (ps_if (pt_cmpR op_lt (pv 0) pe_int (nomark _)) (pss_one (ps_expr (Kit.pe_callIS (Kit.cN_or (ok_power T) (hr.mono (by decide)) T.F_power.kp T.b_power (Kit.cN_or (ok_count_roots T) (hr.mono (by decide)) T.F_count_roots.kp T.b_count_roots (Kit.cN_or (ok_a_root T) (hr.mono (by decide)) T.F_a_root.kp T.b_a_root (Kit.cN_or (ok_root_paper T) (hr.mono (by decide)) T.F_root_paper.kp T.b_root_paper (Kit.cN_one (ok_power_sizes T) (hr.mono (by decide)) T.F_power_sizes.kp T.b_power_sizes))))) (fun σ => L2N.passAt tk σ) (pe_ix (r := rIxL K) ix_list (pe_lst (pa_cons (pe_gc (v := .ref T.f_power) (by rfl) ⟨_, T.g_power, rfl⟩) (pa_cons (pe_gc (v := .ref T.f_count_roots) (by rfl) ⟨_, T.g_count_roots, rfl⟩) (pa_cons (pe_gc (v := .ref T.f_a_root) (by rfl) ⟨_, T.g_a_root, rfl⟩) (pa_cons (pe_gc (v := .ref T.f_root_paper) (by rfl) ⟨_, T.g_root_paper, rfl⟩) (pa_cons (pe_gc (v := .ref T.f_power_sizes) (by rfl) ⟨_, T.g_power_sizes, rfl⟩) pa_nil)))))) (pv 0) (fun _ _ => rfl)) (pa_cons (pv 1) (pa_cons (pv 2) pa_nil))))) (pss_one (ps_if (pt_cmpR op_lt (pv 0) pe_int (nomark _)) (pss_one (ps_expr (Kit.pe_callIS (Kit.cN_or (ok_shows_root T) (hr.mono (by decide)) T.F_shows_root.kp T.b_shows_root (Kit.cN_one (ok_shows_root_paper T) (hr.mono (by decide)) T.F_shows_root_paper.kp T.b_shows_root_paper)) (fun σ => L2N.passAt tk σ) (pe_ix (r := rIxL K) ix_list (pe_lst (pa_cons (pe_gc (v := .ref T.f_shows_root) (by rfl) ⟨_, T.g_shows_root, rfl⟩) (pa_cons (pe_gc (v := .ref T.f_shows_root_paper) (by rfl) ⟨_, T.g_shows_root_paper, rfl⟩) pa_nil))) (pe_op op_sub (pv 0) pe_int) (fun _ _ => rfl)) (pa_cons (pv 1) (pa_cons (pv 2) (pa_cons (pv 1) pa_nil)))))) (pss_one (ps_expr (Kit.pe_callIS (Kit.cN_or (ok_period_of T) (hr.mono (by decide)) T.F_period_of.kp T.b_period_of (Kit.cN_or (ok_period_counts T) (hr.mono (by decide)) T.F_period_counts.kp T.b_period_counts (Kit.cN_one (ok_least_guests T) (hr.mono (by decide)) T.F_least_guests.kp T.b_least_guests))) (fun σ => L2N.passAt tk σ) (pe_ix (r := rIxL K) ix_list (pe_lst (pa_cons (pe_gc (v := .ref T.f_period_of) (by rfl) ⟨_, T.g_period_of, rfl⟩) (pa_cons (pe_gc (v := .ref T.f_period_counts) (by rfl) ⟨_, T.g_period_counts, rfl⟩) (pa_cons (pe_gc (v := .ref T.f_least_guests) (by rfl) ⟨_, T.g_least_guests, rfl⟩) pa_nil)))) (pe_op op_sub (pv 0) pe_int) (fun _ _ => rfl)) (pa_cons (pv 1) pa_nil))))))))) (fun a oe cls d pn hz hf => (pss_cons (ps_set (i := 4) sc_law_asked.nd rfl (Or.inl rfl) (pe_lst (pa_cons (pe_callB (id := "isinstance") (r := Kit.rIsA K cls d a) (Kit.call_isA hz hf) (by rfl) T.m_isinstance (by decide +kernel) (pa_cons (pv 3) (pa_cons (pe_gc (v := .ref T.cl_InvalidSeating) (by rfl) ⟨_, T.gc_InvalidSeating, rfl⟩) pa_nil))) (pa_cons (pe_callB (id := "isinstance") (r := Kit.rIsA K cls d a) (Kit.call_isA hz hf) (by rfl) T.m_isinstance (by decide +kernel) (pa_cons (pv 3) (pa_cons (pe_gc (v := .ref T.cl_InvalidNumber) (by rfl) ⟨_, T.gc_InvalidNumber, rfl⟩) pa_nil))) (pa_cons (pe_callB (id := "isinstance") (r := Kit.rIsA K cls d a) (Kit.call_isA hz hf) (by rfl) T.m_isinstance (by decide +kernel) (pa_cons (pv 3) (pa_cons (pe_gc (v := .ref T.cl_InvalidSizes) (by rfl) ⟨_, T.gc_InvalidSizes, rfl⟩) pa_nil))) pa_nil)))))
      (pss_one (ps_ret (pe_bm PySem.F.plainAttrs_list PySem.F.slot_list_index PySem.F.type_list_index mt_index (pe_op op_cat (pv 4) (pe_lst (pa_cons (pe_callB (id := "isinstance") (r := Kit.rIsA K cls d a) (Kit.call_isA hz hf) (by rfl) T.m_isinstance (by decide +kernel) (pa_cons (pv 3) (pa_cons (pe_gc (v := .ref T.cl_InvalidGuests) (by rfl) ⟨_, T.gc_InvalidGuests, rfl⟩) pa_nil))) (pa_cons pe_bl pa_nil)))) (pa_cons pe_bl pa_nil)))))))
      (pss_one (ps_ret pe_non))), ?_⟩
    refine unseq ?_
    have fine : d = none → ∀ (H2 : Hp) (D : Ends), Ex H H2 → D.rt = Q → tRet (tC .non) D [some (.int (n : Int)), some v, some t, none, none] H2 := fun hd H2 D e2 hD => by
      refine s_ret ev_c fun H3 e3 => ?_
      rw [hd] at k
      rw [hD]
      exact k _ (e2.trans e3)
    have bad : ∀ (C : Addr) (H2 : Hp) (D : Ends), d.map (erA T) = some C → Ex H H2 → D.rt = Q → wAs K (.ref T.cl_HallError) 3 (fun a cls d => suite T a cls d) (fun _ _ _ _ => False) D (.ref C) none [some (.int (n : Int)), some v, some t, none, none] H2 := fun C H2 D hC e2 hD => by
      cases hd : d with
      | none => rw [hd] at hC; cases hC
      | some i =>
        have hi := hA.lt i hd
        rw [hd] at hC k
        cases hC
        obtain ⟨_, hx, _⟩ := er_is T hi
        refine ⟨true, hx, fun _ a ha => ?_, fun z => nomatch z⟩
        refine suite_ok T hi fun H3 e3 => ?_
        rw [hD]
        exact k _ (e2.trans e3)
    have a2 : ∀ {G : Hp}, EvA (tCons (tVar 1) (tCons (tVar 2) tNil)) [some (.int (n : Int)), some v, some t, none, none] G [v, t] := ea_cons (ev_var rfl) (ea_cons (ev_var rfl) ea_nil)
    have a3 : ∀ {G : Hp}, EvA (tCons (tVar 1) (tCons (tVar 2) (tCons (tVar 1) tNil))) [some (.int (n : Int)), some v, some t, none, none] G [v, t, v] := ea_cons (ev_var rfl) (ea_cons (ev_var rfl) (ea_cons (ev_var rfl) ea_nil))
    have a1 : ∀ {G : Hp}, EvA (tCons (tVar 1) tNil) [some (.int (n : Int)), some v, some t, none, none] G [v] := ea_cons (ev_var rfl) ea_nil
    have tf : ∀ (G : Hp) (f : Addr), [V.ref T.f_power, .ref T.f_count_roots, .ref T.f_a_root, .ref T.f_root_paper, .ref T.f_power_sizes][n]? = some (.ref f) → Ev (tOp (rIxL K) (tLst (tCons (tC (.ref T.f_power)) (tCons (tC (.ref T.f_count_roots)) (tCons (tC (.ref T.f_a_root)) (tCons (tC (.ref T.f_root_paper)) (tCons (tC (.ref T.f_power_sizes)) tNil)))))) (tVar 0)) [some (.int (n : Int)), some v, some t, none, none] G (.ref f) := fun G f hf =>
      ev_opL1 (el_lst (ea_cons ev_c (ea_cons ev_c (ea_cons ev_c (ea_cons ev_c (ea_cons ev_c ea_nil))))) (Nat.le_of_ble_eq_true rfl)) (fun H5 e5 => ev_var rfl) fun q H5 hq e5 => rv_ixL (sq_of hq) (atI_nat hf)
    have tg : ∀ (G : Hp) (f : Addr) (m : Nat), n = m + 5 → [V.ref T.f_shows_root, .ref T.f_shows_root_paper][m]? = some (.ref f) → Ev (tOp (rIxL K) (tLst (tCons (tC (.ref T.f_shows_root)) (tCons (tC (.ref T.f_shows_root_paper)) tNil))) (tOp (rI0 fun i j => .int (i - j)) (tVar 0) (tC (.int 5)))) [some (.int (n : Int)), some v, some t, none, none] G (.ref f) := fun G f m hm hf =>
      ev_opL1 (el_lst (ea_cons ev_c (ea_cons ev_c ea_nil)) (Nat.le_of_ble_eq_true rfl)) (fun H5 e5 => ev_is (ev_op (ev_var rfl) ev_c rv_I0) (show V.int ((n : Int) - 5) = V.int (m : Int) by congr 1; omega)) fun q H5 hq e5 => rv_ixL (sq_of hq) (atI_nat hf)
    have th : ∀ (G : Hp) (f : Addr) (m : Nat), n = m + 7 → [V.ref T.f_period_of, .ref T.f_period_counts, .ref T.f_least_guests][m]? = some (.ref f) → Ev (tOp (rIxL K) (tLst (tCons (tC (.ref T.f_period_of)) (tCons (tC (.ref T.f_period_counts)) (tCons (tC (.ref T.f_least_guests)) tNil)))) (tOp (rI0 fun i j => .int (i - j)) (tVar 0) (tC (.int 7)))) [some (.int (n : Int)), some v, some t, none, none] G (.ref f) := fun G f m hm hf =>
      ev_opL1 (el_lst (ea_cons ev_c (ea_cons ev_c (ea_cons ev_c ea_nil))) (Nat.le_of_ble_eq_true rfl)) (fun H5 e5 => ev_is (ev_op (ev_var rfl) ev_c rv_I0) (show V.int ((n : Int) - 7) = V.int (m : Int) by congr 1; omega)) fun q H5 hq e5 => rv_ixL (sq_of hq) (atI_nat hf)
    have hn9 := hA.le
    by_cases h5 : n < 5
    · refine s_if (b := true) (et_is (et_test (ev_op (ev_var rfl) ev_c rv_I0)) (by rw [decide_eq_true_iff]; omega)) (fun _ H1 e1 => ?_) (fun z => Bool.noConfusion z)
      cases hA with
      | pow v o x hv =>
        exact s_chkIS (due := (dS o).map (erA T)) (tf _ _ rfl) (.inl ⟨rfl, rfl⟩) (fun H2 e2 => a2) (fun H2 e2 Q E q => ⟨v, o, x, rfl, hv.ex (e1.trans e2), (outS q).1, fun a h t p H3 hj _ _ _ _ e3 _ _ _ => (outS q).2 hj _ _ e3⟩) (fun hd H3 e3 => fine (by simpa using hd) H3 { nx := fun _ H' => Q .non H', rt := Q } (e1.trans e3) rfl) fun C hC H3 e3 => bad C H3 _ hC (e1.trans e3) rfl
      | rt n hn v o x hv =>
        have cn : n = 1 ∨ n = 2 ∨ n = 3 := by omega
        rcases cn with rfl | rfl | rfl
        · exact s_chkIS (due := (dN o x).map (erA T)) (tf _ _ rfl) (.inr (.inl ⟨rfl, rfl⟩)) (fun H2 e2 => a2) (fun H2 e2 Q E q => ⟨v, o, x, rfl, hv.ex (e1.trans e2), (outN q).1, fun hj hx i H3 e3 => (outN q).2 hj hx _ _ e3⟩) (fun hd H3 e3 => fine (by simpa using hd) H3 { nx := fun _ H' => Q .non H', rt := Q } (e1.trans e3) rfl) fun C hC H3 e3 => bad C H3 _ hC (e1.trans e3) rfl
        · exact s_chkIS (due := (dN o x).map (erA T)) (tf _ _ rfl) (.inr (.inr (.inl ⟨rfl, rfl⟩))) (fun H2 e2 => a2) (fun H2 e2 Q E q => ⟨v, o, x, rfl, hv.ex (e1.trans e2), (outN q).1, fun hj hx u H3 e3 => (outN q).2 hj hx _ _ e3⟩) (fun hd H3 e3 => fine (by simpa using hd) H3 { nx := fun _ H' => Q .non H', rt := Q } (e1.trans e3) rfl) fun C hC H3 e3 => bad C H3 _ hC (e1.trans e3) rfl
        · exact s_chkIS (due := (dN o x).map (erA T)) (tf _ _ rfl) (.inr (.inr (.inr (.inl ⟨rfl, rfl⟩)))) (fun H2 e2 => a2) (fun H2 e2 Q E q => ⟨v, o, x, rfl, hv.ex (e1.trans e2), (outN q).1, fun a h rs m hm m1 m2 hj _ _ _ _ => ⟨fun _ H3 e3 => (outN q).2 hj (by omega) _ _ e3, fun _ i H3 e3 => (outN q).2 hj (by omega) _ _ e3⟩⟩) (fun hd H3 e3 => fine (by simpa using hd) H3 { nx := fun _ H' => Q .non H', rt := Q } (e1.trans e3) rfl) fun C hC H3 e3 => bad C H3 _ hC (e1.trans e3) rfl
      | szs v o x hv hz =>
        exact s_chkIS (due := (dZ o).map (erA T)) (tf _ _ rfl) (.inr (.inr (.inr (.inr ⟨rfl, rfl⟩)))) (fun H2 e2 => a2) (fun H2 e2 Q E q => ⟨v, o, x, rfl, hv.ex (e1.trans e2), hz, (outZ q).1, (outZ q).2⟩) (fun hd H3 e3 => fine (by simpa using hd) H3 { nx := fun _ H' => Q .non H', rt := Q } (e1.trans e3) rfl) fun C hC H3 e3 => bad C H3 _ hC (e1.trans e3) rfl
      | per => omega
      | cnt => omega
      | least => omega
    · refine s_if (b := false) (et_is (et_test (ev_op (ev_var rfl) ev_c rv_I0)) (by rw [decide_eq_false_iff_not]; omega)) (fun z => Bool.noConfusion z) fun _ H1 e1 => ?_
      by_cases h7 : n < 7
      · refine s_if (b := true) (et_is (et_test (ev_op (ev_var rfl) ev_c rv_I0)) (by rw [decide_eq_true_iff]; omega)) (fun _ H2 e2 => ?_) (fun z => Bool.noConfusion z)
        have e12 := e1.trans e2
        cases hA with
        | rt n hn v o x hv =>
          have cn : n = 5 ∨ n = 6 := by omega
          rcases cn with rfl | rfl
          · exact s_chkIS (due := (dN o x).map (erA T)) (tg _ _ 0 rfl rfl) (.inl ⟨rfl, rfl⟩) (fun H3 e3 => a3) (fun H3 e3 Q E q => ⟨v, o, x, v, o, rfl, hv.ex (e12.trans e3), (outN q).1, fun hj hx => ⟨hv.ex (e12.trans e3), (fun z => by rw [hj] at z; cases z), fun _ b H4 _ e4 => (outN q).2 hj hx _ _ e4⟩⟩) (fun hd H3 e3 => fine (by simpa using hd) H3 { nx := fun _ H' => Q .non H', rt := Q } (e12.trans e3) rfl) fun C hC H3 e3 => bad C H3 _ hC (e12.trans e3) rfl
          · exact s_chkIS (due := (dN o x).map (erA T)) (tg _ _ 1 rfl rfl) (.inr ⟨rfl, rfl⟩) (fun H3 e3 => a3) (fun H3 e3 Q E q => ⟨v, o, x, v, rfl, hv.ex (e12.trans e3), (outN q).1, fun a h rs m hm m1 m2 hj ev ha oh R => ⟨.none, .inl (by rw [ev]; exact iv_lst ha), fun _ H4 e4 => (outN q).2 hj (by omega) _ _ e4, (fun i z => by cases z)⟩⟩) (fun hd H3 e3 => fine (by simpa using hd) H3 { nx := fun _ H' => Q .non H', rt := Q } (e12.trans e3) rfl) fun C hC H3 e3 => bad C H3 _ hC (e12.trans e3) rfl
        | pow => omega
        | szs => omega
        | per => omega
        | cnt => omega
        | least => omega
      · refine s_if (b := false) (et_is (et_test (ev_op (ev_var rfl) ev_c rv_I0)) (by rw [decide_eq_false_iff_not]; omega)) (fun z => Bool.noConfusion z) fun _ H2 e2 => ?_
        have e12 := e1.trans e2
        cases hA with
        | per v o t hv =>
          exact s_chkIS (due := (dS o).map (erA T)) (th _ _ 0 rfl rfl) (.inl ⟨rfl, rfl⟩) (fun H3 e3 => a1) (fun H3 e3 Q E q => ⟨v, o, rfl, hv.ex (e12.trans e3), (outS q).1, fun hj i H4 e4 => (outS q).2 hj _ _ e4⟩) (fun hd H3 e3 => fine (by simpa using hd) H3 { nx := fun _ H' => Q .non H', rt := Q } (e12.trans e3) rfl) fun C hC H3 e3 => bad C H3 _ hC (e12.trans e3) rfl
        | cnt x t =>
          exact s_chkIS (due := (dG x).map (erA T)) (th _ _ 1 rfl rfl) (.inr (.inl ⟨rfl, rfl⟩)) (fun H3 e3 => a1) (fun H3 e3 Q E q => ⟨x, rfl, (outG q).1, (outG q).2⟩) (fun hd H3 e3 => fine (by simpa using hd) H3 { nx := fun _ H' => Q .non H', rt := Q } (e12.trans e3) rfl) fun C hC H3 e3 => bad C H3 _ hC (e12.trans e3) rfl
        | least x t =>
          exact s_chkIS (due := (dL x).map (erA T)) (th _ _ 2 rfl rfl) (.inr (.inr ⟨rfl, rfl⟩)) (fun H3 e3 => a1) (fun H3 e3 Q E q => ⟨x, rfl, (outL q).1, (outL q).2⟩) (fun hd H3 e3 => fine (by simpa using hd) H3 { nx := fun _ H' => Q .non H', rt := Q } (e12.trans e3) rfl) fun C hC H3 e3 => bad C H3 _ hC (e12.trans e3) rfl
        | pow => omega
        | rt => omega
        | szs => omega
end


local macro_rules | `(tactic| walk_at "call") => `(tactic| (with_reducible exact sv_whole))

/-! ### law -/
def sp_law (K : PySem.W.Frag) : Sp := fun vs H Q _ => ∃ (a : Addr) (ns : List Int), vs = [.ref a] ∧ SqL K H a (ns.map V.int) ∧ ns.length ≤ 63 ∧ ∀ H', Q (.bl true) H'
/-- out of the numbers of a power that has roots -/
def Far (_ : Hp) (v : V) : Prop := ∃ x : Int, v = .int x ∧ ¬ (1 ≤ x ∧ x ≤ 1000000)
theorem far_mono : MonoJ Far := fun _ _ _ _ h => h
theorem far_c {x : Int} (h : ¬ (1 ≤ x ∧ x ≤ 1000000)) : ∀ H, Far H (.int x) := fun _ => ⟨x, rfl, h⟩
/-- no number of guests and no period -/
def Bnd (_ : Hp) (v : V) : Prop := ∃ x : Int, v = .int x ∧ ¬ (1 ≤ x ∧ x ≤ 20) ∧ ¬ (1 ≤ x ∧ x ≤ 1000000000)
theorem bnd_mono : MonoJ Bnd := fun _ _ _ _ h => h
theorem bnd_c {x : Int} (h : ¬ (1 ≤ x ∧ x ≤ 20)) (h2 : ¬ (1 ≤ x ∧ x ≤ 1000000000)) : ∀ H, Bnd H (.int x) := fun _ => ⟨x, rfl, h, h2⟩
/-- no sizes, or too many -/
def jZ (o : Option (List PyData)) : Bool := judgeZ o || decide (60 < (o.getD []).length)
theorem jZ_no {o : Option (List PyData)} (h : jZ o = false) : judgeZ o = false ∧ (o.getD []).length ≤ 60 := by
  unfold jZ at h
  rw [Bool.or_eq_false_iff] at h
  exact ⟨h.1, by have := of_decide_eq_false h.2; omega⟩
/-- no seating, and no size -/
def Thing (K : PySem.W.Frag) (H : Hp) (v : V) : Prop := ∃ (o : Option (List PyData)) (d : PyData), Bd K H v o ∧ judge o = false ∧ (Iv H v d ∨ (Od K H v ∧ isI d = false)) ∧ ∀ i, d = .int i → i < 0 ∨ 20 < i
theorem thing_mono {K : PySem.W.Frag} : MonoJ (Thing K) := fun H H' v e ⟨o, d, h1, h2, h3, h4⟩ => ⟨o, d, h1.ex e, h2, h3.elim (fun h => .inl (h.ex e)) (fun h => .inr ⟨h.1.ex e, h.2⟩), h4⟩
theorem thing_sc {K : PySem.W.Frag} {H : Hp} {v : V} (h : Sc v) (hi : ∀ i, ivD v = .int i → i < 0 ∨ 20 < i) : Thing K H v := by
  obtain ⟨o, b, j⟩ := bad_sc (K := K) (J := fun o => !o.isNone || judge o) (H := H) h rfl
  have o0 : o = none := by
    cases o with
    | none => rfl
    | some _ => cases j
  subst o0
  exact ⟨none, ivD v, b, rfl, .inl (iv_sc h), hi⟩
theorem thing_dct {K : PySem.W.Frag} {H : Hp} {a : Addr} {kvs : List (Key × V)} (h : H a = some (.dK kvs)) : Thing K H (.ref a) := ⟨none, .none, .dct rfl h, rfl, .inr ⟨.inl ⟨a, kvs, rfl, h⟩, rfl⟩, fun i z => by cases z⟩
theorem thing_tup {K : PySem.W.Frag} {H : Hp} {a : Addr} {xs : List V} (h : H a = some (.tup xs)) : Thing K H (.ref a) := ⟨none, .none, .ty "tuple" (by simp [zTyV, h]) PySem.TypeEq.meta_tuple (by decide), rfl, .inl (iv_tup h), fun i z => by cases z⟩
theorem thing_lst {K : PySem.W.Frag} {H : Hp} {a : Addr} {xs : List V} {ds : List PyData} (h : H a = some (.lst xs)) (hd : Paired (Iv H) xs ds) (j : judge (some ds) = false) : Thing K H (.ref a) := ⟨some ds, .none, .lst rfl h hd, j, .inl (iv_lst h), fun i z => by cases z⟩
theorem thing_own {K : PySem.W.Frag} {H : Hp} {a C dx : Addr} {fs : List (Str × V)} (h : H a = some (.ins C dx fs)) (t : PySem.W.typeIn K (.ref C) = some (.type "type")) : Thing K H (.ref a) := ⟨none, .none, .own rfl h t, rfl, .inr ⟨.inr ⟨a, C, dx, fs, rfl, h, t⟩, rfl⟩, fun i z => by cases z⟩
theorem dS_no {o : Option (List PyData)} (h : judge o = false) : dS o = some 0 := if_neg (by rw [h]; exact Bool.false_ne_true)
theorem dS_ok {o : Option (List PyData)} (h : judge o = true) : dS o = none := if_pos h
theorem dN_no {o : Option (List PyData)} {x : Int} (h : judge o = false) : dN o x = some 0 := if_neg (by rw [h]; exact Bool.false_ne_true)
theorem dN_far {o : Option (List PyData)} {x : Int} (h : judge o = true) (z : ¬ (1 ≤ x ∧ x ≤ 1000000)) : dN o x = some 1 := by
  unfold dN
  rw [if_pos h, if_neg z]
theorem dN_ok {o : Option (List PyData)} {x : Int} (h : judge o = true) (z : 1 ≤ x ∧ x ≤ 1000000) : dN o x = none := by
  unfold dN
  rw [if_pos h, if_pos z]
section
variable {K : PySem.W.Frag} {σ : L2.St} {H0 H : Hp} {p L : Addr} {k k1 k2 : Nat} {ta tb te tm tl tw tv tu tt tx ty : TE} {t : TT} {Ra Rb : V → Hp → Prop} {D : Ends} {tz : TS} {E : XK}
theorem pq_bag {ta : TA} {E : XK} {j : Nat} {s : Addr} {ns : List Int} (h : EvA ta σ H [.ref s]) (hs : SqL K H s (ns.map V.int)) (hl : ns.length ≤ 63) (q : ∀ p L H2, H p = none → H L = none → Ex H H2 → Po p L 0 H2 → tz D (σ.set j (some (.ref p))) H2) :
    tSeq (tAsg (tCall (sp_law_bag K) [] E ta) (gName j)) tz D σ H := h H (Ex.refl H) _ fun H1 e1 => ⟨s, ns, rfl, ex_l e1 hs, hl, fun p L H2 np nl e2 po => q p L H2 (fresh_back e1 np) (fresh_back e1 nl) (e1.trans e2) po⟩
theorem stb_hm {R : Hp → V → Prop} (hR : MonoJ R) : Stb p (fun v G => R (Hm p G) v) := fun v G G' h s => hR _ _ _ (ex_hm s hm_p) h
theorem pq_tup2 {i j n : Nat} (h0 : H0 p = none) (ha : EvP p L k1 ta σ H0 Ra) (hb : EvP p L k2 tb σ H0 Rb) (s1 : Stb p Ra) (s2 : Stb p Rb) (e : Ex H0 H) (hp : Po p L n H) (hn : n + (k1 + k2) ≤ 1000000000)
    (q : ∀ x y H2, Ra x H2 → Rb y H2 → Po p L (n + (k1 + k2)) H2 → Ex (Hm p H) H2 → tz D ((σ.set i (some x)).set j (some y)) H2) :
    tSeq (tAsg (tTup (tCons ta (tCons tb tNil))) (gTup K 2 (gCons (gName i) (gCons (gName j) gNil)))) tz D σ H := ha n H e hp (by omega) _ fun x H1 hx p1 e1 => hb (n + k1) H1 (hm_next h0 e e1) p1 (by omega) _ fun y H2 hy p2 e2 =>
  ⟨sz_of (by show 2 ≤ 100000; decide), fun t ht => ⟨t, [x, y], rfl, st_of upd_same, rfl, x, [y], rfl, y, [], rfl, rfl, q x y _ (s1 x H1 _ hx (hm_trans e2 (hm_of (Ex.new ht)))) (s2 y H2 _ hy (hm_of (Ex.new ht))) (by rw [← Nat.add_assoc]; exact p2.ex (Ex.new ht)) (hm_trans (hm_trans e1 e2) (hm_of (Ex.new ht)))⟩⟩
/-- xs = list(range(e))[::-1], e draws -/
theorem pq_asgRv {i n : Nat} {C : Nat → Prop} (h : EvP p L k te σ H0 (fun v _ => ∃ r : Nat, v = .int (r : Int) ∧ r ≤ 1000 ∧ C r)) (e : Ex H0 H) (hp : Po p L n H) (hn : n + k ≤ 1000000000)
    (q : ∀ (r : Nat) l H2 H3, C r → H2 l = none → Ex H2 H3 → H3 l = some (.lst (nv (List.range r).reverse)) → Po p L (n + k) H2 → Po p L (n + k) H3 → Ex (Hm p H) H2 → tz D (σ.set i (some (.ref l))) H3) : tSeq (tAsg (tRevL K (tLstRg (tRg1 te))) (gName i)) tz D σ H :=
  h n H e hp hn _ fun v H2 ⟨r, hv, hr, hc⟩ p2 e2 => by
    have g := (el_revN (K := K) (el_rg1 (tb := tC (.int (r : Int))) (σ := σ) (H := H2) ev_c (RgOk.of_le (by decide) (by omega) (by decide) (by omega)))) H2 (Ex.refl _) (fun x H4 => gName i x σ H4 fun s' H' => tz D s' H') fun l H3 hl e3 h3 => q r l H2 H3 hc hl e3 (by rw [h3, range_iz, nv_eq, ← List.map_reverse, ← nv_eq]) p2 (p2.ex e3) e2
    subst hv
    exact g
/-- if not _law_alike(e, c): e draws -/
theorem pq_alikeN {n : Nat} {c : Int} {tu : TS} (h : EvP p L k te σ H0 (fun v _ => v = .int c)) (e : Ex H0 H) (hp : Po p L n H) (hn : n + k ≤ 1000000000) (q : ∀ H2, Po p L (n + k) H2 → Ex (Hm p H) H2 → tz D σ H2) : tSeq (tIfS (tNot (tB (tCall (sp_law_alike 4) [] E (tCons te (tCons (tC (.int c)) tNil))))) tu tNext) tz D σ H :=
  h n H e hp hn _ fun v H2 hv p2 e2 => by
    subst hv
    have ea : EvT (tNot (tB (tCall (sp_law_alike 4) [] E (tCons (tC (.int c)) (tCons (tC (.int c)) tNil))))) σ H2 false := et_is (et_not (et_B (ev_alike (n := 4) (ek_int ev_c) (ek_int ev_c) rfl))) rfl
    exact q_when (tu := tu) ea (fun z => Bool.noConfusion z) fun _ H3 e3 => q H3 (p2.ex e3) (hm_trans e2 (hm_of e3))
theorem no_alike {d e : PyData} (h : EvK 4 ta σ H d) (h2 : EvK 4 tb σ H e) (q : d = e) : EvT (tNot (tB (tCall (sp_law_alike 4) [] E (tCons ta (tCons tb tNil))))) σ H false := et_is (et_not (et_B (ev_alike (n := 4) h h2 q))) rfl
theorem el_lcNU {tl te : TE} {t : TT} {xs : List V} {j : Nat} {vs : List Nat} (f : Nat → Bool) (v : Nat → V) (h : EvU tl σ H xs) (hz : xs.length ≤ 40000) (hw : ∀ x, wipe ((wipe σ vs).set j (some x)) vs = wipe σ vs)
    (ht : ∀ (i : Nat) (x : V) H1, Ex H H1 → xs[i]? = some x → EvT t ((wipe σ vs).set j (some x)) H1 (f i)) (he : ∀ (i : Nat) (x : V) H1, Ex H H1 → xs[i]? = some x → f i = true → Ev te ((wipe σ vs).set j (some x)) H1 (v i)) :
    EvL (tLc (iTup K tl) (gName j) t te vs) σ H (given xs.length f v) := fun H0 e Q q => h H0 e _ fun a H1 ha e1 hx => ⟨a, rfl, ⟨xs, st_of hx⟩, fun Dl hD =>
  lc_tup (xs := xs) (Cw H1 f v Dl) ⟨hD, Ex.new hD, upd_same⟩ (fun i H' _ p => ex_t p.2.1 (st_of hx)) (fun i x H' hi p => ⟨hw x, cw_turn p (by have := (List.getElem?_eq_some_iff.mp hi).1; omega) (ht i x H1 (e.trans e1) hi) (fun hf => he i x H1 (e.trans e1) hi hf)⟩)
    (fun H' p => q Dl H' (fresh_back e1 p.1) (e1.trans p.2.1) p.2.2)⟩
/-- [_law_asked(way, some, far) for way in (..)] -/
theorem el_asksW {ns : List Nat} {v u : V} (F : Nat → V) (h : EvU tl σ H (nv ns)) (hz : ns.length ≤ 100) (hw : ∀ x, wipe ((wipe σ [5]).set 5 (some x)) [5] = wipe σ [5]) (h5 : ∀ x, ((wipe σ [5]).set 5 (some x))[5]? = some (some x)) (hv : ∀ x H1, Ex H H1 → Ev tv ((wipe σ [5]).set 5 (some x)) H1 v) (hu : ∀ x H1, Ex H H1 → Ev tu ((wipe σ [5]).set 5 (some x)) H1 u)
    (A : ∀ n ∈ ns, ∀ H1, Ex H H1 → ∃ d, Asked K H1 n v u d ∧ vO d = F n) : EvL (tLc (iTup K tl) (gName 5) tYes (tCall (sp_law_asked K) [] E (tCons (tVar 5) (tCons tv (tCons tu tNil)))) [5]) σ H (ns.map F) := by
  have g := el_lcNU (K := K) (tl := tl) (te := tCall (sp_law_asked K) [] E (tCons (tVar 5) (tCons tv (tCons tu tNil)))) (t := tYes) (σ := σ) (H := H) (xs := nv ns) (j := 5) (vs := [5]) (fun _ => true) (fun i => F (ns.getD i 0)) h (by rw [nv_len]; omega) hw (fun _ _ _ _ _ => et_yes) fun i x H1 e hi _ => ?_
  · rw [nv_len, given_list ns 0 (fun _ => true) F, List.filter_eq_self.mpr fun _ _ => rfl] at g
    exact g
  · have il : i < ns.length := by
      have := (List.getElem?_eq_some_iff.mp hi).1
      rwa [nv_len] at this
    have hn : ns[i]? = some (ns.getD i 0) := by
      rw [List.getD_eq_getElem?_getD, List.getElem?_eq_getElem il]
      rfl
    rw [nv_get hn] at hi
    cases hi
    obtain ⟨d, hA, hd⟩ := A _ (List.mem_of_getElem? hn) H1 e
    exact ev_call (ea_cons (ev_var (h5 _)) (ea_cons (hv _ _ e) (ea_cons (hu _ _ e) ea_nil))) (sv_asked hA hd)
theorem ev_asked {n : Nat} {v u z : V} {d : Option Nat} (hw : Ev tw σ H (.int (n : Int))) (hv : Ev tv σ H v) (hu : Ev tu σ H u) (hA : Asked K H n v u d) (hz : vO d = z) : Ev (tCall (sp_law_asked K) [] E (tCons tw (tCons tv (tCons tu tNil)))) σ H z := ev_call (ea_cons hw (ea_cons hv (ea_cons hu ea_nil))) (sv_asked hA hz)
/-- asked of a new list of sizes -/
theorem ev_askedZ {s : List Nat} {x : Int} (hv : EvL tv σ H (nv s)) (hu : ∀ H1, Ex H H1 → Ev tu σ H1 (.int x)) (hz : s.length ≤ 60) (hj : judgeZ (some ((iz s).map PyData.int)) = true) : Ev (tCall (sp_law_asked K) [] E (tCons (tC (.int 4)) (tCons tv (tCons tu tNil)))) σ H .non := fun H1 e Q q =>
  hv H1 e _ fun l H2 nl e2 hl => hu H2 (e.trans e2) H2 (Ex.refl _) _ fun H3 e3 => ⟨4, .ref l, .int x, dZ (some ((iz s).map PyData.int)), rfl, .szs _ _ x (.lst rfl (e3 l _ hl) (iv_ints _)) (by
    show ((iz s).map PyData.int).length ≤ 60
    simpa [iz] using hz), fun H4 e4 => by
    unfold dZ
    rw [if_pos hj]
    exact q H4 (e2.trans (e3.trans e4))⟩
end
theorem chk2_ok {K : PySem.W.Frag} {mg : Str → Option Value} {T : Tx K mg} {o : Option (List PyData)} {z : Int} {H : Hp} {E : XK} (h : judge o = true) (hz : 1 ≤ z ∧ z ≤ 1000000) : Chk2 T o z H E := ⟨(fun n => by rw [h] at n; cases n), fun _ n => absurd hz n⟩
theorem in_no {l : List Nat} {i : Int} (h : ∀ x ∈ l, x ≤ 20) (hi : i < 0 ∨ 20 < i) : inV (.int i) (nv l) = false := by
  rw [Bool.eq_false_iff]
  intro z
  unfold inV at z
  rw [nv_eq, List.any_map] at z
  obtain ⟨y, hy, e⟩ := List.any_eq_true.mp z
  have e : ((y : Int) == i) = true := e
  have e := eq_of_beq e
  have := h y hy
  omega
section
variable {K : PySem.W.Frag} {mg : Str → Option Value} {T : Tx K mg} {σ : L2.St} {H : Hp} {tl tv : TE} {E : XK} {l : List Nat} {v : V}
theorem ev_shrootN {z : Int} (hl : EvL tl σ H (nv l)) (o : Ord l) (hz : 1 ≤ z ∧ z ≤ 1000000) (hv : ∀ H1, Ex H H1 → Ev tv σ H1 v) (ht : Thing K H v) : Ev (tCall (sp_shroot T) [] E (tCons tl (tCons (tC (.int z)) (tCons tv tNil)))) σ H (.bl false) := fun H1 e Q q =>
  hl H1 e _ fun a H2 na e2 ha => (hv H2 (e.trans e2)) H2 (Ex.refl _) _ fun H3 e3 => by
    obtain ⟨oo, d, hb, hj, _, _⟩ := thing_mono _ _ _ (e.trans (e2.trans e3)) ht
    exact ⟨.ref a, some ((iz l).map PyData.int), z, v, oo, rfl, Ord.th (e3 a _ ha), chk2_ok (judge_ord o) hz, fun _ _ => ⟨hb, fun _ H4 e4 => q H4 (e2.trans (e3.trans e4)), fun n => by rw [hj] at n; cases n⟩⟩
theorem ev_shpaperN {z : Nat} (hl : EvL tl σ H (nv l)) (o : Ord l) (hz : 1 ≤ z ∧ z ≤ 1000000) (hv : ∀ H1, Ex H H1 → Ev tv σ H1 v) (ht : Thing K H v) : Ev (tCall (sp_shpaper T) [] E (tCons tl (tCons (tC (.int (z : Int))) (tCons tv tNil)))) σ H (.bl false) := fun H1 e Q q =>
  hl H1 e _ fun a H2 na e2 ha => (hv H2 (e.trans e2)) H2 (Ex.refl _) _ fun H3 e3 => by
    obtain ⟨oo, d, hb, hj, hI, hd⟩ := thing_mono _ _ _ (e.trans (e2.trans e3)) ht
    refine ⟨.ref a, some ((iz l).map PyData.int), z, v, rfl, Ord.th (e3 a _ ha), chk2_ok (judge_ord o) (by omega), fun a' h rs n _ _ _ _ _ _ oh R => ⟨d, hI, fun _ H4 e4 => q H4 (e2.trans (e3.trans e4)), fun i hi => ?_⟩⟩
    rw [in_no (noRoot_le R oh n) (hd i hi)]
    exact fun H4 e4 => q H4 (e2.trans (e3.trans e4))
theorem ev_shroot1 {z : Int} (hl : EvL tl σ H (nv [0])) (hz : 1 ≤ z ∧ z ≤ 1000000) (hv : ∀ H1, Ex H H1 → EvL tv σ H1 (nv [0])) : Ev (tCall (sp_shroot T) [] E (tCons tl (tCons (tC (.int z)) (tCons tv tNil)))) σ H (.bl true) := fun H1 e Q q =>
  hl H1 e _ fun a H2 na e2 ha => (hv H2 (e.trans e2)) H2 (Ex.refl _) _ fun c H3 nc e3 hc => by
    have o : Ord [0] := ⟨by decide, by decide, by decide⟩
    refine ⟨.ref a, some ((iz [0]).map PyData.int), z, .ref c, some ((iz [0]).map PyData.int), rfl, Ord.th (e3 a _ ha), chk2_ok (judge_ord o) hz, fun _ _ => ⟨Ord.th hc, (fun n => by rw [judge_ord o] at n; cases n), fun _ b H4 hb e4 => ?_⟩⟩
    rw [hb a c rfl rfl (e3 a _ ha) hc]
    exact q H4 (e2.trans (e3.trans e4))
theorem ev_shpaper1 {rs : List (List Nat)} {z : Nat} {i : Int} {b : Bool} (hl : EvL tl σ H (nv l)) (o : Ord l) (R : Rings l rs) (hz : 1 ≤ z ∧ z ≤ 1000000) (hb : inV (.int i) (nv (noRoot (grp rs) z)) = b) : Ev (tCall (sp_shpaper T) [] E (tCons tl (tCons (tC (.int (z : Int))) (tCons (tC (.int i)) tNil)))) σ H (.bl b) := fun H1 e Q q =>
  hl H1 e _ fun a H2 na e2 ha => by
    refine ⟨.ref a, some ((iz l).map PyData.int), z, .int i, rfl, Ord.th ha, chk2_ok (judge_ord o) (by omega), fun a' h rs' n hn _ _ _ ea ha' oh R' => ⟨.int i, .inl iv_int, (fun n => by cases n), fun j hj => ?_⟩⟩
    cases ea
    cases hj
    obtain rfl := nv_back (HO.lst.inj (Option.some.inj (ha.symm.trans ha')))
    obtain rfl := R.uniq R'
    obtain rfl : z = n := by omega
    rw [hb]
    exact fun H4 e4 => q H4 (e2.trans e4)
end
theorem rings10 : Rings [1, 0] [[0, 1]] := by
  refine ⟨fun r hr => ?_, by decide, by decide, by decide⟩
  rw [List.mem_singleton.mp hr]
  refine ⟨by decide, by decide, fun i hi => ?_⟩
  have : i = 0 ∨ i = 1 := by
    simp at hi
    omega
  rcases this with rfl | rfl
  · exact ⟨0, 1, rfl, rfl, rfl⟩
  · exact ⟨1, 0, rfl, rfl, rfl⟩
theorem rings0 : Rings [0] [[0]] := by
  refine ⟨fun r hr => ?_, by decide, by decide, by decide⟩
  rw [List.mem_singleton.mp hr]
  refine ⟨by decide, by decide, fun i hi => ?_⟩
  have : i = 0 := by
    simp at hi
    omega
  subst this
  exact ⟨0, 0, rfl, rfl, rfl⟩
theorem nr10 : noRoot (grp [[0, 1]]) 2 = [2] := by decide +kernel
theorem nr0 : noRoot (grp [[0]]) 2 = [] := by decide +kernel
section
variable {K : PySem.W.Frag} {σ : L2.St} {H : Hp} {p : Addr} {te : TE} {ta : TA} {R : Hp → V → Prop} {D : Ends} {tz tu : TS}
theorem q_forJ {n j : Nat} (hR : MonoJ R) (h : EvJA p R ta σ H n) (hn : n ≤ 1000) (hp : H p ≠ none) (Pv : L2.St → Prop) (h0 : Pv σ)
    (hs : ∀ (x : V) (σ' : L2.St) (H' : Hp) (N : L2.St → Hp → Prop), Pv σ' → Ex H H' → R (Hm p H') x → (∀ s G, Pv s → Ex H' G → N s G) → tu { D with nx := N, ct := N, bk := tz D } (σ'.set j (some x)) H')
    (hd : ∀ (σ' : L2.St) (H' : Hp), Pv σ' → Ex H H' → tz D σ' H') : tSeq (tFor (iTup K (tTup ta)) (gName j) tu) tz D σ H := by
  refine h H (Ex.refl H) hp _ fun vs H1 e1 hl hv => ⟨sz_of (by omega), fun q hq => ?_⟩
  have e2 : Ex H (upd H1 q (.tup vs)) := e1.trans (Ex.new hq)
  refine ⟨q, rfl, ⟨vs, st_of upd_same⟩, for_tup (fun i σ' H' => Pv σ' ∧ Ex (upd H1 q (.tup vs)) H') ⟨h0, Ex.refl _⟩ (fun i σ' H' _ z => ex_t z.2 (st_of upd_same)) (fun i x σ' H' hx z => ?_) fun σ' H' z => hd σ' H' z.1 (e2.trans z.2)⟩
  exact hs x σ' H' _ z.1 (e2.trans z.2) (hR _ _ _ (hm_mono ((Ex.new hq).trans z.2)) (hv x (List.mem_of_getElem? hx))) fun s G h1 h2 => ⟨h1, z.2.trans h2⟩
end
theorem st_eq {tz : TS} {D : Ends} {σ σ2 : L2.St} {H : Hp} (e : σ = σ2) (h : tz D σ2 H) : tz D σ H := e ▸ h
section
variable {P : Program} {w : World} {K : PySem.W.Frag} {mg : Str → Option Value} {base : Heap}
theorem j_makeR (T : Tx K mg) {p : Addr} {σ : L2.St} {H : Hp} {R : Hp → V → Prop} (j : ∀ a G dx fs, G a = some (.ins T.cl_Hall dx fs) → R G (.ref a)) : EvJ p R (tMake T.cl_Hall (sp_hall T) [.int 1] E0 tNil) σ H := fun H1 e hp Q q x dx hx hdx ne =>
  ⟨x, dx, rfl, upd_same, fun fs H' e2 h2 => by
    have eX : Ex H1 H' := fun b o hb => by
      have b1 : b ≠ x := fun z => by
        rw [z, hx] at hb
        cases hb
      have b2 : b ≠ dx := fun z => by
        rw [z, hdx] at hb
        cases hb
      refine e2 b o (hm_get ?_ b1)
      rw [upd_ne b1, upd_ne b2]
      exact hb
    exact ⟨rfl, q _ H' eX (j x _ dx fs (hm_get h2 (ne_fresh hp hx)))⟩⟩
end


local macro_rules | `(tactic| walk_at "call") => `(tactic| (with_reducible exact sv_whole))

section
variable {K : PySem.W.Frag} {σ : L2.St} {H0 H : Hp} {p L : Addr} {ta tl tx tp : TE} {D : Ends} {tu : TS} {E E' : XK} {R : Hp → V → Prop}
/-- asked of a drawn one of a list of things that are no sizes -/
theorem ep_askedZ {w1 : Addr} {vs : List V} {x : Int} (h0 : H0 p = none) (hp : Ev tp σ H0 (.ref p)) (hl : Ev tl σ H0 (.ref w1)) (hw : H0 w1 = some (.lst vs)) (vl : vs.length = 16) (hvs : ∀ v ∈ vs, Bad K jZ H0 v) (hx : Ev tx σ H0 (.int x)) :
    EvP p L 1 (tCall (sp_law_asked K) [] E (tCons (tC (.int 4)) (tCons (tOp (rIxL K) tl (tCall sp_law_draw [] E' (tCons tp (tCons (tC (.int 16)) tNil)))) (tCons tx tNil)))) σ H0 (fun v _ => v = .int 2) := fun n H1 e hp' hn Q q =>
  hl H1 e _ fun H2 e2 => (ep_dipI (p := p) (L := L) (w := 16) (E := E') h0 hp ev_c (by decide) (by decide)) n H2 (e.trans e2) (hp'.ex e2) hn _ fun v H3 ⟨s, hv, r0, r1⟩ p3 e3 => by
    subst hv
    obtain ⟨s, rfl⟩ : ∃ z : Nat, s = z := ⟨s.toNat, by omega⟩
    obtain ⟨z, hz⟩ : ∃ z, vs[s]? = some z := ⟨_, List.getElem?_eq_getElem (by omega)⟩
    have e03 := hm_next h0 (e.trans e2) e3
    refine (rv_ixL (K := K) (sq_of (e03 w1 _ hw)) (atI_nat hz)) H3 (Ex.refl _) _ fun H4 e4 => ?_
    refine hx H4 (e03.trans e4) _ fun H5 e5 => ?_
    obtain ⟨o, hb, hj⟩ := hvs z (List.mem_of_getElem? hz)
    obtain ⟨j1, j2⟩ := jZ_no hj
    have dz : dZ o = some 2 := by
      unfold dZ
      rw [if_neg (by rw [j1]; decide)]
    refine ⟨4, z, .int x, dZ o, rfl, .szs z o x (hb.ex (e03.trans (e4.trans e5))) j2, fun H6 e6 => ?_⟩
    rw [dz]
    exact q _ H6 rfl (p3.ex (e4.trans (e5.trans e6))) (hm_trans (hm_of e2) (hm_trans e3 (hm_of (e4.trans (e5.trans e6)))))
theorem s_forJ {ta : TA} {n j : Nat} (hR : MonoJ R) (h : EvJA p R ta σ H n) (hn : n ≤ 1000) (hp : H p ≠ none) (Pv : L2.St → Prop) (h0 : Pv σ)
    (hs : ∀ (x : V) (σ' : L2.St) (H' : Hp) (N : L2.St → Hp → Prop), Pv σ' → Ex H H' → R (Hm p H') x → (∀ s G, Pv s → Ex H' G → N s G) → tu { D with nx := N, ct := N, bk := D.nx } (σ'.set j (some x)) H')
    (hd : ∀ (σ' : L2.St) (H' : Hp), Pv σ' → Ex H H' → D.nx σ' H') : tFor (iTup K (tTup ta)) (gName j) tu D σ H := q_forJ (K := K) (D := D) (tz := fun D σ H => D.nx σ H) hR h hn hp Pv h0 hs hd
end
section
variable {P : Program} {w : World} {K : PySem.W.Frag} {mg : Str → Option Value} {base : Heap}
theorem ok_law (T : Tx K mg) : FnOk P w K mg base CX0 11 T.f_law T.d_law ["script"] (sp_law K) := by
  refine T.F_law.ok sc_law (fun vs H Q E h => ?_) (fun cdv A outer s0 H vs Q E hr h => ?_)
  · obtain ⟨a, ns, rfl, _⟩ := h
    rfl
  · obtain ⟨a, ns, rfl, hs, hl, kk⟩ := h
    refine ⟨_, (pss_cons (ps_set (i := 1) sc_law.nd rfl (Or.inl rfl) (pe_call (ok_law_bag T) (hr.mono (by decide)) (by rfl) T.g_law_bag T.F_law_bag.kp T.b_law_bag .nil pass0 (pa_cons (pv 0) pa_nil)))
      (pss_cons (ps_for PassesOwn.never rfl (pi_range1 (by rfl) T.m_range (pa_cons pe_int pa_nil)) (pg_name (i := 2) sc_law.nd rfl (Or.inl rfl)) (pss_cons (ps_asg (pe_tup (pa_cons (pe_call (ok_law_bad_seating T) (hr.mono (by decide)) (by rfl) T.g_law_bad_seating T.F_law_bad_seating.kp T.b_law_bad_seating .nil pass0 (pa_cons (pv 1) pa_nil)) (pa_cons (pe_ix ix_list (pe_lst (pa_cons pe_int (pa_cons (pe_un un_neg pe_int) (pa_cons (pe_op op_add (pe_op op_powX pe_int pe_int) pe_int) (pa_cons (pe_op op_powX pe_int pe_int) pa_nil))))) (pe_call (ok_law_draw T) (hr.mono (by decide)) (by rfl) T.g_law_draw T.F_law_draw.kp T.b_law_draw .nil pass0 (pa_cons (pv 1) (pa_cons pe_int pa_nil))) (fun _ _ => rfl)) pa_nil))) (pg_tup rfl (pgs_cons (pg_name (i := 3) sc_law.nd rfl (Or.inr rfl)) (pgs_cons (pg_name (i := 4) sc_law.nd rfl (Or.inr rfl)) pgs_nil))))
      (pss_cons (ps_setLc (i := 6) (own := [("way", 5)]) (g := (gName 5)) (tt := tYes) rfl sc_law.nd rfl rfl (sw_true rfl rfl rfl (by decide +kernel)) (pi_tup (pe_tup (pa_cons pe_int (pa_cons pe_int (pa_cons pe_int (pa_cons pe_int (pa_cons pe_int (pa_cons pe_int (pa_cons pe_int pa_nil))))))))) (blkOk_by (own := [("way", 5)]) (N := n_law) (sc := defScope s_law) (by decide +kernel)) (fun _ _ _ _ _ => (pg_name (i := 5) sc_law.nd rfl (Or.inl rfl))) (fun _ _ _ _ _ => pts_nil) (fun _ _ _ _ _ => (pe_call (ok_law_asked T) (hr.mono (by decide)) (by rfl) T.g_law_asked T.F_law_asked.kp T.b_law_asked .nil pass0 (pa_cons (pv 5) (pa_cons (pv 3) (pa_cons (pv 4) pa_nil))))))
      (pss_cons (ps_if (pt_not (pt_val (pe_call (ok_law_alike T) (hr.mono (by decide)) (by rfl) T.g_law_alike T.F_law_alike.kp T.b_law_alike .nil pass0 (pa_cons (pv 6) (pa_cons (pe_op op_rep (pe_lst (pa_cons pe_int pa_nil)) pe_int) pa_nil))))) (pss_one (ps_ret pe_bl)) pss_nil)
      (pss_cons (ps_set (i := 7) sc_law.nd rfl (Or.inr rfl) (pe_revL (pe_listRg rfl (by rfl) T.m_list (prg_1 (by rfl) T.m_range (pe_op op_add pe_int (pe_call (ok_law_draw T) (hr.mono (by decide)) (by rfl) T.g_law_draw T.F_law_draw.kp T.b_law_draw .nil pass0 (pa_cons (pv 1) (pa_cons pe_int pa_nil))))))))
      (pss_cons (ps_setLc (i := 6) (own := [("way", 5)]) (g := (gName 5)) (tt := tYes) rfl sc_law.nd rfl rfl (sw_true rfl rfl rfl (by decide +kernel)) (pi_tup (pe_tup (pa_cons pe_int (pa_cons pe_int (pa_cons pe_int (pa_cons pe_int (pa_cons pe_int (pa_cons pe_int (pa_cons pe_int pa_nil))))))))) (blkOk_by (own := [("way", 5)]) (N := n_law) (sc := defScope s_law) (by decide +kernel)) (fun _ _ _ _ _ => (pg_name (i := 5) sc_law.nd rfl (Or.inl rfl))) (fun _ _ _ _ _ => pts_nil) (fun _ _ _ _ _ => (pe_call (ok_law_asked T) (hr.mono (by decide)) (by rfl) T.g_law_asked T.F_law_asked.kp T.b_law_asked .nil pass0 (pa_cons (pv 5) (pa_cons (pv 7) (pa_cons (pv 4) pa_nil))))))
      (pss_cons (ps_if (pt_not (pt_val (pe_call (ok_law_alike T) (hr.mono (by decide)) (by rfl) T.g_law_alike T.F_law_alike.kp T.b_law_alike .nil pass0 (pa_cons (pv 6) (pa_cons (pe_lst (pa_cons pe_non (pa_cons pe_int (pa_cons pe_int (pa_cons pe_int (pa_cons pe_int (pa_cons pe_int (pa_cons pe_non pa_nil)))))))) pa_nil))))) (pss_one (ps_ret pe_bl)) pss_nil)
      (pss_cons (ps_setLc (i := 6) (own := [("way", 5)]) (g := (gName 5)) (tt := tYes) rfl sc_law.nd rfl rfl (sw_true rfl rfl rfl (by decide +kernel)) (pi_tup (pe_tup (pa_cons pe_int (pa_cons pe_int (pa_cons pe_int (pa_cons pe_int (pa_cons pe_int pa_nil))))))) (blkOk_by (own := [("way", 5)]) (N := n_law) (sc := defScope s_law) (by decide +kernel)) (fun _ _ _ _ _ => (pg_name (i := 5) sc_law.nd rfl (Or.inl rfl))) (fun _ _ _ _ _ => pts_nil) (fun _ _ _ _ _ => (pe_call (ok_law_asked T) (hr.mono (by decide)) (by rfl) T.g_law_asked T.F_law_asked.kp T.b_law_asked .nil pass0 (pa_cons (pv 5) (pa_cons (pv 7) (pa_cons pe_int pa_nil))))))
      (pss_cons (ps_set (i := 6) sc_law.nd rfl (Or.inl rfl) (pe_op op_cat (pv 6) (pe_lc (own := [("way", 5)]) (g := (gName 5)) (tt := tYes) rfl sc_law.nd (pi_tup (pe_tup (pa_cons pe_int (pa_cons pe_int (pa_cons pe_int (pa_cons pe_int (pa_cons pe_int pa_nil))))))) (blkOk_by (own := [("way", 5)]) (N := n_law) (sc := defScope s_law) (by decide +kernel)) (fun _ _ _ _ _ => (pg_name (i := 5) sc_law.nd rfl (Or.inl rfl))) (fun _ _ _ _ _ => pts_nil) (fun _ _ _ _ _ => (pe_call (ok_law_asked T) (hr.mono (by decide)) (by rfl) T.g_law_asked T.F_law_asked.kp T.b_law_asked .nil pass0 (pa_cons (pv 5) (pa_cons (pv 7) (pa_cons (pe_op op_powX pe_int pe_int) pa_nil))))))))
      (pss_cons (ps_if (pt_not (pt_val (pe_call (ok_law_alike T) (hr.mono (by decide)) (by rfl) T.g_law_alike T.F_law_alike.kp T.b_law_alike .nil pass0 (pa_cons (pv 6) (pa_cons (pe_op op_rep (pe_lst (pa_cons pe_non pa_nil)) pe_int) pa_nil))))) (pss_one (ps_ret pe_bl)) pss_nil)
      (pss_cons (ps_set (i := 8) sc_law.nd rfl (Or.inl rfl) (pe_lst (pa_cons pe_non (pa_cons (pe_tup pa_nil) (pa_cons (pe_lst pa_nil) (pa_cons pe_dnewK (pa_cons pe_int (pa_cons (pe_lst (pa_cons pe_int pa_nil)) (pa_cons (pe_lst (pa_cons (pe_un un_neg pe_int) pa_nil)) (pa_cons (pe_lst (pa_cons pe_bl pa_nil)) (pa_cons (pe_lst (pa_cons pe_str pa_nil)) (pa_cons (pe_lst (pa_cons pe_non pa_nil)) (pa_cons (pe_tup (pa_cons pe_int pa_nil)) (pa_cons (pe_lst (pa_cons pe_int pa_nil)) (pa_cons (pe_lst (pa_cons pe_int (pa_cons pe_int pa_nil))) (pa_cons (pe_op op_rep (pe_lst (pa_cons pe_int pa_nil)) pe_int) (pa_cons (pe_lst (pa_cons (pe_lst (pa_cons pe_int pa_nil)) pa_nil)) (pa_cons (pe_make0 T.o_Hall.made (ok_Hall_init T) (hr.mono (by decide)) (by rfl) T.gc_Hall T.bm_Hall_init T.bv_Hall_init Kit.passE0) pa_nil))))))))))))))))))
      (pss_cons (ps_if (pt_not (pt_val (pe_call (ok_law_alike T) (hr.mono (by decide)) (by rfl) T.g_law_alike T.F_law_alike.kp T.b_law_alike .nil pass0 (pa_cons (pe_call (ok_law_asked T) (hr.mono (by decide)) (by rfl) T.g_law_asked T.F_law_asked.kp T.b_law_asked .nil pass0 (pa_cons pe_int (pa_cons (pe_ix ix_list (pv 8) (pe_call (ok_law_draw T) (hr.mono (by decide)) (by rfl) T.g_law_draw T.F_law_draw.kp T.b_law_draw .nil pass0 (pa_cons (pv 1) (pa_cons pe_int pa_nil))) (fun _ _ => rfl)) (pa_cons (pv 4) pa_nil)))) (pa_cons pe_int pa_nil))))) (pss_one (ps_ret pe_bl)) pss_nil)
      (pss_cons (ps_set (i := 9) sc_law.nd rfl (Or.inl rfl) (pe_ix ix_list (pe_lst (pa_cons pe_int (pa_cons (pe_un un_neg pe_int) (pa_cons (pe_op op_add (pe_op op_powX pe_int pe_int) pe_int) pa_nil)))) (pe_call (ok_law_draw T) (hr.mono (by decide)) (by rfl) T.g_law_draw T.F_law_draw.kp T.b_law_draw .nil pass0 (pa_cons (pv 1) (pa_cons pe_int pa_nil))) (fun _ _ => rfl)))
      (pss_cons (ps_set (i := 6) sc_law.nd rfl (Or.inl rfl) (pe_lst (pa_cons (pe_call (ok_law_asked T) (hr.mono (by decide)) (by rfl) T.g_law_asked T.F_law_asked.kp T.b_law_asked .nil pass0 (pa_cons pe_int (pa_cons (pe_lst (pa_cons pe_int pa_nil)) (pa_cons (pv 4) pa_nil)))) (pa_cons (pe_call (ok_law_asked T) (hr.mono (by decide)) (by rfl) T.g_law_asked T.F_law_asked.kp T.b_law_asked .nil pass0 (pa_cons pe_int (pa_cons (pe_op op_rep (pe_lst (pa_cons pe_int pa_nil)) pe_int) (pa_cons (pv 4) pa_nil)))) (pa_cons (pe_call (ok_law_asked T) (hr.mono (by decide)) (by rfl) T.g_law_asked T.F_law_asked.kp T.b_law_asked .nil pass0 (pa_cons pe_int (pa_cons (pv 9) (pa_cons pe_int pa_nil)))) (pa_cons (pe_call (ok_law_asked T) (hr.mono (by decide)) (by rfl) T.g_law_asked T.F_law_asked.kp T.b_law_asked .nil pass0 (pa_cons pe_int (pa_cons pe_int (pa_cons pe_int pa_nil)))) pa_nil))))))
      (pss_cons (ps_set (i := 6) sc_law.nd rfl (Or.inl rfl) (pe_op op_cat (pv 6) (pe_lst (pa_cons (pe_call (ok_law_asked T) (hr.mono (by decide)) (by rfl) T.g_law_asked T.F_law_asked.kp T.b_law_asked .nil pass0 (pa_cons pe_int (pa_cons (pv 9) (pa_cons pe_int pa_nil)))) (pa_cons (pe_call (ok_law_asked T) (hr.mono (by decide)) (by rfl) T.g_law_asked T.F_law_asked.kp T.b_law_asked .nil pass0 (pa_cons pe_int (pa_cons (pe_op op_powX pe_int pe_int) (pa_cons pe_int pa_nil)))) pa_nil)))))
      (pss_cons (ps_if (pt_not (pt_val (pe_call (ok_law_alike T) (hr.mono (by decide)) (by rfl) T.g_law_alike T.F_law_alike.kp T.b_law_alike .nil pass0 (pa_cons (pv 6) (pa_cons (pe_lst (pa_cons pe_non (pa_cons pe_non (pa_cons pe_int (pa_cons pe_non (pa_cons pe_int (pa_cons pe_non pa_nil))))))) pa_nil))))) (pss_one (ps_ret pe_bl)) pss_nil)
      (pss_one (ps_for PassesOwn.never rfl (pi_tup (pe_tup (pa_cons pe_non (pa_cons pe_bl (pa_cons pe_str (pa_cons pe_dnewK (pa_cons (pe_tup pa_nil) (pa_cons (pe_lst (pa_cons pe_non pa_nil)) (pa_cons (pe_lst (pa_cons (pe_lst (pa_cons pe_int pa_nil)) pa_nil)) (pa_cons (pe_un un_neg pe_int) (pa_cons (pe_op op_powX pe_int pe_int) (pa_cons (pe_make0 T.o_Hall.made (ok_Hall_init T) (hr.mono (by decide)) (by rfl) T.gc_Hall T.bm_Hall_init T.bv_Hall_init Kit.passE0) (pa_cons (pe_op op_rep (pe_lst (pa_cons pe_int pa_nil)) pe_int) pa_nil))))))))))))) (pg_name (i := 10) sc_law.nd rfl (Or.inl rfl)) (pss_cons (ps_set (i := 6) sc_law.nd rfl (Or.inl rfl) (pe_lst (pa_cons (pe_call (ok_shows_root T) (hr.mono (by decide)) (by rfl) T.g_shows_root T.F_shows_root.kp T.b_shows_root .nil Kit.passE0 (pa_cons (pe_lst (pa_cons pe_int (pa_cons pe_int (pa_cons pe_int pa_nil)))) (pa_cons pe_int (pa_cons (pv 10) pa_nil)))) (pa_cons (pe_call (ok_shows_root_paper T) (hr.mono (by decide)) (by rfl) T.g_shows_root_paper T.F_shows_root_paper.kp T.b_shows_root_paper .nil Kit.passE0 (pa_cons (pe_lst (pa_cons pe_int (pa_cons pe_int (pa_cons pe_int pa_nil)))) (pa_cons pe_int (pa_cons (pv 10) pa_nil)))) pa_nil))))
      (pss_one (ps_if (pt_not (pt_val (pe_call (ok_law_alike T) (hr.mono (by decide)) (by rfl) T.g_law_alike T.F_law_alike.kp T.b_law_alike .nil pass0 (pa_cons (pv 6) (pa_cons (pe_lst (pa_cons pe_bl (pa_cons pe_bl pa_nil))) pa_nil))))) (pss_one (ps_ret pe_bl)) pss_nil)))))))))))))))))))))
      (pss_cons (ps_set (i := 6) sc_law.nd rfl (Or.inl rfl) (pe_lst (pa_cons (pe_call (ok_shows_root T) (hr.mono (by decide)) (by rfl) T.g_shows_root T.F_shows_root.kp T.b_shows_root .nil Kit.passE0 (pa_cons (pe_lst (pa_cons pe_int pa_nil)) (pa_cons pe_int (pa_cons (pe_lst (pa_cons pe_int pa_nil)) pa_nil)))) (pa_cons (pe_call (ok_shows_root_paper T) (hr.mono (by decide)) (by rfl) T.g_shows_root_paper T.F_shows_root_paper.kp T.b_shows_root_paper .nil Kit.passE0 (pa_cons (pe_lst (pa_cons pe_int (pa_cons pe_int pa_nil))) (pa_cons pe_int (pa_cons pe_int pa_nil)))) (pa_cons (pe_call (ok_shows_root_paper T) (hr.mono (by decide)) (by rfl) T.g_shows_root_paper T.F_shows_root_paper.kp T.b_shows_root_paper .nil Kit.passE0 (pa_cons (pe_lst (pa_cons pe_int pa_nil)) (pa_cons pe_int (pa_cons pe_int pa_nil)))) (pa_cons (pe_call (ok_law_asked T) (hr.mono (by decide)) (by rfl) T.g_law_asked T.F_law_asked.kp T.b_law_asked .nil pass0 (pa_cons pe_int (pa_cons pe_int (pa_cons pe_int pa_nil)))) pa_nil))))))
      (pss_one (ps_ret (pe_call (ok_law_alike T) (hr.mono (by decide)) (by rfl) T.g_law_alike T.F_law_alike.kp T.b_law_alike .nil pass0 (pa_cons (pv 6) (pa_cons (pe_lst (pa_cons pe_bl (pa_cons pe_bl (pa_cons pe_bl (pa_cons pe_int pa_nil))))) pa_nil)))))))), ?_⟩
    have one : ∀ {te : TE} {σ : L2.St} {G : Hp} {v : V}, Ev te σ G v → EvL (tLst (tCons te tNil)) σ G [v] := fun h => el_lst (ea_cons h ea_nil) (Nat.le_of_ble_eq_true rfl)
    have two : ∀ {te tf : TE} {σ : L2.St} {G : Hp} {v u : V}, Ev te σ G v → Ev tf σ G u → EvL (tLst (tCons te (tCons tf tNil))) σ G [v, u] := fun h h2 => el_lst (ea_cons h (ea_cons h2 ea_nil)) (Nat.le_of_ble_eq_true rfl)
    have sc1 : ∀ {v : V}, Sc v → ∀ x ∈ [v], Sc x := fun h x hx => by rw [List.mem_singleton.mp hx]; exact h
    have sc2 : ∀ {v u : V}, Sc v → Sc u → ∀ x ∈ [v, u], Sc x := fun h h2 x hx => by
      rcases List.mem_cons.mp hx with e | hx
      · rw [e]; exact h
      · rw [List.mem_singleton.mp hx]; exact h2
    have m1 : ∀ {σ : L2.St} {G : Hp}, Ev (tUn (rU fun i => .int (-i)) (tC (.int 1))) σ G (.int (-1)) := ev_un ev_c ru_neg
    have p6 : ∀ {σ : L2.St} {G : Hp}, Ev (tOp (rI CPowX fun i j => .int (i ^ j.toNat)) (tC (.int 10)) (tC (.int 6))) σ G (.int 1000000) := ev_op ev_c ev_c (rv_I (by constructor <;> decide +kernel))
    have p9 : ∀ {σ : L2.St} {G : Hp}, Ev (tOp (rI CPowX fun i j => .int (i ^ j.toNat)) (tC (.int 10)) (tC (.int 9))) σ G (.int 1000000000) := ev_op ev_c ev_c (rv_I (by constructor <;> decide +kernel))
    have p29 : ∀ {σ : L2.St} {G : Hp}, Ev (tOp (rI CPowX fun i j => .int (i ^ j.toNat)) (tC (.int 10)) (tC (.int 29))) σ G (.int 100000000000000000000000000000) := ev_op ev_c ev_c (rv_I (by constructor <;> decide +kernel))
    have p30 : ∀ {σ : L2.St} {G : Hp}, Ev (tOp (rI CPowX fun i j => .int (i ^ j.toNat)) (tC (.int 10)) (tC (.int 30))) σ G (.int 1000000000000000000000000000000) := ev_op ev_c ev_c (rv_I (by constructor <;> decide +kernel))
    have w7 : ∀ {σ : L2.St} {G : Hp}, EvU (tTup (tCons (tC (.int 0)) (tCons (tC (.int 1)) (tCons (tC (.int 2)) (tCons (tC (.int 3)) (tCons (tC (.int 5)) (tCons (tC (.int 6)) (tCons (tC (.int 7)) tNil)))))))) σ G (nv [0, 1, 2, 3, 5, 6, 7]) := eu_tup (ea_cons ev_c (ea_cons ev_c (ea_cons ev_c (ea_cons ev_c (ea_cons ev_c (ea_cons ev_c (ea_cons ev_c ea_nil))))))) (Nat.le_of_ble_eq_true rfl)
    have w5 : ∀ {σ : L2.St} {G : Hp}, EvU (tTup (tCons (tC (.int 1)) (tCons (tC (.int 2)) (tCons (tC (.int 3)) (tCons (tC (.int 5)) (tCons (tC (.int 6)) tNil)))))) σ G (nv [1, 2, 3, 5, 6]) := eu_tup (ea_cons ev_c (ea_cons ev_c (ea_cons ev_c (ea_cons ev_c (ea_cons ev_c ea_nil))))) (Nat.le_of_ble_eq_true rfl)
    refine pq_bag (ea_cons (ev_var rfl) ea_nil) hs hl fun p L H1 hp hL e1 hpo => ?_
    refine q_forR1 (n := (12 : Int)) (ea_cons ev_c ea_nil) (by decide) (fun i σ' H' => ∃ y2 y3 y4 y6 y7 y8 y9 y10, σ' = [some (.ref a), some (.ref p), y2, y3, y4, none, y6, y7, y8, y9, y10] ∧ Ex H H' ∧ Po p L (40 * i) H') (fun H2 e2 => ⟨none, none, none, none, none, none, none, none, rfl, e1.trans e2, hpo.ex e2⟩) ?_ ?_
    rotate_left
    · rintro σ' H' ⟨y2, y3, y4, y6, y7, y8, y9, y10, rfl, e, p'⟩
      have o0 : Ord [0] := ⟨by decide, by decide, by decide⟩
      have o10 : Ord [1, 0] := ⟨by decide, by decide, by decide⟩
      refine q_asgL (xs := [.bl true, .bl true, .bl false, .int 3]) (el_lst (ea_cons (ev_shroot1 (T := T) (one ev_c) (by decide) fun G eg => one ev_c) (ea_cons (ev_shpaper1 (T := T) (z := 2) (i := 2) (b := true) (two ev_c ev_c) o10 rings10 (by decide) (by rw [nr10]; rfl)) (ea_cons (ev_shpaper1 (T := T) (z := 2) (i := 1) (b := false) (one ev_c) o0 rings0 (by decide) (by rw [nr0]; rfl)) (ea_cons (ev_asked (n := 8) ev_c ev_c ev_c (.cnt 21 (.int 0)) rfl) ea_nil)))) (Nat.le_of_ble_eq_true rfl)) fun t1 H3 nt1 e3 ht1 => ?_
      have tk : ∀ {G : Hp}, Paired (Tk 3 G) [V.bl true, .bl true, .bl false, .int 3] [PyData.bool true, .bool true, .bool false, .int 3] := .cons (.flat (.bl _)) (.cons (.flat (.bl _)) (.cons (.flat (.bl _)) (.cons (tk_int 3) .nil)))
      exact s_ret (v := .bl true) (ev_alike (n := 4) (d := .list [.bool true, .bool true, .bool false, .int 3]) (ek_of (ev_var rfl) (tk_lst (n := 3) (xs := [.bl true, .bl true, .bl false, .int 3]) ht1 tk (Nat.le_of_ble_eq_true rfl))) (ek_L (n := 3) (xs := [.bl true, .bl true, .bl false, .int 3]) (el_lst (ea_cons ev_c (ea_cons ev_c (ea_cons ev_c (ea_cons ev_c ea_nil)))) (Nat.le_of_ble_eq_true rfl)) tk (Nat.le_of_ble_eq_true rfl)) rfl) fun H4 _ => kk H4
    rintro i σ' H' hi ⟨y2, y3, y4, y6, y7, y8, y9, y10, rfl, e, p'⟩
    -- bad, far
    refine pq_tup2 (p := p) (L := L) (k1 := 11) (k2 := 1) (H0 := Hm p H') (Ra := fun v G => Bad K judge (Hm p G) v) (Rb := fun v G => Far (Hm p G) v) hm_p
      (fun n H2 e2 p2 hn Q q => (ev_var (i := 1) (v := .ref p) rfl) H2 (Ex.refl _) _ fun H3 e3 => ⟨p, L, n, rfl, p2.ex e3, by omega, fun v H4 hv p4 e4 => q v H4 hv (p4.mono (by omega)) (hm_trans (hm_of e3) e4)⟩)
      (ep_ixJ (K := K) (m := 4) far_mono (jl_lst far_mono (ja_cons far_mono (j_c ev_c (far_c (x := 0) (by decide))) (ja_cons far_mono (j_c m1 (far_c (by decide))) (ja_cons far_mono (j_c (ev_op (z := .int (1000000 + 1)) p6 ev_c rv_I0) (far_c (by decide))) (ja_cons far_mono (j_c p29 (far_c (by decide))) ja_nil)))) (by decide)) (ep_dipI hm_p (ev_var rfl) ev_c (by decide) (by decide))) (stb_hm bad_mono) (stb_hm far_mono) hm_sub p' (by omega) fun bad y H2 hbad hfar p2 e2 => ?_
    obtain ⟨x, rfl, hx⟩ := hfar
    obtain ⟨ob, bb, jb⟩ := hbad
    have bb := bb.ex (hm_sub (p := p))
    have eA := hm_next hp e e2
    -- told of no seating
    refine q_asgL (el_asksW (K := K) (ns := [0, 1, 2, 3, 5, 6, 7]) (fun _ => .int 0) w7 (by decide) (fun _ => rfl) (fun _ => rfl) (fun _ _ _ => ev_var rfl) (fun _ _ _ => ev_var rfl) fun n hn G eg => ?_) fun t1 H3 nt1 e3 ht1 => ?_
    · have bG := bb.ex eg
      simp only [List.mem_cons, List.not_mem_nil, or_false] at hn
      rcases hn with rfl | rfl | rfl | rfl | rfl | rfl | rfl
      · exact ⟨_, .pow _ ob x bG, by rw [dS_no jb]; rfl⟩
      · exact ⟨_, .rt 1 (by decide) _ ob x bG, by rw [dN_no jb]; rfl⟩
      · exact ⟨_, .rt 2 (by decide) _ ob x bG, by rw [dN_no jb]; rfl⟩
      · exact ⟨_, .rt 3 (by decide) _ ob x bG, by rw [dN_no jb]; rfl⟩
      · exact ⟨_, .rt 5 (by decide) _ ob x bG, by rw [dN_no jb]; rfl⟩
      · exact ⟨_, .rt 6 (by decide) _ ob x bG, by rw [dN_no jb]; rfl⟩
      · exact ⟨_, .per _ ob _ bG, by rw [dS_no jb]; rfl⟩
    have ht1 : H3 t1 = some (.lst ((List.replicate 7 (0 : Int)).map V.int)) := ht1
    refine q_when (b := false) (no_alike (d := .list ((List.replicate 7 (0 : Int)).map PyData.int)) (ek_of (ev_var rfl) (tk_lst (n := 3) ht1 (tk_ints (n := 3) _) (Nat.le_of_ble_eq_true rfl))) (ek_LI (n := 3) (ns := List.replicate 7 0) (el_rep (k := 7) (one ev_c) ev_c (by decide) (by decide) (Nat.le_of_ble_eq_true rfl)) (Nat.le_of_ble_eq_true rfl)) rfl) (fun z => Bool.noConfusion z) fun _ H4 e4 => ?_
    have p4 := p2.ex (e3.trans e4)
    have eB := eA.trans (e3.trans e4)
    refine st_eq (σ2 := [some (.ref a), some (.ref p), some (.int (i : Int)), some bad, some (.int x), none, some (.ref t1), y7, y8, y9, y10]) rfl ?_
    -- good
    refine pq_asgRv (K := K) (p := p) (L := L) (k := 0 + 1) (H0 := Hm p H4) (C := fun r => 1 ≤ r ∧ r ≤ 20) (ep_is (ep_add (a := 1) (C := fun r => 0 ≤ r ∧ r < 20) hm_p ev_c (ep_dipI hm_p (ev_var rfl) ev_c (by decide) (by decide))) fun v _ ⟨r, hv, r0, r1⟩ => ⟨(1 + r).toNat, by rw [hv]; congr 1; omega, by omega, by omega⟩) hm_sub p4 (by omega) fun m g H5 H6 hm ng e6 hg p5 p6' e5 => ?_
    obtain ⟨m0, m20⟩ := hm
    have eC := (hm_next hp eB e5).trans e6
    have og := rev_ord m0 m20
    have jG := judge_ord og
    have bG : ∀ {G : Hp}, Ex H6 G → Bd K G (.ref g) (some ((iz (List.range m).reverse).map PyData.int)) := fun eg => Ord.th (eg g _ hg)
    refine q_asgL (el_asksW (K := K) (ns := [0, 1, 2, 3, 5, 6, 7]) (fun n => if n = 0 ∨ n = 7 then .non else .int 1) w7 (by decide) (fun _ => rfl) (fun _ => rfl) (fun _ _ _ => ev_var rfl) (fun _ _ _ => ev_var rfl) fun n hn G eg => ?_) fun t2 H7 nt2 e7 ht2 => ?_
    · have bG := bG eg
      simp only [List.mem_cons, List.not_mem_nil, or_false] at hn
      rcases hn with rfl | rfl | rfl | rfl | rfl | rfl | rfl
      · exact ⟨_, .pow _ _ x bG, by rw [dS_ok jG]; rfl⟩
      · exact ⟨_, .rt 1 (by decide) _ _ x bG, by rw [dN_far jG hx]; rfl⟩
      · exact ⟨_, .rt 2 (by decide) _ _ x bG, by rw [dN_far jG hx]; rfl⟩
      · exact ⟨_, .rt 3 (by decide) _ _ x bG, by rw [dN_far jG hx]; rfl⟩
      · exact ⟨_, .rt 5 (by decide) _ _ x bG, by rw [dN_far jG hx]; rfl⟩
      · exact ⟨_, .rt 6 (by decide) _ _ x bG, by rw [dN_far jG hx]; rfl⟩
      · exact ⟨_, .per _ _ _ bG, by rw [dS_ok jG]; rfl⟩
    have ht2 : H7 t2 = some (.lst [.non, .int 1, .int 1, .int 1, .int 1, .int 1, .non]) := ht2
    have tk2 : ∀ {G : Hp}, Paired (Tk 3 G) [V.non, .int 1, .int 1, .int 1, .int 1, .int 1, .non] [PyData.none, .int 1, .int 1, .int 1, .int 1, .int 1, .none] := .cons (.flat .non) (.cons (tk_int 1) (.cons (tk_int 1) (.cons (tk_int 1) (.cons (tk_int 1) (.cons (tk_int 1) (.cons (.flat .non) .nil))))))
    refine q_when (b := false) (no_alike (d := .list [.none, .int 1, .int 1, .int 1, .int 1, .int 1, .none]) (ek_of (ev_var rfl) (tk_lst (n := 3) (xs := [.non, .int 1, .int 1, .int 1, .int 1, .int 1, .non]) ht2 tk2 (Nat.le_of_ble_eq_true rfl)))
      (ek_L (n := 3) (xs := [.non, .int 1, .int 1, .int 1, .int 1, .int 1, .non]) (el_lst (ea_cons ev_c (ea_cons ev_c (ea_cons ev_c (ea_cons ev_c (ea_cons ev_c (ea_cons ev_c (ea_cons ev_c ea_nil))))))) (Nat.le_of_ble_eq_true rfl)) tk2 (Nat.le_of_ble_eq_true rfl)) rfl) (fun z => Bool.noConfusion z) fun _ H8 e8 => ?_
    have e68 := e7.trans e8
    refine st_eq (σ2 := [some (.ref a), some (.ref p), some (.int (i : Int)), some bad, some (.int x), none, some (.ref t2), some (.ref g), y8, y9, y10]) rfl ?_
    have okR : ∀ (z : Int), 1 ≤ z ∧ z ≤ 1000000 → ∀ n ∈ [1, 2, 3, 5, 6], ∀ G, Ex H6 G → ∃ d, Asked K G n (.ref g) (.int z) d ∧ vO d = (fun _ : Nat => V.non) n := fun z hz n hn G eg => by
      have hn5 : n = 1 ∨ n = 2 ∨ n = 3 ∨ n = 5 ∨ n = 6 := by simpa using hn
      exact ⟨_, .rt n hn5 _ _ z (bG eg), by rw [dN_ok jG hz]; rfl⟩
    refine q_asgL (el_asksW (K := K) (ns := [1, 2, 3, 5, 6]) (v := .ref g) (u := .int 1) (fun _ => .non) w5 (by decide) (fun _ => rfl) (fun _ => rfl) (fun _ _ _ => ev_var rfl) (fun _ _ _ => ev_c) fun n hn G eg => okR 1 (by decide) n hn G (e68.trans eg)) fun t3 H9 nt3 e9 ht3 => ?_
    refine q_asgL (el_catL (ev_var rfl) ht3 (el_asksW (K := K) (ns := [1, 2, 3, 5, 6]) (v := .ref g) (u := .int 1000000) (fun _ => .non) w5 (by decide) (fun _ => rfl) (fun _ => rfl) (fun _ _ _ => ev_var rfl) (fun _ _ _ => p6) fun n hn G eg => okR 1000000 (by decide) n hn G ((e68.trans e9).trans eg)) (Nat.le_of_ble_eq_true rfl)) fun t4 H10 nt4 e10 ht4 => ?_
    have ht4 : H10 t4 = some (.lst [.non, .non, .non, .non, .non, .non, .non, .non, .non, .non]) := ht4
    have tk4 : ∀ {G : Hp}, Paired (Tk 3 G) [V.non, .non, .non, .non, .non, .non, .non, .non, .non, .non] [PyData.none, .none, .none, .none, .none, .none, .none, .none, .none, .none] := .cons (.flat .non) (.cons (.flat .non) (.cons (.flat .non) (.cons (.flat .non) (.cons (.flat .non) (.cons (.flat .non) (.cons (.flat .non) (.cons (.flat .non) (.cons (.flat .non) (.cons (.flat .non) .nil)))))))))
    refine q_when (b := false) (no_alike (d := .list [.none, .none, .none, .none, .none, .none, .none, .none, .none, .none]) (ek_of (ev_var rfl) (tk_lst (n := 3) (xs := [.non, .non, .non, .non, .non, .non, .non, .non, .non, .non]) ht4 tk4 (Nat.le_of_ble_eq_true rfl)))
      (ek_L (n := 3) (xs := [.non, .non, .non, .non, .non, .non, .non, .non, .non, .non]) (el_rep (k := 10) (one ev_c) ev_c (by decide) (by decide) (Nat.le_of_ble_eq_true rfl)) tk4 (Nat.le_of_ble_eq_true rfl)) rfl) (fun z => Bool.noConfusion z) fun _ H11 e11 => ?_
    refine st_eq (σ2 := [some (.ref a), some (.ref p), some (.int (i : Int)), some bad, some (.int x), none, some (.ref t4), some (.ref g), y8, y9, y10]) rfl ?_
    have e611 := e68.trans (e9.trans (e10.trans e11))
    have p11 := p6'.ex e611
    have eD := eC.trans e611
    -- wrong
    have jn : jZ none = false := rfl
    have bm : MonoJ (Bad K jZ) := bad_mono
    refine q_asgJL (p := p) (R := Bad K jZ) (n := 16) (jl_lst bm (ja_cons bm (j_c ev_c fun _ => bad_sc (v := .non) True.intro jn) (ja_cons bm (j_U (eu_tup ea_nil (Nat.le_of_ble_eq_true rfl)) fun _ _ h => bad_tup h jn) (ja_cons bm (j_L (xs := []) (el_lst ea_nil (Nat.le_of_ble_eq_true rfl)) fun _ _ h => bad_lst h (by simp) rfl)
      (ja_cons bm (j_D fun _ _ h => bad_dct h jn) (ja_cons bm (j_c ev_c fun _ => bad_sc (v := .int 3) True.intro jn) (ja_cons bm (j_L (one (v := .int 0) ev_c) fun _ _ h => bad_lst h (sc1 True.intro) rfl) (ja_cons bm (j_L (one (v := .int (-1)) m1) fun _ _ h => bad_lst h (sc1 True.intro) rfl)
      (ja_cons bm (j_L (one (v := .bl true) ev_c) fun _ _ h => bad_lst h (sc1 True.intro) rfl) (ja_cons bm (j_L (one (v := .str "1") ev_c) fun _ _ h => bad_lst h (sc1 True.intro) rfl) (ja_cons bm (j_L (one (v := .non) ev_c) fun _ _ h => bad_lst h (sc1 True.intro) rfl)
      (ja_cons bm (j_U (eu_tup (ea_cons (ev_c (v := .int 1)) ea_nil) (Nat.le_of_ble_eq_true rfl)) fun _ _ h => bad_tup h jn) (ja_cons bm (j_L (one (v := .int 21) ev_c) fun _ _ h => bad_lst h (sc1 True.intro) rfl) (ja_cons bm (j_L (two (v := .int 10) (u := .int 11) ev_c ev_c) fun _ _ h => bad_lst h (sc2 True.intro True.intro) rfl)
      (ja_cons bm (j_L (xs := (List.replicate 21 [V.int 1]).flatten) (el_rep (k := 21) (one ev_c) ev_c (by decide) (by decide) (Nat.le_of_ble_eq_true rfl)) fun _ _ h => bad_lst h (fun v hv => by
          obtain ⟨l, hl, hvl⟩ := List.mem_flatten.mp hv
          rw [(List.mem_replicate.mp hl).2] at hvl
          rw [List.mem_singleton.mp hvl]
          exact True.intro) rfl)
      (ja_cons bm (j_LL (one (v := .int 1) ev_c) fun _ _ _ h h2 => bad_ll h h2 rfl) (ja_cons bm (j_makeR T fun _ _ _ _ h => ⟨none, .own rfl h T.o_Hall.ty, jn⟩) ja_nil)))))))))))))))) (by decide)) p11.some fun w1 vs H12 nw1 e12 hw1 vl hvs => ?_
    have wp : w1 ≠ p := p11.ne nw1
    have p12 := p11.ex e12
    have eE := eD.trans e12
    refine st_eq (σ2 := [some (.ref a), some (.ref p), some (.int (i : Int)), some bad, some (.int x), none, some (.ref t4), some (.ref g), some (.ref w1), y9, y10]) rfl ?_
    refine pq_alikeN (p := p) (L := L) (k := 1) (H0 := Hm p H12) (c := 2) (ep_askedZ (K := K) hm_p (ev_var rfl) (ev_var rfl) (hm_get hw1 wp) vl hvs (ev_var rfl)) hm_sub p12 (by omega) fun H13 p13 e13 => ?_
    have eF := hm_next hp eE e13
    -- bound
    refine pq_asg (p := p) (L := L) (k := 1) (H0 := Hm p H13) (R := fun v G => Bnd (Hm p G) v) (ep_ixJ (K := K) (m := 3) bnd_mono (jl_lst bnd_mono (ja_cons bnd_mono (j_c ev_c (bnd_c (x := 0) (by decide) (by decide))) (ja_cons bnd_mono (j_c m1 (bnd_c (by decide) (by decide))) (ja_cons bnd_mono (j_c (ev_op (z := .int (1000000000 + 1)) p9 ev_c rv_I0) (bnd_c (by decide) (by decide))) ja_nil))) (by decide)) (ep_dipI hm_p (ev_var rfl) ev_c (by decide) (by decide))) hm_sub p13 (by omega) fun v H14 hv p14 e14 => ?_
    obtain ⟨b, rfl, b20, b9⟩ := hv
    have eG := hm_next hp eF e14
    have dGn : vO (dG b) = .int 3 := by
      unfold dG
      rw [if_neg b20]
      rfl
    have dLn : vO (dL b) = .int 1 := by
      unfold dL
      rw [if_neg b9]
      rfl
    refine st_eq (σ2 := [some (.ref a), some (.ref p), some (.int (i : Int)), some bad, some (.int x), none, some (.ref t4), some (.ref g), some (.ref w1), some (.int b), y10]) rfl ?_
    refine q_asgL (xs := [.non, .non, .int 3, .non]) (el_lst (ea_cons (ev_askedZ (K := K) (s := [20]) (one ev_c) (fun _ _ => ev_var rfl) (by decide) rfl) (ea_cons (ev_askedZ (K := K) (s := List.replicate 20 1) (el_rep (k := 20) (one ev_c) ev_c (by decide) (by decide) (Nat.le_of_ble_eq_true rfl)) (fun _ _ => ev_var rfl) (by decide) rfl) (ea_cons (ev_asked (K := K) (n := 8) ev_c (ev_var rfl) ev_c (.cnt b (.int 0)) dGn) (ea_cons (ev_asked (K := K) (n := 8) ev_c ev_c ev_c (.cnt 20 (.int 0)) rfl) ea_nil)))) (Nat.le_of_ble_eq_true rfl)) fun t5 H15 nt5 e15 ht5 => ?_
    refine q_asgL (el_catL (ev_var rfl) ht5 (two (ev_asked (K := K) (n := 9) ev_c (ev_var rfl) ev_c (.least b (.int 0)) dLn) (ev_asked (K := K) (n := 9) (z := .non) ev_c p9 ev_c (.least 1000000000 (.int 0)) rfl)) (Nat.le_of_ble_eq_true rfl)) fun t6 H16 nt6 e16 ht6 => ?_
    have ht6 : H16 t6 = some (.lst [.non, .non, .int 3, .non, .int 1, .non]) := ht6
    have tk6 : ∀ {G : Hp}, Paired (Tk 3 G) [V.non, .non, .int 3, .non, .int 1, .non] [PyData.none, .none, .int 3, .none, .int 1, .none] := .cons (.flat .non) (.cons (.flat .non) (.cons (tk_int 3) (.cons (.flat .non) (.cons (tk_int 1) (.cons (.flat .non) .nil)))))
    refine q_when (b := false) (no_alike (d := .list [.none, .none, .int 3, .none, .int 1, .none]) (ek_of (ev_var rfl) (tk_lst (n := 3) (xs := [.non, .non, .int 3, .non, .int 1, .non]) ht6 tk6 (Nat.le_of_ble_eq_true rfl)))
      (ek_L (n := 3) (xs := [.non, .non, .int 3, .non, .int 1, .non]) (el_lst (ea_cons ev_c (ea_cons ev_c (ea_cons ev_c (ea_cons ev_c (ea_cons ev_c (ea_cons ev_c ea_nil)))))) (Nat.le_of_ble_eq_true rfl)) tk6 (Nat.le_of_ble_eq_true rfl)) rfl) (fun z => Bool.noConfusion z) fun _ H17 e17 => ?_
    refine st_eq (σ2 := [some (.ref a), some (.ref p), some (.int (i : Int)), some bad, some (.int x), none, some (.ref t6), some (.ref g), some (.ref w1), some (.int b), y10]) (tz := fun D => tFor _ _ _ D) rfl ?_
    have e1417 := e15.trans (e16.trans e17)
    have p17 := p14.ex e1417
    have eH := eG.trans e1417
    have tm : MonoJ (Thing K) := thing_mono
    have o3 : Ord [1, 0, 2] := ⟨by decide, by decide, by decide⟩
    have l3 : ∀ {σ : L2.St} {G : Hp}, EvL (tLst (tCons (tC (.int 1)) (tCons (tC (.int 0)) (tCons (tC (.int 2)) tNil)))) σ G (nv [1, 0, 2]) := el_lst (ea_cons ev_c (ea_cons ev_c (ea_cons ev_c ea_nil))) (Nat.le_of_ble_eq_true rfl)
    refine s_forJ (K := K) (p := p) (R := Thing K) (n := 11) (j := 10) tm (ja_cons tm (j_c ev_c fun _ => thing_sc (v := .non) True.intro (fun i z => by cases z)) (ja_cons tm (j_c ev_c fun _ => thing_sc (v := .bl true) True.intro (fun i z => by cases z)) (ja_cons tm (j_c ev_c fun _ => thing_sc (v := .str "") True.intro (fun i z => by cases z)) (ja_cons tm (j_D fun _ _ h => thing_dct h)
      (ja_cons tm (j_U (eu_tup ea_nil (Nat.le_of_ble_eq_true rfl)) fun _ _ h => thing_tup h) (ja_cons tm (j_L (one (v := .non) ev_c) fun _ _ h => thing_lst h (.cons (iv_sc (v := .non) True.intro) .nil) rfl) (ja_cons tm (j_LL (one (v := .int 0) ev_c) fun _ _ _ h h2 => thing_lst h (.cons (iv_lst h2) .nil) rfl)
      (ja_cons tm (j_c m1 fun _ => thing_sc (v := .int (-1)) True.intro (fun i z => by cases z; exact .inl (by decide))) (ja_cons tm (j_c p30 fun _ => thing_sc (v := .int 1000000000000000000000000000000) True.intro (fun i z => by cases z; exact .inr (by decide)))
      (ja_cons tm (j_makeR T fun _ _ _ _ h => thing_own h T.o_Hall.ty) (ja_cons tm (j_L (xs := (List.replicate 21 0).map V.int) (el_rep (k := 21) (one ev_c) ev_c (by decide) (by decide) (Nat.le_of_ble_eq_true rfl)) fun _ _ h => thing_lst h (iv_ints (List.replicate 21 0)) rfl) ja_nil))))))))))) (by decide) p17.some
      (fun σ' => ∃ y6 y10, σ' = [some (.ref a), some (.ref p), some (.int (i : Int)), some bad, some (.int x), none, y6, some (.ref g), some (.ref w1), some (.int b), y10]) ⟨_, _, rfl⟩ ?_ fun σ' G hσ e18 => ?_
    · rintro y σ' G N ⟨y6, y10, rfl⟩ eg hy hN
      have hy := tm _ _ _ (hm_sub (p := p)) hy
      refine q_asgL (two (ev_shrootN (T := T) (z := 2) l3 o3 (by decide) (fun _ _ => ev_var rfl) hy) (ev_shpaperN (T := T) (z := 2) l3 o3 (by decide) (fun _ _ => ev_var rfl) hy)) fun t7 G1 nt7 eg1 ht7 => ?_
      have tk7 : ∀ {G : Hp}, Paired (Tk 3 G) [V.bl false, .bl false] [PyData.bool false, .bool false] := .cons (.flat (.bl _)) (.cons (.flat (.bl _)) .nil)
      exact s_when (b := false) (no_alike (d := .list [.bool false, .bool false]) (ek_of (ev_var rfl) (tk_lst (n := 3) (xs := [.bl false, .bl false]) ht7 tk7 (Nat.le_of_ble_eq_true rfl))) (ek_L (n := 3) (xs := [.bl false, .bl false]) (two ev_c ev_c) tk7 (Nat.le_of_ble_eq_true rfl)) rfl) (fun z => Bool.noConfusion z) fun _ G2 eg2 => hN _ _ ⟨_, _, rfl⟩ (eg1.trans eg2)
    · obtain ⟨y6, y10, rfl⟩ := hσ
      exact ⟨_, _, _, _, _, _, _, _, rfl, eH.trans e18, (p17.ex e18).mono (by omega)⟩
end


theorem all_mk {l : PySem.W.OpenLaw} {w : World} {K : PySem.W.Frag} {h : Heap} {mg : Str → Option Value} {fa : Addr} (X : K.In h) (G : h.Ns mainGlobals mg) (hfa : mg "law" = some (.ref fa))
    {f1 : Addr} {od1 an1 : Option Addr} {sl1 : Array (Option Value)} {oc1 kV1 dc1 pm1 cd1 ct1 : Value}
    {f2 : Addr} {od2 an2 : Option Addr} {sl2 : Array (Option Value)} {oc2 kV2 dc2 pm2 cd2 ct2 : Value}
    {f3 : Addr} {od3 an3 : Option Addr} {sl3 : Array (Option Value)} {oc3 kV3 dc3 pm3 cd3 ct3 : Value}
    {f4 : Addr} {od4 an4 : Option Addr} {sl4 : Array (Option Value)} {oc4 kV4 dc4 pm4 cd4 ct4 : Value}
    {f5 : Addr} {od5 an5 : Option Addr} {sl5 : Array (Option Value)} {oc5 kV5 dc5 pm5 cd5 ct5 : Value}
    {f6 : Addr} {od6 an6 : Option Addr} {sl6 : Array (Option Value)} {oc6 kV6 dc6 pm6 cd6 ct6 : Value}
    {f7 : Addr} {od7 an7 : Option Addr} {sl7 : Array (Option Value)} {oc7 kV7 dc7 pm7 cd7 ct7 : Value}
    {f8 : Addr} {od8 an8 : Option Addr} {sl8 : Array (Option Value)} {oc8 kV8 dc8 pm8 cd8 ct8 : Value}
    {f9 : Addr} {od9 an9 : Option Addr} {sl9 : Array (Option Value)} {oc9 kV9 dc9 pm9 cd9 ct9 : Value}
    {f10 : Addr} {od10 an10 : Option Addr} {sl10 : Array (Option Value)} {oc10 kV10 dc10 pm10 cd10 ct10 : Value}
    {f11 : Addr} {od11 an11 : Option Addr} {sl11 : Array (Option Value)} {oc11 kV11 dc11 pm11 cd11 ct11 : Value}
    {f12 : Addr} {od12 an12 : Option Addr} {sl12 : Array (Option Value)} {oc12 kV12 dc12 pm12 cd12 ct12 : Value}
    {f13 : Addr} {od13 an13 : Option Addr} {sl13 : Array (Option Value)} {oc13 kV13 dc13 pm13 cd13 ct13 : Value}
    {f14 : Addr} {od14 an14 : Option Addr} {sl14 : Array (Option Value)} {oc14 kV14 dc14 pm14 cd14 ct14 : Value}
    {f15 : Addr} {od15 an15 : Option Addr} {sl15 : Array (Option Value)} {oc15 kV15 dc15 pm15 cd15 ct15 : Value}
    {f16 : Addr} {od16 an16 : Option Addr} {sl16 : Array (Option Value)} {oc16 kV16 dc16 pm16 cd16 ct16 : Value}
    {f17 : Addr} {od17 an17 : Option Addr} {sl17 : Array (Option Value)} {oc17 kV17 dc17 pm17 cd17 ct17 : Value}
    {f18 : Addr} {od18 an18 : Option Addr} {sl18 : Array (Option Value)} {oc18 kV18 dc18 pm18 cd18 ct18 : Value}
    {f19 : Addr} {od19 an19 : Option Addr} {sl19 : Array (Option Value)} {oc19 kV19 dc19 pm19 cd19 ct19 : Value}
    {f20 : Addr} {od20 an20 : Option Addr} {sl20 : Array (Option Value)} {oc20 kV20 dc20 pm20 cd20 ct20 : Value}
    {f21 : Addr} {od21 an21 : Option Addr} {sl21 : Array (Option Value)} {oc21 kV21 dc21 pm21 cd21 ct21 : Value}
    {f22 : Addr} {od22 an22 : Option Addr} {sl22 : Array (Option Value)} {oc22 kV22 dc22 pm22 cd22 ct22 : Value}
    {f23 : Addr} {od23 an23 : Option Addr} {sl23 : Array (Option Value)} {oc23 kV23 dc23 pm23 cd23 ct23 : Value}
    {f24 : Addr} {od24 an24 : Option Addr} {sl24 : Array (Option Value)} {oc24 kV24 dc24 pm24 cd24 ct24 : Value}
    {f25 : Addr} {od25 an25 : Option Addr} {sl25 : Array (Option Value)} {oc25 kV25 dc25 pm25 cd25 ct25 : Value}
    {f26 : Addr} {od26 an26 : Option Addr} {sl26 : Array (Option Value)} {oc26 kV26 dc26 pm26 cd26 ct26 : Value}
    {f27 : Addr} {od27 an27 : Option Addr} {sl27 : Array (Option Value)} {oc27 kV27 dc27 pm27 cd27 ct27 : Value}
    {f28 : Addr} {od28 an28 : Option Addr} {sl28 : Array (Option Value)} {oc28 kV28 dc28 pm28 cd28 ct28 : Value}
    {f29 : Addr} {od29 an29 : Option Addr} {sl29 : Array (Option Value)} {oc29 kV29 dc29 pm29 cd29 ct29 : Value}
    {f30 : Addr} {od30 an30 : Option Addr} {sl30 : Array (Option Value)} {oc30 kV30 dc30 pm30 cd30 ct30 : Value}
    {f31 : Addr} {od31 an31 : Option Addr} {sl31 : Array (Option Value)} {oc31 kV31 dc31 pm31 cd31 ct31 : Value}
    {f32 : Addr} {od32 an32 : Option Addr} {sl32 : Array (Option Value)} {oc32 kV32 dc32 pm32 cd32 ct32 : Value}
    {f33 : Addr} {od33 an33 : Option Addr} {sl33 : Array (Option Value)} {oc33 kV33 dc33 pm33 cd33 ct33 : Value}
    {f34 : Addr} {od34 an34 : Option Addr} {sl34 : Array (Option Value)} {oc34 kV34 dc34 pm34 cd34 ct34 : Value}
    {f35 : Addr} {od35 an35 : Option Addr} {sl35 : Array (Option Value)} {oc35 kV35 dc35 pm35 cd35 ct35 : Value}
    {f36 : Addr} {od36 an36 : Option Addr} {sl36 : Array (Option Value)} {oc36 kV36 dc36 pm36 cd36 ct36 : Value}
    {f37 : Addr} {od37 an37 : Option Addr} {sl37 : Array (Option Value)} {oc37 kV37 dc37 pm37 cd37 ct37 : Value}
    {f38 : Addr} {od38 an38 : Option Addr} {sl38 : Array (Option Value)} {oc38 kV38 dc38 pm38 cd38 ct38 : Value}
    {f39 : Addr} {od39 an39 : Option Addr} {sl39 : Array (Option Value)} {oc39 kV39 dc39 pm39 cd39 ct39 : Value}
    {f40 : Addr} {od40 an40 : Option Addr} {sl40 : Array (Option Value)} {oc40 kV40 dc40 pm40 cd40 ct40 : Value}
    {c_HallError : Addr}
    {c_InvalidGuests : Addr}
    {c_InvalidWeight : Addr}
    {c_InvalidSeating : Addr}
    {c_InvalidSizes : Addr}
    {c_InvalidNumber : Addr}
    {fM0 dM0 : Addr} {ocM0 kVM0 dcM0 pmM0 cdM0 ctM0 oTM0 : Value} {odM0 anM0 oDM0 : Option Addr} {slM0 tsM0 : Array (Option Value)} {tkM0 : Tok} {nM0 : Nat}
    {c_Hall : Addr}
    {t_MOST_GUESTS : Tok}
    {t_MOST_WEIGHT : Tok}
    {t_MOST_PERIOD : Tok}
    {t_MOST_ROOT : Tok}
    (a1 : PySem.W.nsIn K mainGlobals "_wall" = some (some (.ref f1))) (l1 : K.lookup f1 = some ⟨oc1, od1, .func (PySem.W.fnOf "_wall" "_wall" (defArgs s_wall) (defBody s_wall) (defScope s_wall) .none kV1 dc1 pm1 an1 cd1 ct1), sl1⟩) (c1 : PySem.W.codeIn K cd1 "_wall" = true) (k1 : PySem.W.keepIn K (.ref f1) = true)
    (a2 : PySem.W.nsIn K mainGlobals "is_whole" = some (some (.ref f2))) (l2 : K.lookup f2 = some ⟨oc2, od2, .func (PySem.W.fnOf "is_whole" "is_whole" (defArgs s_is_whole) (defBody s_is_whole) (defScope s_is_whole) .none kV2 dc2 pm2 an2 cd2 ct2), sl2⟩) (c2 : PySem.W.codeIn K cd2 "is_whole" = true) (k2 : PySem.W.keepIn K (.ref f2) = true)
    (a3 : PySem.W.nsIn K mainGlobals "is_within" = some (some (.ref f3))) (l3 : K.lookup f3 = some ⟨oc3, od3, .func (PySem.W.fnOf "is_within" "is_within" (defArgs s_is_within) (defBody s_is_within) (defScope s_is_within) .none kV3 dc3 pm3 an3 cd3 ct3), sl3⟩) (c3 : PySem.W.codeIn K cd3 "is_within" = true) (k3 : PySem.W.keepIn K (.ref f3) = true)
    (a4 : PySem.W.nsIn K mainGlobals "is_order" = some (some (.ref f4))) (l4 : K.lookup f4 = some ⟨oc4, od4, .func (PySem.W.fnOf "is_order" "is_order" (defArgs s_is_order) (defBody s_is_order) (defScope s_is_order) .none kV4 dc4 pm4 an4 cd4 ct4), sl4⟩) (c4 : PySem.W.codeIn K cd4 "is_order" = true) (k4 : PySem.W.keepIn K (.ref f4) = true)
    (a5 : PySem.W.nsIn K mainGlobals "check_guests" = some (some (.ref f5))) (l5 : K.lookup f5 = some ⟨oc5, od5, .func (PySem.W.fnOf "check_guests" "check_guests" (defArgs s_check_guests) (defBody s_check_guests) (defScope s_check_guests) .none kV5 dc5 pm5 an5 cd5 ct5), sl5⟩) (c5 : PySem.W.codeIn K cd5 "check_guests" = true) (k5 : PySem.W.keepIn K (.ref f5) = true)
    (a6 : PySem.W.nsIn K mainGlobals "check_weight" = some (some (.ref f6))) (l6 : K.lookup f6 = some ⟨oc6, od6, .func (PySem.W.fnOf "check_weight" "check_weight" (defArgs s_check_weight) (defBody s_check_weight) (defScope s_check_weight) .none kV6 dc6 pm6 an6 cd6 ct6), sl6⟩) (c6 : PySem.W.codeIn K cd6 "check_weight" = true) (k6 : PySem.W.keepIn K (.ref f6) = true)
    (a7 : PySem.W.nsIn K mainGlobals "check_number" = some (some (.ref f7))) (l7 : K.lookup f7 = some ⟨oc7, od7, .func (PySem.W.fnOf "check_number" "check_number" (defArgs s_check_number) (defBody s_check_number) (defScope s_check_number) .none kV7 dc7 pm7 an7 cd7 ct7), sl7⟩) (c7 : PySem.W.codeIn K cd7 "check_number" = true) (k7 : PySem.W.keepIn K (.ref f7) = true)
    (a8 : PySem.W.nsIn K mainGlobals "check_any_number" = some (some (.ref f8))) (l8 : K.lookup f8 = some ⟨oc8, od8, .func (PySem.W.fnOf "check_any_number" "check_any_number" (defArgs s_check_any_number) (defBody s_check_any_number) (defScope s_check_any_number) .none kV8 dc8 pm8 an8 cd8 ct8), sl8⟩) (c8 : PySem.W.codeIn K cd8 "check_any_number" = true) (k8 : PySem.W.keepIn K (.ref f8) = true)
    (a9 : PySem.W.nsIn K mainGlobals "raised" = some (some (.ref f9))) (l9 : K.lookup f9 = some ⟨oc9, od9, .func (PySem.W.fnOf "raised" "raised" (defArgs s_raised) (defBody s_raised) (defScope s_raised) .none kV9 dc9 pm9 an9 cd9 ct9), sl9⟩) (c9 : PySem.W.codeIn K cd9 "raised" = true) (k9 : PySem.W.keepIn K (.ref f9) = true)
    (a10 : PySem.W.nsIn K mainGlobals "is_seating" = some (some (.ref f10))) (l10 : K.lookup f10 = some ⟨oc10, od10, .func (PySem.W.fnOf "is_seating" "is_seating" (defArgs s_is_seating) (defBody s_is_seating) (defScope s_is_seating) .none kV10 dc10 pm10 an10 cd10 ct10), sl10⟩) (c10 : PySem.W.codeIn K cd10 "is_seating" = true) (k10 : PySem.W.keepIn K (.ref f10) = true)
    (a11 : PySem.W.nsIn K mainGlobals "tables_of" = some (some (.ref f11))) (l11 : K.lookup f11 = some ⟨oc11, od11, .func (PySem.W.fnOf "tables_of" "tables_of" (defArgs s_tables_of) (defBody s_tables_of) (defScope s_tables_of) .none kV11 dc11 pm11 an11 cd11 ct11), sl11⟩) (c11 : PySem.W.codeIn K cd11 "tables_of" = true) (k11 : PySem.W.keepIn K (.ref f11) = true)
    (a12 : PySem.W.nsIn K mainGlobals "check_seating" = some (some (.ref f12))) (l12 : K.lookup f12 = some ⟨oc12, od12, .func (PySem.W.fnOf "check_seating" "check_seating" (defArgs s_check_seating) (defBody s_check_seating) (defScope s_check_seating) .none kV12 dc12 pm12 an12 cd12 ct12), sl12⟩) (c12 : PySem.W.codeIn K cd12 "check_seating" = true) (k12 : PySem.W.keepIn K (.ref f12) = true)
    (a13 : PySem.W.nsIn K mainGlobals "walk_left" = some (some (.ref f13))) (l13 : K.lookup f13 = some ⟨oc13, od13, .func (PySem.W.fnOf "walk_left" "walk_left" (defArgs s_walk_left) (defBody s_walk_left) (defScope s_walk_left) .none kV13 dc13 pm13 an13 cd13 ct13), sl13⟩) (c13 : PySem.W.codeIn K cd13 "walk_left" = true) (k13 : PySem.W.keepIn K (.ref f13) = true)
    (a14 : PySem.W.nsIn K mainGlobals "tables_among" = some (some (.ref f14))) (l14 : K.lookup f14 = some ⟨oc14, od14, .func (PySem.W.fnOf "tables_among" "tables_among" (defArgs s_tables_among) (defBody s_tables_among) (defScope s_tables_among) .none kV14 dc14 pm14 an14 cd14 ct14), sl14⟩) (c14 : PySem.W.codeIn K cd14 "tables_among" = true) (k14 : PySem.W.keepIn K (.ref f14) = true)
    (a15 : PySem.W.nsIn K mainGlobals "seating_with" = some (some (.ref f15))) (l15 : K.lookup f15 = some ⟨oc15, od15, .func (PySem.W.fnOf "seating_with" "seating_with" (defArgs s_seating_with) (defBody s_seating_with) (defScope s_seating_with) .none kV15 dc15 pm15 an15 cd15 ct15), sl15⟩) (c15 : PySem.W.codeIn K cd15 "seating_with" = true) (k15 : PySem.W.keepIn K (.ref f15) = true)
    (a16 : PySem.W.nsIn K mainGlobals "check_sizes" = some (some (.ref f16))) (l16 : K.lookup f16 = some ⟨oc16, od16, .func (PySem.W.fnOf "check_sizes" "check_sizes" (defArgs s_check_sizes) (defBody s_check_sizes) (defScope s_check_sizes) .none kV16 dc16 pm16 an16 cd16 ct16), sl16⟩) (c16 : PySem.W.codeIn K cd16 "check_sizes" = true) (k16 : PySem.W.keepIn K (.ref f16) = true)
    (a17 : PySem.W.nsIn K mainGlobals "are_sizes" = some (some (.ref f17))) (l17 : K.lookup f17 = some ⟨oc17, od17, .func (PySem.W.fnOf "are_sizes" "are_sizes" (defArgs s_are_sizes) (defBody s_are_sizes) (defScope s_are_sizes) .none kV17 dc17 pm17 an17 cd17 ct17), sl17⟩) (c17 : PySem.W.codeIn K cd17 "are_sizes" = true) (k17 : PySem.W.keepIn K (.ref f17) = true)
    (a18 : PySem.W.nsIn K mainGlobals "power" = some (some (.ref f18))) (l18 : K.lookup f18 = some ⟨oc18, od18, .func (PySem.W.fnOf "power" "power" (defArgs s_power) (defBody s_power) (defScope s_power) .none kV18 dc18 pm18 an18 cd18 ct18), sl18⟩) (c18 : PySem.W.codeIn K cd18 "power" = true) (k18 : PySem.W.keepIn K (.ref f18) = true)
    (a19 : PySem.W.nsIn K mainGlobals "power_sizes" = some (some (.ref f19))) (l19 : K.lookup f19 = some ⟨oc19, od19, .func (PySem.W.fnOf "power_sizes" "power_sizes" (defArgs s_power_sizes) (defBody s_power_sizes) (defScope s_power_sizes) .none kV19 dc19 pm19 an19 cd19 ct19), sl19⟩) (c19 : PySem.W.codeIn K cd19 "power_sizes" = true) (k19 : PySem.W.keepIn K (.ref f19) = true)
    (a20 : PySem.W.nsIn K mainGlobals "period_of" = some (some (.ref f20))) (l20 : K.lookup f20 = some ⟨oc20, od20, .func (PySem.W.fnOf "period_of" "period_of" (defArgs s_period_of) (defBody s_period_of) (defScope s_period_of) .none kV20 dc20 pm20 an20 cd20 ct20), sl20⟩) (c20 : PySem.W.codeIn K cd20 "period_of" = true) (k20 : PySem.W.keepIn K (.ref f20) = true)
    (a21 : PySem.W.nsIn K mainGlobals "period_counts" = some (some (.ref f21))) (l21 : K.lookup f21 = some ⟨oc21, od21, .func (PySem.W.fnOf "period_counts" "period_counts" (defArgs s_period_counts) (defBody s_period_counts) (defScope s_period_counts) .none kV21 dc21 pm21 an21 cd21 ct21), sl21⟩) (c21 : PySem.W.codeIn K cd21 "period_counts" = true) (k21 : PySem.W.keepIn K (.ref f21) = true)
    (a22 : PySem.W.nsIn K mainGlobals "least_guests" = some (some (.ref f22))) (l22 : K.lookup f22 = some ⟨oc22, od22, .func (PySem.W.fnOf "least_guests" "least_guests" (defArgs s_least_guests) (defBody s_least_guests) (defScope s_least_guests) .none kV22 dc22 pm22 an22 cd22 ct22), sl22⟩) (c22 : PySem.W.codeIn K cd22 "least_guests" = true) (k22 : PySem.W.keepIn K (.ref f22) = true)
    (a23 : PySem.W.nsIn K mainGlobals "count_roots" = some (some (.ref f23))) (l23 : K.lookup f23 = some ⟨oc23, od23, .func (PySem.W.fnOf "count_roots" "count_roots" (defArgs s_count_roots) (defBody s_count_roots) (defScope s_count_roots) .none kV23 dc23 pm23 an23 cd23 ct23), sl23⟩) (c23 : PySem.W.codeIn K cd23 "count_roots" = true) (k23 : PySem.W.keepIn K (.ref f23) = true)
    (a24 : PySem.W.nsIn K mainGlobals "a_root" = some (some (.ref f24))) (l24 : K.lookup f24 = some ⟨oc24, od24, .func (PySem.W.fnOf "a_root" "a_root" (defArgs s_a_root) (defBody s_a_root) (defScope s_a_root) .none kV24 dc24 pm24 an24 cd24 ct24), sl24⟩) (c24 : PySem.W.codeIn K cd24 "a_root" = true) (k24 : PySem.W.keepIn K (.ref f24) = true)
    (a25 : PySem.W.nsIn K mainGlobals "shows_root" = some (some (.ref f25))) (l25 : K.lookup f25 = some ⟨oc25, od25, .func (PySem.W.fnOf "shows_root" "shows_root" (defArgs s_shows_root) (defBody s_shows_root) (defScope s_shows_root) .none kV25 dc25 pm25 an25 cd25 ct25), sl25⟩) (c25 : PySem.W.codeIn K cd25 "shows_root" = true) (k25 : PySem.W.keepIn K (.ref f25) = true)
    (a26 : PySem.W.nsIn K mainGlobals "root_paper" = some (some (.ref f26))) (l26 : K.lookup f26 = some ⟨oc26, od26, .func (PySem.W.fnOf "root_paper" "root_paper" (defArgs s_root_paper) (defBody s_root_paper) (defScope s_root_paper) .none kV26 dc26 pm26 an26 cd26 ct26), sl26⟩) (c26 : PySem.W.codeIn K cd26 "root_paper" = true) (k26 : PySem.W.keepIn K (.ref f26) = true)
    (a27 : PySem.W.nsIn K mainGlobals "shows_root_paper" = some (some (.ref f27))) (l27 : K.lookup f27 = some ⟨oc27, od27, .func (PySem.W.fnOf "shows_root_paper" "shows_root_paper" (defArgs s_shows_root_paper) (defBody s_shows_root_paper) (defScope s_shows_root_paper) .none kV27 dc27 pm27 an27 cd27 ct27), sl27⟩) (c27 : PySem.W.codeIn K cd27 "shows_root_paper" = true) (k27 : PySem.W.keepIn K (.ref f27) = true)
    (a28 : PySem.W.nsIn K mainGlobals "prime_powers" = some (some (.ref f28))) (l28 : K.lookup f28 = some ⟨oc28, od28, .func (PySem.W.fnOf "prime_powers" "prime_powers" (defArgs s_prime_powers) (defBody s_prime_powers) (defScope s_prime_powers) .none kV28 dc28 pm28 an28 cd28 ct28), sl28⟩) (c28 : PySem.W.codeIn K cd28 "prime_powers" = true) (k28 : PySem.W.keepIn K (.ref f28) = true)
    (a29 : PySem.W.nsIn K mainGlobals "tables_by_size" = some (some (.ref f29))) (l29 : K.lookup f29 = some ⟨oc29, od29, .func (PySem.W.fnOf "tables_by_size" "tables_by_size" (defArgs s_tables_by_size) (defBody s_tables_by_size) (defScope s_tables_by_size) .none kV29 dc29 pm29 an29 cd29 ct29), sl29⟩) (c29 : PySem.W.codeIn K cd29 "tables_by_size" = true) (k29 : PySem.W.keepIn K (.ref f29) = true)
    (a30 : PySem.W.nsIn K mainGlobals "sizes_without_root" = some (some (.ref f30))) (l30 : K.lookup f30 = some ⟨oc30, od30, .func (PySem.W.fnOf "sizes_without_root" "sizes_without_root" (defArgs s_sizes_without_root) (defBody s_sizes_without_root) (defScope s_sizes_without_root) .none kV30 dc30 pm30 an30 cd30 ct30), sl30⟩) (c30 : PySem.W.codeIn K cd30 "sizes_without_root" = true) (k30 : PySem.W.keepIn K (.ref f30) = true)
    (a31 : PySem.W.nsIn K mainGlobals "joinable" = some (some (.ref f31))) (l31 : K.lookup f31 = some ⟨oc31, od31, .func (PySem.W.fnOf "joinable" "joinable" (defArgs s_joinable) (defBody s_joinable) (defScope s_joinable) .none kV31 dc31 pm31 an31 cd31 ct31), sl31⟩) (c31 : PySem.W.codeIn K cd31 "joinable" = true) (k31 : PySem.W.keepIn K (.ref f31) = true)
    (a32 : PySem.W.nsIn K mainGlobals "ways_of_roots" = some (some (.ref f32))) (l32 : K.lookup f32 = some ⟨oc32, od32, .func (PySem.W.fnOf "ways_of_roots" "ways_of_roots" (defArgs s_ways_of_roots) (defBody s_ways_of_roots) (defScope s_ways_of_roots) .none kV32 dc32 pm32 an32 cd32 ct32), sl32⟩) (c32 : PySem.W.codeIn K cd32 "ways_of_roots" = true) (k32 : PySem.W.keepIn K (.ref f32) = true)
    (a33 : PySem.W.nsIn K mainGlobals "woven_table" = some (some (.ref f33))) (l33 : K.lookup f33 = some ⟨oc33, od33, .func (PySem.W.fnOf "woven_table" "woven_table" (defArgs s_woven_table) (defBody s_woven_table) (defScope s_woven_table) .none kV33 dc33 pm33 an33 cd33 ct33), sl33⟩) (c33 : PySem.W.codeIn K cd33 "woven_table" = true) (k33 : PySem.W.keepIn K (.ref f33) = true)
    (a34 : PySem.W.nsIn K mainGlobals "_law_bag" = some (some (.ref f34))) (l34 : K.lookup f34 = some ⟨oc34, od34, .func (PySem.W.fnOf "_law_bag" "_law_bag" (defArgs s_law_bag) (defBody s_law_bag) (defScope s_law_bag) .none kV34 dc34 pm34 an34 cd34 ct34), sl34⟩) (c34 : PySem.W.codeIn K cd34 "_law_bag" = true) (k34 : PySem.W.keepIn K (.ref f34) = true)
    (a35 : PySem.W.nsIn K mainGlobals "_law_stirred" = some (some (.ref f35))) (l35 : K.lookup f35 = some ⟨oc35, od35, .func (PySem.W.fnOf "_law_stirred" "_law_stirred" (defArgs s_law_stirred) (defBody s_law_stirred) (defScope s_law_stirred) .none kV35 dc35 pm35 an35 cd35 ct35), sl35⟩) (c35 : PySem.W.codeIn K cd35 "_law_stirred" = true) (k35 : PySem.W.keepIn K (.ref f35) = true)
    (a36 : PySem.W.nsIn K mainGlobals "_law_draw" = some (some (.ref f36))) (l36 : K.lookup f36 = some ⟨oc36, od36, .func (PySem.W.fnOf "_law_draw" "_law_draw" (defArgs s_law_draw) (defBody s_law_draw) (defScope s_law_draw) .none kV36 dc36 pm36 an36 cd36 ct36), sl36⟩) (c36 : PySem.W.codeIn K cd36 "_law_draw" = true) (k36 : PySem.W.keepIn K (.ref f36) = true)
    (a37 : PySem.W.nsIn K mainGlobals "_law_alike" = some (some (.ref f37))) (l37 : K.lookup f37 = some ⟨oc37, od37, .func (PySem.W.fnOf "_law_alike" "_law_alike" (defArgs s_law_alike) (defBody s_law_alike) (defScope s_law_alike) .none kV37 dc37 pm37 an37 cd37 ct37), sl37⟩) (c37 : PySem.W.codeIn K cd37 "_law_alike" = true) (k37 : PySem.W.keepIn K (.ref f37) = true)
    (a38 : PySem.W.nsIn K mainGlobals "_law_bad_seating" = some (some (.ref f38))) (l38 : K.lookup f38 = some ⟨oc38, od38, .func (PySem.W.fnOf "_law_bad_seating" "_law_bad_seating" (defArgs s_law_bad_seating) (defBody s_law_bad_seating) (defScope s_law_bad_seating) .none kV38 dc38 pm38 an38 cd38 ct38), sl38⟩) (c38 : PySem.W.codeIn K cd38 "_law_bad_seating" = true) (k38 : PySem.W.keepIn K (.ref f38) = true)
    (a39 : PySem.W.nsIn K mainGlobals "_law_asked" = some (some (.ref f39))) (l39 : K.lookup f39 = some ⟨oc39, od39, .func (PySem.W.fnOf "_law_asked" "_law_asked" (defArgs s_law_asked) (defBody s_law_asked) (defScope s_law_asked) .none kV39 dc39 pm39 an39 cd39 ct39), sl39⟩) (c39 : PySem.W.codeIn K cd39 "_law_asked" = true) (k39 : PySem.W.keepIn K (.ref f39) = true)
    (a40 : PySem.W.nsIn K mainGlobals "law" = some (some (.ref f40))) (l40 : K.lookup f40 = some ⟨oc40, od40, .func (PySem.W.fnOf "law" "law" (defArgs s_law) (defBody s_law) (defScope s_law) .none kV40 dc40 pm40 an40 cd40 ct40), sl40⟩) (c40 : PySem.W.codeIn K cd40 "law" = true) (k40 : PySem.W.keepIn K (.ref f40) = true)
    (q_HallError : PySem.W.nsIn K mainGlobals "HallError" = some (some (.ref c_HallError)))
    (q_InvalidGuests : PySem.W.nsIn K mainGlobals "InvalidGuests" = some (some (.ref c_InvalidGuests)))
    (q_InvalidWeight : PySem.W.nsIn K mainGlobals "InvalidWeight" = some (some (.ref c_InvalidWeight)))
    (q_InvalidSeating : PySem.W.nsIn K mainGlobals "InvalidSeating" = some (some (.ref c_InvalidSeating)))
    (q_InvalidSizes : PySem.W.nsIn K mainGlobals "InvalidSizes" = some (some (.ref c_InvalidSizes)))
    (q_InvalidNumber : PySem.W.nsIn K mainGlobals "InvalidNumber" = some (some (.ref c_InvalidNumber)))
    (e_InvalidSeating : Kit.excB K c_InvalidSeating = true) (x_InvalidSeating : PySem.W.exmOne K (.ref c_InvalidSeating) (.ref c_HallError) = some true) (t_InvalidSeating : Kit.isRow K c_InvalidSeating [((.ref c_InvalidSeating : Value), true), ((.ref c_InvalidNumber : Value), false), ((.ref c_InvalidSizes : Value), false), ((.ref c_InvalidGuests : Value), false)] = true)
    (e_InvalidNumber : Kit.excB K c_InvalidNumber = true) (x_InvalidNumber : PySem.W.exmOne K (.ref c_InvalidNumber) (.ref c_HallError) = some true) (t_InvalidNumber : Kit.isRow K c_InvalidNumber [((.ref c_InvalidSeating : Value), false), ((.ref c_InvalidNumber : Value), true), ((.ref c_InvalidSizes : Value), false), ((.ref c_InvalidGuests : Value), false)] = true)
    (e_InvalidSizes : Kit.excB K c_InvalidSizes = true) (x_InvalidSizes : PySem.W.exmOne K (.ref c_InvalidSizes) (.ref c_HallError) = some true) (t_InvalidSizes : Kit.isRow K c_InvalidSizes [((.ref c_InvalidSeating : Value), false), ((.ref c_InvalidNumber : Value), false), ((.ref c_InvalidSizes : Value), true), ((.ref c_InvalidGuests : Value), false)] = true)
    (e_InvalidGuests : Kit.excB K c_InvalidGuests = true) (x_InvalidGuests : PySem.W.exmOne K (.ref c_InvalidGuests) (.ref c_HallError) = some true) (t_InvalidGuests : Kit.isRow K c_InvalidGuests [((.ref c_InvalidSeating : Value), false), ((.ref c_InvalidNumber : Value), false), ((.ref c_InvalidSizes : Value), false), ((.ref c_InvalidGuests : Value), true)] = true)
    (e_InvalidWeight : Kit.excB K c_InvalidWeight = true) (x_InvalidWeight : PySem.W.exmOne K (.ref c_InvalidWeight) (.ref c_HallError) = some true) (t_InvalidWeight : Kit.isRow K c_InvalidWeight [((.ref c_InvalidSeating : Value), false), ((.ref c_InvalidNumber : Value), false), ((.ref c_InvalidSizes : Value), false), ((.ref c_InvalidGuests : Value), false)] = true)
    (q_Hall : PySem.W.nsIn K mainGlobals "Hall" = some (some (.ref c_Hall)))
    (iM0 : PySem.W.findIn K (.ref c_Hall) "__init__" = some (some (.ref fM0)))
    (lM0 : K.lookup fM0 = some ⟨ocM0, odM0, .func (PySem.W.fnOf "__init__" "Hall.__init__" (defArgs s_Hall_init) (defBody s_Hall_init) (defScope s_Hall_init) (.ref dM0) kVM0 dcM0 pmM0 anM0 cdM0 ctM0), slM0⟩)
    (uM0 : K.lookup dM0 = some ⟨oTM0, oDM0, .seq #[.int 1 tkM0] nM0, tsM0⟩)
    (cM0 : PySem.W.codeIn K cdM0 "Hall.__init__" = true) (kM0 : PySem.W.keepIn K (.ref fM0) = true)
    (e_M0 : Kit.ownB K c_Hall fM0 ["_weight", "_lefts", "_newcomer", "_chance", "_past"] = true)
    (z_abs : PySem.W.nsIn K mainGlobals "abs" = some none)
    (z_all : PySem.W.nsIn K mainGlobals "all" = some none)
    (z_bool : PySem.W.nsIn K mainGlobals "bool" = some none)
    (z_enumerate : PySem.W.nsIn K mainGlobals "enumerate" = some none)
    (z_int : PySem.W.nsIn K mainGlobals "int" = some none)
    (z_isinstance : PySem.W.nsIn K mainGlobals "isinstance" = some none)
    (z_len : PySem.W.nsIn K mainGlobals "len" = some none)
    (z_list : PySem.W.nsIn K mainGlobals "list" = some none)
    (z_min : PySem.W.nsIn K mainGlobals "min" = some none)
    (z_range : PySem.W.nsIn K mainGlobals "range" = some none)
    (z_sorted : PySem.W.nsIn K mainGlobals "sorted" = some none)
    (z_str : PySem.W.nsIn K mainGlobals "str" = some none)
    (z_sum : PySem.W.nsIn K mainGlobals "sum" = some none)
    (z_tuple : PySem.W.nsIn K mainGlobals "tuple" = some none)
    (z_type : PySem.W.nsIn K mainGlobals "type" = some none)
    (y_MOST_GUESTS : PySem.W.nsIn K mainGlobals "MOST_GUESTS" = some (some (.int 20 t_MOST_GUESTS)))
    (y_MOST_WEIGHT : PySem.W.nsIn K mainGlobals "MOST_WEIGHT" = some (some (.int 1000000000000 t_MOST_WEIGHT)))
    (y_MOST_PERIOD : PySem.W.nsIn K mainGlobals "MOST_PERIOD" = some (some (.int 1000000000 t_MOST_PERIOD)))
    (y_MOST_ROOT : PySem.W.nsIn K mainGlobals "MOST_ROOT" = some (some (.int 1000000 t_MOST_ROOT)))
    (x_gcd : PySem.W.nsIn K mainGlobals "gcd" = some (some (.builtin "math.gcd")))
    (x_lcm : PySem.W.nsIn K mainGlobals "lcm" = some (some (.builtin "math.lcm")))
    (x_perm : PySem.W.nsIn K mainGlobals "perm" = some (some (.builtin "math.perm")))
    : ∃ fd : FuncData, (∀ (s : Shared) (v : Value), BindsTo s fd ⟨[v], []⟩ [("script", v)]) ∧ ∀ base : Heap, K.In base → base.Ns mainGlobals mg → FnOk l.prog w K mg base CX0 11 fa fd ["script"] (sp_law K) := by
  have e := hfa.symm.trans (PySem.W.mg_of X G a40)
  cases e
  have F1 := fun_mk (st := s_wall) l1 c1 k1
  have F2 := fun_mk (st := s_is_whole) l2 c2 k2
  have F3 := fun_mk (st := s_is_within) l3 c3 k3
  have F4 := fun_mk (st := s_is_order) l4 c4 k4
  have F5 := fun_mk (st := s_check_guests) l5 c5 k5
  have F6 := fun_mk (st := s_check_weight) l6 c6 k6
  have F7 := fun_mk (st := s_check_number) l7 c7 k7
  have F8 := fun_mk (st := s_check_any_number) l8 c8 k8
  have F9 := fun_mk (st := s_raised) l9 c9 k9
  have F10 := fun_mk (st := s_is_seating) l10 c10 k10
  have F11 := fun_mk (st := s_tables_of) l11 c11 k11
  have F12 := fun_mk (st := s_check_seating) l12 c12 k12
  have F13 := fun_mk (st := s_walk_left) l13 c13 k13
  have F14 := fun_mk (st := s_tables_among) l14 c14 k14
  have F15 := fun_mk (st := s_seating_with) l15 c15 k15
  have F16 := fun_mk (st := s_check_sizes) l16 c16 k16
  have F17 := fun_mk (st := s_are_sizes) l17 c17 k17
  have F18 := fun_mk (st := s_power) l18 c18 k18
  have F19 := fun_mk (st := s_power_sizes) l19 c19 k19
  have F20 := fun_mk (st := s_period_of) l20 c20 k20
  have F21 := fun_mk (st := s_period_counts) l21 c21 k21
  have F22 := fun_mk (st := s_least_guests) l22 c22 k22
  have F23 := fun_mk (st := s_count_roots) l23 c23 k23
  have F24 := fun_mk (st := s_a_root) l24 c24 k24
  have F25 := fun_mk (st := s_shows_root) l25 c25 k25
  have F26 := fun_mk (st := s_root_paper) l26 c26 k26
  have F27 := fun_mk (st := s_shows_root_paper) l27 c27 k27
  have F28 := fun_mk (st := s_prime_powers) l28 c28 k28
  have F29 := fun_mk (st := s_tables_by_size) l29 c29 k29
  have F30 := fun_mk (st := s_sizes_without_root) l30 c30 k30
  have F31 := fun_mk (st := s_joinable) l31 c31 k31
  have F32 := fun_mk (st := s_ways_of_roots) l32 c32 k32
  have F33 := fun_mk (st := s_woven_table) l33 c33 k33
  have F34 := fun_mk (st := s_law_bag) l34 c34 k34
  have F35 := fun_mk (st := s_law_stirred) l35 c35 k35
  have F36 := fun_mk (st := s_law_draw) l36 c36 k36
  have F37 := fun_mk (st := s_law_alike) l37 c37 k37
  have F38 := fun_mk (st := s_law_bad_seating) l38 c38 k38
  have F39 := fun_mk (st := s_law_asked) l39 c39 k39
  have F40 := fun_mk (st := s_law) l40 c40 k40
  have FM0 := Kit.funD1 (d := s_Hall_init) lM0 uM0 cM0 kM0
  obtain ⟨dsM0, bvM0, bmM0⟩ := FM0.binds1 (ps := ["self", "weight"]) 1 0 (by simp) rfl (fun _ _ _ _ _ _ _ us its h1 h2 => match us, its, h1, h2 with | [_], [_], _, _ => ⟨_, rfl, rfl⟩)
  let T : Tx K mg :=
    { cl_Hall := c_Hall, gc_Hall := PySem.W.mg_of X G q_Hall,
      f_Hall_init := fM0, d_Hall_init := _, F_Hall_init := FM0, ds_Hall_init := dsM0, bv_Hall_init := bvM0, bm_Hall_init := bmM0, o_Hall := Kit.ownD_of e_M0,
      f_wall := f1, d_wall := _, F_wall := F1, g_wall := PySem.W.mg_of X G a1, b_wall := F1.binds (ps := ["k"]) fun _ _ _ _ _ _ us hl => match us, hl with | [_], _ => rfl,
      f_is_whole := f2, d_is_whole := _, F_is_whole := F2, g_is_whole := PySem.W.mg_of X G a2, b_is_whole := F2.binds (ps := ["thing"]) fun _ _ _ _ _ _ us hl => match us, hl with | [_], _ => rfl,
      f_is_within := f3, d_is_within := _, F_is_within := F3, g_is_within := PySem.W.mg_of X G a3, b_is_within := F3.binds (ps := ["thing", "least", "most"]) fun _ _ _ _ _ _ us hl => match us, hl with | [_, _, _], _ => rfl,
      f_is_order := f4, d_is_order := _, F_is_order := F4, g_is_order := PySem.W.mg_of X G a4, b_is_order := F4.binds (ps := ["thing"]) fun _ _ _ _ _ _ us hl => match us, hl with | [_], _ => rfl,
      f_check_guests := f5, d_check_guests := _, F_check_guests := F5, g_check_guests := PySem.W.mg_of X G a5, b_check_guests := F5.binds (ps := ["guests"]) fun _ _ _ _ _ _ us hl => match us, hl with | [_], _ => rfl,
      f_check_weight := f6, d_check_weight := _, F_check_weight := F6, g_check_weight := PySem.W.mg_of X G a6, b_check_weight := F6.binds (ps := ["weight"]) fun _ _ _ _ _ _ us hl => match us, hl with | [_], _ => rfl,
      f_check_number := f7, d_check_number := _, F_check_number := F7, g_check_number := PySem.W.mg_of X G a7, b_check_number := F7.binds (ps := ["number", "least", "most"]) fun _ _ _ _ _ _ us hl => match us, hl with | [_, _, _], _ => rfl,
      f_check_any_number := f8, d_check_any_number := _, F_check_any_number := F8, g_check_any_number := PySem.W.mg_of X G a8, b_check_any_number := F8.binds (ps := ["number"]) fun _ _ _ _ _ _ us hl => match us, hl with | [_], _ => rfl,
      f_raised := f9, d_raised := _, F_raised := F9, g_raised := PySem.W.mg_of X G a9, b_raised := F9.binds (ps := ["base", "times"]) fun _ _ _ _ _ _ us hl => match us, hl with | [_, _], _ => rfl,
      f_is_seating := f10, d_is_seating := _, F_is_seating := F10, g_is_seating := PySem.W.mg_of X G a10, b_is_seating := F10.binds (ps := ["thing"]) fun _ _ _ _ _ _ us hl => match us, hl with | [_], _ => rfl,
      f_tables_of := f11, d_tables_of := _, F_tables_of := F11, g_tables_of := PySem.W.mg_of X G a11, b_tables_of := F11.binds (ps := ["seating"]) fun _ _ _ _ _ _ us hl => match us, hl with | [_], _ => rfl,
      f_check_seating := f12, d_check_seating := _, F_check_seating := F12, g_check_seating := PySem.W.mg_of X G a12, b_check_seating := F12.binds (ps := ["seating"]) fun _ _ _ _ _ _ us hl => match us, hl with | [_], _ => rfl,
      f_walk_left := f13, d_walk_left := _, F_walk_left := F13, g_walk_left := PySem.W.mg_of X G a13, b_walk_left := F13.binds (ps := ["lefts", "guest"]) fun _ _ _ _ _ _ us hl => match us, hl with | [_, _], _ => rfl,
      f_tables_among := f14, d_tables_among := _, F_tables_among := F14, g_tables_among := PySem.W.mg_of X G a14, b_tables_among := F14.binds (ps := ["lefts", "guests"]) fun _ _ _ _ _ _ us hl => match us, hl with | [_, _], _ => rfl,
      f_seating_with := f15, d_seating_with := _, F_seating_with := F15, g_seating_with := PySem.W.mg_of X G a15, b_seating_with := F15.binds (ps := ["tables"]) fun _ _ _ _ _ _ us hl => match us, hl with | [_], _ => rfl,
      f_check_sizes := f16, d_check_sizes := _, F_check_sizes := F16, g_check_sizes := PySem.W.mg_of X G a16, b_check_sizes := F16.binds (ps := ["sizes"]) fun _ _ _ _ _ _ us hl => match us, hl with | [_], _ => rfl,
      f_are_sizes := f17, d_are_sizes := _, F_are_sizes := F17, g_are_sizes := PySem.W.mg_of X G a17, b_are_sizes := F17.binds (ps := ["thing"]) fun _ _ _ _ _ _ us hl => match us, hl with | [_], _ => rfl,
      f_power := f18, d_power := _, F_power := F18, g_power := PySem.W.mg_of X G a18, b_power := F18.binds (ps := ["seating", "number"]) fun _ _ _ _ _ _ us hl => match us, hl with | [_, _], _ => rfl,
      f_power_sizes := f19, d_power_sizes := _, F_power_sizes := F19, g_power_sizes := PySem.W.mg_of X G a19, b_power_sizes := F19.binds (ps := ["sizes", "number"]) fun _ _ _ _ _ _ us hl => match us, hl with | [_, _], _ => rfl,
      f_period_of := f20, d_period_of := _, F_period_of := F20, g_period_of := PySem.W.mg_of X G a20, b_period_of := F20.binds (ps := ["seating"]) fun _ _ _ _ _ _ us hl => match us, hl with | [_], _ => rfl,
      f_period_counts := f21, d_period_counts := _, F_period_counts := F21, g_period_counts := PySem.W.mg_of X G a21, b_period_counts := F21.binds (ps := ["guests"]) fun _ _ _ _ _ _ us hl => match us, hl with | [_], _ => rfl,
      f_least_guests := f22, d_least_guests := _, F_least_guests := F22, g_least_guests := PySem.W.mg_of X G a22, b_least_guests := F22.binds (ps := ["period"]) fun _ _ _ _ _ _ us hl => match us, hl with | [_], _ => rfl,
      f_count_roots := f23, d_count_roots := _, F_count_roots := F23, g_count_roots := PySem.W.mg_of X G a23, b_count_roots := F23.binds (ps := ["seating", "number"]) fun _ _ _ _ _ _ us hl => match us, hl with | [_, _], _ => rfl,
      f_a_root := f24, d_a_root := _, F_a_root := F24, g_a_root := PySem.W.mg_of X G a24, b_a_root := F24.binds (ps := ["seating", "number"]) fun _ _ _ _ _ _ us hl => match us, hl with | [_, _], _ => rfl,
      f_shows_root := f25, d_shows_root := _, F_shows_root := F25, g_shows_root := PySem.W.mg_of X G a25, b_shows_root := F25.binds (ps := ["seating", "number", "thing"]) fun _ _ _ _ _ _ us hl => match us, hl with | [_, _, _], _ => rfl,
      f_root_paper := f26, d_root_paper := _, F_root_paper := F26, g_root_paper := PySem.W.mg_of X G a26, b_root_paper := F26.binds (ps := ["seating", "number"]) fun _ _ _ _ _ _ us hl => match us, hl with | [_, _], _ => rfl,
      f_shows_root_paper := f27, d_shows_root_paper := _, F_shows_root_paper := F27, g_shows_root_paper := PySem.W.mg_of X G a27, b_shows_root_paper := F27.binds (ps := ["seating", "number", "thing"]) fun _ _ _ _ _ _ us hl => match us, hl with | [_, _, _], _ => rfl,
      f_prime_powers := f28, d_prime_powers := _, F_prime_powers := F28, g_prime_powers := PySem.W.mg_of X G a28, b_prime_powers := F28.binds (ps := ["number"]) fun _ _ _ _ _ _ us hl => match us, hl with | [_], _ => rfl,
      f_tables_by_size := f29, d_tables_by_size := _, F_tables_by_size := F29, g_tables_by_size := PySem.W.mg_of X G a29, b_tables_by_size := F29.binds (ps := ["seating"]) fun _ _ _ _ _ _ us hl => match us, hl with | [_], _ => rfl,
      f_sizes_without_root := f30, d_sizes_without_root := _, F_sizes_without_root := F30, g_sizes_without_root := PySem.W.mg_of X G a30, b_sizes_without_root := F30.binds (ps := ["seating", "number"]) fun _ _ _ _ _ _ us hl => match us, hl with | [_, _], _ => rfl,
      f_joinable := f31, d_joinable := _, F_joinable := F31, g_joinable := PySem.W.mg_of X G a31, b_joinable := F31.binds (ps := ["size", "many", "number"]) fun _ _ _ _ _ _ us hl => match us, hl with | [_, _, _], _ => rfl,
      f_ways_of_roots := f32, d_ways_of_roots := _, F_ways_of_roots := F32, g_ways_of_roots := PySem.W.mg_of X G a32, b_ways_of_roots := F32.binds (ps := ["size", "many", "number"]) fun _ _ _ _ _ _ us hl => match us, hl with | [_, _, _], _ => rfl,
      f_woven_table := f33, d_woven_table := _, F_woven_table := F33, g_woven_table := PySem.W.mg_of X G a33, b_woven_table := F33.binds (ps := ["tables", "number"]) fun _ _ _ _ _ _ us hl => match us, hl with | [_, _], _ => rfl,
      f_law_bag := f34, d_law_bag := _, F_law_bag := F34, g_law_bag := PySem.W.mg_of X G a34, b_law_bag := F34.binds (ps := ["script"]) fun _ _ _ _ _ _ us hl => match us, hl with | [_], _ => rfl,
      f_law_stirred := f35, d_law_stirred := _, F_law_stirred := F35, g_law_stirred := PySem.W.mg_of X G a35, b_law_stirred := F35.binds (ps := ["bag", "wide"]) fun _ _ _ _ _ _ us hl => match us, hl with | [_, _], _ => rfl,
      f_law_draw := f36, d_law_draw := _, F_law_draw := F36, g_law_draw := PySem.W.mg_of X G a36, b_law_draw := F36.binds (ps := ["bag", "wide"]) fun _ _ _ _ _ _ us hl => match us, hl with | [_, _], _ => rfl,
      f_law_alike := f37, d_law_alike := _, F_law_alike := F37, g_law_alike := PySem.W.mg_of X G a37, b_law_alike := F37.binds (ps := ["found", "due"]) fun _ _ _ _ _ _ us hl => match us, hl with | [_, _], _ => rfl,
      f_law_bad_seating := f38, d_law_bad_seating := _, F_law_bad_seating := F38, g_law_bad_seating := PySem.W.mg_of X G a38, b_law_bad_seating := F38.binds (ps := ["bag"]) fun _ _ _ _ _ _ us hl => match us, hl with | [_], _ => rfl,
      f_law_asked := f39, d_law_asked := _, F_law_asked := F39, g_law_asked := PySem.W.mg_of X G a39, b_law_asked := F39.binds (ps := ["way", "some", "far"]) fun _ _ _ _ _ _ us hl => match us, hl with | [_, _, _], _ => rfl,
      f_law := fa, d_law := _, F_law := F40, g_law := PySem.W.mg_of X G a40, b_law := F40.binds (ps := ["script"]) fun _ _ _ _ _ _ us hl => match us, hl with | [_], _ => rfl,
      cl_HallError := c_HallError, gc_HallError := PySem.W.mg_of X G q_HallError,
      cl_InvalidGuests := c_InvalidGuests, gc_InvalidGuests := PySem.W.mg_of X G q_InvalidGuests,
      cl_InvalidWeight := c_InvalidWeight, gc_InvalidWeight := PySem.W.mg_of X G q_InvalidWeight,
      cl_InvalidSeating := c_InvalidSeating, gc_InvalidSeating := PySem.W.mg_of X G q_InvalidSeating,
      cl_InvalidSizes := c_InvalidSizes, gc_InvalidSizes := PySem.W.mg_of X G q_InvalidSizes,
      cl_InvalidNumber := c_InvalidNumber, gc_InvalidNumber := PySem.W.mg_of X G q_InvalidNumber,
      e_InvalidSeating := Kit.excD_of e_InvalidSeating, x_InvalidSeating := x_InvalidSeating, t_InvalidSeating := t_InvalidSeating,
      e_InvalidNumber := Kit.excD_of e_InvalidNumber, x_InvalidNumber := x_InvalidNumber, t_InvalidNumber := t_InvalidNumber,
      e_InvalidSizes := Kit.excD_of e_InvalidSizes, x_InvalidSizes := x_InvalidSizes, t_InvalidSizes := t_InvalidSizes,
      e_InvalidGuests := Kit.excD_of e_InvalidGuests, x_InvalidGuests := x_InvalidGuests, t_InvalidGuests := t_InvalidGuests,
      e_InvalidWeight := Kit.excD_of e_InvalidWeight, x_InvalidWeight := x_InvalidWeight, t_InvalidWeight := t_InvalidWeight,
      m_abs := PySem.W.mg_none_of X G z_abs,
      m_all := PySem.W.mg_none_of X G z_all,
      m_bool := PySem.W.mg_none_of X G z_bool,
      m_enumerate := PySem.W.mg_none_of X G z_enumerate,
      m_int := PySem.W.mg_none_of X G z_int,
      m_isinstance := PySem.W.mg_none_of X G z_isinstance,
      m_len := PySem.W.mg_none_of X G z_len,
      m_list := PySem.W.mg_none_of X G z_list,
      m_min := PySem.W.mg_none_of X G z_min,
      m_range := PySem.W.mg_none_of X G z_range,
      m_sorted := PySem.W.mg_none_of X G z_sorted,
      m_str := PySem.W.mg_none_of X G z_str,
      m_sum := PySem.W.mg_none_of X G z_sum,
      m_tuple := PySem.W.mg_none_of X G z_tuple,
      m_type := PySem.W.mg_none_of X G z_type,
      c_MOST_GUESTS := ⟨_, PySem.W.mg_of X G y_MOST_GUESTS, ⟨_, rfl⟩⟩,
      c_MOST_WEIGHT := ⟨_, PySem.W.mg_of X G y_MOST_WEIGHT, ⟨_, rfl⟩⟩,
      c_MOST_PERIOD := ⟨_, PySem.W.mg_of X G y_MOST_PERIOD, ⟨_, rfl⟩⟩,
      c_MOST_ROOT := ⟨_, PySem.W.mg_of X G y_MOST_ROOT, ⟨_, rfl⟩⟩,
      i_gcd := PySem.W.mg_of X G x_gcd,
      i_lcm := PySem.W.mg_of X G x_lcm,
      i_perm := PySem.W.mg_of X G x_perm }
  exact ⟨PySem.W.fnOf "law" "law" (defArgs s_law) (defBody s_law) (defScope s_law) .none kV40 dc40 pm40 an40 cd40 ct40, fun s v => .of_eq rfl, fun base _ _ => ok_law T⟩
end K49
open PySem PySem.W PyProof.Rows
set_option maxRecDepth 100000 in
set_option maxHeartbeats 0 in
theorem PySem.Challenge.cw_newtables_k49_errors_of_powers_holds : PySem.Challenge.rw_newtables_k49_errors_of_powers.Holds := by
  w_on; o_law; k_head; (case hw => w_witness2)
  k_fill
  refine L2.walk_of (l := PySem.Challenge.rw_newtables_k49_errors_of_powers) (n := 63) (k := 11) (x := "script") (CX := fun _ => L2.CX0) (sp := fun w => K49.sp_law _) rfl (by decide) rfl ⟨rfl, by decide, by decide⟩ (fun w h Y => PySem.W.kIn_of Y) ?F (fun _ _ a ns hl _ hS => ⟨a, ns, rfl, hS, hl, fun _ => rfl⟩) (fun _ _ _ _ _ h => h)
  case F =>
    intro w mg fa h KX G hmg
    refine' K49.all_mk KX G hmg ?a1 ?l1 ?c1 ?k1 ?a2 ?l2 ?c2 ?k2 ?a3 ?l3 ?c3 ?k3 ?a4 ?l4 ?c4 ?k4 ?a5 ?l5 ?c5 ?k5 ?a6 ?l6 ?c6 ?k6 ?a7 ?l7 ?c7 ?k7 ?a8 ?l8 ?c8 ?k8 ?a9 ?l9 ?c9 ?k9 ?a10 ?l10 ?c10 ?k10 ?a11 ?l11 ?c11 ?k11 ?a12 ?l12 ?c12 ?k12 ?a13 ?l13 ?c13 ?k13 ?a14 ?l14 ?c14 ?k14 ?a15 ?l15 ?c15 ?k15 ?a16 ?l16 ?c16 ?k16 ?a17 ?l17 ?c17 ?k17 ?a18 ?l18 ?c18 ?k18 ?a19 ?l19 ?c19 ?k19 ?a20 ?l20 ?c20 ?k20 ?a21 ?l21 ?c21 ?k21 ?a22 ?l22 ?c22 ?k22 ?a23 ?l23 ?c23 ?k23 ?a24 ?l24 ?c24 ?k24 ?a25 ?l25 ?c25 ?k25 ?a26 ?l26 ?c26 ?k26 ?a27 ?l27 ?c27 ?k27 ?a28 ?l28 ?c28 ?k28 ?a29 ?l29 ?c29 ?k29 ?a30 ?l30 ?c30 ?k30 ?a31 ?l31 ?c31 ?k31 ?a32 ?l32 ?c32 ?k32 ?a33 ?l33 ?c33 ?k33 ?a34 ?l34 ?c34 ?k34 ?a35 ?l35 ?c35 ?k35 ?a36 ?l36 ?c36 ?k36 ?a37 ?l37 ?c37 ?k37 ?a38 ?l38 ?c38 ?k38 ?a39 ?l39 ?c39 ?k39 ?a40 ?l40 ?c40 ?k40 ?q_HallError ?q_InvalidGuests ?q_InvalidWeight ?q_InvalidSeating ?q_InvalidSizes ?q_InvalidNumber ?e_InvalidSeating ?x_InvalidSeating ?t_InvalidSeating ?e_InvalidNumber ?x_InvalidNumber ?t_InvalidNumber ?e_InvalidSizes ?x_InvalidSizes ?t_InvalidSizes ?e_InvalidGuests ?x_InvalidGuests ?t_InvalidGuests ?e_InvalidWeight ?x_InvalidWeight ?t_InvalidWeight ?q_Hall ?iM0 ?lM0 ?uM0 ?cM0 ?kM0 ?e_M0 ?z_abs ?z_all ?z_bool ?z_enumerate ?z_int ?z_isinstance ?z_len ?z_list ?z_min ?z_range ?z_sorted ?z_str ?z_sum ?z_tuple ?z_type ?y_MOST_GUESTS ?y_MOST_WEIGHT ?y_MOST_PERIOD ?y_MOST_ROOT ?x_gcd ?x_lcm ?x_perm
    (case a1 => k_is); (case l1 => k_is); (case c1 => k_is); (case k1 => k_is); (case a2 => k_is); (case l2 => k_is)
    (case c2 => k_is); (case k2 => k_is); (case a3 => k_is); (case l3 => k_is); (case c3 => k_is); (case k3 => k_is)
    (case a4 => k_is); (case l4 => k_is); (case c4 => k_is); (case k4 => k_is); (case a5 => k_is); (case l5 => k_is)
    (case c5 => k_is); (case k5 => k_is); (case a6 => k_is); (case l6 => k_is); (case c6 => k_is); (case k6 => k_is)
    (case a7 => k_is); (case l7 => k_is); (case c7 => k_is); (case k7 => k_is); (case a8 => k_is); (case l8 => k_is)
    (case c8 => k_is); (case k8 => k_is); (case a9 => k_is); (case l9 => k_is); (case c9 => k_is); (case k9 => k_is)
    (case a10 => k_is); (case l10 => k_is); (case c10 => k_is); (case k10 => k_is); (case a11 => k_is); (case l11 => k_is)
    (case c11 => k_is); (case k11 => k_is); (case a12 => k_is); (case l12 => k_is); (case c12 => k_is); (case k12 => k_is)
    (case a13 => k_is); (case l13 => k_is); (case c13 => k_is); (case k13 => k_is); (case a14 => k_is); (case l14 => k_is)
    (case c14 => k_is); (case k14 => k_is); (case a15 => k_is); (case l15 => k_is); (case c15 => k_is); (case k15 => k_is)
    (case a16 => k_is); (case l16 => k_is); (case c16 => k_is); (case k16 => k_is); (case a17 => k_is); (case l17 => k_is)
    (case c17 => k_is); (case k17 => k_is); (case a18 => k_is); (case l18 => k_is); (case c18 => k_is); (case k18 => k_is)
    (case a19 => k_is); (case l19 => k_is); (case c19 => k_is); (case k19 => k_is); (case a20 => k_is); (case l20 => k_is)
    (case c20 => k_is); (case k20 => k_is); (case a21 => k_is); (case l21 => k_is); (case c21 => k_is); (case k21 => k_is)
    (case a22 => k_is); (case l22 => k_is); (case c22 => k_is); (case k22 => k_is); (case a23 => k_is); (case l23 => k_is)
    (case c23 => k_is); (case k23 => k_is); (case a24 => k_is); (case l24 => k_is); (case c24 => k_is); (case k24 => k_is)
    (case a25 => k_is); (case l25 => k_is); (case c25 => k_is); (case k25 => k_is); (case a26 => k_is); (case l26 => k_is)
    (case c26 => k_is); (case k26 => k_is); (case a27 => k_is); (case l27 => k_is); (case c27 => k_is); (case k27 => k_is)
    (case a28 => k_is); (case l28 => k_is); (case c28 => k_is); (case k28 => k_is); (case a29 => k_is); (case l29 => k_is)
    (case c29 => k_is); (case k29 => k_is); (case a30 => k_is); (case l30 => k_is); (case c30 => k_is); (case k30 => k_is)
    (case a31 => k_is); (case l31 => k_is); (case c31 => k_is); (case k31 => k_is); (case a32 => k_is); (case l32 => k_is)
    (case c32 => k_is); (case k32 => k_is); (case a33 => k_is); (case l33 => k_is); (case c33 => k_is); (case k33 => k_is)
    (case a34 => k_is); (case l34 => k_is); (case c34 => k_is); (case k34 => k_is); (case a35 => k_is); (case l35 => k_is)
    (case c35 => k_is); (case k35 => k_is); (case a36 => k_is); (case l36 => k_is); (case c36 => k_is); (case k36 => k_is)
    (case a37 => k_is); (case l37 => k_is); (case c37 => k_is); (case k37 => k_is); (case a38 => k_is); (case l38 => k_is)
    (case c38 => k_is); (case k38 => k_is); (case a39 => k_is); (case l39 => k_is); (case c39 => k_is); (case k39 => k_is)
    (case a40 => k_is); (case l40 => k_is); (case c40 => k_is); (case k40 => k_is); (case q_HallError => k_is); (case q_InvalidGuests => k_is)
    (case q_InvalidWeight => k_is); (case q_InvalidSeating => k_is); (case q_InvalidSizes => k_is); (case q_InvalidNumber => k_is); (case e_InvalidSeating => kernel_rfl); (case x_InvalidSeating => kernel_rfl)
    (case t_InvalidSeating => kernel_rfl); (case e_InvalidNumber => kernel_rfl); (case x_InvalidNumber => kernel_rfl); (case t_InvalidNumber => kernel_rfl); (case e_InvalidSizes => kernel_rfl); (case x_InvalidSizes => kernel_rfl)
    (case t_InvalidSizes => kernel_rfl); (case e_InvalidGuests => kernel_rfl); (case x_InvalidGuests => kernel_rfl); (case t_InvalidGuests => kernel_rfl); (case e_InvalidWeight => kernel_rfl); (case x_InvalidWeight => kernel_rfl)
    (case t_InvalidWeight => kernel_rfl); (case q_Hall => k_is); (case iM0 => k_is); (case lM0 => k_is); (case uM0 => k_is); (case cM0 => k_is)
    (case kM0 => k_is); (case e_M0 => kernel_rfl); (case z_abs => k_is); (case z_all => k_is); (case z_bool => k_is); (case z_enumerate => k_is)
    (case z_int => k_is); (case z_isinstance => k_is); (case z_len => k_is); (case z_list => k_is); (case z_min => k_is); (case z_range => k_is)
    (case z_sorted => k_is); (case z_str => k_is); (case z_sum => k_is); (case z_tuple => k_is); (case z_type => k_is); (case y_MOST_GUESTS => k_is)
    (case y_MOST_WEIGHT => k_is); (case y_MOST_PERIOD => k_is); (case y_MOST_ROOT => k_is); (case x_gcd => k_is); (case x_lcm => k_is); (case x_perm => k_is)