import PyProof.Rows.All
import Wide.All
import OpenK.AllK
import Wide.FinOn
import PyProof.TypeEq
import HandS.ForMost
import HandS.Evl
import HandS.Wide
import HandS.WideBits
import HandS.Gcd
import HandS.Codes
import HandS.Conv
import HandS.IsInst
import HandS.More
import HandS.Walk
import HandS.Style
import PyProof.InstEq
import HandS.Sort
import KE.DataMinMax
import KE.GoesEnum
import KE.GoesMore
import HandS.Iter
import HandS.WordsDict
import PySem.Challenge.RW_newtables_k03_tables_and_records
set_option Elab.async false
set_option linter.all false
set_option maxRecDepth 100000
set_option maxHeartbeats 4000000
namespace Kit
open PySem PySem.Spec PyProof.Rows L2 Evl
/-! rules that the layer lacks -/
section
variable {X : Cx} {a b c d : Expr} {ta tb tc td : TE} {pos : Pos}
def CPowX (i j : Int) : Prop := 0 ≤ j ∧ (Builtin.Int.intBits i : Int) * j ≤ 2 ^ 27
theorem op_powX : OpR X (binaryOp .Pow) (rI CPowX fun i j => .int (i ^ j.toNat)) := opI fun _ _ _ _ _ _ _ hc q => pow_int hc.1 hc.2 q
/-- the types that are compared by == -/
def Meta (n : String) : Prop := ∀ s : Shared, s.TypeIs (.type n) "type"
def rEqTy : R2 := fun x y H Q => ∃ m n, x = .ty m ∧ y = .ty n ∧ Meta m ∧ Meta n ∧ Q (.bl (decide (m = n))) H
theorem op_eqTy : OpR X (compareOp .Eq) rEqTy := by
  intro pins s σ H x y v u Q I rx ry h
  obtain ⟨m, n, rfl, rfl, hm, hn, q⟩ := h
  cases (show v = Value.type m from rx)
  cases (show u = Value.type n from ry)
  by_cases e : m = n
  · subst e
    exact PySem.TypeEq.eq_type_same hm ⟨.bl true, H, I, rfl, by simpa using q⟩
  · exact PySem.TypeEq.eq_type_other hm hn (by rw [beq_eq_false_iff_ne]; exact fun z => e (Value.type.inj z)) ⟨.bl false, H, I, rfl, by simpa [e] using q⟩
/-- a op b op c op d -/
def tChain3 (r r' r'' : R2) (ta tb tc td : TE) : TE := fun σ H Q => ta σ H fun x H1 => tb σ H1 fun y H2 => r x y H2 fun z H3 => ∃ k, z = .bl k ∧
  (if k = true then tc σ H3 fun w' H4 => r' y w' H4 fun z' H5 => ∃ k', z' = .bl k' ∧ (if k' = true then td σ H5 fun w'' H6 => r'' w' w'' H6 Q else Q (.bl false) H5) else Q (.bl false) H3)
theorem pe_chain3 {op op' op'' : CmpOp} {r r' r'' : R2} (ho : OpR X (compareOp op) r) (ho' : OpR X (compareOp op') r') (ho'' : OpR X (compareOp op'') r'') (ha : PE X a ta) (hb : PE X b tb) (hc : PE X c tc) (hd : PE X d td)
    (hm : lastMarks [op, op', op''] [b, c, d] = false := by with_unfolding_all rfl) : PE X (.Compare a [op, op', op''] [b, c, d] pos) (tChain3 r r' r'' ta tb tc td) := by
  refine ⟨fun pins s σ H Q I h => ?_⟩
  refine Compare_chain (thn (ha.run pins s σ H _ I h) fun v s1 ⟨x, H1, I1, r1, q1⟩ => chain_link (thn (hb.run pins s1 σ H1 _ I1 q1) fun u s2 ⟨y, H2, I2, r2, q2⟩ =>
    thn (ho pins s2 σ H2 x y v u _ I2 r1 r2 q2) fun d s3 ⟨z, H3, I3, r3, k, e, q3⟩ => ?_)) hm
  subst e
  cases r3
  refine wpAny_truthy_bool ?_
  cases k with
  | false => exact ite_ff ⟨.bl false, H3, I3, rfl, q3⟩
  | true =>
    refine ite_tt (chain_link (thn (hc.run pins s3 σ H3 _ I3 q3) fun w' s4 ⟨z', H4, I4, r4, q4⟩ => thn (ho' pins s4 σ H4 y z' u w' _ I4 r2 r4 q4) fun d' s5 ⟨z5, H5, I5, r5, k5, e5, q5⟩ => ?_))
    subst e5
    cases r5
    refine wpAny_truthy_bool ?_
    cases k5 with
    | false => exact ite_ff ⟨.bl false, H5, I5, rfl, q5⟩
    | true => exact ite_tt (chain_last (thn (hd.run pins s5 σ H5 _ I5 q5) fun w6 s6 ⟨z6, H6, I6, r6, q6⟩ => ho'' pins s6 σ H6 z' z6 w' w6 Q I6 r4 r6 q6))
theorem pt_chain3 {op op' op'' : CmpOp} {r r' r'' : R2} (ho : OpR X (compareOp op) r) (ho' : OpR X (compareOp op') r') (ho'' : OpR X (compareOp op'') r'') (ha : PE X a ta) (hb : PE X b tb) (hc : PE X c tc) (hd : PE X d td)
    (hm : lastMarks [op, op', op''] [b, c, d] = false := by with_unfolding_all rfl) : PT X (.Compare a [op, op', op''] [b, c, d] pos) (tTest (tChain3 r r' r'' ta tb tc td)) := by
  refine ⟨fun pins s σ H Q I h => ?_⟩
  refine isTrue_chain (thn (ha.run pins s σ H _ I h) fun v s1 ⟨x, H1, I1, r1, q1⟩ => test_link (thn (hb.run pins s1 σ H1 _ I1 q1) fun u s2 ⟨y, H2, I2, r2, q2⟩ =>
    thn (ho pins s2 σ H2 x y v u _ I2 r1 r2 q2) fun d s3 ⟨z, H3, I3, r3, k, e, q3⟩ => ?_)) hm
  subst e
  cases r3
  refine wpAny_truthy_bool ?_
  cases k with
  | false =>
    obtain ⟨k', e', q'⟩ := q3
    cases e'
    exact ite_ff ⟨H3, I3, q'⟩
  | true =>
    refine ite_tt (test_link (thn (hc.run pins s3 σ H3 _ I3 q3) fun w' s4 ⟨z', H4, I4, r4, q4⟩ => thn (ho' pins s4 σ H4 y z' u w' _ I4 r2 r4 q4) fun d' s5 ⟨z5, H5, I5, r5, k5, e5, q5⟩ => ?_))
    subst e5
    cases r5
    refine wpAny_truthy_bool ?_
    cases k5 with
    | false =>
      obtain ⟨k', e', q'⟩ := q5
      cases e'
      exact ite_ff ⟨H5, I5, q'⟩
    | true =>
      refine ite_tt (test_last (thn (hd.run pins s5 σ H5 _ I5 q5) fun w6 s6 ⟨z6, H6, I6, r6, q6⟩ => thn (ho'' pins s6 σ H6 z' z6 w' w6 _ I6 r4 r6 q6) fun d7 s7 ⟨z7, H7, I7, r7, k7, e7, q7⟩ => ?_))
      subst e7
      cases r7
      exact wpAny_truthy_bool ⟨H7, I7, q7⟩
end
/-! f(k = v, ..): keywords alone -/
section
variable {X : Cx} {CX : CXT} {k : Nat} {f C : Addr} {fd : FuncData} {ps ks : List Str} {sp : Sp} {E : XK} {x m : Str} {p pos apos kpos : Pos} {kws : List Keyword} {tk : TA}
variable {g : List Value → List Value → List Value} {gV : List V → List V → List V}
theorem pe_callK0 (F : FnOk X.prog X.w X.K X.mg X.base CX k f fd ps sp) (hr : Room k X.A) (hg : Gl X x) (hm : X.mg x = some (.ref f)) (hk : PySem.W.keepIn X.K (.ref f) = true) (hb : KBinds X.K fd ps ks g gV) (hx : Passes CX X E)
    (hkw : PK X kws tk) (hall : (backToKw pos (keywordEach kws X.env)).all (·.1.isSome) = true := by rfl) (hks : (backToKw pos (keywordEach kws X.env)).filterMap (·.1) = ks := by rfl)
    (hdb : (x == ("__debug__" : Str)) = false := by decide)
    (hpl : ((backTo pos (starEach [] X.env)).any (·.1) || (backToKw pos (keywordEach kws X.env)).any (·.1.isNone)) = false := by rfl) :
    PE X (.Call (.Name x p) [] kws pos) (tCallK sp gV E tNil tk) := by
  refine ⟨fun pins s σ H Q I h => ?_⟩
  refine wpAny_Call_Name_kw (ld_glob I hg hm ?_ hdb)
  refine PySem.W.callWith_KW0 (h₀ := X.base) I.ok.mod.kin hk hall ?_ hpl
  refine thn (hkw.run pos pins s σ H _ I h) fun ws s2 ⟨zs, H2, I2, rz, q2⟩ => ⟨I2.kIn, ?_⟩
  rw [hks]
  exact run_fnk F hr hb hx I2 (us := []) (vs := []) .nil rz q2
end
theorem pe_gc {X : Cx} {x : Str} {pos : Pos} {v : V} (hg : Gl X x) (h : ∃ u, X.mg x = some u ∧ RelV v u) (hd : (x == ("__debug__" : Str)) = false := by decide) : PE X (.Name x pos) (tC v) := by
  obtain ⟨u, hm, r⟩ := h
  exact pe_glob hg hm r hd
/-! built-ins by name, with readings that have names -/
section
variable {X : Cx}
def rAbs : List V → Hp → VK → Prop := fun xs H Q => ∃ i, xs = [.int i] ∧ Q (.int (if i < 0 then -i else i)) H
def rMin2 : List V → Hp → VK → Prop := fun xs H Q => ∃ i j, xs = [.int i, .int j] ∧ Q (.int (if j < i then j else i)) H
def rIntI : List V → Hp → VK → Prop := fun xs H Q => ∃ i, xs = [.int i] ∧ Q (.int i) H
def rIntB : List V → Hp → VK → Prop := fun xs H Q => ∃ b, xs = [.bl b] ∧ Q (.int (if b then 1 else 0)) H
theorem call_absR : CallR X (.builtin "abs") rAbs := call_abs
theorem call_maxR (hc : X.calm = true) : CallR X (.builtin "max") rMax2 := call_max2 hc
theorem call_minR (hc : X.calm = true) : CallR X (.builtin "min") rMin2 := call_min2 hc
theorem call_intI : CallR X (.type "int") rIntI := by
  intro pins s σ H xs us Q I r h
  obtain ⟨i, e, q⟩ := h
  exact call_int1 pins s σ H xs us Q I r (.inl ⟨i, e, q⟩)
theorem call_intB : CallR X (.type "int") rIntB := by
  intro pins s σ H xs us Q I r h
  obtain ⟨i, e, q⟩ := h
  exact call_int1 pins s σ H xs us Q I r (.inr ⟨i, e, q⟩)
theorem call_lenR : CallR X (.builtin "len") (rLenS X.K) := call_len_seq
theorem call_listR : CallR X (.type "list") (rListS X.K) := call_list_of
def rTupS (K : PySem.W.Frag) : List V → Hp → VK → Prop := fun xs H Q => ∃ p ys, xs = [.ref p] ∧ SqL K H p ys ∧ ∀ l, H l = none → Q (.ref l) (upd H l (.tup ys))
theorem call_tupR : CallR X (.type "tuple") (rTupS X.K) := by
  intro pins s σ H xs us Q I r h
  obtain ⟨p, ys, e, hs, q⟩ := h
  exact call_tuple_of pins s σ H xs us Q I r ⟨p, ys, e, .inl ⟨hs, q⟩⟩
def rIsN1 : R2 := fun x y H Q => y = .non ∧ Q (.bl (decide (x = .non))) H
def rNotN1 : R2 := fun x y H Q => y = .non ∧ Q (.bl (!decide (x = .non))) H
theorem op_isNR : OpR X (compareOp .Is) rIsN1 := op_isN
theorem op_notNR : OpR X (compareOp .IsNot) rNotN1 := op_notN
end
/-! evaluations of these -/
section
variable {K : PySem.W.Frag} {σ : L2.St} {H H' : Hp} {ta tb tc td te : TE} {x y z v : V} {r : R2} {i j : Int}
theorem ev_abs (h : Ev ta σ H (.int i)) : Ev (tCB rAbs (tCons ta tNil)) σ H (.int (if i < 0 then -i else i)) := fun H1 e Q q => h H1 e _ fun H2 e2 => ⟨i, rfl, q H2 e2⟩
theorem ev_min2 (ha : Ev ta σ H (.int i)) (hb : Ev tb σ H (.int j)) : Ev (tCB rMin2 (tCons ta (tCons tb tNil))) σ H (.int (if j < i then j else i)) := fun H1 e Q q =>
  ha H1 e _ fun H2 e2 => hb H2 (e.trans e2) _ fun H3 e3 => ⟨i, j, rfl, q H3 (e2.trans e3)⟩
theorem ev_intI (h : Ev ta σ H (.int i)) : Ev (tCB rIntI (tCons ta tNil)) σ H (.int i) := fun H1 e Q q => h H1 e _ fun H2 e2 => ⟨i, rfl, q H2 e2⟩
theorem ev_intB {b : Bool} (h : Ev ta σ H (.bl b)) : Ev (tCB rIntB (tCons ta tNil)) σ H (.int (if b then 1 else 0)) := fun H1 e Q q => h H1 e _ fun H2 e2 => ⟨b, rfl, q H2 e2⟩
theorem rv_isN : RV rIsN1 x .non H (.bl (decide (x = .non))) := fun H1 _ _ q => ⟨rfl, q H1 (Ex.refl H1)⟩
theorem rv_notN : RV rNotN1 x .non H (.bl (!decide (x = .non))) := fun H1 _ _ q => ⟨rfl, q H1 (Ex.refl H1)⟩
theorem ev_chain {r r' : R2} {k : Bool} {k' : Bool} (ha : Ev ta σ H x) (hb : Ev tb σ H y) (hr : RV r x y H (.bl k)) (hc : k = true → ∃ z, Ev tc σ H z ∧ RV r' y z H (.bl k')) : Ev (tChain r r' ta tb tc) σ H (.bl (k && k')) := fun H1 e Q q =>
  ha H1 e _ fun H2 e2 => hb H2 (e.trans e2) _ fun H3 e3 => hr H3 ((e.trans e2).trans e3) _ fun H4 e4 => ⟨k, rfl, by
    cases k with
    | true =>
      obtain ⟨z, h1, h2⟩ := hc rfl
      exact h1 H4 (((e.trans e2).trans e3).trans e4) _ fun H5 e5 => h2 H5 ((((e.trans e2).trans e3).trans e4).trans e5) _ fun H6 e6 => q H6 ((((e2.trans e3).trans e4).trans e5).trans e6)
    | false => exact q H4 ((e2.trans e3).trans e4)⟩
theorem ev_chainI {C C' : Int → Int → Bool} {i j l : Int} (ha : Ev ta σ H (.int i)) (hb : Ev tb σ H (.int j)) (hc : Ev tc σ H (.int l)) :
    Ev (tChain (rI0 fun i j => .bl (C i j)) (rI0 fun i j => .bl (C' i j)) ta tb tc) σ H (.bl (C i j && C' j l)) := ev_chain ha hb rv_I0 fun _ => ⟨_, hc, rv_I0⟩
theorem ev_chain3I {C C' C'' : Int → Int → Bool} {i j l m : Int} (ha : Ev ta σ H (.int i)) (hb : Ev tb σ H (.int j)) (hc : Ev tc σ H (.int l)) (hd : Ev td σ H (.int m)) :
    Ev (tChain3 (rI0 fun i j => .bl (C i j)) (rI0 fun i j => .bl (C' i j)) (rI0 fun i j => .bl (C'' i j)) ta tb tc td) σ H (.bl (C i j && (C' j l && C'' l m))) := fun H1 e Q q =>
  ha H1 e _ fun H2 e2 => hb H2 (e.trans e2) _ fun H3 e3 => ⟨i, j, rfl, rfl, C i j, rfl, by
    have e23 := e2.trans e3
    generalize C i j = k1 at q ⊢
    cases k1 with
    | false => exact q H3 e23
    | true =>
      refine hc H3 (e.trans e23) _ fun H4 e4 => ⟨j, l, rfl, rfl, C' j l, rfl, ?_⟩
      generalize C' j l = k2 at q ⊢
      cases k2 with
      | false => exact q H4 (e23.trans e4)
      | true => exact hd H4 ((e.trans e23).trans e4) _ fun H5 e5 => ⟨l, m, rfl, rfl, q H5 ((e23.trans e4).trans e5)⟩⟩
theorem rv_eqTy {m n : String} (hm : Meta m) (hn : Meta n) : RV rEqTy (.ty m) (.ty n) H (.bl (decide (m = n))) := fun H1 _ _ q => ⟨m, n, rfl, rfl, hm, hn, q H1 (Ex.refl H1)⟩
theorem ev_typeI (h : Ev ta σ H (.int i)) : Ev (tThenZ ta kTyp) σ H (.ty "int") := fun H1 e Q q => h H1 e _ fun H2 e2 => ⟨"int", rfl, q H2 e2⟩
/-- a tuple that was made is read as two names -/
theorem s_tup2 {D : Ends} {i j : Nat} {p : Addr} (ha : Ev ta σ H (.ref p)) (hp : SqT K H p [x, y]) (k : ∀ H1, Ex H H1 → D.nx ((σ.set i (some x)).set j (some y)) H1) : tAsg ta (gTup K 2 (gCons (gName i) (gCons (gName j) gNil))) D σ H :=
  ha H (Ex.refl H) _ fun H1 e => ⟨p, [x, y], rfl, ex_t e hp, rfl, x, [y], rfl, y, [], rfl, rfl, k H1 e⟩
end
/-- a new tuple that is handed back -/
def RetU (xs : List V) (H : Hp) (Q : VK) : Prop := ∀ p H2, H p = none → Ex H H2 → H2 p = some (.tup xs) → Q (.ref p) H2
def SpU (sp : Sp) (vs : List V) (H : Hp) (xs : List V) : Prop := ∀ H1, Ex H H1 → ∀ Q : VK, (∀ p H2, H1 p = none → Ex H1 H2 → H2 p = some (.tup xs) → Q (.ref p) H2) → ∀ E : XK, sp vs H1 Q E
section
variable {K : PySem.W.Frag} {σ : L2.St} {H : Hp}
theorem eu_call {sp : Sp} {dvs vs xs : List V} {E : XK} {ta : TA} (h : EvA ta σ H vs) (hs : SpU sp (vs ++ dvs) H xs) : EvU (tCall sp dvs E ta) σ H xs := fun H1 e Q q =>
  h H1 e _ fun H2 e2 => hs H2 (e.trans e2) Q (fun p H3 hp e3 h3 => q p H3 (fresh_back e2 hp) (e2.trans e3) h3) E
/-- a, b = f(..), f's answer a new tuple -/
theorem s_tup2U {te : TE} {D : Ends} {i j : Nat} {x y : V} (ha : EvU te σ H [x, y]) (k : ∀ H1, Ex H H1 → D.nx ((σ.set i (some x)).set j (some y)) H1) : tAsg te (gTup K 2 (gCons (gName i) (gCons (gName j) gNil))) D σ H :=
  ha H (Ex.refl H) _ fun p H1 _ e h1 => ⟨p, [x, y], rfl, st_of h1, rfl, x, [y], rfl, y, [], rfl, rfl, k H1 e⟩
theorem q_tup2U {te : TE} {tz : TS} {D : Ends} {i j : Nat} {x y : V} (ha : EvU te σ H [x, y]) (k : ∀ H1, Ex H H1 → tz D ((σ.set i (some x)).set j (some y)) H1) : tSeq (tAsg te (gTup K 2 (gCons (gName i) (gCons (gName j) gNil)))) tz D σ H := s_tup2U (D := { D with nx := tz D }) ha k
theorem q_tup2 {ta : TE} {tz : TS} {D : Ends} {i j : Nat} {p : Addr} {x y : V} (ha : Ev ta σ H (.ref p)) (hp : SqT K H p [x, y]) (k : ∀ H1, Ex H H1 → tz D ((σ.set i (some x)).set j (some y)) H1) : tSeq (tAsg ta (gTup K 2 (gCons (gName i) (gCons (gName j) gNil)))) tz D σ H := s_tup2 (D := { D with nx := tz D }) ha hp k
/-- a, b = x, y -/
theorem s_par {ta : TA} {D : Ends} {i j : Nat} {x y : V} (ha : EvA ta σ H [x, y]) (k : ∀ H1, Ex H H1 → D.nx ((σ.set i (some x)).set j (some y)) H1) : tPar i j ta D σ H := ha H (Ex.refl H) _ fun H1 e => ⟨x, y, rfl, k H1 e⟩
theorem q_par {ta : TA} {tz : TS} {D : Ends} {i j : Nat} {x y : V} (ha : EvA ta σ H [x, y]) (k : ∀ H1, Ex H H1 → tz D ((σ.set i (some x)).set j (some y)) H1) : tSeq (tPar i j ta) tz D σ H := s_par (D := { D with nx := tz D }) ha k
end
theorem natAbs_pow_le {b : Int} {k : Nat} (h : b.natAbs < 2 ^ k) (n : Nat) : (b ^ n).natAbs ≤ 2 ^ (k * n) := by
  rw [Int.natAbs_pow, Nat.pow_mul]
  exact Nat.pow_le_pow_left (Nat.le_of_lt h) n
theorem lt_of_le2 {x k : Nat} (h : x ≤ 2 ^ k) : x < 2 ^ (k + 1) := Nat.lt_of_le_of_lt h (Nat.pow_lt_pow_right (by decide) (Nat.lt_succ_self k))
theorem lt2_mono {x k m : Nat} (h : x < 2 ^ k) (e : k ≤ m) : x < 2 ^ m := Nat.lt_of_lt_of_le h (Nat.pow_le_pow_right (by decide) e)
theorem natAbs_mul_lt {a b : Int} {k m : Nat} (ha : a.natAbs < 2 ^ k) (hb : b.natAbs < 2 ^ m) : (a * b).natAbs < 2 ^ (k + m) := wide_lt ha hb
/-! comprehensions -/
section
variable {K : PySem.W.Frag} {σ : L2.St} {H : Hp} {te tl : TE} {t : TT}
theorem et_yes : EvT tYes σ H true := fun H1 _ _ q => q H1 (Ex.refl H1)
theorem given_map {xs : List V} {F : V → V} : given xs.length (fun _ => true) (fun i => F (xs.getD i .non)) = xs.map F := by
  unfold given
  rw [List.filter_eq_self.mpr (fun _ _ => rfl)]
  refine List.ext_getElem (by simp) fun i h1 h2 => ?_
  simp at h1
  simp [h1]
/-- [e for x in xs] -/
theorem el_map {a : Addr} {xs : List V} {j : Nat} {vs : List Nat} (F : V → V) (h : Ev tl σ H (.ref a)) (hx : SqL K H a xs) (hz : xs.length ≤ 40000) (hw : ∀ x, wipe ((wipe σ vs).set j (some x)) vs = wipe σ vs)
    (he : ∀ (i : Nat) (x : V) H1, Ex H H1 → xs[i]? = some x → Ev te ((wipe σ vs).set j (some x)) H1 (F x)) : EvL (tLc (iList K tl) (gName j) tYes te vs) σ H (xs.map F) := by
  rw [← given_map]
  refine el_lcL _ _ h hx hz hw (fun _ _ _ _ _ => et_yes) fun i x H1 e hi _ => ?_
  have q := he i x H1 e hi
  have g : xs.getD i .non = x := by rw [List.getD_eq_getElem?_getD, hi] <;> rfl
  show Ev _ _ _ (F (xs.getD i .non))
  rw [g]
  exact q
theorem el_mapN {xs : List V} {j : Nat} {vs : List Nat} (F : V → V) (h : EvL tl σ H xs) (hz : xs.length ≤ 40000) (hw : ∀ x, wipe ((wipe σ vs).set j (some x)) vs = wipe σ vs)
    (he : ∀ (i : Nat) (x : V) H1, Ex H H1 → xs[i]? = some x → Ev te ((wipe σ vs).set j (some x)) H1 (F x)) : EvL (tLc (iList K tl) (gName j) tYes te vs) σ H (xs.map F) := by
  rw [← given_map]
  refine el_lcNL _ _ h hz hw (fun _ _ _ _ _ => et_yes) fun i x H1 e hi _ => ?_
  have q := he i x H1 e hi
  have g : xs.getD i .non = x := by rw [List.getD_eq_getElem?_getD, hi] <;> rfl
  show Ev _ _ _ (F (xs.getD i .non))
  rw [g]
  exact q
/-- [e for x in range(lo, hi) if t] -/
theorem el_lcR2 {ta : TA} {j : Nat} {vs : List Nat} {lo n : Int} (f : Nat → Bool) (v : Nat → V) (h : EvA ta σ H [.int lo, .int n]) (hn : 0 ≤ lo ∧ lo ≤ 40000 ∧ -40000 ≤ n ∧ n ≤ 40000) (hw : ∀ x, wipe ((wipe σ vs).set j (some x)) vs = wipe σ vs)
    (ht : ∀ (i : Nat) H1, Ex H H1 → lo + (i : Int) < n → EvT t ((wipe σ vs).set j (some (.int (lo + (i : Int))))) H1 (f i)) (he : ∀ (i : Nat) H1, Ex H H1 → lo + (i : Int) < n → f i = true → Ev te ((wipe σ vs).set j (some (.int (lo + (i : Int))))) H1 (v i)) :
    EvL (tLc (iRng2 ta) (gName j) t te vs) σ H (given (n - lo).toNat f v) := fun H0 e Q q => h H0 e _ fun H1 e1 => ⟨lo, n, rfl, ⟨by omega, by omega, by omega, by omega⟩, fun Dl hD =>
  lc_range (lo := lo) (n := (n - lo).toNat) (Cw H1 f v Dl) ⟨hD, Ex.new hD, upd_same⟩ (fun i H' hi p =>
    ⟨hw _, cw_turn p (by omega) (ht i H1 (e.trans e1) (by omega)) (fun hf => he i H1 (e.trans e1) (by omega) hf)⟩) (fun H' p => q Dl H' (fresh_back e1 p.1) (e1.trans p.2.1) p.2.2)⟩
theorem given_none {n : Nat} {f : Nat → Bool} {v : Nat → V} (h : ∀ i, i < n → f i = false) : given n f v = [] := by
  unfold given
  rw [List.filter_eq_nil_iff.mpr (fun i hi => by simp [h i (List.mem_range.mp hi)])]
  rfl
/-- xs + ys, both new -/
theorem el_cat {ta tb : TE} {xs ys : List V} (ha : EvL ta σ H xs) (hb : EvL tb σ H ys) (hl : xs.length + ys.length ≤ 100000) : EvL (tOp rCat ta tb) σ H (xs ++ ys) := fun H1 e Q q =>
  ha H1 e _ fun p H2 hp e2 h2 => hb H2 (e.trans e2) _ fun p' H3 hp' e3 h3 =>
    ⟨p, p', xs, ys, rfl, rfl, e3 p _ h2, h3, sz_of hl, fun l hl' => q l _ (fresh_back (e2.trans e3) hl') ((e2.trans e3).trans (Ex.new hl')) upd_same⟩
/-- [e for x, y in zip(xs, ys)] -/
theorem el_zip {ta : TA} {i j : Nat} {vs : List Nat} {a b : Addr} {xs ys : List V} (F : V → V → V) (h : EvA ta σ H [.ref a, .ref b]) (hx : SqL K H a xs) (hy : SqL K H b ys) (hl : xs.length = ys.length) (hz : xs.length ≤ 40000)
    (hw : ∀ x y, wipe (((wipe σ vs).set i (some x)).set j (some y)) vs = wipe σ vs)
    (he : ∀ (n : Nat) x y H1, Ex H H1 → xs[n]? = some x → ys[n]? = some y → Ev te (((wipe σ vs).set i (some x)).set j (some y)) H1 (F x y)) :
    EvL (tLc (iZip K ta) (gTup K 2 (gCons (gName i) (gCons (gName j) gNil))) tYes te vs) σ H (List.zipWith F xs ys) := fun H0 e Q q => h H0 e _ fun H1 e1 => ⟨a, b, xs, ys, rfl, ex_l (e.trans e1) hx, ex_l (e.trans e1) hy, fun Dl hD => by
  refine lc_it (walk_zip (n := xs.length) (by omega)) (fun n H' => Ex H1 H' ∧ H' Dl = some (.lst ((List.zipWith F xs ys).take n))) ⟨Ex.new hD, upd_same⟩ (fun n H' _ p => ⟨ex_l ((e.trans e1).trans p.1) hx, ex_l ((e.trans e1).trans p.1) hy⟩) ?_ fun H' p => ?_
  · rintro n v Hh H' hn ⟨p1, p2⟩ ⟨T, x, y, rfl, nT, rfl, g1, g2⟩
    have eT : Ex Hh (upd Hh T (.tup [x, y])) := Ex.new nT
    refine ⟨T, [x, y], rfl, st_of upd_same, rfl, x, [y], rfl, y, [], rfl, rfl, hw x y, ?_⟩
    show te _ _ _
    refine he n x y H1 (e.trans e1) g1 g2 _ (p1.trans eT) _ fun H4 e4 => ?_
    have k2 := e4 Dl _ (eT Dl _ p2)
    refine ⟨_, k2, sz_lt (by rw [List.length_take]; omega), Ex.mut (p1.trans (eT.trans e4)) hD, ?_⟩
    rw [upd_same]
    have gz : (List.zipWith F xs ys)[n]? = some (F x y) := by
      rw [List.getElem?_zipWith, show xs[n]? = some x from g1, show ys[n]? = some y from g2]
    rw [List.take_add_one, gz]
    rfl
  · obtain ⟨p1, p2⟩ := p
    rw [List.take_of_length_le (by rw [List.length_zipWith]; omega)] at p2
    exact q Dl H' (fresh_back e1 hD) (e1.trans p1) p2⟩
theorem ev_gcd {ta tb : TE} {a b : Int} (ha : Ev ta σ H (.int a)) (hb : Ev tb σ H (.int b)) : Ev (tCB rGcd (tCons ta (tCons tb tNil))) σ H (.int ((Nat.gcd a.natAbs b.natAbs : Nat) : Int)) := fun H1 e Q q =>
  ha H1 e _ fun H2 e2 => hb H2 (e.trans e2) _ fun H3 e3 => ⟨a, b, rfl, q H3 (e2.trans e3)⟩
end
/-! data, compared by == -/
section
variable {K : PySem.W.Frag} {σ : L2.St} {H H' : Hp}
mutual
theorem Dp.ex (e : Ex H H') : ∀ (d : PyData) (v : V), Dp K H v d → Dp K H' v d
  | .none, _, h => by cases h; exact .non
  | .bool _, _, h => by cases h; exact .bl _
  | .int _, _, h => by cases h; exact .int _
  | .str _, _, h => by cases h; exact .str _
  | .list ds, _, h => by
    cases h with
    | lst hs ha => exact .lst (ex_l e hs) (DpAll.ex e ds _ ha)
  | .tuple ds, _, h => by
    cases h with
    | tup hs ha => exact .tup (ex_t e hs) (DpAll.ex e ds _ ha)
  | .dict _, _, h => by cases h
theorem DpAll.ex (e : Ex H H') : ∀ (ds : List PyData) (vs : List V), DpAll K H vs ds → DpAll K H' vs ds
  | [], _, h => by cases h; exact .nil
  | d :: ds, _, h => by
    cases h with
    | cons h1 h2 => exact .cons (Dp.ex e d _ h1) (DpAll.ex e ds _ h2)
end
theorem DpAll.len : ∀ {ds : List PyData} {vs : List V}, DpAll K H vs ds → vs.length = ds.length
  | [], _, h => by cases h; rfl
  | d :: ds, _, h => by
    cases h with
    | cons h1 h2 => simp [DpAll.len h2]
def EvD (K : PySem.W.Frag) (te : TE) (σ : L2.St) (H : Hp) (d : PyData) : Prop := ∀ H1, Ex H H1 → ∀ Q : VK, (∀ v H2, Ex H1 H2 → Dp K H2 v d → Q v H2) → te σ H1 Q
def EvDA (K : PySem.W.Frag) (ta : TA) (σ : L2.St) (H : Hp) (ds : List PyData) : Prop := ∀ H1, Ex H H1 → ∀ Q : List V → Hp → Prop, (∀ vs H2, Ex H1 H2 → DpAll K H2 vs ds → Q vs H2) → ta σ H1 Q
variable {te ta tb : TE} {d e : PyData} {ds : List PyData}
theorem ed_of {v : V} (h : Ev te σ H v) (k : Dp K H v d) : EvD K te σ H d := fun H1 e1 Q q => h H1 e1 Q fun H2 e2 => q v H2 e2 (Dp.ex (e1.trans e2) d v k)
theorem ed_int {i : Int} (h : Ev te σ H (.int i)) : EvD K te σ H (.int i) := ed_of h (.int i)
theorem ed_bl {i : Bool} (h : Ev te σ H (.bl i)) : EvD K te σ H (.bool i) := ed_of h (.bl i)
theorem ed_non (h : Ev te σ H .non) : EvD K te σ H .none := ed_of h .non
theorem ed_str {i : Str} (h : Ev te σ H (.str i)) : EvD K te σ H (.str i) := ed_of h (.str i)
theorem eda_nil : EvDA K tNil σ H [] := fun H1 _ _ q => q [] H1 (Ex.refl H1) .nil
theorem eda_cons {tr : TA} (h : EvD K te σ H d) (hr : EvDA K tr σ H ds) : EvDA K (tCons te tr) σ H (d :: ds) := fun H1 e _ q =>
  h H1 e _ fun v H2 e2 dv => hr H2 (e.trans e2) _ fun vs H3 e3 dvs => q (v :: vs) H3 (e2.trans e3) (.cons (Dp.ex e3 d v dv) dvs)
theorem ed_lst {t : TA} (h : EvDA K t σ H ds) (hl : ds.length ≤ 100000) : EvD K (tLst t) σ H (.list ds) := fun H1 e _ q =>
  h H1 e _ fun vs H2 e2 dv => ⟨sz_of (by rw [DpAll.len dv]; exact hl), fun p hp => q _ _ (e2.trans (Ex.new hp)) (.lst (sq_of upd_same) (DpAll.ex (Ex.new hp) ds vs dv))⟩
theorem ed_tup {t : TA} (h : EvDA K t σ H ds) (hl : ds.length ≤ 100000) : EvD K (tTup t) σ H (.tuple ds) := fun H1 e _ q =>
  h H1 e _ fun vs H2 e2 dv => ⟨sz_of (by rw [DpAll.len dv]; exact hl), fun p hp => q _ _ (e2.trans (Ex.new hp)) (.tup (st_of upd_same) (DpAll.ex (Ex.new hp) ds vs dv))⟩
theorem ed_ofL {xs : List V} (h : EvL te σ H xs) (k : DpAll K H xs ds) : EvD K te σ H (.list ds) := fun H1 e1 Q q => h H1 e1 Q fun p H2 _ e2 h2 => q _ H2 e2 (.lst (sq_of h2) (DpAll.ex (e1.trans e2) ds xs k))
theorem ed_ofU {xs : List V} (h : EvU te σ H xs) (k : DpAll K H xs ds) : EvD K te σ H (.tuple ds) := fun H1 e1 Q q => h H1 e1 Q fun p H2 _ e2 h2 => q _ H2 e2 (.tup (st_of h2) (DpAll.ex (e1.trans e2) ds xs k))
theorem dpa_ints : ∀ ns : List Int, DpAll K H (ns.map V.int) (ns.map PyData.int)
  | [] => .nil
  | n :: r => .cons (.int n) (dpa_ints r)
theorem ev_eqD (ha : EvD K ta σ H d) (hb : EvD K tb σ H e) (sd : SeqAt.shaped d = true) (se : SeqAt.shaped e = true) : Ev (tOp (rEqD K) ta tb) σ H (.bl (PyData.eqv d e)) := fun H1 e1 Q q =>
  ha H1 e1 _ fun v H2 e2 dv => hb H2 (e1.trans e2) _ fun u H3 e3 du => ⟨d, e, Dp.ex e3 d v dv, du, sd, se, q H3 (e2.trans e3)⟩
theorem ev_neD (ha : EvD K ta σ H d) (hb : EvD K tb σ H e) (sd : SeqAt.shaped d = true) (se : SeqAt.shaped e = true) : Ev (tOp (rNeD K) ta tb) σ H (.bl (!PyData.eqv d e)) := fun H1 e1 Q q =>
  ha H1 e1 _ fun v H2 e2 dv => hb H2 (e1.trans e2) _ fun u H3 e3 du => ⟨d, e, Dp.ex e3 d v dv, du, sd, se, q H3 (e2.trans e3)⟩
theorem shaped_ints : ∀ ns : List Int, SeqAt.shaped (.list (ns.map PyData.int)) = true := fun ns => by
  have h1 : ∀ ms : List Int, PyData.canLayAll0 (ms.map PyData.int) = true := fun ms => by
    induction ms with
    | nil => rfl
    | cons m r ih => simp [PyData.canLayAll0, PyData.canLay0, ih]
  have h2 : ∀ ms : List Int, PyData.depthAll (ms.map PyData.int) = 0 := fun ms => by
    induction ms with
    | nil => rfl
    | cons m r ih => simp [PyData.depthAll, PyData.depth, ih]
  simp [SeqAt.shaped, PyData.canLay0, h1, PyData.depth, h2]
theorem eqv_same {d : PyData} (h : SeqAt.shaped d = true) : PyData.eqv d d = true := by
  have h1 : PyData.canLay0 d = true := (Bool.and_eq_true_iff.mp h).1
  first
    | exact PySem.P3.eqv_refl d h1
    | exact PyData.eqv_refl d h1
    | exact PySem.SeqAt.eqv_refl d h1
/-- f(k = v): a new tuple back -/
theorem eu_callK {sp : Sp} {gV : List V → List V → List V} {E : XK} {t tk : TA} {vs zs xs : List V} (h : EvA t σ H vs) (hk : EvA tk σ H zs) (hs : SpU sp (gV vs zs) H xs) : EvU (tCallK sp gV E t tk) σ H xs := fun H1 e Q q =>
  h H1 e _ fun H2 e2 => hk H2 (e.trans e2) _ fun H3 e3 => hs H3 ((e.trans e2).trans e3) Q (fun p H4 hp e4 h4 => q p H4 (fresh_back (e2.trans e3) hp) ((e2.trans e3).trans e4) h4) E
theorem ev_callK {sp : Sp} {gV : List V → List V → List V} {E : XK} {t tk : TA} {vs zs : List V} {z : V} (h : EvA t σ H vs) (hk : EvA tk σ H zs) (hs : SpV sp (gV vs zs) H z) : Ev (tCallK sp gV E t tk) σ H z := fun H1 e Q q =>
  h H1 e _ fun H2 e2 => hk H2 (e.trans e2) _ fun H3 e3 => hs H3 ((e.trans e2).trans e3) Q (fun H4 e4 => q H4 ((e2.trans e3).trans e4)) E
/-- isinstance(x, tuple) of a tuple; len of a tuple -/
theorem ev_isT {p : Addr} {xs : List V} {n : String} {b : Bool} (h : Ev ta σ H (.ref p)) (hp : H p = some (.tup xs)) (hk : PySem.W.kitOne K (.type "tuple") (.type n) = some b) : Ev (tCB (rIsi K) (tCons ta (tCons (tC (.ty n)) tNil))) σ H (.bl b) := fun H1 e Q q =>
  h H1 e _ fun H2 e2 => ⟨.ref p, .ty n, .type "tuple", .type n, b, rfl, .ty n, .base (.tup (e2 p _ (e p _ hp))), hk, q H2 e2⟩
theorem ev_lenT {p : Addr} {xs : List V} (ha : Ev ta σ H (.ref p)) (h : SqT K H p xs) : Ev (tCB (rLenS K) (tCons ta tNil)) σ H (.int (xs.length : Int)) := fun H1 e Q q =>
  ha H1 e _ fun H2 e2 => ⟨p, xs, rfl, Or.inr (ex_t (e.trans e2) h), q H2 e2⟩
/-- list(range(a, b)) -/
theorem el_rg2 {a b : Int} (ha : Ev ta σ H (.int a)) (hb : Ev tb σ H (.int b)) (h : RgOk a b) : EvL (tLstRg (tRg2 ta tb)) σ H (rgV a b) := fun H1 e Q q =>
  ha H1 e _ fun H2 e2 => hb H2 (e.trans e2) _ fun H3 e3 => ⟨a, b, rfl, rfl, h, fun p hp => q p _ (fresh_back (e2.trans e3) hp) ((e2.trans e3).trans (Ex.new hp)) upd_same⟩
theorem el_rg1 {b : Int} (hb : Ev tb σ H (.int b)) (h : RgOk 0 b) : EvL (tLstRg (tRg1 tb)) σ H (rgV 0 b) := fun H1 e Q q =>
  hb H1 e _ fun H3 e3 => ⟨b, rfl, h, fun p hp => q p _ (fresh_back e3 hp) (e3.trans (Ex.new hp)) upd_same⟩
end
/-! more statements -/
section
variable {K : PySem.W.Frag} {σ : L2.St} {H H' : Hp} {te tl : TE} {t : TT} {D : Ends} {tu tz : TS} {g : TG}
/-- a comprehension over range(lo, n) that keeps nothing -/
theorem el_noneR2 {ta : TA} {j : Nat} {vs : List Nat} {lo n : Int} (h : EvA ta σ H [.int lo, .int n]) (hn : 0 ≤ lo ∧ lo ≤ 40000 ∧ -40000 ≤ n ∧ n ≤ 40000) (hw : ∀ x, wipe ((wipe σ vs).set j (some x)) vs = wipe σ vs)
    (ht : ∀ (i : Nat) H1, Ex H H1 → lo + (i : Int) < n → EvT t ((wipe σ vs).set j (some (.int (lo + (i : Int))))) H1 false) : EvL (tLc (iRng2 ta) (gName j) t te vs) σ H [] := by
  have q := el_lcR2 (te := te) (fun _ => false) (fun _ => .non) h hn hw ht (fun _ _ _ _ hf => Bool.noConfusion hf)
  rw [given_none (fun _ _ => rfl)] at q
  exact q
/-- a for over a new tuple -/
theorem s_forNU {xs : List V} (h : EvU tl σ H xs) (Pv : Addr → Nat → L2.St → Hp → Prop) (h0 : ∀ p H1, H p = none → Ex H H1 → H1 p = some (.tup xs) → Pv p 0 σ H1) (hl : ∀ p i σ' H', i ≤ xs.length → Pv p i σ' H' → SqT K H' p xs)
    (hs : ∀ p i x σ' H', xs[i]? = some x → Pv p i σ' H' → g x σ' H' fun σ2 H2 => tu { D with nx := Pv p (i + 1), ct := Pv p (i + 1), bk := D.nx } σ2 H2) (hd : ∀ p σ' H', Pv p xs.length σ' H' → D.nx σ' H') : tFor (iTup K tl) g tu D σ H :=
  h H (Ex.refl H) _ fun p H1 hp e h1 => ⟨p, rfl, ⟨xs, st_of h1⟩, for_tup (Pv p) (h0 p H1 hp e h1) (hl p) (hs p) (hd p)⟩
theorem q_forNU {xs : List V} (h : EvU tl σ H xs) (Pv : Addr → Nat → L2.St → Hp → Prop) (h0 : ∀ p H1, H p = none → Ex H H1 → H1 p = some (.tup xs) → Pv p 0 σ H1) (hl : ∀ p i σ' H', i ≤ xs.length → Pv p i σ' H' → SqT K H' p xs)
    (hs : ∀ p i x σ' H', xs[i]? = some x → Pv p i σ' H' → g x σ' H' fun σ2 H2 => tu { D with nx := Pv p (i + 1), ct := Pv p (i + 1), bk := tz D } σ2 H2) (hd : ∀ p σ' H', Pv p xs.length σ' H' → tz D σ' H') : tSeq (tFor (iTup K tl) g tu) tz D σ H :=
  s_forNU (D := { D with nx := tz D }) h Pv h0 hl hs hd
theorem s_asgD {i : Nat} {d : PyData} (h : EvD K te σ H d) (k : ∀ v H1, Ex H H1 → Dp K H1 v d → D.nx (σ.set i (some v)) H1) : tAsg te (gName i) D σ H := h H (Ex.refl H) _ fun v H1 e dv => k v H1 e dv
theorem q_asgD {i : Nat} {d : PyData} (h : EvD K te σ H d) (k : ∀ v H1, Ex H H1 → Dp K H1 v d → tz D (σ.set i (some v)) H1) : tSeq (tAsg te (gName i)) tz D σ H := s_asgD (D := { D with nx := tz D }) h k
end
end Kit
set_option Elab.async false
set_option linter.all false
set_option maxRecDepth 100000
set_option maxHeartbeats 4000000
namespace Kit
open PySem PySem.Spec PyProof.Rows L2 Evl
theorem slot_type_ne : Slot "type" (cmpInfo .NotEq).2.1 "object.__ne__" :=
  .of (owner := "object") (n := "__ne__") (by rw [typeLookup_type, builtinLookup_eq_fast]; kernel_rfl) (by decide +kernel) (by decide +kernel) (by decide +kernel)
    (by first | exact .inl (by decide +kernel) | exact .inr (by decide +kernel)) (by rw [isSubtype_type]; kernel_rfl)
theorem slot_type_eqN : Slot "type" "__eq__" "object.__eq__" :=
  .of (owner := "object") (n := "__eq__") (by rw [typeLookup_type, builtinLookup_eq_fast]; kernel_rfl) (by decide +kernel) (by decide +kernel) (by decide +kernel)
    (by first | exact .inl (by decide +kernel) | exact .inr (by decide +kernel)) (by rw [isSubtype_type]; kernel_rfl)
section
variable {prog : Program} {w : World} {A : Around} {E : Value → Shared → Prop} {s : Shared} {Q : Value → Shared → Prop}
theorem ne_type_same {X : String} (hX : ∀ s' : Shared, s'.TypeIs (.type X) "type") (hu : A.units + 1 < cLine) (h : Q (.bool false) s) : wpAny (model prog w) A (compareOp .NotEq (.type X) (.type X)) Q E s := by
  show wpAny _ A (richCompare .NotEq _ _) Q E s
  refine wpAny_richCompare_same (T := "type") (hX s) (hX s) slot_type_ne ?_
  refine wpAny_call_entry slot_type_ne (hX s) PySem.F.cmpEntry_ne ?_ (PySem.F.cmpArgs_ne _ _)
  unfold Builtin.«object.__ne__»
  have key : wpAny (model prog w) A.in1 (call (.builtin "object.__eq__") [.type X, .type X]) (fun v s' => v = .bool true ∧ s' = s) E s :=
    call_gives slot_type_eqN (hX s) F.entry_object_eq (F.args_object_eq_2 _ _) (PySem.TypeEq.object_eq_same rfl (by simp)) ⟨rfl, rfl⟩
  repeat (first
    | with_reducible refine wpAny_cRoomFor (by show A.units + 1 < cLine; exact hu) ?_
    | (refine wpAny_bind (m := callSpecialIfBound? (.type X) (Str.ofString "__eq__") [.type X])
        (wpAny_callSpecialIfBound?_slot (hX _) slot_type_eqN (wpAny_mono key (fun r s' hr => by
          obtain ⟨rfl, rfl⟩ := hr
          have hq : Q (.bool false) s' := h
          repeat (first | exact ⟨_, rfl, (by intro e; cases e), hq⟩ | exact wpAny_pure ⟨_, rfl, (by intro e; cases e), hq⟩ | (refine wpAny_bind (m := truthy (.bool _)) (wpAny_truthy_bool ?_)) | wp_step)) fun _ _ e => e)))
    | wp_step)
end
end Kit
set_option Elab.async false
set_option linter.all false
set_option maxRecDepth 100000
set_option maxHeartbeats 4000000
namespace Kit
open PySem PySem.Spec PyProof.Rows L2 Evl
section
variable {X : Cx}
def rNeTyS : R2 := fun x y H Q => ∃ m, x = .ty m ∧ y = .ty m ∧ Meta m ∧ Q (.bl false) H
theorem op_neTyS (hu : X.A.units + 1 < cLine) : OpR X (compareOp .NotEq) rNeTyS := by
  intro pins s σ H x y v u Q I rx ry h
  obtain ⟨m, rfl, rfl, hm, q⟩ := h
  cases (show v = Value.type m from rx)
  cases (show u = Value.type m from ry)
  exact ne_type_same hm hu ⟨.bl false, H, I, rfl, q⟩
/-- min of a tuple of ints -/
def rMinT (K : PySem.W.Frag) : List V → Hp → VK → Prop := fun vs H Q => ∃ (a : Addr) (n : Int) (ns : List Int), vs = [V.ref a] ∧ SqT K H a ((n :: ns).map V.int) ∧ Q (.int (ns.foldl min n)) H
theorem alike_ints (ns : List Int) : PySem.W.AlikeAll (ns.map PyData.int) := by
  refine ⟨fun x hx y hy => ?_, fun x hx => ?_⟩
  · obtain ⟨a, _, rfl⟩ := List.mem_map.mp hx
    obtain ⟨b, _, rfl⟩ := List.mem_map.mp hy
    rfl
  · obtain ⟨a, _, rfl⟩ := List.mem_map.mp hx
    exact fun z => by cases z
theorem depth_ints : ∀ ms : List Int, PyData.depthAll (ms.map PyData.int) = 0
  | [] => rfl
  | m :: r => by simp [PyData.depthAll, PyData.depth, depth_ints r]
theorem cr_minT (hc : X.calm = true) (hu : X.A.units + 1 < cLine) : CallR X (.builtin "min") (rMinT X.K) := by
  intro pins s σ H vs us Q I r h
  obtain ⟨a, n, ns, rfl, hs, q⟩ := h
  obtain ⟨its, rv, hl, _⟩ := I.tuple hs
  rw [Vals.ref1 r]
  obtain ⟨as, rd⟩ := Dp.readsAll I (PyData.int n :: ns.map PyData.int) _ its (dpa_ints (n :: ns)) rv
  refine PySem.W.min_tuple_data (I.ok.hd hc) (show s.heap.IsTuple a its.toArray from hl) (by simpa using rd) (alike_ints (n :: ns)) ?_ fun i v h' tk bs hv hr hk => ?_
  · have := depth_ints (n :: ns)
    rw [List.map_cons] at this
    rw [this]
    exact hu
  · rw [PySem.W.minD_ints] at hr
    cases hr with
    | int _ t => exact ⟨.int (ns.foldl min n), H, I.kept (t' := tk) hk, ⟨_, rfl⟩, q⟩
theorem foldl_min_spec : ∀ (ns : List Int) (n : Int), ns.foldl min n ∈ n :: ns ∧ ∀ y ∈ n :: ns, ns.foldl min n ≤ y
  | [], n => ⟨by simp, by simp⟩
  | k :: r, n => by
    obtain ⟨h1, h2⟩ := foldl_min_spec r (min n k)
    refine ⟨?_, fun y hy => ?_⟩
    · rcases List.mem_cons.mp h1 with e | e
      · rw [List.foldl_cons, e]
        rcases Int.le_total n k with h | h
        · rw [Int.min_eq_left h]; simp
        · rw [Int.min_eq_right h]; simp
      · simp [List.foldl_cons, e]
    · have h3 := h2 (min n k) (by simp)
      rw [List.foldl_cons]
      rcases List.mem_cons.mp hy with e | hy
      · omega
      · rcases List.mem_cons.mp hy with e | hy
        · omega
        · exact h2 y (by simp [hy])
end
/-! readings of these -/
section
variable {K : PySem.W.Frag} {σ : L2.St} {H H' : Hp} {ta tb te tl : TE} {D : Ends} {tu tz : TS} {t : TT}
theorem ev_typeL {p : Addr} {xs : List V} (h : Ev ta σ H (.ref p)) (hp : H p = some (.lst xs)) : Ev (tThenZ ta kTyp) σ H (.ty "list") := fun H1 e Q q => h H1 e _ fun H2 e2 => ⟨"list", by
  have := e2 p _ (e p _ hp)
  simp [zTyV, this], q H2 e2⟩
theorem ev_typeT {p : Addr} {xs : List V} (h : Ev ta σ H (.ref p)) (hp : H p = some (.tup xs)) : Ev (tThenZ ta kTyp) σ H (.ty "tuple") := fun H1 e Q q => h H1 e _ fun H2 e2 => ⟨"tuple", by
  have := e2 p _ (e p _ hp)
  simp [zTyV, this], q H2 e2⟩
theorem rv_neTyS {m : String} (hm : Meta m) : RV rNeTyS (.ty m) (.ty m) H (.bl false) := fun H1 _ _ q => ⟨m, rfl, rfl, hm, q H1 (Ex.refl H1)⟩
theorem ev_sumN {ns : List Int} (h : EvL ta σ H (ns.map V.int)) : Ev (tCB (rSum K) (tCons ta tNil)) σ H (.int ns.sum) := fun H1 e Q q => h H1 e _ fun p H2 _ e2 h2 => ⟨p, ns, rfl, sq_of h2, q H2 e2⟩
theorem ev_allN {bs : List Bool} (h : EvL ta σ H (bs.map V.bl)) : Ev (tCB (rAll K) (tCons ta tNil)) σ H (.bl (bs.all id)) := fun H1 e Q q => h H1 e _ fun p H2 _ e2 h2 => ⟨p, bs, rfl, sq_of h2, q H2 e2⟩
theorem ev_minT {p : Addr} {n : Int} {ns : List Int} (h : Ev ta σ H (.ref p)) (hp : SqT K H p ((n :: ns).map V.int)) : Ev (tCB (rMinT K) (tCons ta tNil)) σ H (.int (ns.foldl min n)) := fun H1 e Q q => h H1 e _ fun H2 e2 => ⟨p, n, ns, rfl, ex_t (e.trans e2) hp, q H2 e2⟩
/-- sorted(xs), told by what it is -/
theorem ed_sorted {p : Addr} {ns ms : List Int} (h : Ev ta σ H (.ref p)) (hp : SqL K H p (ns.map V.int)) (hl : ns.length < 64) (hm : ms.Perm ns) (hs : ms.Pairwise (· ≤ ·)) : EvD K (tCB (rSorted K) (tCons ta tNil)) σ H (.list (ms.map PyData.int)) := fun H1 e Q q => h H1 e _ fun H2 e2 =>
  ⟨p, ns, rfl, ex_l (e.trans e2) hp, hl, fun ns' l pm so new => by
    have eq : ns' = ms := by
      exact List.Perm.eq_of_pairwise (le := fun a b : Int => a ≤ b) (fun a b _ _ h1 h2 => Int.le_antisymm h1 h2) so hs (pm.trans hm.symm)
    subst eq
    exact q _ _ (e2.trans (Ex.new new)) (.lst (sq_of upd_same) (dpa_ints _))⟩
/-- a new tuple of a list's items -/
theorem eu_tupOf {p : Addr} {xs : List V} (h : Ev ta σ H (.ref p)) (hp : SqL K H p xs) : EvU (tCB (rTupS K) (tCons ta tNil)) σ H xs := fun H1 e Q q => h H1 e _ fun H2 e2 =>
  ⟨p, xs, rfl, ex_l (e.trans e2) hp, fun l hl => q l _ (fresh_back e2 hl) (e2.trans (Ex.new hl)) upd_same⟩
/-- [0] * n -/
theorem el_rep {xs : List V} {k : Int} (ha : EvL ta σ H xs) (hb : Ev tb σ H (.int k)) (h0 : 0 ≤ k) (h1 : k ≤ 1000) (hx : xs.length ≤ 50) : EvL (tOp rRep ta tb) σ H (List.replicate k.toNat xs).flatten := fun H1 e Q q =>
  ha H1 e _ fun p H2 hp e2 h2 => hb H2 (e.trans e2) _ fun H3 e3 => ⟨p, k, xs, rfl, rfl, e3 p _ h2, by omega, by omega, sz_of (by
    have : xs.length * k.toNat ≤ 50 * 1000 := Nat.mul_le_mul hx (by omega)
    omega), fun l hl => q l _ (fresh_back (e2.trans e3) hl) ((e2.trans e3).trans (Ex.new hl)) upd_same⟩
/-- xs[::-1] -/
theorem el_rev {p : Addr} {xs : List V} (h : Ev ta σ H (.ref p)) (hp : SqL K H p xs) : EvL (tRevL K ta) σ H xs.reverse := fun H1 e Q q => h H1 e _ fun H2 e2 =>
  ⟨p, xs, rfl, ex_l (e.trans e2) hp, fun l hl => q l _ (fresh_back e2 hl) (e2.trans (Ex.new hl)) upd_same⟩
theorem el_revN {xs : List V} (h : EvL ta σ H xs) : EvL (tRevL K ta) σ H xs.reverse := fun H1 e Q q => h H1 e _ fun p H2 _ e2 h2 =>
  ⟨p, xs, rfl, sq_of h2, fun l hl => q l _ (fresh_back e2 hl) (e2.trans (Ex.new hl)) upd_same⟩
/-- for i, x in enumerate(xs): the pair is a new tuple -/
theorem s_forEn {ta : TA} {i j : Nat} {a : Addr} {xs : List V} (h : EvA ta σ H [.ref a]) (hx : SqL K H a xs) (Pv : Nat → L2.St → Hp → Prop) (h0 : ∀ H1, Ex H H1 → Pv 0 σ H1) (hl : ∀ n σ' H', n ≤ xs.length → Pv n σ' H' → SqL K H' a xs)
    (hs : ∀ n x σ' H' H2, xs[n]? = some x → Pv n σ' H' → Ex H' H2 → tu { D with nx := Pv (n + 1), ct := Pv (n + 1), bk := D.nx } ((σ'.set i (some (.int (n : Int)))).set j (some x)) H2) (hd : ∀ σ' H', Pv xs.length σ' H' → D.nx σ' H') :
    tFor (iEnum K ta) (gTup K 2 (gCons (gName i) (gCons (gName j) gNil))) tu D σ H := h H (Ex.refl H) _ fun H1 e => ⟨a, xs, rfl, ex_l e hx, by
  refine for_it walk_enum Pv (h0 H1 e) (fun n σ' H' hn p => hl n σ' H' hn p) ?_ hd
  rintro n v σ' Hh H2 hn p ⟨T, x, y, rfl, nT, rfl, g1, g2⟩
  have ex : V.int (n : Nat) = x := Option.some.inj g1
  subst ex
  exact ⟨T, [.int (n : Nat), y], rfl, st_of upd_same, rfl, _, [y], rfl, y, [], rfl, rfl, hs n y σ' Hh _ g2 p (Ex.new nT)⟩⟩
theorem q_forEn {ta : TA} {i j : Nat} {a : Addr} {xs : List V} (h : EvA ta σ H [.ref a]) (hx : SqL K H a xs) (Pv : Nat → L2.St → Hp → Prop) (h0 : ∀ H1, Ex H H1 → Pv 0 σ H1) (hl : ∀ n σ' H', n ≤ xs.length → Pv n σ' H' → SqL K H' a xs)
    (hs : ∀ n x σ' H' H2, xs[n]? = some x → Pv n σ' H' → Ex H' H2 → tu { D with nx := Pv (n + 1), ct := Pv (n + 1), bk := tz D } ((σ'.set i (some (.int (n : Int)))).set j (some x)) H2) (hd : ∀ σ' H', Pv xs.length σ' H' → tz D σ' H') :
    tSeq (tFor (iEnum K ta) (gTup K 2 (gCons (gName i) (gCons (gName j) gNil))) tu) tz D σ H := s_forEn (D := { D with nx := tz D }) h hx Pv h0 hl hs hd
end
end Kit
set_option Elab.async false
set_option linter.all false
set_option maxRecDepth 100000
set_option maxHeartbeats 4000000
namespace Kit
open PySem PySem.Spec PyProof.Rows L2 Evl
/-! ### new lists of new tuples -/
def TL (H : Hp) (vs : List V) (rs : List (List V)) : Prop := Paired (fun v r => ∃ a, v = .ref a ∧ H a = some (.tup r)) vs rs
theorem TL.imp {H H' : Hp} (f : ∀ a r, H a = some (.tup r) → H' a = some (.tup r)) : ∀ {vs : List V} {rs : List (List V)}, TL H vs rs → TL H' vs rs
  | _, _, .nil => .nil
  | _, _, .cons ⟨a, e, h⟩ t => .cons ⟨a, e, f a _ h⟩ (TL.imp f t)
theorem TL.ex {H H' : Hp} {vs : List V} {rs : List (List V)} (e : Ex H H') (h : TL H vs rs) : TL H' vs rs := h.imp fun a r x => e a _ x
theorem TL.upd {H : Hp} {l : Addr} {xs : List V} {o : HO} {vs : List V} {rs : List (List V)} (hl : H l = some (.lst xs)) (h : TL H vs rs) : TL (upd H l o) vs rs := h.imp fun a r x => by
  rw [upd_ne (ne_of x hl (by intro z; cases z))]
  exact x
theorem TL.len {H : Hp} : ∀ {vs : List V} {rs : List (List V)}, TL H vs rs → vs.length = rs.length
  | _, _, .nil => rfl
  | _, _, .cons _ t => by rw [List.length_cons, List.length_cons, TL.len t]
theorem TL.app {H : Hp} {v : V} {r : List V} (hv : ∃ a, v = .ref a ∧ H a = some (.tup r)) : ∀ {vs : List V} {rs : List (List V)}, TL H vs rs → TL H (vs ++ [v]) (rs ++ [r])
  | _, _, .nil => .cons hv .nil
  | _, _, .cons q t => .cons q (TL.app hv t)
theorem TL.get {H : Hp} : ∀ {vs : List V} {rs : List (List V)} {i : Nat} {v : V}, TL H vs rs → vs[i]? = some v → ∃ a r, v = .ref a ∧ H a = some (.tup r) ∧ rs[i]? = some r
  | _, _, 0, v, .cons ⟨a, e, h⟩ t, hv => ⟨a, _, (Option.some.inj (by simpa using hv)).symm.trans e, h, rfl⟩
  | _, _, i + 1, v, .cons _ t, hv => by
    obtain ⟨a, r, h1, h2, h3⟩ := TL.get (i := i) t (by simpa using hv)
    exact ⟨a, r, h1, h2, by simpa using h3⟩
  | _, _, 0, v, .nil, hv => by simp at hv
  | _, _, i + 1, v, .nil, hv => by simp at hv
theorem TL.rev {H : Hp} : ∀ {vs : List V} {rs : List (List V)}, TL H vs rs → TL H vs.reverse rs.reverse
  | _, _, .nil => .nil
  | _, _, .cons q t => by
    rw [List.reverse_cons, List.reverse_cons]
    exact TL.app q (TL.rev t)
def EvLT (te : TE) (σ : L2.St) (H : Hp) (rs : List (List V)) : Prop := ∀ H1, Ex H H1 → ∀ Q : VK, (∀ p vs H2, H1 p = none → Ex H1 H2 → H2 p = some (.lst vs) → TL H2 vs rs → Q (.ref p) H2) → te σ H1 Q
section
variable {K : PySem.W.Frag} {σ : L2.St} {H H' : Hp} {te tl : TE} {D : Ends} {tz : TS} {t : TT}
/-- [a new tuple for i in range(n)] -/
theorem elt_R1 {ta : TA} {j : Nat} {vs : List Nat} {n : Int} (f : Nat → List V) (h : EvA ta σ H [.int n]) (hn : 0 ≤ n ∧ n ≤ 40000) (hw : ∀ x, wipe ((wipe σ vs).set j (some x)) vs = wipe σ vs)
    (he : ∀ (i : Nat) H1, Ex H H1 → (i : Int) < n → EvU te ((wipe σ vs).set j (some (.int (i : Int)))) H1 (f i)) : EvLT (tLc (iRng1 ta) (gName j) tYes te vs) σ H ((List.range n.toNat).map f) := fun H0 e Q q => h H0 e _ fun H1 e1 => ⟨n, rfl, by omega, by omega, fun Dl hD =>
  lc_range (lo := 0) (n := n.toNat) (fun i H' => Ex H1 H' ∧ ∃ ws, H' Dl = some (.lst ws) ∧ TL H' ws ((List.range i).map f)) ⟨Ex.new hD, [], upd_same, .nil⟩ (fun i H' hi p => by
    obtain ⟨p1, ws, p2, p3⟩ := p
    have e0 : (0 : Int) + (i : Int) = (i : Int) := Int.zero_add _
    show wipe ((wipe σ vs).set j (some (.int ((0 : Int) + (i : Int))))) vs = wipe σ vs ∧ te ((wipe σ vs).set j (some (.int ((0 : Int) + (i : Int))))) H' fun y H4 => ∃ acc, H4 Dl = some (.lst acc) ∧ acc.length < sizeLine ∧ _
    rw [e0]
    refine ⟨hw _, he i H1 (e.trans e1) (by omega) H' p1 _ fun p H4 hp e4 h4 => ⟨ws, e4 Dl _ p2, sz_lt (by
      have := p3.len
      simp at this
      omega), Ex.mut (p1.trans e4) hD, ws ++ [.ref p], upd_same, ?_⟩⟩
    rw [List.range_succ, List.map_append]
    exact ((p3.ex e4).app ⟨p, rfl, h4⟩).upd (e4 Dl _ p2)) (fun H' p => by
      obtain ⟨p1, ws, p2, p3⟩ := p
      exact q Dl ws H' (fresh_back e1 hD) (e1.trans p1) p2 p3)⟩
/-- [a new tuple for x in xs] -/
theorem elt_map {a : Addr} {xs : List V} {j : Nat} {vs : List Nat} (f : Nat → List V) (h : Ev tl σ H (.ref a)) (hx : SqL K H a xs) (hz : xs.length ≤ 40000) (hw : ∀ x, wipe ((wipe σ vs).set j (some x)) vs = wipe σ vs)
    (he : ∀ (i : Nat) (x : V) H1, Ex H H1 → xs[i]? = some x → EvU te ((wipe σ vs).set j (some x)) H1 (f i)) : EvLT (tLc (iList K tl) (gName j) tYes te vs) σ H ((List.range xs.length).map f) := fun H0 e Q q => h H0 e _ fun H1 e1 => ⟨a, rfl, ⟨xs, ex_l (e.trans e1) hx⟩, fun Dl hD =>
  lc_list (xs := xs) (fun i H' => Ex H1 H' ∧ ∃ ws, H' Dl = some (.lst ws) ∧ TL H' ws ((List.range i).map f)) ⟨Ex.new hD, [], upd_same, .nil⟩ (fun i H' _ p => ex_l ((e.trans e1).trans p.1) hx) (fun i x H' hi p => by
    obtain ⟨p1, ws, p2, p3⟩ := p
    show wipe ((wipe σ vs).set j (some x)) vs = wipe σ vs ∧ te ((wipe σ vs).set j (some x)) H' fun y H4 => ∃ acc, H4 Dl = some (.lst acc) ∧ acc.length < sizeLine ∧ _
    refine ⟨hw _, he i x H1 (e.trans e1) hi H' p1 _ fun p H4 hp e4 h4 => ⟨ws, e4 Dl _ p2, sz_lt (by
      have := p3.len
      have := (List.getElem?_eq_some_iff.mp hi).1
      simp at *
      omega), Ex.mut (p1.trans e4) hD, ws ++ [.ref p], upd_same, ?_⟩⟩
    rw [List.range_succ, List.map_append]
    exact ((p3.ex e4).app ⟨p, rfl, h4⟩).upd (e4 Dl _ p2)) (fun H' p => by
      obtain ⟨p1, ws, p2, p3⟩ := p
      exact q Dl ws H' (fresh_back e1 hD) (e1.trans p1) p2 p3)⟩
theorem range_get {α : Type} (rs : List α) (d : α) : rs = (List.range rs.length).map fun i => rs.getD i d := by
  refine List.ext_getElem (by simp) fun i h1 h2 => ?_
  simp [h1]
theorem paired_map {α β γ : Type} {F : β → γ → Prop} (f : α → β) (g : α → γ) : ∀ l : List α, (∀ x ∈ l, F (f x) (g x)) → Paired F (l.map f) (l.map g)
  | [], _ => .nil
  | x :: r, h => .cons (h x (by simp)) (paired_map f g r fun y hy => h y (by simp [hy]))
/-- [x for x in xs if test(x)], xs a list of tuples, the test P of the tuple's items -/
theorem elt_filter {a : Addr} {xs : List V} {rs : List (List V)} {j : Nat} {vs : List Nat} (P : List V → Bool) (h : Ev tl σ H (.ref a)) (hx : SqL K H a xs) (ht : TL H xs rs) (hz : xs.length ≤ 40000) (hw : ∀ x, wipe ((wipe σ vs).set j (some x)) vs = wipe σ vs) (hj : ∀ x, ((wipe σ vs).set j (some x))[j]? = some (some x))
    (he : ∀ (b : Addr) (r : List V) H1, Ex H H1 → r ∈ rs → H1 b = some (.tup r) → EvT t ((wipe σ vs).set j (some (.ref b))) H1 (P r)) : EvLT (tLc (iList K tl) (gName j) t (tVar j) vs) σ H (rs.filter P) := fun H0 e Q q => by
  refine el_lcL (K := K) (f := fun i => P (rs.getD i [])) (v := fun i => xs.getD i .non) h hx hz hw (fun i x H1 e1 hi => ?_) (fun i x H1 e1 hi hf => ?_) H0 e Q fun p H2 hp e2 h2 => ?_
  · obtain ⟨b, r, rfl, hb, hr⟩ := ht.get hi
    have g : rs.getD i [] = r := by rw [List.getD_eq_getElem?_getD, hr] <;> rfl
    show EvT _ _ _ (P (rs.getD i []))
    rw [g]
    exact he b r H1 e1 (List.mem_of_getElem? hr) (e1 b _ hb)
  · have g : xs.getD i .non = x := by rw [List.getD_eq_getElem?_getD, hi] <;> rfl
    show Ev _ _ _ (xs.getD i .non)
    rw [g]
    exact ev_var (hj x)
  · refine q p _ H2 hp e2 h2 ?_
    have e3 : rs.filter P = ((List.range rs.length).filter fun i => P (rs.getD i [])).map fun i => rs.getD i [] := by
      conv => lhs; rw [range_get rs [], List.filter_map]
      rfl
    unfold given
    rw [e3, ht.len]
    refine paired_map _ _ _ fun i hi => ?_
    have hi := List.mem_range.mp (List.mem_filter.mp hi).1
    have hlx : i < xs.length := by rw [ht.len]; exact hi
    obtain ⟨b, r, h1, h2', h3⟩ := ht.get (List.getElem?_eq_getElem hlx)
    refine ⟨b, ?_, ?_⟩
    · rw [List.getD_eq_getElem?_getD, List.getElem?_eq_getElem hlx, h1]
      rfl
    · rw [List.getD_eq_getElem?_getD, h3]
      exact (e.trans e2) b _ h2'
theorem q_asgLT {i : Nat} {rs : List (List V)} (h : EvLT te σ H rs) (k : ∀ p vs H1, H p = none → Ex H H1 → H1 p = some (.lst vs) → TL H1 vs rs → tz D (σ.set i (some (.ref p))) H1) : tSeq (tAsg te (gName i)) tz D σ H := h H (Ex.refl H) _ fun p vs H1 hp e h1 h2 => k p vs H1 hp e h1 h2
theorem s_retLT {rs : List (List V)} (h : EvLT te σ H rs) (k : ∀ p vs H1, H p = none → Ex H H1 → H1 p = some (.lst vs) → TL H1 vs rs → D.rt (.ref p) H1) : tRet te D σ H := h H (Ex.refl H) _ k
end
end Kit
set_option Elab.async false
set_option linter.all false
set_option maxRecDepth 100000
set_option maxHeartbeats 4000000
namespace Kit
open PySem PySem.Spec PyProof.Rows L2 Evl
theorem meets_enum_new1 {v : Value} {o : Obj} {H : Heap → Prop} (B : Begins v o H) :
    Meets (Builtin.«enumerate.__new__» ⟨[.type "enumerate", v], []⟩) (fun _ R s => H s.heap ∧
      R (.ok (.ret (.ref (s.heap.push o).objs.size))) { s with heap := (s.heap.push o).push { cls := .type "enumerate", data := .fields #[.none, .bool false, .ref s.heap.objs.size, rawInt 0, .none, .none] } }) :=
  .of_wp fun prog w A R s h => by
    obtain ⟨hp, g, d, tk, os⟩ := s; obtain ⟨h1, h⟩ := h
    have hsub := sub_enumerate
    have q1 : ∀ {A' : Around} {E : Value → Shared → Prop} {Q : Value → Shared → Prop}, Q (.ref hp.objs.size) ⟨hp.push o, g, d, tk, os⟩ → wpAny (model prog w) A' (pyIter v) Q E ⟨hp, g, d, tk, os⟩ :=
      fun q => B.iter prog w _ _ ⟨hp, g, d, tk, os⟩ _ h1 q
    wp_walk using q1
    refine wpAny_stack_any fun st => wpAny_pure ?_
    split
    · rename_i c _ _ _ _ _
      cases (c == Value.type "enumerate")
      · wp_walk using q1
        exact ⟨_, rfl, h⟩
      · wp_walk using q1
        exact ⟨_, rfl, h⟩
    · wp_walk using q1
      exact ⟨_, rfl, h⟩
section
variable {prog : Program} {w : World} {A : Around} {E : Value → Shared → Prop} {s : Shared}
theorem enum_begins1 {v : Value} {o : Obj} {H : Heap → Prop} {Q : Value → Shared → Prop} (B : Begins v o H) (h1 : H s.heap)
    (h : ∀ h', IsEnum h' (s.heap.objs.size + 1) s.heap.objs.size 0 .none → h'.get? s.heap.objs.size = some o → h'.objs.size = s.heap.objs.size + 2 →
      (∀ b o, s.heap.get? b = some o → h'.get? b = some o) → Q (.ref (s.heap.objs.size + 1)) { s with heap := h' }) :
    wpAny (model prog w) A (call (.type "enumerate") [v]) Q E s := by
  refine callType_new F.called_enumerate (by decide) (F.typeCall_enumerate_1 _) (F.newCall_enumerate_1 _) (fun obj => F.args_object_init_2 obj _) F.entry_enumerate_new
    (meets_enum_new1 B) ⟨h1, ?_⟩
  have hz : (s.heap.push o).objs.size = s.heap.objs.size + 1 := Heap.size_push ..
  show _ ∧ _
  rw [hz]
  have he : IsEnum ((s.heap.push o).push { cls := .type "enumerate", data := .fields #[.none, .bool false, .ref s.heap.objs.size, rawInt 0, .none, .none] }) (s.heap.objs.size + 1) s.heap.objs.size 0 .none := by
    have := Heap.get?_push_size (s.heap.push o) (o := { cls := .type "enumerate", data := .fields #[.none, .bool false, .ref s.heap.objs.size, rawInt 0, .none, .none] }) rfl
    rw [hz] at this; exact this
  refine ⟨⟨_, he, rfl⟩, h _ he (Heap.get?_push_of_some _ (Heap.get?_push_size _ B.free)) (by rw [Heap.size_push, hz]) fun b o x => Heap.get?_push_of_some _ (Heap.get?_push_of_some _ x)⟩
end
end Kit
set_option Elab.async false
set_option linter.all false
set_option maxRecDepth 100000
set_option maxHeartbeats 4000000
namespace Kit
open PySem PySem.Spec PyProof.Rows L2 Evl
/-- the tuple at a, each item in a new pair -/
def IteT (K : PySem.W.Frag) (a : Addr) : It :=
  ⟨fun i H => ∃ (xs : List V) (x : V), SqT K H a xs ∧ xs[i]? = some x, fun i H v H' => ∃ T x, v = .ref T ∧ H T = none ∧ H' = upd H T (.tup [.int (i : Nat), x]) ∧ ∀ xs, SqT K H a xs → xs[i]? = some x, fun i H => ∃ xs : List V, SqT K H a xs ∧ xs.length = i⟩
theorem enum_ne {h : Heap} {e it t : Addr} {i : Int} {old : Value} {vs : Array Value} (he : IsEnum h e it i old) (ht : h.IsTuple t vs) : e ≠ t := fun z => by
  subst z
  obtain ⟨o, ho, hc, _⟩ := ht
  have he' : h.get? e = _ := he
  rw [he'] at ho
  cases ho
  exact absurd hc (by show ¬ (Value.type "enumerate" = Value.type "tuple"); decide +kernel)
theorem turn_enumT {P : Program} {w : World} {K : PySem.W.Frag} {elts : List Expr} {kk : Nat} {tpos : Pos} (a e it : Addr) :
    Turn P w K (.Tuple elts kk tpos) (IteT K a) [e, it] e (fun i h => (∃ old, IsEnum h e it ((i : Nat) : Int) old) ∧ h.IsTupleIter it a i ∧ e ≠ it) where
  mem := by simp
  obj := fun i h st b hb => by
    obtain ⟨⟨old, he⟩, ⟨o, ho, hc, hd⟩, _⟩ := st
    have e' : b = e ∨ b = it := by simpa using hb
    rcases e' with z | z
    · rw [z]; exact ⟨_, he, fun v q => nomatch q⟩
    · rw [z]; exact ⟨o, ho, fun v q => by rw [hd] at q; cases q⟩
  keep := fun i h h' st k => by
    obtain ⟨⟨old, he⟩, ⟨o, ho, hr⟩, hne⟩ := st
    exact ⟨⟨old, k e (by simp) _ he⟩, ⟨o, k it (by simp) o ho, hr⟩, hne⟩
  item := by
    intro X hP hw hK hc i pins s σ H E I hf st hg
    subst hP hw hK
    obtain ⟨⟨old, he⟩, hit, hne⟩ := st
    obtain ⟨xs, x, hq, hx⟩ := hg
    obtain ⟨its, rv, p, hz⟩ := I.tuple hq
    obtain ⟨u, hu, ru⟩ := rv.get hx
    have hel : e < s.heap.objs.size := Heap.lt_size he
    have hil : it < s.heap.objs.size := by obtain ⟨_, q, _⟩ := hit; exact Heap.lt_size q
    have pT : s.heap.IsTuple a its.toArray := p
    have nea : e ≠ a := enum_ne he pT
    have nit : a ≠ it := fun z => by
      subst z
      obtain ⟨o, ho, hc', _⟩ := pT
      obtain ⟨o', ho', hc'', _⟩ := hit
      rw [ho] at ho'
      cases ho'
      rw [hc'] at hc''
      exact absurd hc'' (by decide +kernel)
    have hlt : i < its.toArray.size := by
      have := (List.getElem?_eq_some_iff.mp hu).1
      simpa using this
    refine wpAny_pyNext_enum_itemD (Draws.tuple (by exact I.ok.hd hc) it a nit its.toArray) he ⟨hit, pT⟩ hlt hne (by simp [hne, nea]) fun x' h' tk hx' ho hst' hT hsz hk => ?_
    have eu : u = x' := by
      have : its[i]? = some x' := by simpa using hx'
      rw [hu] at this
      exact Option.some.inj this
    subst eu
    refine ⟨_, rfl, wpAny_letOwnedTupleGo_enum (s := { s with heap := h', toks := tk + 1 }) ho fun h'' he' sb => ?_⟩
    have hT2 : h''.get? s.heap.objs.size = some { cls := .type "tuple", data := .seq #[.int i tk, u] } := (sb.2 _ (Nat.ne_of_gt hel)).trans hT
    have new : ObjOk X.prog X.w (upd H s.heap.objs.size (.tup [.int (i : Nat), x])) h'' s.heap.objs.size (.tup [.int (i : Nat), x]) :=
      ⟨by show 2 ≤ sizeLine; decide, [.int i tk, u], .cons ⟨_, rfl⟩ (.cons ru .nil), ⟨_, hT2, rfl, _, rfl⟩⟩
    have I1 : Inv X pins σ (upd H s.heap.objs.size (.tup [.int (i : Nat), x])) { s with heap := h'', toks := tk + 1 } :=
      I.turnedNew (ch := [e, it]) (fun b ob hb q => (sb.2 b (fun z => hb (by simp [z]))).trans (hk b ob (fun z => hb (by simp [z])) (fun z => hb (by simp [z])) q)) hf (Nat.le_refl _) new
    refine ⟨.ref s.heap.objs.size, _, I1, rfl, ⟨_, x, rfl, I.hok.fresh (Nat.le_refl _), rfl, fun ys hy => by rw [I.tuple_inj hy hq]; exact hx⟩, ⟨⟨u, ?_⟩, ?_, hne⟩, fun b hb => ?_⟩
    · have e1 : ((i + 1 : Nat) : Int) = (i : Int) + 1 := by omega
      rw [e1]; exact he'
    · obtain ⟨o, q, r⟩ := hst'.1
      exact ⟨o, (sb.2 it (Ne.symm hne)).trans q, r⟩
    · have hb' : b < s.heap.objs.size := by
        have e' : b = e ∨ b = it := by simpa using hb
        rcases e' with z | z
        · rw [z]; exact hel
        · rw [z]; exact hil
      rw [upd_ne (Nat.ne_of_lt hb')]
      exact (hf b hb).1
  done := by
    intro X hP hw hK hc i pins s σ H E I hf st hg
    subst hP hw hK
    obtain ⟨⟨old, he⟩, hit, hne⟩ := st
    obtain ⟨xs, hq, hx⟩ := hg
    obtain ⟨its, rv, p, hz⟩ := I.tuple hq
    obtain ⟨f0, f1, f2, f3, f4, f5⟩ := hf it (by simp)
    have hl := rv.length
    have pT : s.heap.IsTuple a its.toArray := p
    have nit : a ≠ it := fun z => by
      subst z
      obtain ⟨o, ho, hc', _⟩ := pT
      obtain ⟨o', ho', hc'', _⟩ := hit
      rw [ho] at ho'
      cases ho'
      rw [hc'] at hc''
      exact absurd hc'' (by decide +kernel)
    have hn : its.toArray.size = i := by
      rw [← hx, hl]
      simp
    subst hn
    exact wpAny_pyNext_enum_endD (Draws.tuple (by exact I.ok.hd hc) it a nit its.toArray) he ⟨hit, pT⟩ fun h' eb => ⟨rfl, I.turned (t' := s.toks) (fun b o hb q => eb b o hb q) f0 f1 f3 f4 f5⟩
  self := fun A i s Q E st h => let ⟨⟨_, he⟩, _⟩ := st; wpAny_pyIter_enum he h
def iEnumS (K : PySem.W.Frag) (ta : TA) : TI := fun σ H R => ta σ H fun vs H1 => ∃ a xs, vs = [.ref a] ∧ ((SqL K H1 a xs ∧ R (Ite K a) H1) ∨ (SqT K H1 a xs ∧ R (IteT K a) H1))
theorem pi_enumS {X : Cx} {e : Expr} {ta : TA} {p pos tpos : Pos} {elts : List Expr} {kk : Nat} (hg : Gl X "enumerate") (hm : X.mg "enumerate" = none) (ha : PA X [e] ta) (hs : starEach [e] X.env = [(false, eval e X.env)] := by rfl) :
    PI X (.Tuple elts kk tpos) (.Call (.Name "enumerate" p) [e] [] pos) (iEnumS X.K ta) := by
  refine ⟨fun pins s σ H R I h => ?_⟩
  refine Call_ (ld_blt I hg hm boot_enumerate (PyProof.Rows.callWith_type1 (thn (ha.run pos pins s σ H _ I h) fun us s1 ⟨vs, H1, I1, r1, q1⟩ => ?_) hs rfl))
  obtain ⟨a, xs, ex, q1⟩ := q1
  subst ex
  cases r1 with
  | cons r rr =>
    cases rr
    cases r
    have fin : ∀ (h' : Heap) (itx : Addr), itx = s1.heap.objs.size → (∀ b o, s1.heap.get? b = some o → h'.get? b = some o) → ∀ b ∈ [s1.heap.objs.size + 1, itx], FpOk X pins H1 b := fun h' itx ei hk b hb => by
      have hle : s1.heap.objs.size ≤ b := by
        have e' : b = s1.heap.objs.size + 1 ∨ b = itx := by simpa using hb
        rcases e' with z | z
        · rw [z]; exact Nat.le_add_right _ _
        · rw [z, ei]; exact Nat.le_refl _
      exact I1.fpOk hle (I1.hok.fresh hle)
    rcases q1 with ⟨hq, q⟩ | ⟨hq, q⟩
    · obtain ⟨its, rv, p', hz⟩ := I1.list hq
      refine call_enumerate_list p'.isList fun h' he hit hsz hk => wpAny_pyIter_enum he ?_
      have I2 : Inv X pins σ H1 { s1 with heap := h' } := I1.kept (t' := s1.toks) hk
      exact ⟨s1.heap.objs.size + 1, [s1.heap.objs.size + 1, s1.heap.objs.size], _, _, H1, rfl, I2, turn_enum a (s1.heap.objs.size + 1) s1.heap.objs.size, ⟨⟨.none, he⟩, hit, Nat.succ_ne_self _⟩, fin h' _ rfl hk, q⟩
    · obtain ⟨its, rv, p', hz⟩ := I1.tuple hq
      refine enum_begins1 (begins_tuple a its.toArray) (show s1.heap.IsTuple a its.toArray from p') fun h' he hit hsz hk => wpAny_pyIter_enum he ?_
      have I2 : Inv X pins σ H1 { s1 with heap := h' } := I1.kept (t' := s1.toks) hk
      exact ⟨s1.heap.objs.size + 1, [s1.heap.objs.size + 1, s1.heap.objs.size], _, _, H1, rfl, I2, turn_enumT a (s1.heap.objs.size + 1) s1.heap.objs.size, ⟨⟨.none, he⟩, ⟨_, hit, rfl, rfl⟩, Nat.succ_ne_self _⟩, fin h' _ rfl hk, q⟩
theorem walk_enumT {K : PySem.W.Frag} {a : Addr} {xs : List V} : Walk (IteT K a) xs.length (fun H => SqT K H a xs) (YPair (fun i => some (.int (i : Nat))) (fun i => xs[i]?)) := by
  refine ⟨fun i _ hi q => ⟨xs, xs[i], q, by simp [hi]⟩, fun _ q => ⟨xs, q, rfl⟩, fun i H v H' _ q y => ?_⟩
  obtain ⟨T, x, h1, h2, h3, h4⟩ := y
  exact ⟨T, .int (i : Nat), x, h1, h2, h3, rfl, h4 xs q⟩
section
variable {K : PySem.W.Frag} {σ : L2.St} {H H' : Hp} {D : Ends} {tu tz : TS}
/-- for i, x in enumerate(xs), xs a list or a tuple -/
theorem s_forEnS {ta : TA} {i j : Nat} {a : Addr} {xs : List V} (h : EvA ta σ H [.ref a]) (G : Hp → Prop) (hG : (∀ H, G H → SqL K H a xs) ∨ (∀ H, G H → SqT K H a xs)) (hx : ∀ H1, Ex H H1 → G H1) (Pv : Nat → L2.St → Hp → Prop) (h0 : ∀ H1, Ex H H1 → Pv 0 σ H1) (hl : ∀ n σ' H', n ≤ xs.length → Pv n σ' H' → G H')
    (hs : ∀ n x σ' H' H2, xs[n]? = some x → Pv n σ' H' → Ex H' H2 → tu { D with nx := Pv (n + 1), ct := Pv (n + 1), bk := D.nx } ((σ'.set i (some (.int (n : Int)))).set j (some x)) H2) (hd : ∀ σ' H', Pv xs.length σ' H' → D.nx σ' H') :
    tFor (iEnumS K ta) (gTup K 2 (gCons (gName i) (gCons (gName j) gNil))) tu D σ H := h H (Ex.refl H) _ fun H1 e => by
  have turn : ∀ n v σ' Hh H2, n < xs.length → Pv n σ' Hh → YPair (fun i => some (.int (i : Nat))) (fun i => xs[i]?) n Hh v H2 → gTup K 2 (gCons (gName i) (gCons (gName j) gNil)) v σ' H2 fun σ2 H3 => tu { D with nx := Pv (n + 1), ct := Pv (n + 1), bk := D.nx } σ2 H3 := by
    rintro n v σ' Hh H2 hn p ⟨T, x, y, rfl, nT, rfl, g1, g2⟩
    have ex : V.int (n : Nat) = x := Option.some.inj g1
    subst ex
    exact ⟨T, [.int (n : Nat), y], rfl, st_of upd_same, rfl, _, [y], rfl, y, [], rfl, rfl, hs n y σ' Hh _ g2 p (Ex.new nT)⟩
  rcases hG with hG | hG
  · exact ⟨a, xs, rfl, .inl ⟨hG _ (hx H1 e), for_it walk_enum Pv (h0 H1 e) (fun n σ' H' hn p => hG _ (hl n σ' H' hn p)) (fun n v σ' Hh H2 => turn n v σ' Hh H2) hd⟩⟩
  · exact ⟨a, xs, rfl, .inr ⟨hG _ (hx H1 e), for_it walk_enumT Pv (h0 H1 e) (fun n σ' H' hn p => hG _ (hl n σ' H' hn p)) (fun n v σ' Hh H2 => turn n v σ' Hh H2) hd⟩⟩
end
end Kit
set_option Elab.async false
set_option linter.all false
set_option maxRecDepth 100000
set_option maxHeartbeats 4000000
namespace Kit
open PySem PySem.Spec PyProof.Rows L2 Evl
/-! list(range(a, b, c)) -/
def rgC (i c : Int) (n : Nat) : List V := (List.range n).map fun k => V.int (i + (k : Nat) * c)
def PRgC (X : Cx) (e : Expr) (t : L2.St → Hp → (Int → Int → Int → Hp → Prop) → Prop) : Prop :=
  ∀ (pins : List (Addr × Obj)) (s : Shared) (σ : L2.St) (H : Hp) (Q : Int → Int → Int → Hp → Prop), Inv X pins σ H s → t σ H Q →
    wpAny (model X.prog X.w) X.A (eval e X.env) (fun x s' => ∃ r a b c t u v H', x = .ref r ∧ IsRange s'.heap r a b c t u v ∧ Inv X pins σ H' s' ∧ Q a b c H') X.xe s
def tRg3 (ta : TA) : L2.St → Hp → (Int → Int → Int → Hp → Prop) → Prop := fun σ H Q => ta σ H fun vs H1 => ∃ i j c, vs = [.int i, .int j, .int c] ∧ (c ≠ 0 ∧ c.natAbs < 1073741824) ∧ Q i j c H1
section
variable {X : Cx}
theorem prg_3 {a b c : Expr} {ta : TA} {p pos : Pos} (hg : Gl X "range") (hm : X.mg "range" = none) (ha : PA X [a, b, c] ta)
    (hs : starEach [a, b, c] X.env = (false, eval a X.env) :: starEach [b, c] X.env := by rfl) (hpl : (backTo pos (starEach [b, c] X.env)).any (·.1) = false := by rfl) : PRgC X (.Call (.Name "range" p) [a, b, c] [] pos) (tRg3 ta) := by
  intro pins s σ H Q I h
  refine Call_ (ld_blt I hg hm boot_range (PyProof.Rows.callWith_type1 (thn (ha.run pos pins s σ H _ I h) fun us s1 ⟨vs, H1, I1, r1, q1⟩ => ?_) hs hpl))
  obtain ⟨i, j, k, e, ⟨c0, c1⟩, q⟩ := q1
  subst e
  cases r1 with
  | cons r rr =>
    cases rr with
    | cons r' rr =>
      cases rr with
      | cons r'' rr =>
        cases rr
        obtain ⟨t, rfl⟩ := r
        obtain ⟨t', rfl⟩ := r'
        obtain ⟨t'', rfl⟩ := r''
        exact call_range_3 c0 ⟨_, i, j, k, _, _, _, H1, rfl, IsRange.new _ _ _ _ _ _ _, I1.kept fun b u e => Heap.get?_push_of_some _ e, q⟩ (.inl (PyProof.noPylong_small c1))
theorem vals_rgC {a c : Int} {n : Nat} {acc : Array Value} (h : ItemsOf (fun i v => ∃ t, v = .int (a + i * c) t) acc n) : Vals (rgC a c n) acc.toList := by
  have e : acc.toList.length = n := by rw [Array.length_toList]; exact h.1
  unfold rgC
  rw [← e]
  refine vals_of_get acc.toList _ fun j u hj => ?_
  obtain ⟨t, rfl⟩ := h.2 j u (by rw [← hj, Array.getElem?_toList])
  exact ⟨t, rfl⟩
def tLstRgC (te : L2.St → Hp → (Int → Int → Int → Hp → Prop) → Prop) : TE := fun σ H Q => te σ H fun a b c H1 => ∃ n : Nat, (Builtin.Range.small a b c = true ∧ Builtin.Range.rangeSize a b c = n ∧ n ≤ 2 ^ 24) ∧ ∀ q, H1 q = none → Q (.ref q) (upd H1 q (.lst (rgC a c n)))
theorem pe_listRgC {e : Expr} {te : L2.St → Hp → (Int → Int → Int → Hp → Prop) → Prop} {p pos : Pos} (hc : X.calm = true) (hg : Gl X "list") (hm : X.mg "list" = none) (he : PRgC X e te) (na : starEach [e] X.env = (false, eval e X.env) :: starEach [] X.env := by rfl) : PE X (.Call (.Name "list" p) [e] [] pos) (tLstRgC te) := by
  refine ⟨fun pins s σ H Q I h => ?_⟩
  refine Call_ (ld_blt I hg hm boot_list (PyProof.Rows.callWith_type1 (args_cons (thn (he pins s σ H _ I h) fun x s1 ⟨r, a, b, c, t, u, v, H1, ex, hr, I1, n, ⟨ok1, ok2, ok3⟩, q⟩ => args_nil ?_) na) na))
  subst ex
  refine call_list_range (n := n) (I1.ok.hd hc) hr ok1 ok2 ok3 fun h' tk acc c' hk e' hi => ?_
  refine ⟨.ref s1.heap.objs.size, upd H1 s1.heap.objs.size (.lst (rgC a c n)), I1.laid hk (Nat.le_refl _) (show ObjOk X.prog X.w _ _ _ (.lst (rgC a c n)) from ⟨?_, acc.toList, c', vals_rgC hi, ?_⟩), rfl, q _ (I1.hok.fresh (Nat.le_refl _))⟩
  · unfold rgC
    rw [List.length_map, List.length_range, sizeLine_eq]
    omega
  · rw [Array.toArray_toList]; exact e'
end
theorem el_down {σ : L2.St} {H : Hp} {ta : TA} {i j : Int} (h : EvA ta σ H [.int i, .int j, .int (-1)]) (hi : 0 ≤ i ∧ i ≤ 1000) (hj : -1 ≤ j ∧ j ≤ 1000) : EvL (tLstRgC (tRg3 ta)) σ H (rgC i (-1) (i - j).toNat) := fun H1 e Q q =>
  h H1 e _ fun H2 e2 => ⟨i, j, -1, rfl, ⟨by decide, by decide⟩, (i - j).toNat, ⟨(RgC.neg (by omega) (by omega) (by omega) (by omega)).2.2.1, (RgC.neg (by omega) (by omega) (by omega) (by omega)).2.2.2, by omega⟩, fun l hl => q l _ (fresh_back e2 hl) (e2.trans (Ex.new hl)) upd_same⟩
end Kit
namespace Kit
open PySem PySem.Spec PyProof.Rows L2 Evl
theorem pe_revLK {X : Cx} {K : PySem.W.Frag} {e : Expr} {te : TE} {k : Nat} {p1 p2 p3 pos : Pos} (hK : X.K = K) (he : PE X e te) : PE X (.Subscript e (.Slice none none (some (.UnaryOp .USub (.Constant (.int 1) k p1) p2)) p3) pos) (tRevL K te) := by
  subst hK
  exact pe_revL he
end Kit
namespace K03
open PySem PySem.Spec PyProof.Rows L2 Evl Kit
def topS (i : Nat) : Stmt := PySem.Challenge.pw_newtables_k03_tables_and_records.main.body.getD i (.Pass ⟨0, 0, 0, 0⟩)
abbrev s_is_whole : Stmt := topS 7
abbrev n_is_whole : List Str := ["thing"]
theorem sc_is_whole : FnScope n_is_whole ["thing"] (defScope s_is_whole) := ⟨rfl, rfl, rfl, by decide +kernel, rfl, by decide +kernel, by decide +kernel⟩
abbrev s_is_order : Stmt := topS 8
abbrev n_is_order : List Str := ["thing", "item"]
theorem sc_is_order : FnScope n_is_order ["thing"] (defScope s_is_order) := ⟨rfl, rfl, rfl, by decide +kernel, rfl, by decide +kernel, by decide +kernel⟩
abbrev s_is_seating : Stmt := topS 10
abbrev n_is_seating : List Str := ["thing"]
theorem sc_is_seating : FnScope n_is_seating ["thing"] (defScope s_is_seating) := ⟨rfl, rfl, rfl, by decide +kernel, rfl, by decide +kernel, by decide +kernel⟩
abbrev s_tables_of : Stmt := topS 11
abbrev n_tables_of : List Str := ["seating"]
theorem sc_tables_of : FnScope n_tables_of ["seating"] (defScope s_tables_of) := ⟨rfl, rfl, rfl, by decide +kernel, rfl, by decide +kernel, by decide +kernel⟩
abbrev s_seating_of : Stmt := topS 12
abbrev n_seating_of : List Str := ["tables"]
theorem sc_seating_of : FnScope n_seating_of ["tables"] (defScope s_seating_of) := ⟨rfl, rfl, rfl, by decide +kernel, rfl, by decide +kernel, by decide +kernel⟩
abbrev s_renamed : Stmt := topS 13
abbrev n_renamed : List Str := ["seating", "names", "renewed", "guest", "left"]
theorem sc_renamed : FnScope n_renamed ["seating", "names"] (defScope s_renamed) := ⟨rfl, rfl, rfl, by decide +kernel, rfl, by decide +kernel, by decide +kernel⟩
abbrev s_record_list : Stmt := topS 14
abbrev n_record_list : List Str := ["seating", "table", "guest"]
theorem sc_record_list : FnScope n_record_list ["seating"] (defScope s_record_list) := ⟨rfl, rfl, rfl, by decide +kernel, rfl, by decide +kernel, by decide +kernel⟩
abbrev s_seating_of_records : Stmt := topS 15
abbrev n_seating_of_records : List Str := ["names", "tables", "guest"]
theorem sc_seating_of_records : FnScope n_seating_of_records ["names"] (defScope s_seating_of_records) := ⟨rfl, rfl, rfl, by decide +kernel, rfl, by decide +kernel, by decide +kernel⟩
abbrev s_check_seating : Stmt := topS 16
abbrev n_check_seating : List Str := ["seating"]
theorem sc_check_seating : FnScope n_check_seating ["seating"] (defScope s_check_seating) := ⟨rfl, rfl, rfl, by decide +kernel, rfl, by decide +kernel, by decide +kernel⟩
abbrev s_check_names : Stmt := topS 17
abbrev n_check_names : List Str := ["names"]
theorem sc_check_names : FnScope n_check_names ["names"] (defScope s_check_names) := ⟨rfl, rfl, rfl, by decide +kernel, rfl, by decide +kernel, by decide +kernel⟩
abbrev s_are_tables : Stmt := topS 18
abbrev n_are_tables : List Str := ["thing", "table", "openers", "guest"]
theorem sc_are_tables : FnScope n_are_tables ["thing"] (defScope s_are_tables) := ⟨rfl, rfl, rfl, by decide +kernel, rfl, by decide +kernel, by decide +kernel⟩
abbrev s_is_table : Stmt := topS 19
abbrev n_is_table : List Str := ["thing", "guest"]
theorem sc_is_table : FnScope n_is_table ["thing"] (defScope s_is_table) := ⟨rfl, rfl, rfl, by decide +kernel, rfl, by decide +kernel, by decide +kernel⟩
abbrev s_walk_left : Stmt := topS 20
abbrev n_walk_left : List Str := ["lefts", "guest", "walk"]
theorem sc_walk_left : FnScope n_walk_left ["lefts", "guest"] (defScope s_walk_left) := ⟨rfl, rfl, rfl, by decide +kernel, rfl, by decide +kernel, by decide +kernel⟩
abbrev s_tables_among : Stmt := topS 21
abbrev n_tables_among : List Str := ["lefts", "guests", "guest", "walks", "walk"]
theorem sc_tables_among : FnScope n_tables_among ["lefts", "guests"] (defScope s_tables_among) := ⟨rfl, rfl, rfl, by decide +kernel, rfl, by decide +kernel, by decide +kernel⟩
abbrev s_seating_with : Stmt := topS 22
abbrev n_seating_with : List Str := ["tables", "table", "seating", "at", "guest"]
theorem sc_seating_with : FnScope n_seating_with ["tables"] (defScope s_seating_with) := ⟨rfl, rfl, rfl, by decide +kernel, rfl, by decide +kernel, by decide +kernel⟩
abbrev s_law_pouch : Stmt := topS 24
abbrev n_law_pouch : List Str := ["script", "at", "cell"]
theorem sc_law_pouch : FnScope n_law_pouch ["script", "at"] (defScope s_law_pouch) := ⟨rfl, rfl, rfl, by decide +kernel, rfl, by decide +kernel, by decide +kernel⟩
abbrev s_law_dip : Stmt := topS 25
abbrev n_law_dip : List Str := ["pouch", "wide", "taken", "mixed"]
theorem sc_law_dip : FnScope n_law_dip ["pouch", "wide"] (defScope s_law_dip) := ⟨rfl, rfl, rfl, by decide +kernel, rfl, by decide +kernel, by decide +kernel⟩
abbrev s_law_entries : Stmt := topS 26
abbrev n_law_entries : List Str := ["pouch", "many", "style", "found", "one", "some", "pick"]
theorem sc_law_entries : FnScope n_law_entries ["pouch", "many"] (defScope s_law_entries) := ⟨rfl, rfl, rfl, by decide +kernel, rfl, by decide +kernel, by decide +kernel⟩
abbrev s_law_rings : Stmt := topS 27
abbrev n_law_rings : List Str := ["entries", "rings", "one", "pal", "ring"]
theorem sc_law_rings : FnScope n_law_rings ["entries"] (defScope s_law_rings) := ⟨rfl, rfl, rfl, by decide +kernel, rfl, by decide +kernel, by decide +kernel⟩
abbrev s_law_seat : Stmt := topS 28
abbrev n_law_seat : List Str := ["rings", "near", "ring", "k", "one"]
theorem sc_law_seat : FnScope n_law_seat ["rings"] (defScope s_law_seat) := ⟨rfl, rfl, rfl, by decide +kernel, rfl, by decide +kernel, by decide +kernel⟩
abbrev s_law_mixed : Stmt := topS 29
abbrev n_law_mixed : List Str := ["pouch", "many", "left", "found"]
theorem sc_law_mixed : FnScope n_law_mixed ["pouch", "many"] (defScope s_law_mixed) := ⟨rfl, rfl, rfl, by decide +kernel, rfl, by decide +kernel, by decide +kernel⟩
abbrev s_law_cut : Stmt := topS 30
abbrev n_law_cut : List Str := ["row", "k", "starts", "low", "high"]
theorem sc_law_cut : FnScope n_law_cut ["row"] (defScope s_law_cut) := ⟨rfl, rfl, rfl, by decide +kernel, rfl, by decide +kernel, by decide +kernel⟩
abbrev s_law_right : Stmt := topS 31
abbrev n_law_right : List Str := ["pouch", "many", "rings", "ring", "hall", "due", "kept", "row", "told", "found", "held", "fresh", "one", "due_hall"]
theorem sc_law_right : FnScope n_law_right ["pouch", "many"] (defScope s_law_right) := ⟨rfl, rfl, rfl, by decide +kernel, rfl, by decide +kernel, by decide +kernel⟩
abbrev s_law : Stmt := topS 32
abbrev n_law : List Str := ["script", "at", "pouch", "told"]
theorem sc_law : FnScope n_law ["script"] (defScope s_law) := ⟨rfl, rfl, rfl, by decide +kernel, rfl, by decide +kernel, by decide +kernel⟩
def g_K03_kb_renamed_0_names_seating : List Value → List Value → List Value := fun us ws => match us, ws with
  | [], [b0, b1] => [b1, b0]
  | _, _ => []
def v_K03_kb_renamed_0_names_seating : List V → List V → List V := fun us ws => match us, ws with
  | [], [b0, b1] => [b1, b0]
  | _, _ => []
def g_K03_kb_seating_of_records_0_names : List Value → List Value → List Value := fun us ws => match us, ws with
  | [], [b0] => [b0]
  | _, _ => []
def v_K03_kb_seating_of_records_0_names : List V → List V → List V := fun us ws => match us, ws with
  | [], [b0] => [b0]
  | _, _ => []
def g_K03_kb_record_list_0_seating : List Value → List Value → List Value := fun us ws => match us, ws with
  | [], [b0] => [b0]
  | _, _ => []
def v_K03_kb_record_list_0_seating : List V → List V → List V := fun us ws => match us, ws with
  | [], [b0] => [b0]
  | _, _ => []
def g_K03_kb_seating_of_0_tables : List Value → List Value → List Value := fun us ws => match us, ws with
  | [], [b0] => [b0]
  | _, _ => []
def v_K03_kb_seating_of_0_tables : List V → List V → List V := fun us ws => match us, ws with
  | [], [b0] => [b0]
  | _, _ => []
/-! what the top has written -/
structure Tx (K : PySem.W.Frag) (mg : Str → Option Value) where
  f_is_whole : Addr
  d_is_whole : FuncData
  F_is_whole : Fun K "is_whole" "is_whole" s_is_whole f_is_whole d_is_whole
  g_is_whole : mg "is_whole" = some (.ref f_is_whole)
  b_is_whole : Binds K d_is_whole ["thing"] []
  f_is_order : Addr
  d_is_order : FuncData
  F_is_order : Fun K "is_order" "is_order" s_is_order f_is_order d_is_order
  g_is_order : mg "is_order" = some (.ref f_is_order)
  b_is_order : Binds K d_is_order ["thing"] []
  f_is_seating : Addr
  d_is_seating : FuncData
  F_is_seating : Fun K "is_seating" "is_seating" s_is_seating f_is_seating d_is_seating
  g_is_seating : mg "is_seating" = some (.ref f_is_seating)
  b_is_seating : Binds K d_is_seating ["thing"] []
  f_tables_of : Addr
  d_tables_of : FuncData
  F_tables_of : Fun K "tables_of" "tables_of" s_tables_of f_tables_of d_tables_of
  g_tables_of : mg "tables_of" = some (.ref f_tables_of)
  b_tables_of : Binds K d_tables_of ["seating"] []
  f_seating_of : Addr
  d_seating_of : FuncData
  F_seating_of : Fun K "seating_of" "seating_of" s_seating_of f_seating_of d_seating_of
  g_seating_of : mg "seating_of" = some (.ref f_seating_of)
  b_seating_of : Binds K d_seating_of ["tables"] []
  f_renamed : Addr
  d_renamed : FuncData
  F_renamed : Fun K "renamed" "renamed" s_renamed f_renamed d_renamed
  g_renamed : mg "renamed" = some (.ref f_renamed)
  b_renamed : Binds K d_renamed ["seating", "names"] []
  f_record_list : Addr
  d_record_list : FuncData
  F_record_list : Fun K "record_list" "record_list" s_record_list f_record_list d_record_list
  g_record_list : mg "record_list" = some (.ref f_record_list)
  b_record_list : Binds K d_record_list ["seating"] []
  f_seating_of_records : Addr
  d_seating_of_records : FuncData
  F_seating_of_records : Fun K "seating_of_records" "seating_of_records" s_seating_of_records f_seating_of_records d_seating_of_records
  g_seating_of_records : mg "seating_of_records" = some (.ref f_seating_of_records)
  b_seating_of_records : Binds K d_seating_of_records ["names"] []
  f_check_seating : Addr
  d_check_seating : FuncData
  F_check_seating : Fun K "check_seating" "check_seating" s_check_seating f_check_seating d_check_seating
  g_check_seating : mg "check_seating" = some (.ref f_check_seating)
  b_check_seating : Binds K d_check_seating ["seating"] []
  f_check_names : Addr
  d_check_names : FuncData
  F_check_names : Fun K "check_names" "check_names" s_check_names f_check_names d_check_names
  g_check_names : mg "check_names" = some (.ref f_check_names)
  b_check_names : Binds K d_check_names ["names"] []
  f_are_tables : Addr
  d_are_tables : FuncData
  F_are_tables : Fun K "are_tables" "are_tables" s_are_tables f_are_tables d_are_tables
  g_are_tables : mg "are_tables" = some (.ref f_are_tables)
  b_are_tables : Binds K d_are_tables ["thing"] []
  f_is_table : Addr
  d_is_table : FuncData
  F_is_table : Fun K "is_table" "is_table" s_is_table f_is_table d_is_table
  g_is_table : mg "is_table" = some (.ref f_is_table)
  b_is_table : Binds K d_is_table ["thing"] []
  f_walk_left : Addr
  d_walk_left : FuncData
  F_walk_left : Fun K "walk_left" "walk_left" s_walk_left f_walk_left d_walk_left
  g_walk_left : mg "walk_left" = some (.ref f_walk_left)
  b_walk_left : Binds K d_walk_left ["lefts", "guest"] []
  f_tables_among : Addr
  d_tables_among : FuncData
  F_tables_among : Fun K "tables_among" "tables_among" s_tables_among f_tables_among d_tables_among
  g_tables_among : mg "tables_among" = some (.ref f_tables_among)
  b_tables_among : Binds K d_tables_among ["lefts", "guests"] []
  f_seating_with : Addr
  d_seating_with : FuncData
  F_seating_with : Fun K "seating_with" "seating_with" s_seating_with f_seating_with d_seating_with
  g_seating_with : mg "seating_with" = some (.ref f_seating_with)
  b_seating_with : Binds K d_seating_with ["tables"] []
  f_law_pouch : Addr
  d_law_pouch : FuncData
  F_law_pouch : Fun K "_law_pouch" "_law_pouch" s_law_pouch f_law_pouch d_law_pouch
  g_law_pouch : mg "_law_pouch" = some (.ref f_law_pouch)
  b_law_pouch : Binds K d_law_pouch ["script", "at"] []
  f_law_dip : Addr
  d_law_dip : FuncData
  F_law_dip : Fun K "_law_dip" "_law_dip" s_law_dip f_law_dip d_law_dip
  g_law_dip : mg "_law_dip" = some (.ref f_law_dip)
  b_law_dip : Binds K d_law_dip ["pouch", "wide"] []
  f_law_entries : Addr
  d_law_entries : FuncData
  F_law_entries : Fun K "_law_entries" "_law_entries" s_law_entries f_law_entries d_law_entries
  g_law_entries : mg "_law_entries" = some (.ref f_law_entries)
  b_law_entries : Binds K d_law_entries ["pouch", "many"] []
  f_law_rings : Addr
  d_law_rings : FuncData
  F_law_rings : Fun K "_law_rings" "_law_rings" s_law_rings f_law_rings d_law_rings
  g_law_rings : mg "_law_rings" = some (.ref f_law_rings)
  b_law_rings : Binds K d_law_rings ["entries"] []
  f_law_seat : Addr
  d_law_seat : FuncData
  F_law_seat : Fun K "_law_seat" "_law_seat" s_law_seat f_law_seat d_law_seat
  g_law_seat : mg "_law_seat" = some (.ref f_law_seat)
  b_law_seat : Binds K d_law_seat ["rings"] []
  f_law_mixed : Addr
  d_law_mixed : FuncData
  F_law_mixed : Fun K "_law_mixed" "_law_mixed" s_law_mixed f_law_mixed d_law_mixed
  g_law_mixed : mg "_law_mixed" = some (.ref f_law_mixed)
  b_law_mixed : Binds K d_law_mixed ["pouch", "many"] []
  f_law_cut : Addr
  d_law_cut : FuncData
  F_law_cut : Fun K "_law_cut" "_law_cut" s_law_cut f_law_cut d_law_cut
  g_law_cut : mg "_law_cut" = some (.ref f_law_cut)
  b_law_cut : Binds K d_law_cut ["row"] []
  f_law_right : Addr
  d_law_right : FuncData
  F_law_right : Fun K "_law_right" "_law_right" s_law_right f_law_right d_law_right
  g_law_right : mg "_law_right" = some (.ref f_law_right)
  b_law_right : Binds K d_law_right ["pouch", "many"] []
  f_law : Addr
  d_law : FuncData
  F_law : Fun K "law" "law" s_law f_law d_law
  g_law : mg "law" = some (.ref f_law)
  b_law : Binds K d_law ["script"] []
  m_abs : mg "abs" = none
  m_all : mg "all" = none
  m_enumerate : mg "enumerate" = none
  m_int : mg "int" = none
  m_len : mg "len" = none
  m_list : mg "list" = none
  m_max : mg "max" = none
  m_min : mg "min" = none
  m_range : mg "range" = none
  m_sorted : mg "sorted" = none
  m_sum : mg "sum" = none
  m_tuple : mg "tuple" = none
  m_type : mg "type" = none
  m_zip : mg "zip" = none
  c_MOST_GUESTS : ∃ u, mg "MOST_GUESTS" = some u ∧ RelV (.int 20) u
  kb_renamed_0_names_seating : KBinds K d_renamed ["seating", "names"] ["names", "seating"] g_K03_kb_renamed_0_names_seating v_K03_kb_renamed_0_names_seating
  kb_seating_of_records_0_names : KBinds K d_seating_of_records ["names"] ["names"] g_K03_kb_seating_of_records_0_names v_K03_kb_seating_of_records_0_names
  kb_record_list_0_seating : KBinds K d_record_list ["seating"] ["seating"] g_K03_kb_record_list_0_seating v_K03_kb_record_list_0_seating
  kb_seating_of_0_tables : KBinds K d_seating_of ["tables"] ["tables"] g_K03_kb_seating_of_0_tables v_K03_kb_seating_of_0_tables
/-! readings that go by themselves -/
local macro_rules | `(tactic| walk_at "side") => `(tactic| first | with_reducible assumption | with_reducible rfl | omega | decide | (constructor <;> first | assumption | omega | decide))
local macro_rules | `(tactic| walk_at "ev") => `(tactic| first
  | ((with_reducible refine' ev_var ?e1); (case e1 => rfl))
  | (with_reducible exact ev_c)
  | ((with_reducible refine' ev_op ?e1 ?e2 rv_I0); (case e1 => walk_at "ev"); (case e2 => walk_at "ev"))
  | ((with_reducible refine' ev_op ?e1 ?e2 (rv_I ?e3)); (case e1 => walk_at "ev"); (case e2 => walk_at "ev"); (case e3 => walk_at "side"))
  | ((with_reducible refine' ev_op ?e1 ?e2 (rv_eq ?e3)); (case e1 => walk_at "ev"); (case e2 => walk_at "ev"); (case e3 => rfl))
  | ((with_reducible refine' ev_op ?e1 ?e2 (rv_ne ?e3)); (case e1 => walk_at "ev"); (case e2 => walk_at "ev"); (case e3 => rfl))
  | ((with_reducible refine' ev_op ?e1 ?e2 (rv_ixL ?e3 ?e4)); (case e1 => walk_at "ev"); (case e2 => walk_at "ev"); (case e3 => walk_at "sq"); (case e4 => walk_at "at"))
  | ((with_reducible refine' ev_op ?e1 ?e2 (rv_ixT ?e3 ?e4)); (case e1 => walk_at "ev"); (case e2 => walk_at "ev"); (case e3 => walk_at "sq"); (case e4 => walk_at "at"))
  | ((with_reducible refine' ev_op ?e1 ?e2 rv_isN); (case e1 => walk_at "ev"); (case e2 => walk_at "ev"))
  | ((with_reducible refine' ev_op ?e1 ?e2 rv_notN); (case e1 => walk_at "ev"); (case e2 => walk_at "ev"))
  | ((with_reducible refine' ev_op ?e1 ?e2 (rv_eqTy ?e3 ?e4)); (case e1 => walk_at "ev"); (case e2 => walk_at "ev"); (case e3 => exact PySem.TypeEq.meta_int); (case e4 => exact PySem.TypeEq.meta_int))
  | ((with_reducible refine' ev_un ?e1 ru_neg); (case e1 => walk_at "ev"))
  | ((with_reducible refine' ev_intI ?e1); (case e1 => walk_at "ev"))
  | ((with_reducible refine' ev_intB ?e1); (case e1 => walk_at "ev"))
  | ((with_reducible refine' ev_typeI ?e1); (case e1 => walk_at "ev"))
  | ((with_reducible refine' ev_abs ?e1); (case e1 => walk_at "ev"))
  | ((with_reducible refine' ev_max2 ?e1 ?e2); (case e1 => walk_at "ev"); (case e2 => walk_at "ev"))
  | ((with_reducible refine' ev_min2 ?e1 ?e2); (case e1 => walk_at "ev"); (case e2 => walk_at "ev"))
  | ((with_reducible refine' ev_gcd ?e1 ?e2); (case e1 => walk_at "ev"); (case e2 => walk_at "ev"))
  | ((with_reducible refine' ev_len ?e1 ?e2); (case e1 => walk_at "ev"); (case e2 => walk_at "sq"))
  | ((with_reducible refine' ev_chainI ?e1 ?e2 ?e3); (case e1 => walk_at "ev"); (case e2 => walk_at "ev"); (case e3 => walk_at "ev"))
  | ((with_reducible refine' ev_chain3I ?e1 ?e2 ?e3 ?e4); (case e1 => walk_at "ev"); (case e2 => walk_at "ev"); (case e3 => walk_at "ev"); (case e4 => walk_at "ev"))
  | ((with_reducible refine' ev_notV ?e1); (case e1 => walk_at "ev"))
  | ((with_reducible refine' ev_andV ?e1 ?e2); (case e1 => walk_at "ev"); (case e2 => (intro _; walk_at "ev")))
  | ((with_reducible refine' ev_orV ?e1 ?e2); (case e1 => walk_at "ev"); (case e2 => (intro _; walk_at "ev")))
  | ((with_reducible refine' ev_if ?e1 ?e2 ?e3); (case e1 => walk_at "et"); (case e2 => (intro _; walk_at "ev")); (case e3 => (intro _; walk_at "ev")))
  | ((with_reducible refine' ev_call ?e1 ?e2); (case e1 => walk_at "ea"); (case e2 => walk_at "call")))
local macro_rules | `(tactic| walk_at "ea") => `(tactic| first
  | (with_reducible exact ea_nil)
  | ((with_reducible refine' ea_cons ?e1 ?e2); (case e1 => walk_at "ev"); (case e2 => walk_at "ea")))
local macro_rules | `(tactic| walk_at "et") => `(tactic| first
  | ((with_reducible refine' et_test ?e1); (case e1 => walk_at "ev"))
  | ((with_reducible refine' et_B ?e1); (case e1 => walk_at "ev"))
  | ((with_reducible refine' et_not ?e1); (case e1 => walk_at "et"))
  | ((with_reducible refine' et_and ?e1 ?e2); (case e1 => walk_at "et"); (case e2 => (intro _; walk_at "et")))
  | ((with_reducible refine' et_or ?e1 ?e2); (case e1 => walk_at "et"); (case e2 => (intro _; walk_at "et"))))
local macro_rules | `(tactic| walk_at "eu") => `(tactic| first
  | ((with_reducible refine' eu_tup ?e1 ?e2); (case e1 => walk_at "ea"); (case e2 => exact Nat.le_of_ble_eq_true rfl))
  | ((with_reducible refine' eu_call ?e1 ?e2); (case e1 => walk_at "ea"); (case e2 => walk_at "callU")))
local macro_rules | `(tactic| walk_at "el") => `(tactic| first
  | ((with_reducible refine' el_call ?e1 ?e2); (case e1 => walk_at "ea"); (case e2 => walk_at "callL"))
  | ((with_reducible refine' el_lst ?e1 ?e2); (case e1 => walk_at "ea"); (case e2 => exact Nat.le_of_ble_eq_true rfl)))
local macro_rules | `(tactic| walk_at "sq") => `(tactic| first | assumption | exact sq_of (by assumption) | exact st_of (by assumption))
local macro_rules | `(tactic| walk_at "at") => `(tactic| first | assumption | rfl | (apply atI_nat; rfl))
local macro_rules | `(tactic| walk_at "call") => `(tactic| assumption)

/-! ### the pouch -/
/-- H without p -/
def Hm (p : Addr) (H : Hp) : Hp := fun b => if b = p then none else H b
theorem hm_p {p : Addr} {H : Hp} : Hm p H p = none := if_pos rfl
theorem hm_sub {p : Addr} {H : Hp} : Ex (Hm p H) H := fun a o h => by
  unfold Hm at h
  split at h
  · cases h
  · exact h
theorem hm_mono {p : Addr} {H H' : Hp} (e : Ex H H') : Ex (Hm p H) (Hm p H') := fun a o h => by
  unfold Hm at h ⊢
  split at h
  · cases h
  · rename_i ne
    rw [if_neg ne]
    exact e a o h
theorem ex_hm {p : Addr} {H0 H : Hp} (e : Ex H0 H) (h : H0 p = none) : Ex H0 (Hm p H) := fun a o ha => by
  unfold Hm
  rw [if_neg (ne_of_none ha h)]
  exact e a o ha
/-- a pouch after at most n mixed draws -/
def Po (p : Addr) (n : Nat) (H : Hp) : Prop := ∃ a b c : Int, H p = some (.lst [.int a, .int b, .int c]) ∧ (0 ≤ b ∧ b < 2 ^ 200) ∧ 0 ≤ c ∧ c ≤ n
theorem Po.ex {p : Addr} {n : Nat} {H H' : Hp} (h : Po p n H) (e : Ex H H') : Po p n H' := by
  obtain ⟨a, b, c, h1, h2⟩ := h
  exact ⟨a, b, c, e p _ h1, h2⟩
theorem Po.mono {p : Addr} {n m : Nat} {H : Hp} (h : Po p n H) (e : n ≤ m) : Po p m H := by
  obtain ⟨a, b, c, h1, h2, h3, h4⟩ := h
  exact ⟨a, b, c, h1, h2, h3, by omega⟩
theorem pow3_ok {i : Int} (h : i.natAbs < 2 ^ 250) : CPowX i 3 := by
  have := PyProof.Rows.intBits_le h
  unfold CPowX
  omega
theorem divw_ok {i j : Int} (h : 0 < j) (hb : j < 2 ^ 200) : CDivW i j := wide_div (b := 200) h (by omega) (by decide) (by decide)
theorem mulk_ok {i j : Int} (h : i.natAbs < 2 ^ 100000) (hb : j.natAbs < 2 ^ 100000) : CMulX i j := mulx_ok h hb (by decide)
def sp_law_pouch (K : PySem.W.Frag) : Sp := fun vs H Q _ => ∃ (s : Addr) (ns : List Int) (i : Nat), vs = [.ref s, .int (i : Int)] ∧ SqL K H s (ns.map V.int) ∧ i ≤ 100 ∧ ∀ p H', H p = none → Ex H H' → Po p 0 H' → Q (.ref p) H'
def sp_law_dip : Sp := fun vs H Q _ => ∃ (p : Addr) (n : Nat) (w : Int), vs = [.ref p, .int w] ∧ Po p n H ∧ n < 1000000000 ∧ 0 < w ∧ w < 2 ^ 200 ∧
  ∀ r H', 0 ≤ r → r < w → Po p (n + 1) H' → Ex (Hm p H) H' → Q (.int r) H'
section
variable {P : Program} {w : World} {K : PySem.W.Frag} {mg : Str → Option Value} {base : Heap}
theorem ok_law_dip (T : Tx K mg) : FnOk P w K mg base CX0 1 T.f_law_dip T.d_law_dip ["pouch", "wide"] sp_law_dip := by
  refine T.F_law_dip.ok sc_law_dip (fun vs H Q E h => ?_) (fun cdv A outer s H vs Q E hr h => ?_)
  · obtain ⟨p, n, w, rfl, _⟩ := h
    rfl
  · obtain ⟨p, n, w, rfl, ⟨a, b, c, hp, ⟨hb0, hb1⟩, hc0, hc1⟩, hn, hw0, hw1, k⟩ := h
    refine ⟨_, (pss_cons (ps_if (pt_cmpR op_gt (pe_ix ix_list (pv 0) pe_int (fun _ _ => rfl)) pe_int (nomark _)) (pss_cons (ps_set (i := 2) sc_law_dip.nd rfl (Or.inl rfl) (pe_op op_mod (pe_callTy call_intI (by rfl) T.m_int (by decide +kernel) (pa_cons (pe_ix ix_list (pv 0) pe_int (fun _ _ => rfl)) pa_nil)) (pv 1)))
      (pss_cons (ps_asg (pe_op op_fdivW (pe_ix ix_list (pv 0) pe_int (fun _ _ => rfl)) (pv 1)) (pg_sub (pv 0) pe_int set_list))
      (pss_one (ps_ret (pv 2))))) pss_nil)
      (pss_cons (ps_asg (pe_op op_add (pe_ix ix_list (pv 0) pe_int (fun _ _ => rfl)) pe_int) (pg_sub (pv 0) pe_int set_list))
      (pss_cons (ps_set (i := 3) sc_law_dip.nd rfl (Or.inl rfl) (pe_op op_mod (pe_op op_powX (pe_callTy call_intI (by rfl) T.m_int (by decide +kernel) (pa_cons (pe_op op_add (pe_ix ix_list (pv 0) pe_int (fun _ _ => rfl)) (pe_op op_mulX pe_int (pe_ix ix_list (pv 0) pe_int (fun _ _ => rfl)))) pa_nil)) pe_int) (pe_op op_add (pe_op op_powX pe_int pe_int) pe_int)))
      (pss_cons (ps_set (i := 3) sc_law_dip.nd rfl (Or.inl rfl) (pe_op op_mod (pe_op op_powX (pe_callTy call_intI (by rfl) T.m_int (by decide +kernel) (pa_cons (pe_op op_add (pv 3) (pe_op op_mulX pe_int (pe_ix ix_list (pv 0) pe_int (fun _ _ => rfl)))) pa_nil)) pe_int) (pe_op op_add (pe_op op_powX pe_int pe_int) pe_int)))
      (pss_one (ps_ret (pe_op op_mod (pe_callTy call_intI (by rfl) T.m_int (by decide +kernel) (pa_cons (pe_op op_fdivW (pv 3) pe_int) pa_nil)) (pv 1)))))))), ?_⟩
    have hp0 : Hm p H p = none := hm_p
    refine q_when (by walk_at "et") (fun hb H1 e1 => ?_) (fun hb H1 e1 => ?_)
    · have hp1 := e1 p _ hp
      refine q_asg (by walk_at "ev") fun H2 e2 => ?_
      have hp2 := e2 p _ hp1
      have hd : CDivW a w := divw_ok hw0 hw1
      refine q_setL (j := 0) hp2 (by walk_at "ev") (by walk_at "ev") ev_c (by show 0 < 3; decide) fun H3 e3 => ?_
      refine s_ret (by walk_at "ev") fun H4 e4 => ?_
      refine k _ _ (Int.emod_nonneg _ (by omega)) (Int.emod_lt_of_pos _ hw0) ⟨a / w, b, c, e4 p _ upd_same, ⟨hb0, hb1⟩, hc0, by omega⟩ ?_
      exact Ex.trans (Ex.mut (hm_sub.trans (e1.trans (e2.trans e3))) hp0) e4
    · have hp1 := e1 p _ hp
      refine q_setL (j := 2) hp1 (by walk_at "ev") (by walk_at "ev") ev_c (by show 2 < 3; decide) fun H2 e2 => ?_
      have hp2 : ∀ H3, Ex (upd H2 p (.lst ([V.int a, .int b, .int c].set 2 (.int (c + 1))))) H3 → H3 p = some (.lst [.int a, .int b, .int (c + 1)]) := fun H3 e => e p _ upd_same
      have hq := hp2 _ (Ex.refl _)
      have hm1 : CMulX 870022201 (c + 1) := mulx_ok (a := 64) (b := 64) (by decide) (by omega) (by decide)
      have hw1' : CPowX (b + 870022201 * (c + 1)) 3 := pow3_ok (by omega)
      have hw2 : CPowX 10 41 := ⟨by decide, by decide +kernel⟩
      refine q_asg (by walk_at "ev") fun H3 e3 => ?_
      have hq3 := hp2 _ e3
      have hm2 : CMulX 334214467 (c + 1) := mulx_ok (a := 64) (b := 64) (by decide) (by omega) (by decide)
      generalize hz : (b + 870022201 * (c + 1)) ^ (3 : Int).toNat % ((10 : Int) ^ (41 : Int).toNat + 37) = z
      have hz0 : 0 ≤ z := by
        rw [← hz]
        exact Int.emod_nonneg _ (by decide)
      have hz1 : z < (10 : Int) ^ (41 : Int).toNat + 37 := by
        rw [← hz]
        exact Int.emod_lt_of_pos _ (by decide)
      have hz2 : z < 2 ^ 200 := Int.lt_trans hz1 (by decide)
      have hw3 : CPowX (z + 334214467 * (c + 1)) 3 := pow3_ok (by omega)
      have hw4 : CPowX 10 39 := ⟨by decide, by decide +kernel⟩
      refine q_asg (by walk_at "ev") fun H4 e4 => ?_
      generalize (z + 334214467 * (c + 1)) ^ (3 : Int).toNat % ((10 : Int) ^ (39 : Int).toNat + 3) = y
      have hd : CDivW y 1048583 := divw_ok (by decide) (by decide)
      refine s_ret (by walk_at "ev") fun H5 e5 => ?_
      refine k _ _ (Int.emod_nonneg _ (by omega)) (Int.emod_lt_of_pos _ hw0) ⟨a, b, c + 1, hp2 _ (e3.trans (e4.trans e5)), ⟨hb0, hb1⟩, by omega, by omega⟩ ?_
      exact Ex.trans (Ex.mut (hm_sub.trans (e1.trans e2)) hp0) (e3.trans (e4.trans e5))
theorem ok_law_pouch (T : Tx K mg) : FnOk P w K mg base CX0 1 T.f_law_pouch T.d_law_pouch ["script", "at"] (sp_law_pouch K) := by
  refine T.F_law_pouch.ok sc_law_pouch (fun vs H Q E h => ?_) (fun cdv A outer s H vs Q E hr h => ?_)
  · obtain ⟨a, ns, i, rfl, _⟩ := h
    rfl
  · obtain ⟨a, ns, i, rfl, hs, hi, k⟩ := h
    refine ⟨_, (pss_cons (ps_set (i := 2) sc_law_pouch.nd rfl (Or.inl rfl) (pe_ifExp (pt_cmpR op_lt (pv 1) (pe_callB call_lenR (by rfl) T.m_len (by decide +kernel) (pa_cons (pv 0) pa_nil)) (nomark _)) (pe_ix ix_list (pv 0) (pv 1) (fun _ _ => rfl)) pe_int))
      (pss_one (ps_ret (pe_lst (pa_cons (pe_callB (call_maxR rfl) (by rfl) T.m_max (by decide +kernel) (pa_cons pe_int (pa_cons (pe_op op_sub (pe_callB call_absR (by rfl) T.m_abs (by decide +kernel) (pa_cons (pv 2) pa_nil)) (pe_op op_powX pe_int pe_int)) pa_nil))) (pa_cons (pe_op op_add (pe_op op_add (pe_op op_mulX (pe_op op_mod (pe_callTy call_intI (by rfl) T.m_int (by decide +kernel) (pa_cons (pv 2) pa_nil)) (pe_op op_add (pe_op op_powX pe_int pe_int) pe_int)) pe_int) (pe_op op_mulX pe_int (pv 1))) pe_int) (pa_cons pe_int pa_nil))))))), ?_⟩
    have hlen : (ns.map V.int).length = ns.length := List.length_map ..
    refine q_asg (v := .int (ns.getD i 0)) ?_ fun H1 e1 => ?_
    · refine ev_if (b := decide ((i : Int) < ((ns.map V.int).length : Int))) (by walk_at "et") (fun hb => ?_) (fun hb => ?_)
      · have hb := of_decide_eq_true hb
        rw [hlen] at hb
        have hlt : i < ns.length := by omega
        refine ev_op (ev_var rfl) (ev_var rfl) (rv_ixL hs (atI_nat (j := i) ?_))
        rw [List.getElem?_map, List.getElem?_eq_getElem hlt]
        simp [List.getD_eq_getElem?_getD, hlt]
      · have hb := of_decide_eq_false hb
        rw [hlen] at hb
        have e0 : ns.getD i 0 = 0 := by
          rw [List.getD_eq_getElem?_getD, List.getElem?_eq_none (by omega)]
          rfl
        rw [e0]
        exact ev_c
    · generalize ns.getD i 0 = z
      have hw1 : CPowX 10 18 := ⟨by decide, by decide +kernel⟩
      have hw2 : CPowX 10 38 := ⟨by decide, by decide +kernel⟩
      have hy0 : 0 ≤ z % ((10 : Int) ^ (38 : Int).toNat + 133) := Int.emod_nonneg _ (by decide)
      have hy1 : z % ((10 : Int) ^ (38 : Int).toNat + 133) < (10 : Int) ^ (38 : Int).toNat + 133 := Int.emod_lt_of_pos _ (by decide)
      have hy2 : z % ((10 : Int) ^ (38 : Int).toNat + 133) < 2 ^ 150 := Int.lt_trans hy1 (by decide)
      have hpos : 0 < (10 : Int) ^ (38 : Int).toNat + 133 := by decide
      have hm1 : CMulX (z % ((10 : Int) ^ (38 : Int).toNat + 133)) 107 := mulx_ok (a := 150) (b := 64) (by omega) (by decide) (by decide)
      have hm2 : CMulX 71 (i : Int) := mulx_ok (a := 64) (b := 64) (by decide) (by omega) (by decide)
      refine s_retL (el_lst (ea_cons (by walk_at "ev") (ea_cons (by walk_at "ev") (ea_cons ev_c ea_nil))) (Nat.le_of_ble_eq_true rfl)) fun p H2 hp e2 hl => ?_
      refine k p H2 (fresh_back e1 hp) (e1.trans e2) ⟨_, _, _, hl, ⟨?_, ?_⟩, by omega, by omega⟩
      · generalize z % ((10 : Int) ^ (38 : Int).toNat + 133) = y at hy0 hy2 ⊢
        omega
      · generalize z % ((10 : Int) ^ (38 : Int).toNat + 133) = y at hy0 hy2 ⊢
        omega
end

/-! ### expressions that draw -/
theorem hm_trans {p : Addr} {H H1 H2 : Hp} (a : Ex (Hm p H) H1) (b : Ex (Hm p H1) H2) : Ex (Hm p H) H2 := fun x o h => by
  have ne : x ≠ p := fun z => by
    subst z
    rw [hm_p] at h
    cases h
  have h1 := a x o h
  refine b x o ?_
  unfold Hm
  rw [if_neg ne]
  exact h1
theorem hm_next {p : Addr} {H0 H H1 : Hp} (h0 : H0 p = none) (e : Ex H0 H) (s : Ex (Hm p H) H1) : Ex H0 H1 := (ex_hm e h0).trans s
theorem hm_of {p : Addr} {H H1 : Hp} (e : Ex H H1) : Ex (Hm p H) H1 := hm_sub.trans e
theorem hm_at {p a : Addr} {H H1 : Hp} {o : HO} (s : Ex (Hm p H) H1) (ne : a ≠ p) (h : H a = some o) : H1 a = some o := s a o (by
  unfold Hm
  rw [if_neg ne]
  exact h)
theorem Po.ne {p l : Addr} {n : Nat} {H : Hp} (h : Po p n H) (hl : H l = none) : l ≠ p := fun z => by
  subst z
  obtain ⟨_, _, _, h1, _⟩ := h
  rw [hl] at h1
  cases h1
def EvP (p : Addr) (k : Nat) (te : TE) (σ : L2.St) (H0 : Hp) (R : V → Hp → Prop) : Prop := ∀ n H1, Ex H0 H1 → Po p n H1 → n + k ≤ 1000000000 →
  ∀ Q : VK, (∀ v H2, R v H2 → Po p (n + k) H2 → Ex (Hm p H1) H2 → Q v H2) → te σ H1 Q
def Stb (p : Addr) (R : V → Hp → Prop) : Prop := ∀ v H H', R v H → Ex (Hm p H) H' → R v H'
section
variable {K : PySem.W.Frag} {σ : L2.St} {H0 H : Hp} {p : Addr} {k k1 k2 : Nat} {te ta tb : TE} {R Ra Rb : V → Hp → Prop}
theorem ep_ev {v : V} (h : Ev te σ H0 v) : EvP p 0 te σ H0 (fun x _ => x = v) := fun n H1 e hp _ Q q => h H1 e Q fun H2 e2 => q v H2 rfl (hp.ex e2) (hm_of e2)
theorem ep_L {xs : List V} (h : EvL te σ H0 xs) : EvP p 0 te σ H0 (fun x H => ∃ l, l ≠ p ∧ x = .ref l ∧ H l = some (.lst xs)) := fun n H1 e hp _ Q q => h H1 e Q fun l H2 hl e2 h2 => q _ H2 ⟨l, hp.ne hl, rfl, h2⟩ (hp.ex e2) (hm_of e2)
theorem stb_L {xs : List V} : Stb p (fun x H => ∃ l, l ≠ p ∧ x = .ref l ∧ H l = some (.lst xs)) := fun v H H' ⟨l, ne, e, h⟩ s => ⟨l, ne, e, hm_at s ne h⟩
theorem stb_c {C : V → Prop} : Stb p (fun x _ => C x) := fun _ _ _ h _ => h
theorem ep_op {r : R2} (h0 : H0 p = none) (ha : EvP p k1 ta σ H0 Ra) (hb : EvP p k2 tb σ H0 Rb) (s1 : Stb p Ra) (s : Stb p R) (hr : ∀ x y H, Ra x H → Rb y H → ∃ z, R z H ∧ RV r x y H z) : EvP p (k1 + k2) (tOp r ta tb) σ H0 R :=
  fun n H1 e hp hn Q q => ha n H1 e hp (by omega) _ fun x H2 hx p2 e2 => hb (n + k1) H2 (hm_next h0 e e2) p2 (by omega) _ fun y H3 hy p3 e3 => by
    obtain ⟨z, hz, hv⟩ := hr x y H3 (s1 x H2 H3 hx e3) hy
    refine hv H3 (Ex.refl H3) Q fun H4 e4 => q z H4 (s z H3 H4 hz (hm_of e4)) ?_ (hm_trans (hm_trans e2 e3) (hm_of e4))
    rw [← Nat.add_assoc]
    exact p3.ex e4
theorem ep_dip {tw : TE} {E : XK} {C : Int → Prop} (h0 : H0 p = none) (hp : Ev ta σ H0 (.ref p)) (hw : EvP p k tw σ H0 (fun v _ => ∃ w, v = .int w ∧ 0 < w ∧ w < 2 ^ 200 ∧ C w)) :
    EvP p (k + 1) (tCall sp_law_dip [] E (tCons ta (tCons tw tNil))) σ H0 (fun v _ => ∃ r w, v = .int r ∧ 0 ≤ r ∧ r < w ∧ C w) :=
  fun n H1 e hpo hn Q q => hp H1 e _ fun H2 e2 => hw n H2 (e.trans e2) (hpo.ex e2) (by omega) _ fun y H3 hy p3 e3 => by
    obtain ⟨w, rfl, w0, w1, c⟩ := hy
    exact ⟨p, n + k, w, rfl, p3, by omega, w0, w1, fun r H' r0 r1 p4 e4 => q _ H' ⟨r, w, rfl, r0, r1, c⟩ p4 (hm_trans (hm_trans (hm_of e2) e3) e4)⟩
theorem ep_is {R' : V → Hp → Prop} (h : EvP p k te σ H0 R) (e : ∀ v H, R v H → R' v H) : EvP p k te σ H0 R' := fun n H1 a b c Q q => h n H1 a b c Q fun v H2 hv => q v H2 (e v H2 hv)
/-- the width is a pure int -/
theorem ep_dipI {tw : TE} {E : XK} {w : Int} (h0 : H0 p = none) (hp : Ev ta σ H0 (.ref p)) (hw : Ev tw σ H0 (.int w)) (w0 : 0 < w) (w1 : w < 2 ^ 200) :
    EvP p 1 (tCall sp_law_dip [] E (tCons ta (tCons tw tNil))) σ H0 (fun v _ => ∃ r, v = .int r ∧ 0 ≤ r ∧ r < w) :=
  ep_is (ep_dip (k := 0) (C := fun z => z = w) h0 hp (ep_is (ep_ev hw) fun v H e => ⟨w, e, w0, w1, rfl⟩)) fun v H ⟨r, z, e, r0, r1, e2⟩ => ⟨r, e, r0, e2 ▸ r1⟩
/-- a + b, b drawn -/
theorem ep_add {a : Int} {C : Int → Prop} (h0 : H0 p = none) (ha : Ev ta σ H0 (.int a)) (hb : EvP p k tb σ H0 (fun v _ => ∃ r, v = .int r ∧ C r)) : EvP p (0 + k) (tOp (rI0 fun i j => .int (i + j)) ta tb) σ H0 (fun v _ => ∃ r, v = .int (a + r) ∧ C r) :=
  ep_op h0 (ep_ev ha) hb stb_c stb_c fun x y H e ⟨r, e2, c⟩ => ⟨.int (a + r), ⟨r, rfl, c⟩, by
    subst e
    subst e2
    exact rv_I0⟩
theorem p_asg {i n : Nat} {D : Ends} (h : EvP p k te σ H0 R) (e : Ex H0 H) (hp : Po p n H) (hn : n + k ≤ 1000000000) (q : ∀ v H2, R v H2 → Po p (n + k) H2 → Ex (Hm p H) H2 → D.nx (σ.set i (some v)) H2) : tAsg te (gName i) D σ H := h n H e hp hn _ q
theorem pq_asg {i n : Nat} {D : Ends} {tz : TS} (h : EvP p k te σ H0 R) (e : Ex H0 H) (hp : Po p n H) (hn : n + k ≤ 1000000000) (q : ∀ v H2, R v H2 → Po p (n + k) H2 → Ex (Hm p H) H2 → tz D (σ.set i (some v)) H2) : tSeq (tAsg te (gName i)) tz D σ H := h n H e hp hn _ q
/-- tests that draw -/
def EtP (p : Addr) (k : Nat) (t : TT) (σ : L2.St) (H0 : Hp) (b : Bool) : Prop := ∀ n H1, Ex H0 H1 → Po p n H1 → n + k ≤ 1000000000 →
  ∀ Q : Bool → Hp → Prop, (∀ H2, Po p (n + k) H2 → Ex (Hm p H1) H2 → Q b H2) → t σ H1 Q
variable {t u : TT} {b c : Bool}
theorem tp_B (h : EvP p k te σ H0 (fun v _ => v = .bl b)) : EtP p k (tB te) σ H0 b := fun n H1 e hp hn Q q => h n H1 e hp hn _ fun v H2 hv p2 e2 => ⟨b, hv, q H2 p2 e2⟩
theorem tp_not (h : EtP p k t σ H0 b) : EtP p k (tNot t) σ H0 (!b) := fun n H1 e hp hn Q q => h n H1 e hp hn _ fun H2 p2 e2 => q H2 p2 e2
theorem tp_is (h : EtP p k t σ H0 b) (e : b = c) : EtP p k t σ H0 c := e ▸ h
theorem tp_or (h0 : H0 p = none) (h : EtP p k1 t σ H0 false) (h' : EtP p k2 u σ H0 b) : EtP p (k1 + k2) (tOr t u) σ H0 b := fun n H1 e hp hn Q q => h n H1 e hp (by omega) _ fun H2 p2 e2 => by
  show u σ H2 Q
  refine h' (n + k1) H2 (hm_next h0 e e2) p2 (by omega) Q fun H3 p3 e3 => q H3 ?_ (hm_trans e2 e3)
  rw [← Nat.add_assoc]
  exact p3
theorem tp_et (h : EvT t σ H0 b) : EtP p 0 t σ H0 b := fun n H1 e hp _ Q q => h H1 e Q fun H2 e2 => q H2 (hp.ex e2) (hm_of e2)
/-- a test that is false: what follows -/
theorem pq_no {n : Nat} {D : Ends} {tu tz : TS} (h : EtP p k t σ H0 false) (e : Ex H0 H) (hp : Po p n H) (hn : n + k ≤ 1000000000) (q : ∀ H2, Po p (n + k) H2 → Ex (Hm p H) H2 → tz D σ H2) : tSeq (tIfS t tu tNext) tz D σ H := h n H e hp hn _ q
theorem ps_no {n : Nat} {D : Ends} {tu : TS} (h : EtP p k t σ H0 false) (e : Ex H0 H) (hp : Po p n H) (hn : n + k ≤ 1000000000) (q : ∀ H2, Po p (n + k) H2 → Ex (Hm p H) H2 → D.nx σ H2) : tIfS t tu tNext D σ H := h n H e hp hn _ q
/-- pouch = _law_pouch(script, at) -/
theorem pq_pouch {ta : TA} {E : XK} {D : Ends} {tz : TS} {j i : Nat} {s : Addr} {ns : List Int} (h : EvA ta σ H [.ref s, .int (i : Int)]) (hs : SqL K H s (ns.map V.int)) (hi : i ≤ 100) (q : ∀ p H2, H p = none → Ex H H2 → Po p 0 H2 → tz D (σ.set j (some (.ref p))) H2) :
    tSeq (tAsg (tCall (sp_law_pouch K) [] E ta) (gName j)) tz D σ H := h H (Ex.refl H) _ fun H1 e1 => ⟨s, ns, i, rfl, ex_l e1 hs, hi, fun p H2 hp e2 hpo => q p H2 (fresh_back e1 hp) (e1.trans e2) hpo⟩
end

/-! ### lists of guests -/
def iz (xs : List Nat) : List Int := xs.map fun x : Nat => (x : Int)
def nv (xs : List Nat) : List V := (iz xs).map V.int
theorem nv_len (xs : List Nat) : (nv xs).length = xs.length := by simp [nv, iz]
theorem nv_get {xs : List Nat} {i x : Nat} (h : xs[i]? = some x) : (nv xs)[i]? = some (.int x) := by simp [nv, iz, h]
theorem nv_app (xs ys : List Nat) : nv (xs ++ ys) = nv xs ++ nv ys := by simp [nv, iz]
theorem nv_eq (xs : List Nat) : nv xs = xs.map fun x : Nat => V.int (x : Int) := by simp [nv, iz]
def Ord (h : List Nat) : Prop := h.Perm (List.range h.length) ∧ 1 ≤ h.length ∧ h.length ≤ 20
def sp_is_whole : Sp := fun vs H Q _ => ∃ x : Int, vs = [.int x] ∧ RetV (.bl true) H Q
theorem sv_whole {H : Hp} {x : Int} : SpV sp_is_whole ([.int x] ++ []) H (.bl true) := fun H1 _ Q q E => ⟨x, rfl, q⟩
local macro_rules | `(tactic| walk_at "call") => `(tactic| (with_reducible exact sv_whole))
def sp_ord (v : V) : Sp := fun vs H Q _ => ∃ (a : Addr) (h : List Nat), vs = [.ref a] ∧ H a = some (.lst (nv h)) ∧ Ord h ∧ RetV v H Q
theorem sv_ord {H : Hp} {v : V} {a : Addr} {h : List Nat} (ha : H a = some (.lst (nv h))) (o : Ord h) : SpV (sp_ord v) ([.ref a] ++ []) H v := fun H1 e Q q E => ⟨a, h, rfl, e a _ ha, o, q⟩
section
variable {P : Program} {w : World} {K : PySem.W.Frag} {mg : Str → Option Value} {base : Heap}
theorem ok_is_whole (T : Tx K mg) : FnOk P w K mg base CX0 1 T.f_is_whole T.d_is_whole ["thing"] sp_is_whole := by
  refine T.F_is_whole.ok sc_is_whole (fun vs H Q E h => ?_) (fun cdv A outer s H vs Q E hr h => ?_)
  · obtain ⟨x, rfl, _⟩ := h
    rfl
  · obtain ⟨x, rfl, k⟩ := h
    refine ⟨_, (pss_one (ps_ret (pe_cmpR op_eqTy (pe_typeOf (by rfl) T.m_type (pv 0)) (pe_bltn (v := .ty "int") (by rfl) T.m_int (by decide +kernel) rfl) (nomark _)))), ?_⟩
    refine s_ret (by walk_at "ev") fun H1 e1 => ?_
    rw [show decide (("int" : String) = "int") = true from decide_eq_true rfl]
    exact k _ e1
theorem range_iz (n : Nat) : rgV 0 (n : Int) = nv (List.range n) := by
  rw [nv_eq]
  unfold rgV
  simp
theorem ok_is_order (T : Tx K mg) : FnOk P w K mg base CX0 2 T.f_is_order T.d_is_order ["thing"] (sp_ord (.bl true)) := by
  refine T.F_is_order.ok sc_is_order (fun vs H Q E h => ?_) (fun cdv A outer s H vs Q E hr h => ?_)
  · obtain ⟨a, h, rfl, _⟩ := h
    rfl
  · obtain ⟨a, h, rfl, ha, ⟨op, o1, o2⟩, k⟩ := h
    refine ⟨_, (pss_cons (ps_if (PW.pt (pw_or (pt_cmpR (op_neTyS (hu_of hr)) (pe_typeOf (by rfl) T.m_type (pv 0)) (pe_bltn (v := .ty "list") (by rfl) T.m_list (by decide +kernel) rfl) (nomark _)) (pw_or1 (pt_not (pt_chain op_le op_le pe_int (pe_callB call_lenR (by rfl) T.m_len (by decide +kernel) (pa_cons (pv 0) pa_nil)) (pe_gc (by rfl) T.c_MOST_GUESTS)))))) (pss_one (ps_ret pe_bl)) pss_nil)
      (pss_cons (ps_if (pt_not (pt_val (pe_callB (cr_all rfl) (by rfl) T.m_all (by decide +kernel) (pa_cons (pe_lc (own := [("item", 1)]) (g := (gName 1)) (tt := tYes) rfl sc_is_order.nd (pi_list (pv 0)) (blkOk_by (own := [("item", 1)]) (N := n_is_order) (sc := defScope s_is_order) (by decide +kernel)) (fun _ _ _ _ _ => (pg_name (i := 1) sc_is_order.nd rfl (Or.inl rfl))) (fun _ _ _ _ _ => pts_nil) (fun _ _ _ _ _ => (pe_call (ok_is_whole T) (hr.mono (by decide)) (by rfl) T.g_is_whole T.F_is_whole.kp T.b_is_whole .nil pass0 (pa_cons (pv 1) pa_nil)))) pa_nil)))) (pss_one (ps_ret pe_bl)) pss_nil)
      (pss_one (ps_ret (pe_cmpR (op_eqD hr.units) (pe_callB cr_sorted (by rfl) T.m_sorted (by decide +kernel) (pa_cons (pv 0) pa_nil)) (pe_listRg rfl (by rfl) T.m_list (prg_1 (by rfl) T.m_range (pe_callB call_lenR (by rfl) T.m_len (by decide +kernel) (pa_cons (pv 0) pa_nil)))) (nomark _)))))), ?_⟩
    have hl := nv_len h
    refine q_when (b := false) (et_is (et_or (et_test (ev_op (ev_typeL (ev_var rfl) ha) ev_c (rv_neTyS PySem.TypeEq.meta_list))) fun _ => et_not (et_test (ev_chainI ev_c (ev_len (ev_var rfl) (sq_of ha)) ev_c))) ?_) (fun hb => Bool.noConfusion hb) fun _ H1 e1 => ?_
    · rw [hl]
      simp
      omega
    have h1 := e1 a _ ha
    have hm : (nv h).map (fun _ => V.bl true) = (List.replicate h.length true).map V.bl := by
      rw [nv_eq, List.map_map, List.map_replicate]
      exact List.map_const' ..
    refine q_when (b := false) (et_is (et_not (et_B (ev_allN (bs := List.replicate h.length true) ?_))) (by simp)) (fun hb => Bool.noConfusion hb) fun _ H2 e2 => ?_
    · rw [← hm]
      refine el_map (fun _ => V.bl true) (ev_var rfl) (sq_of h1) (by omega) (fun _ => rfl) fun i x H2 e2 hx => ?_
      rw [nv_eq, List.getElem?_map] at hx
      obtain ⟨z, _, rfl⟩ := Option.map_eq_some_iff.mp hx
      exact by walk_at "ev"
    · have h2 := e2 a _ h1
      have sr : EvD K (tCB (rSorted K) (tCons (tVar 0) tNil)) (start n_is_order [.ref a]) H2 (.list ((iz (List.range h.length)).map PyData.int)) :=
        ed_sorted (ns := iz h) (ev_var rfl) (sq_of h2) (by simp [iz]; omega) (op.symm.map (fun x : Nat => (x : Int))) (by
          unfold iz
          rw [List.pairwise_map]
          exact List.Pairwise.imp (fun {a b} h => by omega) List.pairwise_lt_range)
      have rg : EvD K (tLstRg (tRg1 (tCB (rLenS K) (tCons (tVar 0) tNil)))) (start n_is_order [.ref a]) H2 (.list ((iz (List.range h.length)).map PyData.int)) :=
        ed_ofL (xs := nv (List.range h.length)) (by
          have g := el_rg1 (σ := start n_is_order [.ref a]) (ev_len (K := K) (ta := tVar 0) (ev_var (i := 0) (v := .ref a) rfl) (sq_of h2)) (RgOk.of_le (by decide) (by omega) (by decide) (by omega))
          rw [hl, range_iz] at g
          exact g) (dpa_ints _)
      refine s_ret (v := .bl true) (ev_is (ev_eqD sr rg (shaped_ints _) (shaped_ints _)) (by rw [eqv_same (shaped_ints _)])) fun H3 e3 => k _ (e1.trans (e2.trans e3))
local macro_rules | `(tactic| walk_at "call") => `(tactic| ((with_reducible refine' sv_ord ?c1 ?c2); (case c1 => assumption); (case c2 => assumption)))
theorem ok_is_seating (T : Tx K mg) : FnOk P w K mg base CX0 3 T.f_is_seating T.d_is_seating ["thing"] (sp_ord (.bl true)) := by
  refine T.F_is_seating.ok sc_is_seating (fun vs H Q E h => ?_) (fun cdv A outer s H vs Q E hr h => ?_)
  · obtain ⟨a, h, rfl, _⟩ := h
    rfl
  · obtain ⟨a, h, rfl, ha, o, k⟩ := h
    refine ⟨_, (pss_one (ps_ret (pe_call (ok_is_order T) (hr.mono (by decide)) (by rfl) T.g_is_order T.F_is_order.kp T.b_is_order .nil pass0 (pa_cons (pv 0) pa_nil)))), ?_⟩
    exact s_ret (by walk_at "ev") fun H1 e1 => k _ e1
theorem ok_check_seating (T : Tx K mg) : FnOk P w K mg base CX0 4 T.f_check_seating T.d_check_seating ["seating"] (sp_ord .non) := by
  refine T.F_check_seating.ok sc_check_seating (fun vs H Q E h => ?_) (fun cdv A outer s H vs Q E hr h => ?_)
  · obtain ⟨a, h, rfl, _⟩ := h
    rfl
  · obtain ⟨a, h, rfl, ha, o, k⟩ := h
    refine ⟨_, (pss_one (ps_if (pt_not (pt_val (pe_call (ok_is_seating T) (hr.mono (by decide)) (by rfl) T.g_is_seating T.F_is_seating.kp T.b_is_seating .nil pass0 (pa_cons (pv 0) pa_nil)))) (pss_one ps_never) pss_nil)), ?_⟩
    exact s_when (b := false) (et_is (by walk_at "et") (by rfl)) (fun hb => Bool.noConfusion hb) fun _ H1 e1 => k _ e1
theorem ok_check_names (T : Tx K mg) : FnOk P w K mg base CX0 4 T.f_check_names T.d_check_names ["names"] (sp_ord .non) := by
  refine T.F_check_names.ok sc_check_names (fun vs H Q E h => ?_) (fun cdv A outer s H vs Q E hr h => ?_)
  · obtain ⟨a, h, rfl, _⟩ := h
    rfl
  · obtain ⟨a, h, rfl, ha, o, k⟩ := h
    refine ⟨_, (pss_one (ps_if (pt_not (pt_val (pe_call (ok_is_order T) (hr.mono (by decide)) (by rfl) T.g_is_order T.F_is_order.kp T.b_is_order .nil pass0 (pa_cons (pv 0) pa_nil)))) (pss_one ps_never) pss_nil)), ?_⟩
    exact s_when (b := false) (et_is (by walk_at "et") (by rfl)) (fun hb => Bool.noConfusion hb) fun _ H1 e1 => k _ e1
end
local macro_rules | `(tactic| walk_at "call") => `(tactic| (with_reducible exact sv_whole))
local macro_rules | `(tactic| walk_at "call") => `(tactic| ((with_reducible refine' sv_ord ?c1 ?c2); (case c1 => assumption); (case c2 => assumption)))

local macro_rules | `(tactic| walk_at "call") => `(tactic| (with_reducible exact sv_whole))
local macro_rules | `(tactic| walk_at "call") => `(tactic| ((with_reducible refine' sv_ord ?c1 ?c2); (case c1 => assumption); (case c2 => assumption)))

/-! ### rings: the mathematics -/
/-- r is a whole table of the seating h, from its first guest on to the left -/
structure Rg (h r : List Nat) : Prop where
  ne : 0 < r.length
  nd : r.Nodup
  st : ∀ i, i < r.length → ∃ x y, r[i]? = some x ∧ r[(i + 1) % r.length]? = some y ∧ h[x]? = some y
def rot (r : List Nat) (k : Nat) : List Nat := r.drop k ++ r.take k
theorem rot_len {r : List Nat} {k : Nat} (hk : k ≤ r.length) : (rot r k).length = r.length := by
  unfold rot
  rw [List.length_append, List.length_drop, List.length_take]
  omega
theorem rot_get {r : List Nat} {k i : Nat} (hk : k < r.length) (hi : i < r.length) : (rot r k)[i]? = r[(i + k) % r.length]? := by
  unfold rot
  by_cases h : i < r.length - k
  · rw [List.getElem?_append_left (by rw [List.length_drop]; exact h), List.getElem?_drop, Nat.mod_eq_of_lt (by omega), Nat.add_comm]
  · rw [List.getElem?_append_right (by rw [List.length_drop]; omega), List.length_drop, List.getElem?_take_of_lt (by omega)]
    have e : (i + k) % r.length = i - (r.length - k) := by
      rw [Nat.mod_eq_sub_mod (by omega), Nat.mod_eq_of_lt (by omega)]
      omega
    rw [e]
theorem rot_perm (r : List Nat) (k : Nat) : (rot r k).Perm r := by
  unfold rot
  exact List.perm_append_comm.trans (List.Perm.of_eq (List.take_append_drop k r))
theorem Rg.rot {h r : List Nat} (R : Rg h r) {k : Nat} (hk : k < r.length) : Rg h (rot r k) := by
  have hl := rot_len (r := r) (k := k) (by omega)
  refine ⟨by have := R.ne; omega, (rot_perm r k).nodup_iff.mpr R.nd, fun i hi => ?_⟩
  rw [hl] at hi ⊢
  obtain ⟨x, y, h1, h2, h3⟩ := R.st ((i + k) % r.length) (Nat.mod_lt _ R.ne)
  refine ⟨x, y, by rw [rot_get hk hi]; exact h1, ?_, h3⟩
  rw [rot_get hk (Nat.mod_lt _ R.ne), ← h2, Nat.mod_add_mod, Nat.mod_add_mod]
  congr 2
  omega
structure Rings (h : List Nat) (rs : List (List Nat)) : Prop where
  rg : ∀ r ∈ rs, Rg h r
  low : ∀ r ∈ rs, ∀ x ∈ r, r.headD 0 ≤ x
  asc : (rs.map (·.headD 0)).Pairwise (· < ·)
  all : rs.flatten.Perm (List.range h.length)
def leads (r : List Nat) : Bool := decide (∀ x ∈ r, r.headD 0 ≤ x)
theorem Rings.turn {h : List Nat} {rs : List (List Nat)} (R : Rings h rs) {g : Nat} (hg : g < h.length) : ∃ w : List Nat, (∃ r ∈ rs, ∃ k, r[k]? = some g ∧ w = rot r k) := by
  have hm : g ∈ rs.flatten := R.all.mem_iff.mpr (List.mem_range.mpr hg)
  obtain ⟨r, hr, hgr⟩ := List.mem_flatten.mp hm
  obtain ⟨k, hk⟩ := List.mem_iff_getElem?.mp hgr
  exact ⟨rot r k, r, hr, k, hk, rfl⟩
theorem Rings.walks {h : List Nat} {rs : List (List Nat)} (R : Rings h rs) : ∃ f : Nat → List Nat, ∀ g, g < h.length → ∃ r ∈ rs, ∃ k, r[k]? = some g ∧ f g = rot r k :=
  ⟨fun g => if hg : g < h.length then Classical.choose (R.turn hg) else [], fun g hg => by
    have := Classical.choose_spec (R.turn hg)
    simp only [dif_pos hg]
    exact this⟩
theorem head_rot {r : List Nat} {k g : Nat} (hk : r[k]? = some g) : (rot r k).headD 0 = g := by
  obtain ⟨hl, e⟩ := List.getElem?_eq_some_iff.mp hk
  unfold rot
  rw [List.drop_eq_getElem_cons hl]
  exact e
theorem leads_rot {r : List Nat} {k g : Nat} (hk : r[k]? = some g) (lo : ∀ x ∈ r, r.headD 0 ≤ x) (ne : 0 < r.length) : leads (rot r k) = decide (g = r.headD 0) := by
  unfold leads
  rw [head_rot hk]
  have hmem : ∀ x, x ∈ rot r k ↔ x ∈ r := fun x => (rot_perm r k).mem_iff
  have h0 : r.headD 0 ∈ r := by
    cases r with
    | nil => simp at ne
    | cons a l => simp
  have hg : g ∈ r := List.mem_of_getElem? hk
  apply decide_eq_decide.mpr
  constructor
  · intro a
    have := a _ ((hmem _).mpr h0)
    have := lo g hg
    omega
  · intro a x hx
    rw [a]
    exact lo x ((hmem x).mp hx)
theorem rot_zero (r : List Nat) : rot r 0 = r := by
  unfold rot
  simp
theorem nodup_flat {rs : List (List Nat)} (h : rs.flatten.Nodup) {r r' : List Nat} {x : Nat} (hr : r ∈ rs) (hr' : r' ∈ rs) (hx : x ∈ r) (hx' : x ∈ r') : r = r' := by
  induction rs with
  | nil => cases hr
  | cons a l ih =>
    rw [List.flatten_cons, List.nodup_append] at h
    obtain ⟨h1, h2, h3⟩ := h
    rcases List.mem_cons.mp hr with e | q
    · rcases List.mem_cons.mp hr' with e' | q'
      · rw [e, e']
      · exact absurd rfl (h3 x (e ▸ hx) x (List.mem_flatten.mpr ⟨r', q', hx'⟩))
    · rcases List.mem_cons.mp hr' with e' | q'
      · exact absurd rfl (h3 x (e' ▸ hx') x (List.mem_flatten.mpr ⟨r, q, hx⟩))
      · exact ih h2 q q'
theorem Rings.nodup {h : List Nat} {rs : List (List Nat)} (R : Rings h rs) : rs.flatten.Nodup := R.all.nodup_iff.mpr List.nodup_range
/-- the walks that begin with their least guest are the rings -/
theorem Rings.lead {h : List Nat} {rs : List (List Nat)} (R : Rings h rs) {f : Nat → List Nat} (hf : ∀ g, g < h.length → ∃ r ∈ rs, ∃ k, r[k]? = some g ∧ f g = rot r k) : ((List.range h.length).map f).filter leads = rs := by
  rw [List.filter_map]
  have hd : ∀ g, g < h.length → leads (f g) = decide (g ∈ rs.map (·.headD 0)) := fun g hg => by
    obtain ⟨r, hr, k, hk, e⟩ := hf g hg
    rw [e, leads_rot hk (R.low r hr) (R.rg r hr).ne]
    apply decide_eq_decide.mpr
    constructor
    · intro a
      exact List.mem_map.mpr ⟨r, hr, a.symm⟩
    · intro a
      obtain ⟨r', hr', e'⟩ := List.mem_map.mp a
      have h0 : g ∈ r' := by
        have := (R.rg r' hr').ne
        cases r' with
        | nil => simp at this
        | cons b l => simp at e'; simp [e']
      have := nodup_flat R.nodup hr hr' (List.mem_of_getElem? hk) h0
      rw [this]
      exact e'.symm
  have hs : (List.range h.length).filter (leads ∘ f) = rs.map (·.headD 0) := by
    have e : (List.range h.length).filter (leads ∘ f) = (List.range h.length).filter (fun g => decide (g ∈ rs.map (·.headD 0))) := List.filter_congr fun g hg => hd g (List.mem_range.mp hg)
    rw [e]
    refine List.Perm.eq_of_pairwise (le := fun a b : Nat => a < b) (fun a b _ _ h1 h2 => by omega) (List.Pairwise.filter _ List.pairwise_lt_range) R.asc ?_
    refine (List.perm_ext_iff_of_nodup (List.Pairwise.filter _ List.nodup_range) (R.asc.imp fun h => Nat.ne_of_lt h)).mpr fun g => ?_
    rw [List.mem_filter]
    constructor
    · intro a
      exact of_decide_eq_true a.2
    · intro a
      refine ⟨?_, decide_eq_true a⟩
      obtain ⟨r', hr', e'⟩ := List.mem_map.mp a
      refine R.all.mem_iff.mp (List.mem_flatten.mpr ⟨r', hr', ?_⟩)
      have := (R.rg r' hr').ne
      cases r' with
      | nil => simp at this
      | cons b l => simp at e'; simp [e']
  rw [hs, List.map_map]
  refine (List.map_congr_left fun r hr => ?_).trans (List.map_id _)
  have ne := (R.rg r hr).ne
  have hm : r.headD 0 < h.length := List.mem_range.mp (R.all.mem_iff.mp (List.mem_flatten.mpr ⟨r, hr, by
    cases r with
    | nil => simp at ne
    | cons b l => simp⟩))
  obtain ⟨r', hr', k, hk, e⟩ := hf (r.headD 0) hm
  have e2 := nodup_flat R.nodup hr' hr (List.mem_of_getElem? hk) (by
    cases r with
    | nil => simp at ne
    | cons b l => simp)
  subst e2
  have k0 : k = 0 := by
    have h0 : r'[0]? = some (r'.headD 0) := by
      cases r' with
      | nil => simp at ne
      | cons b l => simp
    exact nd_ix (R.rg r' hr').nd hk h0
  show f (r'.headD 0) = r'
  rw [e, k0, rot_zero]

/-! ### walk_left, tables_of -/
def sp_walk_left : Sp := fun vs H Q _ => ∃ (a : Addr) (h r : List Nat) (g : Nat), vs = [.ref a, .int g] ∧ H a = some (.lst (nv h)) ∧ Rg h r ∧ r[0]? = some g ∧ r.length ≤ 20 ∧ RetU (nv r) H Q
theorem su_walk {H : Hp} {a : Addr} {h r : List Nat} {g : Nat} (ha : H a = some (.lst (nv h))) (R : Rg h r) (h0 : r[0]? = some g) (hl : r.length ≤ 20) : SpU sp_walk_left ([.ref a, .int (g : Int)] ++ []) H (nv r) := fun H1 e Q q E => ⟨a, h, r, g, rfl, e a _ ha, R, h0, hl, q⟩
theorem take_next {α : Type} {l : List α} {i : Nat} {x : α} (h : l[i]? = some x) : l.take (i + 1) = l.take i ++ [x] := by
  rw [List.take_add_one, h]
  rfl
section
variable {P : Program} {w : World} {K : PySem.W.Frag} {mg : Str → Option Value} {base : Heap}
theorem ok_walk_left (T : Tx K mg) : FnOk P w K mg base CX0 1 T.f_walk_left T.d_walk_left ["lefts", "guest"] sp_walk_left := by
  refine T.F_walk_left.ok sc_walk_left (fun vs H Q E h => ?_) (fun cdv A outer s H vs Q E hr h => ?_)
  · obtain ⟨a, h, r, g, rfl, _⟩ := h
    rfl
  · obtain ⟨a, h, r, g, rfl, ha, R, h0, hl, k⟩ := h
    refine ⟨_, (pss_cons (ps_set (i := 2) sc_walk_left.nd rfl (Or.inl rfl) (pe_lst (pa_cons (pv 1) pa_nil)))
      (pss_cons (ps_while PassesOwn.never (pt_cmpR op_ne (pe_ix ix_list (pv 0) (pe_ix ix_list (pv 2) (pe_un un_neg pe_int) (fun _ _ => rfl)) (fun _ _ => rfl)) (pv 1) (nomark _)) (pss_one (ps_expr (pe_bm PySem.F.plainAttrs_list PySem.F.slot_list_append PySem.F.type_list_append mt_append (pv 2) (pa_cons (pe_ix ix_list (pv 0) (pe_ix ix_list (pv 2) (pe_un un_neg pe_int) (fun _ _ => rfl)) (fun _ _ => rfl)) pa_nil)))))
      (pss_one (ps_ret (pe_callTy call_tupR (by rfl) T.m_tuple (by decide +kernel) (pa_cons (pv 2) pa_nil)))))), ?_⟩
    refine q_asgL (by walk_at "el") fun p H1 hp e1 h1 => ?_
    refine q_while (fun m σ' H' => ∃ i, σ' = [some (.ref a), some (.int g), some (.ref p)] ∧ i < r.length ∧ Ex H H' ∧ H' p = some (.lst (nv (r.take (i + 1)))) ∧ m = r.length - i) r.length ⟨0, rfl, R.ne, e1, ?_, by omega⟩ ?_
    · rw [h1, take_next h0]
      rfl
    · rintro m σ' H' ⟨i, rfl, hi, e, hl', rfl⟩
      obtain ⟨x, y, hx, hy, hxy⟩ := R.st i hi
      have hlast : atI (nv (r.take (i + 1))) (-1) = some (.int (x : Int)) := by
        rw [take_next hx, nv_app]
        exact atI_last _ _
      have hax := e a _ ha
      have evx : ∀ H2, Ex H' H2 → Ev (tOp (rIxL K) (tVar 0) (tOp (rIxL K) (tVar 2) (tUn (rU fun i => .int (-i)) (tC (.int 1))))) [some (.ref a), some (.int g), some (.ref p)] H2 (.int (y : Int)) := fun H2 e2 =>
        ev_op (ev_var rfl) (ev_op (ev_var rfl) (ev_un ev_c ru_neg) (rv_ixL (sq_of (e2 p _ hl')) hlast)) (rv_ixL (sq_of (e2 a _ hax)) (atI_nat (nv_get hxy)))
      refine ⟨decide (i + 1 < r.length), et_is (et_test (ev_op (evx H' (Ex.refl _)) (ev_var rfl) (rv_ne rfl))) ?_, fun hb H2 e2 => ?_, fun hb H2 e2 => ?_⟩
      · rw [dec_int]
        by_cases hn : i + 1 < r.length
        · rw [Nat.mod_eq_of_lt hn] at hy
          have ne : y ≠ g := fun z => by
            subst z
            have := nd_ix R.nd hy h0
            omega
          have : ((y : Int) == (g : Int)) = false := by
            rw [beq_eq_false_iff_ne]
            omega
          rw [this]
          simp [hn]
        · have e0 : i + 1 = r.length := by omega
          rw [e0, Nat.mod_self, h0] at hy
          have : y = g := (Option.some.inj hy).symm
          subst this
          simp [hn]
      · have hn := of_decide_eq_true hb
        rw [Nat.mod_eq_of_lt hn] at hy
        have hl2 := e2 p _ hl'
        refine ⟨fun σ2 H3 => σ2 = [some (.ref a), some (.int g), some (.ref p)] ∧ Ex H H3 ∧ H3 p = some (.lst (nv (r.take (i + 1 + 1)))), fun σ2 H3 ⟨h1, h2, h3⟩ => ⟨r.length - (i + 1), by omega, i + 1, h1, hn, h2, h3, rfl⟩, ?_⟩
        refine s_app hl2 (ev_var rfl) (evx H2 e2) (by rw [nv_len, List.length_take]; omega) fun H3 e3 => ⟨rfl, Ex.mut (e.trans (e2.trans e3)) hp, ?_⟩
        rw [upd_same, take_next hy, nv_app]
        rfl
      · have hn := of_decide_eq_false hb
        have ht : r.take (i + 1) = r := List.take_of_length_le (by omega)
        rw [ht] at hl'
        exact s_retU (eu_tupOf (ev_var rfl) (sq_of (e2 p _ hl'))) fun q H3 hq e3 h3 => k q H3 (fresh_back (e.trans e2) hq) (e.trans (e2.trans e3)) h3
def sp_tables_of : Sp := fun vs H Q _ => ∃ (a : Addr) (h : List Nat) (rs : List (List Nat)), vs = [.ref a] ∧ H a = some (.lst (nv h)) ∧ Ord h ∧ Rings h rs ∧ (∀ p ws H2, H p = none → Ex H H2 → H2 p = some (.lst ws) → TL H2 ws (rs.map nv) → Q (.ref p) H2)
theorem Rings.short {h : List Nat} {rs : List (List Nat)} (R : Rings h rs) {r : List Nat} (hr : r ∈ rs) : r.length ≤ h.length := by
  have := List.Sublist.length_le (List.sublist_flatten_of_mem hr)
  rw [R.all.length_eq, List.length_range] at this
  exact this
theorem lead_val {r : List Nat} (ne : 0 < r.length) : ∃ (x : Nat) (l : List Int), iz r = (x : Int) :: l ∧ r[0]? = some x ∧ decide (V.int (x : Int) = V.int (l.foldl min (x : Int))) = leads r := by
  cases r with
  | nil => simp at ne
  | cons x l =>
    refine ⟨x, iz l, rfl, rfl, ?_⟩
    obtain ⟨h1, h2⟩ := foldl_min_spec (iz l) (x : Int)
    rw [dec_int]
    unfold leads
    rw [Bool.eq_iff_iff]
    simp only [beq_iff_eq, decide_eq_true_eq]
    constructor
    · intro e y hy
      show x ≤ y
      have := h2 (y : Int) (by
        rcases List.mem_cons.mp hy with q | q
        · rw [q]; simp
        · exact List.mem_cons_of_mem _ (List.mem_map.mpr ⟨y, q, rfl⟩))
      omega
    · intro hle
      have a := h2 (x : Int) (by simp)
      have b : ∀ z ∈ (x : Int) :: iz l, (x : Int) ≤ z := fun z hz => by
        rcases List.mem_cons.mp hz with q | q
        · omega
        · obtain ⟨y, hy, rfl⟩ := List.mem_map.mp q
          have : x ≤ y := hle y (by simp [hy])
          omega
      have := b _ h1
      omega
/-- tables_among: of all guests of a seating -/
def sp_tables_among : Sp := fun vs H Q _ => ∃ (a b : Addr) (h : List Nat) (rs : List (List Nat)), vs = [.ref a, .ref b] ∧ H a = some (.lst (nv h)) ∧ H b = some (.lst (nv (List.range h.length))) ∧ Ord h ∧ Rings h rs ∧ (∀ p ws H2, H p = none → Ex H H2 → H2 p = some (.lst ws) → TL H2 ws (rs.map nv) → Q (.ref p) H2)
theorem ok_tables_among (T : Tx K mg) : FnOk P w K mg base CX0 2 T.f_tables_among T.d_tables_among ["lefts", "guests"] sp_tables_among := by
  refine T.F_tables_among.ok sc_tables_among (fun vs H Q E h => ?_) (fun cdv A outer s H vs Q E hr h => ?_)
  · obtain ⟨a, b, h, rs, rfl, _⟩ := h
    rfl
  · obtain ⟨a, b, h, rs, rfl, ha, hb0, o, R, k⟩ := h
    refine ⟨_, (pss_cons (ps_setLc (i := 3) (own := [("guest", 2)]) (g := (gName 2)) (tt := tYes) rfl sc_tables_among.nd rfl rfl (sw_true rfl rfl rfl (by decide +kernel)) (pi_list (pv 1)) (blkOk_by (own := [("guest", 2)]) (N := n_tables_among) (sc := defScope s_tables_among) (by decide +kernel)) (fun _ _ _ _ _ => (pg_name (i := 2) sc_tables_among.nd rfl (Or.inl rfl))) (fun _ _ _ _ _ => pts_nil) (fun _ _ _ _ _ => (pe_call (ok_walk_left T) (hr.mono (by decide)) (by rfl) T.g_walk_left T.F_walk_left.kp T.b_walk_left .nil pass0 (pa_cons (pv 0) (pa_cons (pv 2) pa_nil)))))
      (pss_one (ps_ret (pe_lc (own := [("walk", 4)]) (g := (gName 4)) rfl sc_tables_among.nd (pi_list (pv 3)) (blkOk_by (own := [("walk", 4)]) (N := n_tables_among) (sc := defScope s_tables_among) (by decide +kernel)) (fun _ _ _ _ _ => (pg_name (i := 4) sc_tables_among.nd rfl (Or.inl rfl))) (fun _ _ _ _ _ => (pts_one (pt_cmpR op_eq (pe_ix (r := rIxT K) ix_tup (pv 4) pe_int (fun _ _ => rfl)) (pe_callB (id := "min") (r := rMinT K) (cr_minT rfl (hu_of hr)) (by rfl) T.m_min (by decide +kernel) (pa_cons (pv 4) pa_nil)) (nomark _)))) (fun _ _ _ _ _ => (pv 4)))))), ?_⟩
    obtain ⟨f, hf⟩ := R.walks
    have ho := o.2
    have e1 := Ex.refl H
    have h1 := ha
    refine q_asgLT (rs := (List.range h.length).map fun g => nv (f g)) ?_ fun p ws H2 hp e2 h2 ht => ?_
    · have g := elt_map (K := K) (te := tCall sp_walk_left [] E0 (tCons (tVar 0) (tCons (tVar 2) tNil))) (tl := tVar 1) (σ := [some (.ref a), some (.ref b), none, none, none]) (H := H) (j := 2) (vs := [2]) (xs := nv (List.range h.length)) (fun g => nv (f g)) (ev_var rfl) (sq_of hb0) (by rw [nv_len, List.length_range]; omega) (fun _ => rfl) fun i x H2 e2 hi0 => ?_
      · rw [nv_len, List.length_range] at g
        exact g
      · have hi : i < h.length := by
          have := (List.getElem?_eq_some_iff.mp hi0).1
          rw [nv_len, List.length_range] at this
          exact this
        have hx : x = .int (i : Int) := by
          have := nv_get (xs := List.range h.length) (i := i) (x := i) (by rw [List.getElem?_range hi])
          rw [this] at hi0
          exact (Option.some.inj hi0).symm
        subst hx
        obtain ⟨r, hr, kk, hk, e⟩ := hf i (by omega)
        have hkl := (List.getElem?_eq_some_iff.mp hk).1
        have hrs := R.short hr
        refine eu_call (by walk_at "ea") ?_
        have := su_walk (a := a) (g := i) (e2 a _ h1) ((R.rg r hr).rot hkl) (by rw [rot_get hkl (R.rg r hr).ne, Nat.zero_add, Nat.mod_eq_of_lt hkl]; exact hk) (by rw [rot_len (by omega)]; omega)
        rw [← e] at this
        exact this
    · have hlen := ht.len
      simp at hlen
      refine s_retLT (rs := rs.map nv) ?_ fun q vs H3 hq e3 h3 ht3 => k q vs H3 (fresh_back (e1.trans e2) hq) (e1.trans (e2.trans e3)) h3 ht3
      have g := elt_filter (K := K) (σ := [some (.ref a), some (.ref b), none, some (.ref p), none]) (H := H2) (tl := tVar 3) (j := 4) (vs := [4]) (t := tTest (tOp rEq (tOp (rIxT K) (tVar 4) (tC (.int 0))) (tCB (rMinT K) (tCons (tVar 4) tNil)))) (xs := ws) (rs := (List.range h.length).map fun g => nv (f g))
        (fun r => leads (r.map fun v => match v with | .int z => z.toNat | _ => 0)) (ev_var rfl) (sq_of h2) ht (by omega) (fun _ => rfl) (fun _ => rfl) fun b r H3 e3 hr hb => ?_
      · have e : ((List.range h.length).map fun g => nv (f g)).filter (fun r => leads (r.map fun v => match v with | .int z => z.toNat | _ => 0)) = rs.map nv := by
          rw [show ((List.range h.length).map fun g => nv (f g)) = ((List.range h.length).map f).map nv by rw [List.map_map]; rfl, List.filter_map]
          congr 1
          have : ((fun r : List V => leads (r.map fun v => match v with | .int z => z.toNat | _ => 0)) ∘ nv) = leads := by
            funext r
            show leads ((nv r).map _) = leads r
            rw [nv_eq, List.map_map]
            congr 1
            refine (List.map_congr_left fun x _ => ?_).trans (List.map_id _)
            simp
          rw [this]
          exact R.lead hf
        rw [e] at g
        exact g
      · obtain ⟨g, hg, rfl⟩ := List.mem_map.mp hr
        obtain ⟨r, hr, kk, hk, e⟩ := hf g (List.mem_range.mp hg)
        have hkl := (List.getElem?_eq_some_iff.mp hk).1
        have ne : 0 < (f g).length := by rw [e, rot_len (by omega)]; exact (R.rg r hr).ne
        obtain ⟨x, l, i1, i2, i3⟩ := lead_val ne
        have e5 : leads ((nv (f g)).map fun v => match v with | .int z => z.toNat | _ => 0) = leads (f g) := by
          rw [nv_eq, List.map_map]
          congr 1
          refine (List.map_congr_left fun x _ => ?_).trans (List.map_id _)
          simp
        rw [e5, ← i3]
        have hb2 : SqT K H3 b (((x : Int) :: l).map V.int) := st_of (by rw [hb]; unfold nv; rw [i1])
        exact et_test (ev_op (ev_op (ev_var rfl) ev_c (rv_ixT (st_of hb) (atI_nat (j := 0) (nv_get i2)))) (ev_minT (ev_var rfl) hb2) (rv_eq rfl))
theorem elt_among {H : Hp} {a : Addr} {h : List Nat} {rs : List (List Nat)} {σ : L2.St} {ta tb : TE} {E : XK} (h1 : Ev ta σ H (.ref a)) (h2 : EvL tb σ H (nv (List.range h.length))) (ha : H a = some (.lst (nv h))) (o : Ord h) (R : Rings h rs) : EvLT (tCall sp_tables_among [] E (tCons ta (tCons tb tNil))) σ H (rs.map nv) := fun H1 e Q q => h1 H1 e _ fun H2 e2 => h2 H2 (e.trans e2) _ fun b H3 nb e3 hb => ⟨a, b, h, rs, rfl, (e.trans (e2.trans e3)) a _ ha, hb, o, R, fun p ws H4 hp e4 h4 t => q p ws H4 (fresh_back (e2.trans e3) hp) ((e2.trans e3).trans e4) h4 t⟩
theorem ok_tables_of (T : Tx K mg) : FnOk P w K mg base CX0 5 T.f_tables_of T.d_tables_of ["seating"] sp_tables_of := by
  refine T.F_tables_of.ok sc_tables_of (fun vs H Q E h => ?_) (fun cdv A outer s H vs Q E hr h => ?_)
  · obtain ⟨a, h, rs, rfl, _⟩ := h
    rfl
  · obtain ⟨a, h, rs, rfl, ha, o, R, k⟩ := h
    refine ⟨_, (pss_cons (ps_expr (pe_call (ok_check_seating T) (hr.mono (by decide)) (by rfl) T.g_check_seating T.F_check_seating.kp T.b_check_seating .nil pass0 (pa_cons (pv 0) pa_nil)))
      (pss_one (ps_ret (pe_call (ok_tables_among T) (hr.mono (by decide)) (by rfl) T.g_tables_among T.F_tables_among.kp T.b_tables_among .nil pass0 (pa_cons (pv 0) (pa_cons (pe_listRg rfl (by rfl) T.m_list (prg_1 (by rfl) T.m_range (pe_callB call_lenR (by rfl) T.m_len (by decide +kernel) (pa_cons (pv 0) pa_nil)))) pa_nil)))))), ?_⟩
    have ho := o.2
    refine q_drop (by walk_at "ev") fun H1 e1 => ?_
    have h1 := e1 a _ ha
    refine s_retLT (rs := rs.map nv) (elt_among (ev_var rfl) ?_ h1 o R) fun q vs H3 hq e3 h3 ht3 => k q vs H3 (fresh_back e1 hq) (e1.trans e3) h3 ht3
    have g := el_rg1 (σ := start n_tables_of [.ref a]) (ev_len (K := K) (ta := tVar 0) (ev_var (i := 0) (v := .ref a) rfl) (sq_of h1)) (RgOk.of_le (by decide) (by rw [nv_len]; omega) (by decide) (by rw [nv_len]; omega))
    rw [nv_len, range_iz] at g
    exact g
end

local macro_rules | `(tactic| walk_at "call") => `(tactic| (with_reducible exact sv_whole))
local macro_rules | `(tactic| walk_at "call") => `(tactic| ((with_reducible refine' sv_ord ?c1 ?c2); (case c1 => assumption); (case c2 => assumption)))

/-! ### seating_with -/
theorem el_mapI {K : PySem.W.Frag} {σ : L2.St} {H : Hp} {te tl : TE} {a : Addr} {xs : List V} {j : Nat} {vs : List Nat} (f : Nat → V) (h : Ev tl σ H (.ref a)) (hx : SqL K H a xs) (hz : xs.length ≤ 40000) (hw : ∀ x, wipe ((wipe σ vs).set j (some x)) vs = wipe σ vs)
    (he : ∀ (i : Nat) (x : V) H1, Ex H H1 → xs[i]? = some x → Ev te ((wipe σ vs).set j (some x)) H1 (f i)) : EvL (tLc (iList K tl) (gName j) tYes te vs) σ H ((List.range xs.length).map f) := by
  have e : (List.range xs.length).map f = given xs.length (fun _ => true) f := by
    unfold given
    rw [List.filter_eq_self.mpr (fun _ _ => rfl)]
  rw [e]
  exact el_lcL _ _ h hx hz hw (fun _ _ _ _ _ => et_yes) fun i x H1 e hi _ => he i x H1 e hi
/-- a table at b: a list or a tuple -/
def Tb (H : Hp) (v : V) (r : List Nat) : Prop := ∃ b, v = .ref b ∧ (H b = some (.lst (nv r)) ∨ H b = some (.tup (nv r)))
theorem Tb.ex {H H' : Hp} {v : V} {r : List Nat} (e : Ex H H') (h : Tb H v r) : Tb H' v r := by
  obtain ⟨b, rfl, h | h⟩ := h
  · exact ⟨b, rfl, .inl (e b _ h)⟩
  · exact ⟨b, rfl, .inr (e b _ h)⟩
theorem nv_set {c : List Nat} {x y : Nat} : (nv c).set x (.int y) = nv (c.set x y) := by
  rw [nv_eq, nv_eq, List.map_set]
theorem nv_rep (n : Nat) : (List.replicate n [V.int 0]).flatten = nv (List.replicate n 0) := by
  rw [nv_eq, List.map_replicate]
  induction n with
  | zero => rfl
  | succ k ih =>
    rw [List.replicate_succ, List.flatten_cons, ih, List.replicate_succ]
    rfl
theorem nv_inj {a b : List Nat} (h : a = b) : nv a = nv b := by rw [h]
def sp_seating_with : Sp := fun vs H Q _ => ∃ (a : Addr) (ws : List V) (rs : List (List Nat)) (h : List Nat), vs = [.ref a] ∧ H a = some (.lst ws) ∧ Paired (Tb H) ws rs ∧ rs.flatten.Perm (List.range h.length) ∧ (∀ r ∈ rs, Rg h r) ∧ h.length ≤ 20 ∧ RetL (nv h) H Q
theorem paired_get {α β : Type} {F : α → β → Prop} : ∀ {l : List α} {m : List β} {i : Nat} {x : α}, Paired F l m → l[i]? = some x → ∃ y, m[i]? = some y ∧ F x y
  | _, _, 0, x, .cons h t, hx => ⟨_, rfl, (Option.some.inj (by simpa using hx)) ▸ h⟩
  | _, _, i + 1, x, .cons h t, hx => by
    obtain ⟨y, h1, h2⟩ := paired_get (i := i) t (by simpa using hx)
    exact ⟨y, by simpa using h1, h2⟩
  | _, _, 0, x, .nil, hx => by simp at hx
  | _, _, i + 1, x, .nil, hx => by simp at hx
theorem sum_len : ∀ rs : List (List Nat), ((rs.map fun r => (r.length : Int))).sum = (rs.flatten.length : Int)
  | [] => rfl
  | r :: l => by
    rw [List.map_cons, List.sum_cons, sum_len l, List.flatten_cons, List.length_append]
    omega
theorem flat_next {rs : List (List Nat)} {i : Nat} {r : List Nat} (h : rs[i]? = some r) : (rs.take (i + 1)).flatten = (rs.take i).flatten ++ r := by
  rw [take_next h, List.flatten_append]
  simp
section
variable {P : Program} {w : World} {K : PySem.W.Frag} {mg : Str → Option Value} {base : Heap}
theorem ok_seating_with (T : Tx K mg) : FnOk P w K mg base CX0 1 T.f_seating_with T.d_seating_with ["tables"] sp_seating_with := by
  refine T.F_seating_with.ok sc_seating_with (fun vs H Q E h => ?_) (fun cdv A outer s H vs Q E hr h => ?_)
  · obtain ⟨a, ws, rs, h, rfl, _⟩ := h
    rfl
  · obtain ⟨a, ws, rs, h, rfl, ha, ht, hp, hR, hn, k⟩ := h
    refine ⟨_, (pss_cons (ps_set (i := 2) sc_seating_with.nd rfl (Or.inl rfl) (pe_op op_rep (pe_lst (pa_cons pe_int pa_nil)) (pe_callB (cr_sum rfl) (by rfl) T.m_sum (by decide +kernel) (pa_cons (pe_lc (own := [("table", 1)]) (g := (gName 1)) (tt := tYes) rfl sc_seating_with.nd (pi_list (pv 0)) (blkOk_by (own := [("table", 1)]) (N := n_seating_with) (sc := defScope s_seating_with) (by decide +kernel)) (fun _ _ _ _ _ => (pg_name (i := 1) sc_seating_with.nd rfl (Or.inl rfl))) (fun _ _ _ _ _ => pts_nil) (fun _ _ _ _ _ => (pe_callB (id := "len") (r := rLenS K) call_lenR (by rfl) T.m_len (by decide +kernel) (pa_cons (pv 1) pa_nil)))) pa_nil))))
      (pss_cons (ps_for PassesOwn.never rfl (pi_list (pv 0)) (pg_name (i := 1) sc_seating_with.nd rfl (Or.inl rfl)) (pss_one (ps_for PassesOwn.never rfl (pi_enumS (by rfl) T.m_enumerate (pa_cons (pv 1) pa_nil)) (pg_tup rfl (pgs_cons (pg_name (i := 3) sc_seating_with.nd rfl (Or.inl rfl)) (pgs_cons (pg_name (i := 4) sc_seating_with.nd rfl (Or.inl rfl)) pgs_nil))) (pss_one (ps_asg (pe_ix ix_seq (pv 1) (pe_op op_mod (pe_op op_add (pv 3) pe_int) (pe_callB call_lenR (by rfl) T.m_len (by decide +kernel) (pa_cons (pv 1) pa_nil))) (fun _ _ => rfl)) (pg_sub (pv 2) (pv 4) set_list))))))
      (pss_one (ps_ret (pv 2))))), ?_⟩
    have hlen : ws.length = rs.length := Paired.length ht
    have hfl : rs.flatten.length = h.length := by rw [hp.length_eq, List.length_range]
    have short : ∀ r ∈ rs, r.length ≤ h.length := fun r hr => by
      have := List.Sublist.length_le (List.sublist_flatten_of_mem hr)
      omega
    have many : rs.length ≤ h.length := by
      have : ∀ l : List (List Nat), (∀ r ∈ l, 0 < r.length) → l.length ≤ l.flatten.length := fun l => by
        induction l with
        | nil => intro _; simp
        | cons r l ih =>
          intro hl
          have := ih fun x hx => hl x (by simp [hx])
          have := hl r (by simp)
          rw [List.flatten_cons, List.length_append, List.length_cons]
          omega
      have := this rs fun r hr => (hR r hr).ne
      omega
    have e0 : ((List.range ws.length).map fun i => V.int ((rs.getD i []).length : Int)) = (rs.map fun r => (r.length : Int)).map V.int := by
      rw [hlen, List.map_map]
      conv => rhs; rw [range_get rs []]
      rw [List.map_map]
      rfl
    refine q_asgL (xs := nv (List.replicate h.length 0)) ?_ fun p H1 hp1 e1 h1 => ?_
    · rw [← nv_rep, ← Int.toNat_natCast h.length]
      refine el_rep (by walk_at "el") ?_ (by omega) (by omega) (by simp)
      rw [← hfl, ← sum_len rs]
      refine ev_sumN (ns := rs.map fun r => (r.length : Int)) ?_
      rw [← e0]
      refine el_mapI _ (ev_var rfl) (sq_of ha) (by omega) (fun _ => rfl) fun i x H1 e1 hx => ?_
      obtain ⟨r, hr, b, rfl, hb⟩ := paired_get ht hx
      have g : rs.getD i [] = r := by rw [List.getD_eq_getElem?_getD, hr] <;> rfl
      rw [g, ← nv_len r]
      rcases hb with hb | hb
      · exact ev_len (K := K) (ev_var rfl) (sq_of (e1 b _ hb))
      · exact ev_lenT (K := K) (ev_var rfl) (st_of (e1 b _ hb))
    have pa : p ≠ a := fun z => by
      subst z
      rw [ha] at hp1
      cases hp1
    refine q_forLn (xs := ws) (K := K) (ev_var rfl) (sq_of (e1 a _ ha)) (fun i σ' H' => ∃ (c : List Nat) (y1 y3 y4 : Option V), σ' = [some (.ref a), y1, some (.ref p), y3, y4] ∧ Ex H H' ∧ H' p = some (.lst (nv c)) ∧ c.length = h.length ∧ ∀ x ∈ (rs.take i).flatten, c[x]? = h[x]?)
      (fun H2 e2 => ⟨List.replicate h.length 0, none, none, none, rfl, e1.trans e2, e2 p _ h1, by simp, by simp⟩) (fun i σ' H' _ ⟨_, _, _, _, _, e, _⟩ => sq_of (e a _ ha)) ?_ ?_
    · rintro i v σ' H' hv ⟨c, y1, y3, y4, rfl, e, hc, hcl, hdone⟩
      obtain ⟨r, hr, b, rfl, hb⟩ := paired_get ht hv
      have hrm : r ∈ rs := List.mem_of_getElem? hr
      have R := hR r hrm
      have bp : ∀ o, H b = some o → b ≠ p := fun o ho z => by
        subst z
        rw [hp1] at ho
        cases ho
      have hrl := short r hrm
      have body : ∀ (D : Ends), (∀ σ' H', (∃ (c : List Nat) (y1 y3 y4 : Option V), σ' = [some (.ref a), y1, some (.ref p), y3, y4] ∧ Ex H H' ∧ H' p = some (.lst (nv c)) ∧ c.length = h.length ∧ ∀ x ∈ (rs.take (i + 1)).flatten, c[x]? = h[x]?) → D.nx σ' H') → ∀ (G : Hp → Prop) (hG : (∀ H, G H → SqL K H b (nv r)) ∨ (∀ H, G H → SqT K H b (nv r))), (∀ H2, Ex H H2 → G H2) → tFor (iEnumS K (tCons (tVar 1) tNil)) (gTup K 2 (gCons (gName 3) (gCons (gName 4) gNil)))
          (tAsg (tOp (rIx K) (tVar 1) (tOp (rI (fun _ j => 0 < j) fun i j => .int (i % j)) (tOp (rI0 fun i j => .int (i + j)) (tVar 3) (tC (.int 1))) (tCB (rLenS K) (tCons (tVar 1) tNil)))) (gSub (tVar 2) (tVar 4) rSetL))
          D
          [some (.ref a), some (.ref b), some (.ref p), y3, y4] H' := fun D hD G hG hg => by
        refine s_forEnS (xs := nv r) (ea_cons (ev_var rfl) ea_nil) G hG (fun H2 e2 => hg H2 (e.trans e2)) (fun m σ' H2 => ∃ (c : List Nat) (y3 y4 : Option V), σ' = [some (.ref a), some (.ref b), some (.ref p), y3, y4] ∧ Ex H H2 ∧ H2 p = some (.lst (nv c)) ∧ c.length = h.length ∧ ∀ x ∈ (rs.take i).flatten ++ r.take m, c[x]? = h[x]?)
          (fun H2 e2 => ⟨c, y3, y4, rfl, e.trans e2, e2 p _ hc, hcl, by simpa using hdone⟩) (fun m σ' H2 _ ⟨_, _, _, _, e2, _⟩ => hg H2 e2) ?_ ?_
        · rintro m x σ' H2 H3 hx ⟨c, y3, y4, rfl, e2, hc2, hcl2, hd2⟩ e3
          have hml : m < r.length := by
            have := (List.getElem?_eq_some_iff.mp hx).1
            rw [nv_len] at this
            exact this
          obtain ⟨x0, y0, hx0, hy0, hxy⟩ := R.st m hml
          have ex0 : x = .int (x0 : Int) := by
            have := nv_get hx0
            rw [hx] at this
            exact Option.some.inj this
          subst ex0
          have hgH := hg H3 (e2.trans e3)
          have el : ((m : Int) + 1) % ((nv r).length : Int) = (((m + 1) % r.length : Nat) : Int) := by
            rw [nv_len]
            have := Int.natCast_emod (m + 1) r.length
            simpa using this.symm
          have evl : Ev (tCB (rLenS K) (tCons (tVar 1) tNil)) [some (.ref a), some (.ref b), some (.ref p), some (.int (m : Int)), some (.int (x0 : Int))] H3 (.int ((nv r).length : Int)) := by
            rcases hG with hG | hG
            · exact ev_len (K := K) (ev_var rfl) (hG _ hgH)
            · exact ev_lenT (K := K) (ev_var rfl) (hG _ hgH)
          have hix : RV (rIx K) (.ref b) (.int (((m + 1) % r.length : Nat) : Int)) H3 (.int (y0 : Int)) := fun H4 e4 Q q => by
            rcases hG with hG | hG
            · exact .inl ⟨b, nv r, _, _, rfl, rfl, ex_l e4 (hG _ hgH), atI_nat (nv_get hy0), q H4 (Ex.refl H4)⟩
            · exact .inr (.inl ⟨b, nv r, _, _, rfl, rfl, ex_t e4 (hG _ hgH), atI_nat (nv_get hy0), q H4 (Ex.refl H4)⟩)
          have hx0l : x0 < h.length := (List.getElem?_eq_some_iff.mp hxy).1
          refine s_setL (j := x0) (e3 p _ hc2) (ev_op (ev_var rfl) (ev_op (ev_op (ev_var rfl) ev_c rv_I0) evl (rv_I (by rw [nv_len]; omega))) (by rw [el]; exact hix)) (ev_var rfl) (ev_var rfl) (by rw [nv_len]; omega) fun H4 e4 => ?_
          refine ⟨c.set x0 y0, _, _, rfl, Ex.mut (e2.trans (e3.trans e4)) hp1, ?_, by simp [hcl2], ?_⟩
          · rw [upd_same, nv_set]
          · intro z hz
            by_cases ez : z = x0
            · rw [ez, List.getElem?_set_self (by omega)]
              exact hxy.symm
            · rw [List.getElem?_set_ne (Ne.symm ez)]
              refine hd2 z ?_
              rw [take_next hx0] at hz
              simp at hz ⊢
              rcases hz with hz | hz | hz
              · exact .inl hz
              · exact .inr hz
              · exact absurd hz ez
        · rintro σ' H2 ⟨c, y3, y4, rfl, e2, hc2, hcl2, hd2⟩
          refine hD _ _ ⟨c, _, _, _, rfl, e2, hc2, hcl2, ?_⟩
          rw [flat_next hr]
          rw [nv_len, List.take_of_length_le (Nat.le_refl _)] at hd2
          exact hd2
      rcases hb with hb | hb
      · exact body _ (fun _ _ q => q) (fun H2 => H2 b = some (.lst (nv r))) (.inl fun _ q => sq_of q) (fun H2 e2 => e2 b _ hb)
      · exact body _ (fun _ _ q => q) (fun H2 => H2 b = some (.tup (nv r))) (.inr fun _ q => st_of q) (fun H2 e2 => e2 b _ hb)
    · rintro σ' H' ⟨c, y1, y3, y4, rfl, e, hc, hcl, hdone⟩
      rw [hlen, List.take_of_length_le (Nat.le_refl _)] at hdone
      have eq : c = h := by
        refine List.ext_getElem? fun x => ?_
        by_cases hx : x < h.length
        · exact hdone x (hp.mem_iff.mpr (List.mem_range.mpr hx))
        · rw [List.getElem?_eq_none (by omega), List.getElem?_eq_none (by omega)]
      subst eq
      exact s_ret (ev_var rfl) fun H2 e2 => k p H2 hp1 (e.trans e2) (e2 p _ hc)
end

local macro_rules | `(tactic| walk_at "call") => `(tactic| (with_reducible exact sv_whole))
local macro_rules | `(tactic| walk_at "call") => `(tactic| ((with_reducible refine' sv_ord ?c1 ?c2); (case c1 => assumption); (case c2 => assumption)))

/-! ### two walks in one comprehension; record_list -/
theorem it_gen {J : It} {n : Nat} {G : Hp → Prop} {Y : Nat → Hp → V → Hp → Prop} (w : Walk J n G Y) {S : Hp} {Qd : Hp → Prop} {B : (Hp → Prop) → V → Hp → Prop} (Pv : Nat → Hp → Prop) (h0 : Pv 0 S) (hG : ∀ i H, i ≤ n → Pv i H → G H)
    (hs : ∀ i x H H', i < n → Pv i H → Y i H x H' → B (Pv (i + 1)) x H') (hd : ∀ H, Pv n H → Qd H) :
    ∃ W : Nat → Nat → Hp → Prop, (∃ m, W 0 m S) ∧ ∀ i m H, W i m H →
      (J.stop i H ∧ Qd H) ∨ (J.go i H ∧ ∃ Nx : Hp → Prop, (∀ H', Nx H' → ∃ m', m' < m ∧ W (i + 1) m' H') ∧ ∀ x H', J.yld i H x H' → B Nx x H') := by
  refine ⟨fun i m H => m = n - i ∧ i ≤ n ∧ Pv i H, ⟨n, by simp, Nat.zero_le _, h0⟩, ?_⟩
  rintro i m H ⟨rfl, hi, p⟩
  have q := hG i H hi p
  by_cases hlt : i < n
  · exact .inr ⟨w.goes i H hlt q, Pv (i + 1), fun H' p' => ⟨n - (i + 1), by omega, rfl, hlt, p'⟩, fun x H' y => hs i x H H' hlt p (w.yields i H x H' hlt q y)⟩
  · have e : i = n := by omega
    subst e
    exact .inl ⟨w.stops H q, hd H p⟩
theorem elt_rev {K : PySem.W.Frag} {σ : L2.St} {H : Hp} {ta : TE} {rs : List (List V)} (h : EvLT ta σ H rs) : EvLT (tRevL K ta) σ H rs.reverse := fun H1 e Q q => h H1 e _ fun p vs H2 _ e2 h2 ht =>
  ⟨p, vs, rfl, sq_of h2, fun l hl => q l vs.reverse _ (fresh_back e2 hl) (e2.trans (Ex.new hl)) upd_same (ht.rev.ex (Ex.new hl))⟩
theorem flatV_next {rs : List (List V)} {i : Nat} {r : List V} (h : rs[i]? = some r) : (rs.take (i + 1)).flatten = (rs.take i).flatten ++ r := by
  rw [take_next h, List.flatten_append]
  simp
/-- [x for t in ts for x in t], ts a list of tuples -/
theorem el_lc2 {K : PySem.W.Frag} {σ : L2.St} {H : Hp} {tl : TE} {j l : Nat} {vs vs1 : List Nat} {rs : List (List V)} (h : EvLT tl σ H rs) (hz : rs.flatten.length ≤ 40000)
    (hw : ∀ x, wipe ((wipe σ vs).set j (some x)) vs = wipe σ vs) (hj : ∀ x, ((wipe σ vs).set j (some x))[j]? = some (some x))
    (hw1 : ∀ x y, wipe ((wipe ((wipe σ vs).set j (some x)) vs1).set l (some y)) vs1 = wipe ((wipe σ vs).set j (some x)) vs1) (hl : ∀ x y, ((wipe ((wipe σ vs).set j (some x)) vs1).set l (some y))[l]? = some (some y)) :
    EvL (tLc2 (iList K tl) (gName j) tYes (iTup K (tVar j)) (gName l) tYes (tVar l) vs vs1) σ H rs.flatten := fun H0 e Q q => h H0 e _ fun a ws H1 ha e1 h1 ht => ⟨a, rfl, ⟨ws, sq_of h1⟩, fun Dl hD => by
  have hlen := ht.len
  refine it_gen walk_list (fun i H' => Ex H1 H' ∧ H' Dl = some (.lst (rs.take i).flatten)) ⟨Ex.new hD, upd_same⟩ (fun i H' _ p => sq_of (p.1 a _ h1)) ?_ fun H' p => ?_
  · rintro i x Hh H' hi ⟨p1, p2⟩ ⟨rfl, hx⟩
    obtain ⟨b, r, rfl, hb, hr⟩ := ht.get hx
    have hlr : (rs.take (i + 1)).flatten.length ≤ 40000 := by
      have : (rs.take (i + 1)).flatten.length ≤ rs.flatten.length := by
        conv => rhs; rw [← List.take_append_drop (i + 1) rs, List.flatten_append, List.length_append]
        omega
      omega
    rw [flatV_next hr, List.length_append] at hlr
    refine ⟨hw _, ?_⟩
    simp only [tYes, ↓reduceIte]
    refine ⟨.ref b, hj _, b, rfl, ⟨r, st_of (p1 b _ hb)⟩, ?_⟩
    refine it_gen (walk_tup (K := K) (a := b) (xs := r)) (fun m H2 => Ex H1 H2 ∧ H2 Dl = some (.lst ((rs.take i).flatten ++ r.take m))) ⟨p1, by rw [p2]; simp⟩ (fun m H2 _ p => st_of (p.1 b _ hb)) ?_ fun H2 p => ?_
    · rintro m y H2 H3 hm ⟨p3, p4⟩ ⟨rfl, hy⟩
      refine ⟨hw1 _ _, ?_⟩
      simp only [tYes, ↓reduceIte]
      refine ⟨y, hl _ _, _, p4, sz_lt (by rw [List.length_append, List.length_take]; omega), Ex.mut p3 hD, ?_⟩
      rw [upd_same, take_next hy, List.append_assoc]
    · obtain ⟨p3, p4⟩ := p
      refine ⟨p3, ?_⟩
      rw [p4, flatV_next hr, List.take_of_length_le (Nat.le_refl _)]
  · obtain ⟨p1, p2⟩ := p
    rw [hlen, List.take_of_length_le (Nat.le_refl _)] at p2
    exact q Dl H' (fresh_back e1 hD) (e1.trans p1) p2⟩
theorem flat_nv : ∀ rs : List (List Nat), (rs.map nv).flatten = nv rs.flatten
  | [] => rfl
  | r :: l => by rw [List.map_cons, List.flatten_cons, flat_nv l, List.flatten_cons, nv_app]
theorem elt_tables {σ : L2.St} {H : Hp} {ta : TE} {E : XK} {a : Addr} {h : List Nat} {rs : List (List Nat)} (hv : Ev ta σ H (.ref a)) (ha : H a = some (.lst (nv h))) (o : Ord h) (R : Rings h rs) : EvLT (tCall sp_tables_of [] E (tCons ta tNil)) σ H (rs.map nv) := fun H1 e Q q =>
  hv H1 e _ fun H2 e2 => ⟨a, h, rs, rfl, e2 a _ (e a _ ha), o, R, fun p ws H3 hp e3 h3 ht => q p ws H3 (fresh_back e2 hp) (e2.trans e3) h3 ht⟩
def sp_record_list : Sp := fun vs H Q _ => ∃ (a : Addr) (h : List Nat) (rs : List (List Nat)), vs = [.ref a] ∧ H a = some (.lst (nv h)) ∧ Ord h ∧ Rings h rs ∧ RetL (nv rs.reverse.flatten) H Q
theorem sl_record {H : Hp} {a : Addr} {h : List Nat} {rs : List (List Nat)} (ha : H a = some (.lst (nv h))) (o : Ord h) (R : Rings h rs) : SpL sp_record_list ([.ref a] ++ []) H (nv rs.reverse.flatten) := fun H1 e Q q E => ⟨a, h, rs, rfl, e a _ ha, o, R, q⟩
section
variable {P : Program} {w : World} {K : PySem.W.Frag} {mg : Str → Option Value} {base : Heap}
theorem ok_record_list (T : Tx K mg) : FnOk P w K mg base CX0 6 T.f_record_list T.d_record_list ["seating"] sp_record_list := by
  refine T.F_record_list.ok sc_record_list (fun vs H Q E h => ?_) (fun cdv A outer s H vs Q E hr h => ?_)
  · obtain ⟨a, h, rs, rfl, _⟩ := h
    rfl
  · obtain ⟨a, h, rs, rfl, ha, o, R, k⟩ := h
    refine ⟨_, (pss_one (ps_ret (pe_lc2 (wi1 := iTup K (tVar 1)) (own := [("table", 1), ("guest", 2)]) (vs1 := [2]) (g := (gName 1)) (g1 := (gName 2)) (tt := tYes) (tt1 := tYes) rfl sc_record_list.nd (pi_list (pe_revLK (K := K) rfl (pe_call (ok_tables_of T) (hr.mono (by decide)) (by rfl) T.g_tables_of T.F_tables_of.kp T.b_tables_of .nil pass0 (pa_cons (pv 0) pa_nil)))) (blkOk_by (own := [("table", 1), ("guest", 2)]) (N := n_record_list) (sc := defScope s_record_list) (by decide +kernel)) (by decide) (fun _ _ _ _ _ => (pg_name (i := 1) sc_record_list.nd rfl (Or.inl rfl))) (fun _ _ _ _ _ => pts_nil) (fun _ _ _ _ _ => (pi_tup (pv 1))) (fun _ _ _ _ _ => (pg_name (i := 2) sc_record_list.nd rfl (Or.inl rfl))) (fun _ _ _ _ _ => pts_nil) (fun _ _ _ _ _ => (pv 2))))), ?_⟩
    have hfl : rs.reverse.flatten.length ≤ 20 := by
      have h1 : rs.reverse.flatten.length = rs.flatten.length := (List.Perm.flatten (List.reverse_perm rs)).length_eq
      have h2 := R.all.length_eq
      rw [List.length_range] at h2
      have := o.2.2
      omega
    refine s_retL (xs := nv rs.reverse.flatten) ?_ fun p H1 hp e1 h1 => k p H1 hp e1 h1
    rw [← flat_nv, List.map_reverse]
    refine el_lc2 (elt_rev (elt_tables (ev_var rfl) ha o R)) (by rw [← List.map_reverse, flat_nv, nv_len]; omega) (fun _ => rfl) (fun _ => rfl) (fun _ _ => rfl) (fun _ _ => rfl)
/-! renamed -/
def sp_renamed : Sp := fun vs H Q _ => ∃ (a b : Addr) (h f t : List Nat), vs = [.ref a, .ref b] ∧ H a = some (.lst (nv h)) ∧ H b = some (.lst (nv f)) ∧ Ord h ∧ Ord f ∧ f.length = h.length ∧ t.length = h.length ∧
  (∀ (g x : Nat), h[g]? = some x → ∃ y z, f[g]? = some y ∧ f[x]? = some z ∧ t[y]? = some z) ∧ RetL (nv t) H Q
theorem sl_renamed {H : Hp} {a b : Addr} {h f t : List Nat} (ha : H a = some (.lst (nv h))) (hb : H b = some (.lst (nv f))) (o : Ord h) (o' : Ord f) (hl : f.length = h.length) (ht : t.length = h.length)
    (hk : ∀ (g x : Nat), h[g]? = some x → ∃ y z, f[g]? = some y ∧ f[x]? = some z ∧ t[y]? = some z) : SpL sp_renamed ([.ref a, .ref b] ++ []) H (nv t) := fun H1 e Q q E => ⟨a, b, h, f, t, rfl, e a _ ha, e b _ hb, o, o', hl, ht, hk, q⟩
theorem ok_renamed (T : Tx K mg) : FnOk P w K mg base CX0 5 T.f_renamed T.d_renamed ["seating", "names"] sp_renamed := by
  refine T.F_renamed.ok sc_renamed (fun vs H Q E h => ?_) (fun cdv A outer s H vs Q E hr h => ?_)
  · obtain ⟨a, b, h, f, t, rfl, _⟩ := h
    rfl
  · obtain ⟨a, b, h, f, t, rfl, ha, hb, o, o', hl, ht, hk, k⟩ := h
    refine ⟨_, (pss_cons (ps_expr (pe_call (ok_check_seating T) (hr.mono (by decide)) (by rfl) T.g_check_seating T.F_check_seating.kp T.b_check_seating .nil pass0 (pa_cons (pv 0) pa_nil)))
      (pss_cons (ps_expr (pe_call (ok_check_names T) (hr.mono (by decide)) (by rfl) T.g_check_names T.F_check_names.kp T.b_check_names .nil pass0 (pa_cons (pv 1) pa_nil)))
      (pss_cons (ps_if (pt_cmpR op_ne (pe_callB call_lenR (by rfl) T.m_len (by decide +kernel) (pa_cons (pv 1) pa_nil)) (pe_callB call_lenR (by rfl) T.m_len (by decide +kernel) (pa_cons (pv 0) pa_nil)) (nomark _)) (pss_one ps_never) pss_nil)
      (pss_cons (ps_set (i := 2) sc_renamed.nd rfl (Or.inl rfl) (pe_op op_rep (pe_lst (pa_cons pe_int pa_nil)) (pe_callB call_lenR (by rfl) T.m_len (by decide +kernel) (pa_cons (pv 0) pa_nil))))
      (pss_cons (ps_for PassesOwn.never rfl (pi_enum (by rfl) T.m_enumerate (pa_cons (pv 0) pa_nil)) (pg_tup rfl (pgs_cons (pg_name (i := 3) sc_renamed.nd rfl (Or.inl rfl)) (pgs_cons (pg_name (i := 4) sc_renamed.nd rfl (Or.inl rfl)) pgs_nil))) (pss_one (ps_asg (pe_ix ix_list (pv 1) (pv 4) (fun _ _ => rfl)) (pg_sub (pv 2) (pe_ix ix_list (pv 1) (pv 3) (fun _ _ => rfl)) set_list))))
      (pss_one (ps_ret (pv 2)))))))), ?_⟩
    have hn := o.2.2
    refine q_drop (by walk_at "ev") fun H1 e1 => ?_
    have ha1 := e1 a _ ha
    have hb1 := e1 b _ hb
    refine q_drop (by walk_at "ev") fun H2 e2 => ?_
    have ha2 := e2 a _ ha1
    have hb2 := e2 b _ hb1
    refine q_when (b := false) (et_is (et_test (ev_op (ev_len (K := K) (ev_var rfl) (sq_of hb2)) (ev_len (K := K) (ev_var rfl) (sq_of ha2)) (rv_ne rfl))) (by rw [nv_len, nv_len, hl]; simp)) (fun hb => Bool.noConfusion hb) fun _ H3 e3 => ?_
    have ha3 := e3 a _ ha2
    have hb3 := e3 b _ hb2
    refine q_asgL (xs := nv (List.replicate h.length 0)) ?_ fun p H4 hp e4 h4 => ?_
    · rw [← nv_rep, ← Int.toNat_natCast h.length]
      refine el_rep (el_lst (ea_cons ev_c ea_nil) (Nat.le_of_ble_eq_true rfl)) ?_ (by omega) (by omega) (by simp)
      have := ev_len (K := K) (ta := tVar 0) (σ := start n_renamed [.ref a, .ref b]) (ev_var (i := 0) (v := .ref a) rfl) (sq_of ha3)
      rw [nv_len] at this
      exact this
    have e04 := e1.trans (e2.trans (e3.trans e4))
    have hp0 : H p = none := fresh_back (e1.trans (e2.trans e3)) hp
    refine q_forEn (xs := nv h) (K := K) (by walk_at "ea") (sq_of (e4 a _ ha3)) (fun m σ' H' => ∃ (c : List Nat) (y3 y4 : Option V), σ' = [some (.ref a), some (.ref b), some (.ref p), y3, y4] ∧ Ex H H' ∧ H' p = some (.lst (nv c)) ∧ c.length = h.length ∧ ∀ g, g < m → ∀ y, f[g]? = some y → c[y]? = t[y]?)
      (fun H5 e5 => ⟨List.replicate h.length 0, none, none, rfl, e04.trans e5, e5 p _ h4, by simp, fun g hg => by omega⟩) (fun m σ' H' _ ⟨_, _, _, _, e, _⟩ => sq_of (e a _ ha)) ?_ ?_
    · rintro m v σ' H5 H6 hv ⟨c, y3, y4, rfl, e5, hc, hcl, hd⟩ e6
      have hml : m < h.length := by
        have := (List.getElem?_eq_some_iff.mp hv).1
        rw [nv_len] at this
        exact this
      obtain ⟨x, hx⟩ : ∃ x, h[m]? = some x := ⟨h[m], List.getElem?_eq_getElem hml⟩
      have ev : v = .int (x : Int) := by
        have := nv_get hx
        rw [hv] at this
        exact Option.some.inj this
      subst ev
      obtain ⟨y, z, h1, h2, h3⟩ := hk m x hx
      have hyl : y < h.length := by
        have := (List.getElem?_eq_some_iff.mp h3).1
        omega
      have e06 := e5.trans e6
      refine s_setL (j := y) (e6 p _ hc) (ev_op (ev_var rfl) (ev_var rfl) (rv_ixL (K := K) (sq_of (e06 b _ hb)) (atI_nat (nv_get h2)))) (ev_var rfl) (ev_op (ev_var rfl) (ev_var rfl) (rv_ixL (K := K) (sq_of (e06 b _ hb)) (atI_nat (nv_get h1)))) (by rw [nv_len]; omega) fun H7 e7 => ?_
      refine ⟨c.set y z, _, _, rfl, Ex.mut (e06.trans e7) hp0, by rw [upd_same, nv_set], by simp [hcl], fun g hg y' hy' => ?_⟩
      by_cases ey : y' = y
      · subst ey
        rw [List.getElem?_set_self (by omega), h3]
      · rw [List.getElem?_set_ne (Ne.symm ey)]
        by_cases eg : g = m
        · subst eg
          rw [h1] at hy'
          exact absurd (Option.some.inj hy').symm ey
        · exact hd g (by omega) y' hy'
    · rintro σ' H' ⟨c, y3, y4, rfl, e, hc, hcl, hd⟩
      rw [nv_len] at hd
      have eq : c = t := by
        refine List.ext_getElem? fun y => ?_
        by_cases hy : y < h.length
        · have hm : y ∈ f := o'.1.mem_iff.mpr (List.mem_range.mpr (by omega))
          obtain ⟨g, hg⟩ := List.mem_iff_getElem?.mp hm
          have := (List.getElem?_eq_some_iff.mp hg).1
          exact hd g (by omega) y hg
        · rw [List.getElem?_eq_none (by omega), List.getElem?_eq_none (by omega)]
      subst eq
      exact s_ret (ev_var rfl) fun H5 e5 => k p H5 hp0 (e.trans e5) (e5 p _ hc)
end

local macro_rules | `(tactic| walk_at "call") => `(tactic| (with_reducible exact sv_whole))
local macro_rules | `(tactic| walk_at "call") => `(tactic| ((with_reducible refine' sv_ord ?c1 ?c2); (case c1 => assumption); (case c2 => assumption)))

/-! ### a list of new lists -/
structure LL (H0 : Hp) (p : Addr) (H : Hp) (bs : List Addr) (rs : List (List Nat)) : Prop where
  self : H p = some (.lst (bs.map V.ref))
  nd : bs.Nodup
  np : p ∉ bs
  fp : H0 p = none
  fr : ∀ b ∈ bs, H0 b = none
  len : bs.length = rs.length
  at_ : ∀ (i : Nat) (b : Addr) (r : List Nat), bs[i]? = some b → rs[i]? = some r → H b = some (.lst (nv r))
theorem LL.ex {H0 H H' : Hp} {p : Addr} {bs : List Addr} {rs : List (List Nat)} (L : LL H0 p H bs rs) (e : Ex H H') : LL H0 p H' bs rs :=
  ⟨e p _ L.self, L.nd, L.np, L.fp, L.fr, L.len, fun i b r h1 h2 => e b _ (L.at_ i b r h1 h2)⟩
theorem LL.get {H0 H : Hp} {p : Addr} {bs : List Addr} {rs : List (List Nat)} (L : LL H0 p H bs rs) {i : Nat} {r : List Nat} (h : rs[i]? = some r) : ∃ b, bs[i]? = some b ∧ H b = some (.lst (nv r)) ∧ b ≠ p ∧ H0 b = none := by
  have hi := (List.getElem?_eq_some_iff.mp h).1
  have hb : bs[i]? = some (bs[i]'(by rw [L.len]; exact hi)) := List.getElem?_eq_getElem _
  refine ⟨_, hb, L.at_ i _ r hb h, fun z => L.np ?_, L.fr _ (List.mem_of_getElem? hb)⟩
  rw [← z]
  exact List.mem_of_getElem? hb
theorem LL.nil {H0 H : Hp} {p : Addr} (h : H p = some (.lst [])) (fp : H0 p = none) : LL H0 p H [] [] :=
  ⟨h, List.nodup_nil, by simp, fp, by simp, rfl, fun i b r h1 => by simp at h1⟩
theorem LL.push {H0 H H' : Hp} {p q : Addr} {bs : List Addr} {rs : List (List Nat)} {r : List Nat} (L : LL H0 p H bs rs) (e0 : Ex H0 H) (e : Ex H H') (hq : H q = none) (h' : H' q = some (.lst (nv r))) : LL H0 p (upd H' p (.lst (bs.map V.ref ++ [.ref q]))) (bs ++ [q]) (rs ++ [r]) := by
  have nq : q ∉ bs := fun hm => by
    obtain ⟨i, hi⟩ := List.mem_iff_getElem?.mp hm
    have hl := (List.getElem?_eq_some_iff.mp hi).1
    have := L.at_ i q _ hi (List.getElem?_eq_getElem (by rw [← L.len]; exact hl))
    rw [hq] at this
    cases this
  have qp : q ≠ p := fun z => by
    have := L.self
    rw [← z, hq] at this
    cases this
  refine ⟨by rw [upd_same]; simp, ?_, ?_, L.fp, ?_, by simp [L.len], ?_⟩
  · exact List.nodup_append.mpr ⟨L.nd, by simp, fun a ha b hb z => nq (by
      rw [List.mem_singleton] at hb
      rw [← hb, ← z]
      exact ha)⟩
  · simp [L.np, Ne.symm qp]
  · intro b hb
    rcases List.mem_append.mp hb with h | h
    · exact L.fr b h
    · rw [List.mem_singleton] at h
      rw [h]
      exact fresh_back e0 hq
  · intro i b s h1 h2
    by_cases hi : i < bs.length
    · rw [List.getElem?_append_left hi] at h1
      rw [List.getElem?_append_left (by rw [← L.len]; exact hi)] at h2
      have hb := L.at_ i b s h1 h2
      rw [upd_ne (fun z => L.np (by rw [← z]; exact List.mem_of_getElem? h1))]
      exact e b _ hb
    · rw [List.getElem?_append_right (by omega)] at h1
      rw [List.getElem?_append_right (by rw [← L.len]; omega)] at h2
      have i0 : i - bs.length = 0 := by
        have := (List.getElem?_eq_some_iff.mp h1).1
        simp at this
        omega
      rw [i0] at h1
      rw [← L.len, i0] at h2
      have b1 : q = b := Option.some.inj h1
      have r1 : r = s := Option.some.inj h2
      rw [← b1, ← r1, upd_ne qp]
      exact h'
theorem LL.put {H0 H : Hp} {p b : Addr} {bs : List Addr} {rs : List (List Nat)} {r : List Nat} {i : Nat} (L : LL H0 p H bs rs) (hb : bs[i]? = some b) : LL H0 p (upd H b (.lst (nv r))) bs (rs.set i r) := by
  have bp : p ≠ b := fun z => L.np (by rw [z]; exact List.mem_of_getElem? hb)
  refine ⟨by rw [upd_ne bp]; exact L.self, L.nd, L.np, L.fp, L.fr, by simp [L.len], fun j c s h1 h2 => ?_⟩
  by_cases hj : i = j
  · subst hj
    have hl : i < rs.length := by rw [← L.len]; exact (List.getElem?_eq_some_iff.mp hb).1
    rw [List.getElem?_set_self hl] at h2
    rw [hb] at h1
    rw [← Option.some.inj h1, ← Option.some.inj h2, upd_same]
  · rw [List.getElem?_set_ne hj] at h2
    have : c ≠ b := fun z => by
      subst z
      exact hj (nd_ix L.nd hb h1)
    rw [upd_ne this]
    exact L.at_ j c s h1 h2
theorem LL.tb {H0 H : Hp} {p : Addr} {bs : List Addr} {rs : List (List Nat)} (L : LL H0 p H bs rs) : Paired (Tb H) (bs.map V.ref) rs := by
  have : ∀ (bs : List Addr) (rs : List (List Nat)), bs.length = rs.length → (∀ (i : Nat) (b : Addr) (r : List Nat), bs[i]? = some b → rs[i]? = some r → H b = some (.lst (nv r))) → Paired (Tb H) (bs.map V.ref) rs := fun bs => by
    induction bs with
    | nil => 
      intro rs hl _
      cases rs with
      | nil => exact .nil
      | cons r l => simp at hl
    | cons b bs ih =>
      intro rs hl ha
      cases rs with
      | nil => simp at hl
      | cons r l =>
        refine .cons ⟨b, rfl, .inl (ha 0 b r rfl rfl)⟩ (ih l (by simpa using hl) fun i c s h1 h2 => ha (i + 1) c s (by simpa using h1) (by simpa using h2))
  exact this bs rs L.len L.at_
/-- xs.append of a list among others -/
theorem set_end {α : Type} (l : List α) (x y : α) : (l ++ [x]).set l.length y = l ++ [y] := by
  rw [List.set_append_right _ _ (Nat.le_refl _)]
  simp
theorem paired_imp {α β : Type} {F G : α → β → Prop} (f : ∀ a b, F a b → G a b) : ∀ {l : List α} {m : List β}, Paired F l m → Paired G l m
  | _, _, .nil => .nil
  | _, _, .cons h t => .cons (f _ _ h) (paired_imp f t)
/-! the tables of a record -/
def cstep (ts : List (List Nat)) (g : Nat) : List (List Nat) :=
  match ts.getLast? with
  | none => [[g]]
  | some r => if g < r.headD 0 then ts ++ [[g]] else ts.dropLast ++ [r ++ [g]]
def cuts (f : List Nat) : List (List Nat) := f.foldl cstep []
theorem cuts_next {f : List Nat} {i x : Nat} (h : f[i]? = some x) : cuts (f.take (i + 1)) = cstep (cuts (f.take i)) x := by
  unfold cuts
  rw [take_next h, List.foldl_append]
  rfl
theorem cstep_end (l : List (List Nat)) (r : List Nat) (g : Nat) : cstep (l ++ [r]) g = if g < r.headD 0 then l ++ [r] ++ [[g]] else l ++ [r ++ [g]] := by
  unfold cstep
  rw [List.getLast?_concat, List.dropLast_concat]
theorem cstep_nil (g : Nat) : cstep [] g = [[g]] := rfl
theorem list_end {α : Type} (l : List α) : l = [] ∨ ∃ i x, l = i ++ [x] := by
  rcases List.eq_nil_or_concat l with h | ⟨i, x, h⟩
  · exact .inl h
  · exact .inr ⟨i, x, by simpa using h⟩
theorem cstep_flat (ts : List (List Nat)) (g : Nat) : (cstep ts g).flatten = ts.flatten ++ [g] := by
  rcases list_end ts with h | ⟨i, x, h⟩
  · rw [h]
    rfl
  · rw [h, cstep_end]
    by_cases q : g < x.headD 0
    · rw [if_pos q]; simp
    · rw [if_neg q]; simp
theorem cstep_ne {ts : List (List Nat)} (g : Nat) (h : ∀ r ∈ ts, 0 < r.length) : ∀ r ∈ cstep ts g, 0 < r.length := by
  rcases list_end ts with e | ⟨i, x, e⟩
  · rw [e]
    intro r hr
    rw [List.mem_singleton.mp hr]
    simp
  · rw [e] at h
    rw [e, cstep_end]
    by_cases q : g < x.headD 0
    · rw [if_pos q]
      intro r hr
      rcases List.mem_append.mp hr with k | k
      · exact h r k
      · rw [List.mem_singleton.mp k]; simp
    · rw [if_neg q]
      intro r hr
      rcases List.mem_append.mp hr with k | k
      · exact h r (List.mem_append.mpr (.inl k))
      · rw [List.mem_singleton.mp k]; simp
theorem cuts_inv (f : List Nat) : ∀ (ts : List (List Nat)), (∀ r ∈ ts, 0 < r.length) → (f.foldl cstep ts).flatten = ts.flatten ++ f ∧ ∀ r ∈ f.foldl cstep ts, 0 < r.length := by
  induction f with
  | nil => intro ts h; simpa using h
  | cons x l ih =>
    intro ts h
    obtain ⟨h1, h2⟩ := ih (cstep ts x) (cstep_ne x h)
    refine ⟨?_, h2⟩
    rw [List.foldl_cons, h1, cstep_flat]
    simp
theorem cuts_flat (f : List Nat) : (cuts f).flatten = f := by
  have := (cuts_inv f [] (by simp)).1
  rw [List.flatten_nil, List.nil_append] at this
  exact this
theorem cuts_ne (f : List Nat) : ∀ r ∈ cuts f, 0 < r.length := (cuts_inv f [] (by simp)).2
theorem cuts_len (f : List Nat) : (cuts f).length ≤ f.length := by
  have : ∀ l : List (List Nat), (∀ r ∈ l, 0 < r.length) → l.length ≤ l.flatten.length := fun l => by
    induction l with
    | nil => intro _; simp
    | cons r l ih =>
      intro hl
      have := ih fun x hx => hl x (by simp [hx])
      have := hl r (by simp)
      rw [List.flatten_cons, List.length_append, List.length_cons]
      omega
  have h := this (cuts f) (cuts_ne f)
  rw [cuts_flat] at h
  exact h
/-- not xs, of a list -/
theorem et_tru {K : PySem.W.Frag} {σ : L2.St} {H : Hp} {ta : TE} {a : Addr} {xs : List V} (h : Ev ta σ H (.ref a)) (hx : SqL K H a xs) : EvT (fun σ H Q => ta σ H fun x H' => ∃ k, TruV K x H' k ∧ Q k H') σ H (!xs.isEmpty) := fun H1 e Q q => h H1 e _ fun H2 e2 => ⟨_, .inl ⟨xs, ex_l (e.trans e2) hx, rfl⟩, q H2 e2⟩
def sp_of_records : Sp := fun vs H Q _ => ∃ (a : Addr) (f h : List Nat), vs = [.ref a] ∧ H a = some (.lst (nv f)) ∧ Ord f ∧ h.length = f.length ∧ (∀ r ∈ cuts f, Rg h r) ∧ RetL (nv h) H Q
theorem sl_with {H : Hp} {a : Addr} {ws : List V} {rs : List (List Nat)} {h : List Nat} (ha : H a = some (.lst ws)) (ht : Paired (Tb H) ws rs) (hp : rs.flatten.Perm (List.range h.length)) (hR : ∀ r ∈ rs, Rg h r) (hn : h.length ≤ 20) : SpL sp_seating_with ([.ref a] ++ []) H (nv h) := fun H1 e Q q E =>
  ⟨a, ws, rs, h, rfl, e a _ ha, paired_imp (fun _ _ x => Tb.ex e x) ht, hp, hR, hn, q⟩
theorem sl_of_records {H : Hp} {a : Addr} {f h : List Nat} (ha : H a = some (.lst (nv f))) (o : Ord f) (hl : h.length = f.length) (hR : ∀ r ∈ cuts f, Rg h r) : SpL sp_of_records ([.ref a] ++ []) H (nv h) := fun H1 e Q q E => ⟨a, f, h, rfl, e a _ ha, o, hl, hR, q⟩
section
variable {P : Program} {w : World} {K : PySem.W.Frag} {mg : Str → Option Value} {base : Heap}
theorem ok_seating_of_records (T : Tx K mg) : FnOk P w K mg base CX0 5 T.f_seating_of_records T.d_seating_of_records ["names"] sp_of_records := by
  refine T.F_seating_of_records.ok sc_seating_of_records (fun vs H Q E h => ?_) (fun cdv A outer s H vs Q E hr h => ?_)
  · obtain ⟨a, f, h, rfl, _⟩ := h
    rfl
  · obtain ⟨a, f, h, rfl, ha, o, hl, hR, k⟩ := h
    refine ⟨_, (pss_cons (ps_expr (pe_call (ok_check_names T) (hr.mono (by decide)) (by rfl) T.g_check_names T.F_check_names.kp T.b_check_names .nil pass0 (pa_cons (pv 0) pa_nil)))
      (pss_cons (ps_set (i := 1) sc_seating_of_records.nd rfl (Or.inl rfl) (pe_lst pa_nil))
      (pss_cons (ps_for PassesOwn.never rfl (pi_list (pv 0)) (pg_name (i := 2) sc_seating_of_records.nd rfl (Or.inl rfl)) (pss_one (ps_if (PW.pt (pw_or (pt_not (pt_truth (pv 1) (by intro _; rfl))) (pw_or1 (pt_cmpR op_lt (pv 2) (pe_ix ix_list (pe_ix ix_list (pv 1) (pe_un un_neg pe_int) (fun _ _ => rfl)) pe_int (fun _ _ => rfl)) (nomark _))))) (pss_one (ps_expr (pe_bm PySem.F.plainAttrs_list PySem.F.slot_list_append PySem.F.type_list_append mt_append (pv 1) (pa_cons (pe_lst (pa_cons (pv 2) pa_nil)) pa_nil)))) (pss_one (ps_expr (pe_bm PySem.F.plainAttrs_list PySem.F.slot_list_append PySem.F.type_list_append mt_append (pe_ix ix_list (pv 1) (pe_un un_neg pe_int) (fun _ _ => rfl)) (pa_cons (pv 2) pa_nil)))))))
      (pss_one (ps_ret (pe_call (ok_seating_with T) (hr.mono (by decide)) (by rfl) T.g_seating_with T.F_seating_with.kp T.b_seating_with .nil pass0 (pa_cons (pv 1) pa_nil))))))), ?_⟩
    have ho := o.2.2
    refine q_drop (by walk_at "ev") fun H1 e1 => ?_
    have h1 := e1 a _ ha
    refine q_asgL (by walk_at "el") fun p H2 hp e2 h2 => ?_
    have hp0 := fresh_back e1 hp
    refine q_forLn (xs := nv f) (K := K) (ev_var rfl) (sq_of (e2 a _ h1)) (fun i σ' H' => ∃ (bs : List Addr) (y : Option V), σ' = [some (.ref a), some (.ref p), y] ∧ Ex H H' ∧ LL H p H' bs (cuts (f.take i)))
      (fun H3 e3 => ⟨[], none, rfl, e1.trans (e2.trans e3), LL.nil (e3 p _ h2) hp0⟩) (fun i σ' H' _ ⟨_, _, _, e, _⟩ => sq_of (e a _ ha)) ?_ ?_
    · rintro i v σ' H' hv ⟨bs, y, rfl, e, L⟩
      have hil : i < f.length := by
        have := (List.getElem?_eq_some_iff.mp hv).1
        rw [nv_len] at this
        exact this
      obtain ⟨x, hx⟩ : ∃ x, f[i]? = some x := ⟨f[i], List.getElem?_eq_getElem hil⟩
      have ev : v = .int (x : Int) := by
        have := nv_get hx
        rw [hv] at this
        exact Option.some.inj this
      subst ev
      have hn := cuts_next hx
      have hne := cuts_ne (f.take i)
      have hle := cuts_len (f.take i)
      rw [List.length_take] at hle
      rcases list_end (cuts (f.take i)) with hz | ⟨ini, r, hz⟩
      · rw [hz] at L hn
        have b0 : bs = [] := List.eq_nil_of_length_eq_zero (by rw [L.len]; rfl)
        subst b0
        refine s_if (b := true) (et_is (et_or (et_not (et_tru (K := K) (ev_var rfl) (sq_of L.self))) (b := true) (fun hb => by cases hb)) rfl) (fun _ H3 e3 => ?_) (fun hb => Bool.noConfusion hb)
        refine s_appL (e3 p _ L.self) (ev_var rfl) (by walk_at "el") (by simp) fun q H4 hq e4 h4 => ?_
        exact ⟨[q], _, rfl, Ex.mut (e.trans (e3.trans e4)) hp0, by
          rw [hn, cstep_nil]
          exact (L.ex e3).push (e.trans e3) e4 hq h4⟩
      · rw [hz] at L hn hne hle
        have hrl := hne r (by simp)
        obtain ⟨b, hb, hbv, hbp, hb0⟩ := L.get (i := ini.length) (r := r) (by simp)
        obtain ⟨c, r', er⟩ : ∃ c r', r = c :: r' := by
          cases r with
          | nil => simp at hrl
          | cons c l => exact ⟨c, l, rfl⟩
        have hbl : bs.length = ini.length + 1 := by rw [L.len]; simp
        obtain ⟨bi, eb⟩ : ∃ bi, bs = bi ++ [b] := by
          rcases list_end bs with z | ⟨bi, b', z⟩
          · rw [z] at hbl; simp at hbl
          · refine ⟨bi, ?_⟩
            rw [z] at hb hbl
            have : bi.length = ini.length := by simpa using hbl
            rw [← this] at hb
            simp at hb
            rw [z, hb]
        have last : ∀ H3, Ex H' H3 → Ev (tOp (rIxL K) (tVar 1) (tUn (rU fun i => .int (-i)) (tC (.int 1)))) [some (.ref a), some (.ref p), some (.int (x : Int))] H3 (.ref b) := fun H3 e3 =>
          ev_op (ev_var rfl) (ev_un ev_c ru_neg) (rv_ixL (sq_of (e3 p _ L.self)) (by rw [eb, List.map_append]; exact atI_last _ _))
        have ne : (!(bs.map V.ref).isEmpty) = true := by rw [eb]; simp
        refine s_if (b := decide (x < c)) (et_is (et_or (et_not (et_tru (K := K) (ev_var rfl) (sq_of L.self))) (fun _ => et_test (ev_op (ev_var rfl) (ev_op (last H' (Ex.refl _)) ev_c (rv_ixL (K := K) (sq_of hbv) (atI_nat (j := 0) (nv_get (by rw [er]; rfl))))) rv_I0))) (by rw [ne]; simp)) (fun hc H3 e3 => ?_) (fun hc H3 e3 => ?_)
        · have hc := of_decide_eq_true hc
          refine s_appL (e3 p _ L.self) (ev_var rfl) (by walk_at "el") (by rw [List.length_map, hbl]; rw [List.length_append] at hle; simp at hle; omega) fun q H4 hq e4 h4 => ?_
          refine ⟨bs ++ [q], _, rfl, Ex.mut (e.trans (e3.trans e4)) hp0, ?_⟩
          rw [hn, cstep_end, if_pos (by rw [er]; exact hc)]
          exact (L.ex e3).push (e.trans e3) e4 hq h4
        · have hc := of_decide_eq_false hc
          refine s_app (e3 b _ hbv) (last H3 e3) (ev_var rfl) (by
            rw [nv_len]
            have h1 : (ini ++ [r]).flatten.length = (f.take i).length := by rw [← hz, cuts_flat]
            rw [List.flatten_append, List.length_append, List.length_take] at h1
            simp at h1
            omega) fun H4 e4 => ?_
          refine ⟨bs, _, rfl, Ex.mut (e.trans (e3.trans e4)) hb0, ?_⟩
          rw [hn, cstep_end, if_neg (by rw [er]; exact hc)]
          have g := ((L.ex e3).ex e4).put (r := r ++ [x]) hb
          rw [set_end, nv_app] at g
          exact g
    · rintro σ' H' ⟨bs, y, rfl, e, L⟩
      rw [nv_len, List.take_of_length_le (Nat.le_refl _)] at L
      refine s_retL (el_call (by walk_at "ea") (sl_with L.self L.tb (by rw [cuts_flat, hl]; exact o.1) hR (by omega))) fun q H3 hq e3 h3 => k q H3 (fresh_back e hq) (e.trans e3) h3
end

local macro_rules | `(tactic| walk_at "call") => `(tactic| (with_reducible exact sv_whole))
local macro_rules | `(tactic| walk_at "call") => `(tactic| ((with_reducible refine' sv_ord ?c1 ?c2); (case c1 => assumption); (case c2 => assumption)))

/-! ### is_table, are_tables, seating_of -/
section
variable {K : PySem.W.Frag} {σ : L2.St} {H H' : Hp} {ta tb te tl : TE} {t : TT}
theorem el_lcT {a : Addr} {xs : List V} {tl : TE} {j : Nat} {vs : List Nat} (f : Nat → Bool) (v : Nat → V) (h : Ev tl σ H (.ref a)) (hx : SqT K H a xs) (hz : xs.length ≤ 40000) (hw : ∀ x, wipe ((wipe σ vs).set j (some x)) vs = wipe σ vs)
    (ht : ∀ (i : Nat) (x : V) H1, Ex H H1 → xs[i]? = some x → EvT t ((wipe σ vs).set j (some x)) H1 (f i)) (he : ∀ (i : Nat) (x : V) H1, Ex H H1 → xs[i]? = some x → f i = true → Ev te ((wipe σ vs).set j (some x)) H1 (v i)) : EvL (tLc (iTup K tl) (gName j) t te vs) σ H (given xs.length f v) := fun H0 e Q q => h H0 e _ fun H1 e1 =>
  ⟨a, rfl, ⟨xs, ex_t (e.trans e1) hx⟩, fun Dl hD => lc_tup (xs := xs) (Cw H1 f v Dl) ⟨hD, Ex.new hD, upd_same⟩ (fun i H' _ p => ex_t ((e.trans e1).trans p.2.1) hx)
    (fun i x H' hi p => ⟨hw x, cw_turn p (by have := (List.getElem?_eq_some_iff.mp hi).1; omega) (ht i x H1 (e.trans e1) hi) (fun hf => he i x H1 (e.trans e1) hi hf)⟩) (fun H' p => q Dl H' (fresh_back e1 p.1) (e1.trans p.2.1) p.2.2)⟩
theorem given_at {n : Nat} (v : Nat → V) : given n (fun _ => true) v = (List.range n).map v := by
  unfold given
  rw [List.filter_eq_self.mpr fun _ _ => rfl]
/-- a call whose argument is a new list -/
theorem ev_call1L {sp : Sp} {dvs xs : List V} {v : V} {E : XK} (h : EvL te σ H xs) (hs : ∀ p H1, Ex H H1 → H1 p = some (.lst xs) → SpV sp ([.ref p] ++ dvs) H1 v) : Ev (tCall sp dvs E (tCons te tNil)) σ H v := fun H1 e Q q =>
  h H1 e _ fun p H2 _ e2 h2 => hs p H2 (e.trans e2) h2 H2 (Ex.refl _) Q (fun H3 e3 => q H3 (e2.trans e3)) E
theorem el_call1L {sp : Sp} {dvs xs ys : List V} {E : XK} (h : EvL te σ H xs) (hs : ∀ p H1, Ex H H1 → H1 p = some (.lst xs) → SpL sp ([.ref p] ++ dvs) H1 ys) : EvL (tCall sp dvs E (tCons te tNil)) σ H ys := fun H1 e Q q =>
  h H1 e _ fun p H2 _ e2 h2 => hs p H2 (e.trans e2) h2 H2 (Ex.refl _) Q (fun l H3 hl e3 h3 => q l H3 (fresh_back e2 hl) (e2.trans e3) h3) E
end
def sp_is_table : Sp := fun vs H Q _ => ∃ (b : Addr) (r : List Nat), vs = [.ref b] ∧ H b = some (.tup (nv r)) ∧ 0 < r.length ∧ r.length ≤ 20 ∧ leads r = true ∧ RetV (.bl true) H Q
theorem sv_table {H : Hp} {b : Addr} {r : List Nat} (hb : H b = some (.tup (nv r))) (ne : 0 < r.length) (hl : r.length ≤ 20) (lo : leads r = true) : SpV sp_is_table ([.ref b] ++ []) H (.bl true) := fun H1 e Q q E => ⟨b, r, rfl, e b _ hb, ne, hl, lo, q⟩
theorem Rings.leads {h : List Nat} {rs : List (List Nat)} (R : Rings h rs) {r : List Nat} (hr : r ∈ rs) : leads r = true := decide_eq_true (R.low r hr)
def sp_are_tables : Sp := fun vs H Q _ => ∃ (a : Addr) (ws : List V) (rs : List (List Nat)) (h : List Nat), vs = [.ref a] ∧ H a = some (.lst ws) ∧ TL H ws (rs.map nv) ∧ Rings h rs ∧ Ord h ∧ RetV (.bl true) H Q
theorem sv_tables {H : Hp} {a : Addr} {ws : List V} {rs : List (List Nat)} {h : List Nat} (ha : H a = some (.lst ws)) (ht : TL H ws (rs.map nv)) (R : Rings h rs) (o : Ord h) : SpV sp_are_tables ([.ref a] ++ []) H (.bl true) := fun H1 e Q q E => ⟨a, ws, rs, h, rfl, e a _ ha, ht.ex e, R, o, q⟩
def sp_seating_of : Sp := fun vs H Q _ => ∃ (a : Addr) (ws : List V) (rs : List (List Nat)) (h : List Nat), vs = [.ref a] ∧ H a = some (.lst ws) ∧ TL H ws (rs.map nv) ∧ Rings h rs ∧ Ord h ∧ RetL (nv h) H Q
theorem sl_seating_of {H : Hp} {a : Addr} {ws : List V} {rs : List (List Nat)} {h : List Nat} (ha : H a = some (.lst ws)) (ht : TL H ws (rs.map nv)) (R : Rings h rs) (o : Ord h) : SpL sp_seating_of ([.ref a] ++ []) H (nv h) := fun H1 e Q q E => ⟨a, ws, rs, h, rfl, e a _ ha, ht.ex e, R, o, q⟩
/-- [x for t in ts for x in t], ts an old list of tuples -/
theorem el_lc2O {K : PySem.W.Frag} {σ : L2.St} {H : Hp} {tl : TE} {j l : Nat} {vs vs1 : List Nat} {a : Addr} {ws : List V} {rs : List (List V)} (h : Ev tl σ H (.ref a)) (ha : H a = some (.lst ws)) (ht : TL H ws rs) (hz : rs.flatten.length ≤ 40000)
    (hw : ∀ x, wipe ((wipe σ vs).set j (some x)) vs = wipe σ vs) (hj : ∀ x, ((wipe σ vs).set j (some x))[j]? = some (some x))
    (hw1 : ∀ x y, wipe ((wipe ((wipe σ vs).set j (some x)) vs1).set l (some y)) vs1 = wipe ((wipe σ vs).set j (some x)) vs1) (hl : ∀ x y, ((wipe ((wipe σ vs).set j (some x)) vs1).set l (some y))[l]? = some (some y)) :
    EvL (tLc2 (iList K tl) (gName j) tYes (iTup K (tVar j)) (gName l) tYes (tVar l) vs vs1) σ H rs.flatten := fun H0 e Q q => h H0 e _ fun H1 e1 => ⟨a, rfl, ⟨ws, sq_of (e1 a _ (e a _ ha))⟩, fun Dl hD => by
  have ht := ht.ex (e.trans e1)
  have h1 := e1 a _ (e a _ ha)
  have hlen := ht.len
  refine it_gen walk_list (fun i H' => Ex H1 H' ∧ H' Dl = some (.lst (rs.take i).flatten)) ⟨Ex.new hD, upd_same⟩ (fun i H' _ p => sq_of (p.1 a _ h1)) ?_ fun H' p => ?_
  · rintro i x Hh H' hi ⟨p1, p2⟩ ⟨rfl, hx⟩
    obtain ⟨b, r, rfl, hb, hr⟩ := ht.get hx
    have hlr : (rs.take (i + 1)).flatten.length ≤ 40000 := by
      have : (rs.take (i + 1)).flatten.length ≤ rs.flatten.length := by
        conv => rhs; rw [← List.take_append_drop (i + 1) rs, List.flatten_append, List.length_append]
        omega
      omega
    rw [flatV_next hr, List.length_append] at hlr
    refine ⟨hw _, ?_⟩
    simp only [tYes, ↓reduceIte]
    refine ⟨.ref b, hj _, b, rfl, ⟨r, st_of (p1 b _ hb)⟩, ?_⟩
    refine it_gen (walk_tup (K := K) (a := b) (xs := r)) (fun m H2 => Ex H1 H2 ∧ H2 Dl = some (.lst ((rs.take i).flatten ++ r.take m))) ⟨p1, by rw [p2]; simp⟩ (fun m H2 _ p => st_of (p.1 b _ hb)) ?_ fun H2 p => ?_
    · rintro m y H2 H3 hm ⟨p3, p4⟩ ⟨rfl, hy⟩
      refine ⟨hw1 _ _, ?_⟩
      simp only [tYes, ↓reduceIte]
      refine ⟨y, hl _ _, _, p4, sz_lt (by rw [List.length_append, List.length_take]; omega), Ex.mut p3 hD, ?_⟩
      rw [upd_same, take_next hy, List.append_assoc]
    · obtain ⟨p3, p4⟩ := p
      refine ⟨p3, ?_⟩
      rw [p4, flatV_next hr, List.take_of_length_le (Nat.le_refl _)]
  · obtain ⟨p1, p2⟩ := p
    rw [hlen, List.take_of_length_le (Nat.le_refl _)] at p2
    exact q Dl H' (fresh_back e1 hD) (e1.trans p1) p2⟩
section
variable {P : Program} {w : World} {K : PySem.W.Frag} {mg : Str → Option Value} {base : Heap}
theorem ok_is_table (T : Tx K mg) : FnOk P w K mg base CX0 2 T.f_is_table T.d_is_table ["thing"] sp_is_table := by
  refine T.F_is_table.ok sc_is_table (fun vs H Q E h => ?_) (fun cdv A outer s H vs Q E hr h => ?_)
  · obtain ⟨b, r, rfl, _⟩ := h
    rfl
  · obtain ⟨b, r, rfl, hb, ne, hl, lo, k⟩ := h
    refine ⟨_, (pss_cons (ps_if (PW.pt (pw_or (pt_cmpR (op_neTyS (hu_of hr)) (pe_typeOf (by rfl) T.m_type (pv 0)) (pe_bltn (v := .ty "tuple") (by rfl) T.m_tuple (by decide +kernel) rfl) (nomark _)) (pw_or1 (pt_cmpR op_eq (pe_callB call_lenR (by rfl) T.m_len (by decide +kernel) (pa_cons (pv 0) pa_nil)) pe_int (nomark _))))) (pss_one (ps_ret pe_bl)) pss_nil)
      (pss_one (ps_ret (pe_and (pe_callB (cr_all rfl) (by rfl) T.m_all (by decide +kernel) (pa_cons (pe_lc (own := [("guest", 1)]) (g := (gName 1)) (tt := tYes) rfl sc_is_table.nd (pi_tup (pv 0)) (blkOk_by (own := [("guest", 1)]) (N := n_is_table) (sc := defScope s_is_table) (by decide +kernel)) (fun _ _ _ _ _ => (pg_name (i := 1) sc_is_table.nd rfl (Or.inl rfl))) (fun _ _ _ _ _ => pts_nil) (fun _ _ _ _ _ => (pe_call (ok_is_whole T) (hr.mono (by decide)) (by rfl) T.g_is_whole T.F_is_whole.kp T.b_is_whole .nil pass0 (pa_cons (pv 1) pa_nil)))) pa_nil)) (pe_one (pe_cmpR op_eq (pe_ix ix_tup (pv 0) pe_int (fun _ _ => rfl)) (pe_callB (id := "min") (r := rMinT K) (cr_minT rfl (hu_of hr)) (by rfl) T.m_min (by decide +kernel) (pa_cons (pv 0) pa_nil)) (nomark _))))))), ?_⟩
    refine q_when (b := false) (et_is (et_or (et_test (ev_op (ev_typeT (ev_var rfl) hb) ev_c (rv_neTyS PySem.TypeEq.meta_tuple))) fun _ => et_test (ev_op (ev_lenT (K := K) (ev_var rfl) (st_of hb)) ev_c (rv_eq rfl))) ?_) (fun hb => Bool.noConfusion hb) fun _ H1 e1 => ?_
    · rw [dec_int, nv_len, show ((r.length : Int) == 0) = false from by
        rw [beq_eq_false_iff_ne]
        omega]
      simp
    have h1 := e1 b _ hb
    obtain ⟨x, l, i1, i2, i3⟩ := lead_val ne
    have hb2 : SqT K H1 b (((x : Int) :: l).map V.int) := st_of (by rw [h1]; unfold nv; rw [i1])
    have hm : (nv r).map (fun _ => V.bl true) = (List.replicate r.length true).map V.bl := by
      rw [nv_eq, List.map_map, List.map_replicate]
      exact List.map_const' ..
    refine s_ret (v := .bl true) (ev_is (ev_andV (ev_allN (bs := List.replicate r.length true) ?_) fun _ => ev_op (ev_op (ev_var rfl) ev_c (rv_ixT (K := K) (st_of h1) (atI_nat (j := 0) (nv_get i2)))) (ev_minT (ev_var rfl) hb2) (rv_eq rfl)) ?_) fun H2 e2 => k _ (e1.trans e2)
    · have g := el_lcT (K := K) (t := tYes) (te := tCall sp_is_whole [] E0 (tCons (tVar 1) tNil)) (vs := [1]) (j := 1) (fun _ => true) (fun _ => V.bl true) (ev_var (σ := start n_is_table [.ref b]) (i := 0) rfl) (st_of h1) (by rw [nv_len]; omega) (fun _ => rfl) (fun _ _ _ _ _ => et_yes) fun i x H2 e2 hx _ => by
        rw [nv_eq, List.getElem?_map] at hx
        obtain ⟨z, _, rfl⟩ := Option.map_eq_some_iff.mp hx
        exact by walk_at "ev"
      have e : given (nv r).length (fun _ => true) (fun _ => V.bl true) = (List.replicate r.length true).map V.bl := by
        rw [given_at, nv_len, List.map_replicate, List.map_const', List.length_range]
      rw [e] at g
      exact g
    · rw [i3, lo]
      simp
theorem ok_are_tables (T : Tx K mg) : FnOk P w K mg base CX0 3 T.f_are_tables T.d_are_tables ["thing"] sp_are_tables := by
  refine T.F_are_tables.ok sc_are_tables (fun vs H Q E h => ?_) (fun cdv A outer s H vs Q E hr h => ?_)
  · obtain ⟨a, ws, rs, h, rfl, _⟩ := h
    rfl
  · obtain ⟨a, ws, rs, h, rfl, ha, ht, R, o, k⟩ := h
    refine ⟨_, (pss_cons (ps_if (PW.pt (pw_or (pt_cmpR (op_neTyS (hu_of hr)) (pe_typeOf (by rfl) T.m_type (pv 0)) (pe_bltn (v := .ty "list") (by rfl) T.m_list (by decide +kernel) rfl) (nomark _)) (pw_or1 (pt_not (pt_val (pe_callB (cr_all rfl) (by rfl) T.m_all (by decide +kernel) (pa_cons (pe_lc (own := [("table", 1)]) (g := (gName 1)) (tt := tYes) rfl sc_are_tables.nd (pi_list (pv 0)) (blkOk_by (own := [("table", 1)]) (N := n_are_tables) (sc := defScope s_are_tables) (by decide +kernel)) (fun _ _ _ _ _ => (pg_name (i := 1) sc_are_tables.nd rfl (Or.inl rfl))) (fun _ _ _ _ _ => pts_nil) (fun _ _ _ _ _ => (pe_call (ok_is_table T) (hr.mono (by decide)) (by rfl) T.g_is_table T.F_is_table.kp T.b_is_table .nil pass0 (pa_cons (pv 1) pa_nil)))) pa_nil))))))) (pss_one (ps_ret pe_bl)) pss_nil)
      (pss_cons (ps_setLc (i := 2) (own := [("table", 1)]) (g := (gName 1)) (tt := tYes) rfl sc_are_tables.nd rfl rfl (sw_true rfl rfl rfl (by decide +kernel)) (pi_list (pv 0)) (blkOk_by (own := [("table", 1)]) (N := n_are_tables) (sc := defScope s_are_tables) (by decide +kernel)) (fun _ _ _ _ _ => (pg_name (i := 1) sc_are_tables.nd rfl (Or.inl rfl))) (fun _ _ _ _ _ => pts_nil) (fun _ _ _ _ _ => (pe_ix (r := rIxT K) ix_tup (pv 1) pe_int (fun _ _ => rfl))))
      (pss_one (ps_ret (pe_and (pe_cmpR (op_eqD hr.units) (pv 2) (pe_callB cr_sorted (by rfl) T.m_sorted (by decide +kernel) (pa_cons (pv 2) pa_nil)) (nomark _)) (pe_one (pe_call (ok_is_order T) (hr.mono (by decide)) (by rfl) T.g_is_order T.F_is_order.kp T.b_is_order .nil pass0 (pa_cons (pe_lc2 (wi1 := iTup K (tVar 1)) (own := [("table", 1), ("guest", 3)]) (vs1 := [3]) (g := (gName 1)) (g1 := (gName 3)) (tt := tYes) (tt1 := tYes) rfl sc_are_tables.nd (pi_list (pv 0)) (blkOk_by (own := [("table", 1), ("guest", 3)]) (N := n_are_tables) (sc := defScope s_are_tables) (by decide +kernel)) (by decide) (fun _ _ _ _ _ => (pg_name (i := 1) sc_are_tables.nd rfl (Or.inl rfl))) (fun _ _ _ _ _ => pts_nil) (fun _ _ _ _ _ => (pi_tup (pv 1))) (fun _ _ _ _ _ => (pg_name (i := 3) sc_are_tables.nd rfl (Or.inl rfl))) (fun _ _ _ _ _ => pts_nil) (fun _ _ _ _ _ => (pv 3))) pa_nil)))))))), ?_⟩
    have hlen := ht.len
    rw [List.length_map] at hlen
    have hfl : rs.flatten.length = h.length := by rw [R.all.length_eq, List.length_range]
    have hn := o.2.2
    have many : rs.length ≤ h.length := by
      have : ∀ l : List (List Nat), (∀ r ∈ l, 0 < r.length) → l.length ≤ l.flatten.length := fun l => by
        induction l with
        | nil => intro _; simp
        | cons r l ih =>
          intro hl
          have := ih fun x hx => hl x (by simp [hx])
          have := hl r (by simp)
          rw [List.flatten_cons, List.length_append, List.length_cons]
          omega
      have := this rs fun r hr => (R.rg r hr).ne
      omega
    have hm : ws.map (fun _ => V.bl true) = (List.replicate ws.length true).map V.bl := by
      rw [List.map_replicate]
      exact List.map_const' ..
    refine q_when (b := false) (et_is (et_or (et_test (ev_op (ev_typeL (ev_var rfl) ha) ev_c (rv_neTyS PySem.TypeEq.meta_list))) fun _ => et_not (et_B (ev_allN (bs := List.replicate ws.length true) ?_))) (by simp)) (fun hb => Bool.noConfusion hb) fun _ H1 e1 => ?_
    · rw [← hm]
      refine el_map (fun _ => V.bl true) (ev_var rfl) (sq_of ha) (by omega) (fun _ => rfl) fun i x H2 e2 hx => ?_
      obtain ⟨b, r, rfl, hb, hr⟩ := ht.get hx
      rw [List.getElem?_map] at hr
      obtain ⟨r', hr', rfl⟩ := Option.map_eq_some_iff.mp hr
      have hrm := List.mem_of_getElem? hr'
      have := R.short hrm
      exact ev_call (by walk_at "ea") (sv_table (e2 b _ hb) (R.rg _ hrm).ne (by omega) (R.leads hrm))
    have h1 := e1 a _ ha
    have ht1 := ht.ex e1
    have heads : (List.range ws.length).map (fun i => V.int ((rs.getD i []).headD 0 : Nat)) = (iz (rs.map (·.headD 0))).map V.int := by
      unfold iz
      rw [hlen, List.map_map, List.map_map]
      conv => rhs; rw [range_get rs []]
      rw [List.map_map]
      rfl
    refine q_asgL (xs := (iz (rs.map (·.headD 0))).map V.int) ?_ fun p H2 hp e2 h2 => ?_
    · rw [← heads, ← given_at]
      refine el_lcL _ _ (ev_var rfl) (sq_of h1) (by omega) (fun _ => rfl) (fun _ _ _ _ _ => et_yes) fun i x H2 e2 hx _ => ?_
      obtain ⟨b, r, rfl, hb, hr⟩ := ht1.get hx
      rw [List.getElem?_map] at hr
      obtain ⟨r', hr', rfl⟩ := Option.map_eq_some_iff.mp hr
      have g : rs.getD i [] = r' := by rw [List.getD_eq_getElem?_getD, hr'] <;> rfl
      rw [g]
      have ne := (R.rg r' (List.mem_of_getElem? hr')).ne
      refine ev_op (ev_var rfl) ev_c (rv_ixT (K := K) (st_of (e2 b _ hb)) (atI_nat (j := 0) (nv_get ?_)))
      cases r' with
      | nil => simp at ne
      | cons c l => rfl
    · have sz : (iz (rs.map (·.headD 0))).length < 64 := by
        unfold iz
        rw [List.length_map, List.length_map]
        omega
      have so : (iz (rs.map (·.headD 0))).Pairwise (· ≤ ·) := by
        unfold iz
        rw [List.pairwise_map]
        exact List.Pairwise.imp (fun {a b} h => by omega) R.asc
      have sr := ed_sorted (K := K) (ta := tVar 2) (σ := [some (.ref a), none, some (.ref p), none]) (ev_var (i := 2) rfl) (sq_of h2) sz (List.Perm.refl _) so
      have vr : EvD K (tVar 2) [some (.ref a), none, some (.ref p), none] H2 (.list ((iz (rs.map (·.headD 0))).map PyData.int)) := ed_of (ev_var rfl) (.lst (sq_of h2) (dpa_ints _))
      refine s_ret (v := .bl true) (ev_is (ev_andV (ev_eqD vr sr (shaped_ints _) (shaped_ints _)) fun _ => ev_call1L (xs := nv rs.flatten) (v := .bl true) ?_ fun q H3 e3 h3 => ?_) (by rw [eqv_same (shaped_ints _)]; rfl)) fun H3 e3 => k _ (e1.trans (e2.trans e3))
      · rw [← flat_nv]
        exact el_lc2O (ev_var rfl) (e2 a _ h1) (ht1.ex e2) (by rw [flat_nv, nv_len]; omega) (fun _ => rfl) (fun _ => rfl) (fun _ _ => rfl) (fun _ _ => rfl)
      · exact sv_ord h3 ⟨by rw [hfl]; exact R.all, by rw [hfl]; exact o.2.1, by rw [hfl]; exact o.2.2⟩
theorem TL.tb {H : Hp} : ∀ {ws : List V} {rs : List (List Nat)}, TL H ws (rs.map nv) → Paired (Tb H) ws rs
  | [], [], _ => .nil
  | _ :: _, _ :: _, .cons ⟨b, e, h⟩ t => .cons ⟨b, e, .inr h⟩ (TL.tb t)
theorem ok_seating_of (T : Tx K mg) : FnOk P w K mg base CX0 4 T.f_seating_of T.d_seating_of ["tables"] sp_seating_of := by
  refine T.F_seating_of.ok sc_seating_of (fun vs H Q E h => ?_) (fun cdv A outer s H vs Q E hr h => ?_)
  · obtain ⟨a, ws, rs, h, rfl, _⟩ := h
    rfl
  · obtain ⟨a, ws, rs, h, rfl, ha, ht, R, o, k⟩ := h
    refine ⟨_, (pss_cons (ps_if (pt_not (pt_val (pe_call (ok_are_tables T) (hr.mono (by decide)) (by rfl) T.g_are_tables T.F_are_tables.kp T.b_are_tables .nil pass0 (pa_cons (pv 0) pa_nil)))) (pss_one ps_never) pss_nil)
      (pss_one (ps_ret (pe_call (ok_seating_with T) (hr.mono (by decide)) (by rfl) T.g_seating_with T.F_seating_with.kp T.b_seating_with .nil pass0 (pa_cons (pv 0) pa_nil))))), ?_⟩
    refine q_when (b := false) (et_is (et_not (et_B (ev_call (by walk_at "ea") (sv_tables ha ht R o)))) rfl) (fun hb => Bool.noConfusion hb) fun _ H1 e1 => ?_
    exact s_retL (el_call (by walk_at "ea") (sl_with (e1 a _ ha) (TL.tb (ht.ex e1)) R.all R.rg o.2.2)) fun q H3 hq e3 h3 => k q H3 (fresh_back e1 hq) (e1.trans e3) h3
end

local macro_rules | `(tactic| walk_at "call") => `(tactic| (with_reducible exact sv_whole))
local macro_rules | `(tactic| walk_at "call") => `(tactic| ((with_reducible refine' sv_ord ?c1 ?c2); (case c1 => assumption); (case c2 => assumption)))

/-! ### _law_mixed, _law_entries -/
theorem q_parLL {σ : L2.St} {H : Hp} {ta tb : TE} {tz : TS} {D : Ends} {i j : Nat} {xs ys : List V} (ha : EvL ta σ H xs) (hb : EvL tb σ H ys) (k : ∀ p q H1, H p = none → H q = none → p ≠ q → Ex H H1 → H1 p = some (.lst xs) → H1 q = some (.lst ys) → tz D ((σ.set i (some (.ref p))).set j (some (.ref q))) H1) :
    tSeq (tPar i j (tCons ta (tCons tb tNil))) tz D σ H := ha H (Ex.refl H) _ fun p H1 hp e1 h1 => hb H1 e1 _ fun q H2 hq e2 h2 => ⟨_, _, rfl, k p q H2 hp (fresh_back e1 hq) (ne_of_none h1 hq) (e1.trans e2) (e2 p _ h1) h2⟩
theorem eqv_nil (xs : List V) (ns : List Int) : PyData.eqv (.list (ns.map PyData.int)) (.list []) = ns.isEmpty := by
  cases ns with
  | nil => decide
  | cons n l => rfl
theorem nv_erase (L : List Nat) (k : Nat) : (nv L).eraseIdx k = nv (L.eraseIdx k) := by
  rw [nv_eq, nv_eq, List.eraseIdx_eq_take_drop_succ, List.eraseIdx_eq_take_drop_succ, List.map_append, List.map_take, List.map_drop]
theorem shaped_nil : SeqAt.shaped (.list []) = true := by decide
theorem s_appE {K : PySem.W.Frag} {σ : L2.St} {H : Hp} {ta te : TE} {D : Ends} {l : Addr} {xs : List V} (hl : H l = some (.lst xs)) (ha : Ev ta σ H (.ref l)) (k : ∀ H1, Ex H H1 → te σ H1 fun v H2 => rAppend (.ref l) [v] H2 fun _ H3 => D.nx σ H3) : tDrop (tBM K "list" rAppend ta (tCons te tNil)) D σ H :=
  ha H (Ex.refl H) _ fun H1 e1 => ⟨Or.inl ⟨rfl, xs, sq_of (e1 l _ hl)⟩, k H1 e1⟩
theorem t_popAt {K : PySem.W.Frag} {σ : L2.St} {H : Hp} {ta te : TE} {Q : VK} {l : Addr} {xs : List V} (hl : H l = some (.lst xs)) (ha : Ev ta σ H (.ref l)) (k : ∀ H1, Ex H H1 → te σ H1 fun v H2 => rPopAt (.ref l) [v] H2 Q) : tBM K "list" rPopAt ta (tCons te tNil) σ H Q :=
  ha H (Ex.refl H) _ fun H1 e1 => ⟨Or.inl ⟨rfl, xs, sq_of (e1 l _ hl)⟩, k H1 e1⟩
theorem seq_at {j n : Nat} (h : j < n) : seqIndex? (j : Int) n = some j := by
  unfold seqIndex?
  have h1 : ¬ ((j : Int) < 0) := by omega
  have h2 : (0 : Int) ≤ j := by omega
  have h3 : (j : Int) < n := by omega
  simp [h1, h2, h3]
theorem erase_perm {L : List Nat} {j : Nat} (hj : j < L.length) : (L[j] :: L.eraseIdx j).Perm L := by
  have e2 : L.take j ++ L[j] :: L.drop (j + 1) = L := by rw [← List.drop_eq_getElem_cons hj, List.take_append_drop]
  rw [List.eraseIdx_eq_take_drop_succ]
  exact List.perm_middle.symm.trans (List.Perm.of_eq e2)
def sp_law_mixed : Sp := fun vs H Q _ => ∃ (p : Addr) (n m : Nat), vs = [.ref p, .int (m : Int)] ∧ Po p n H ∧ n + m < 1000000000 ∧ m ≤ 20 ∧
  ∀ l f H', H l = none → H' l = some (.lst (nv f)) → f.Perm (List.range m) → Po p (n + m) H' → Ex (Hm p H) H' → Q (.ref l) H'
section
variable {P : Program} {w : World} {K : PySem.W.Frag} {mg : Str → Option Value} {base : Heap}
theorem ok_law_mixed (T : Tx K mg) : FnOk P w K mg base CX0 2 T.f_law_mixed T.d_law_mixed ["pouch", "many"] sp_law_mixed := by
  refine T.F_law_mixed.ok sc_law_mixed (fun vs H Q E h => ?_) (fun cdv A outer s H vs Q E hr h => ?_)
  · obtain ⟨p, n, m, rfl, _⟩ := h
    rfl
  · obtain ⟨p, n, m, rfl, hpo, hn, hm, k⟩ := h
    refine ⟨_, (pss_cons (ps_par (i := 2) (j := 3) (by rfl) sc_law_mixed.nd rfl rfl (by decide) rfl rfl (pa_cons (pe_listRg rfl (by rfl) T.m_list (prg_1 (by rfl) T.m_range (pv 1))) (pa_cons (pe_lst pa_nil) pa_nil)) (by rfl))
      (pss_cons (ps_while PassesOwn.never (pt_cmpR (op_neD hr.units) (pv 2) (pe_lst pa_nil) (nomark _)) (pss_one (ps_expr (pe_bm PySem.F.plainAttrs_list PySem.F.slot_list_append PySem.F.type_list_append mt_append (pv 3) (pa_cons (pe_bm PySem.F.plainAttrs_list PySem.F.slot_list_pop PySem.F.type_list_pop mt_popAt (pv 2) (pa_cons (pe_call (ok_law_dip T) (hr.mono (by decide)) (by rfl) T.g_law_dip T.F_law_dip.kp T.b_law_dip .nil pass0 (pa_cons (pv 0) (pa_cons (pe_callB call_lenR (by rfl) T.m_len (by decide +kernel) (pa_cons (pv 2) pa_nil)) pa_nil))) pa_nil)) pa_nil)))))
      (pss_one (ps_ret (pv 3))))), ?_⟩
    have hp0 : Hm p H p = none := hm_p
    refine q_parLL (xs := nv (List.range m)) (ys := nv []) ?_ (el_lst ea_nil (Nat.le_of_ble_eq_true rfl)) fun a b H1 ha hb hab e1 h1 h2 => ?_
    · have g := el_rg1 (σ := start n_law_mixed [.ref p, .int m]) (H := H) (tb := tVar 1) (b := (m : Int)) (ev_var rfl) (RgOk.of_le (by decide) (by omega) (by decide) (by omega))
      rw [range_iz] at g
      exact g
    have hap : a ≠ p := hpo.ne ha
    have hbp : b ≠ p := hpo.ne hb
    refine q_while (fun mm σ' H' => ∃ L F : List Nat, σ' = [some (.ref p), some (.int m), some (.ref a), some (.ref b)] ∧ H' a = some (.lst (nv L)) ∧ H' b = some (.lst (nv F)) ∧ (F ++ L).Perm (List.range m) ∧ Po p (n + F.length) H' ∧ Ex (Hm p H) H' ∧ mm = L.length) m
      ⟨List.range m, [], rfl, h1, h2, List.Perm.refl _, hpo.ex e1, hm_of e1, by simp⟩ ?_
    rintro mm σ' H' ⟨L, F, rfl, hL, hF, hpm, hpo', e, rfl⟩
    have hlen : F.length + L.length = m := by
      have := hpm.length_eq
      simp at this
      exact this
    have dL : EvD K (tVar 2) [some (.ref p), some (.int m), some (.ref a), some (.ref b)] H' (.list ((iz L).map PyData.int)) := ed_of (ev_var rfl) (.lst (sq_of hL) (dpa_ints _))
    refine ⟨!(iz L).isEmpty, et_is (et_test (ev_neD dL (ed_lst eda_nil (by decide)) (shaped_ints _) shaped_nil)) (by rw [eqv_nil (nv L)]), fun hb2 H2 e2 => ?_, fun hb2 H2 e2 => ?_⟩
    · have hl0 : 0 < L.length := by
        cases L with
        | nil => simp [iz] at hb2
        | cons x l => simp
      have hL2 := e2 a _ hL
      have hF2 := e2 b _ hF
      refine ⟨fun σ2 H3 => ∃ L2 F2 : List Nat, σ2 = [some (.ref p), some (.int m), some (.ref a), some (.ref b)] ∧ H3 a = some (.lst (nv L2)) ∧ H3 b = some (.lst (nv F2)) ∧ (F2 ++ L2).Perm (List.range m) ∧ Po p (n + F2.length) H3 ∧ Ex (Hm p H) H3 ∧ L2.length < L.length, fun σ2 H3 ⟨L2, F2, q1, q2, q3, q4, q5, q6, q7⟩ => ⟨L2.length, q7, L2, F2, q1, q2, q3, q4, q5, q6, rfl⟩, ?_⟩
      refine s_appE hF2 (ev_var rfl) fun H3 e3 => ?_
      refine t_popAt (e3 a _ hL2) (ev_var rfl) fun H4 e4 => ?_
      have hL4 := e4 a _ (e3 a _ hL2)
      have hF4 := e4 b _ (e3 b _ hF2)
      have e24 : Ex H' H4 := e2.trans (e3.trans e4)
      have hLm : Hm p H4 a = some (.lst (nv L)) := by
        unfold Hm
        rw [if_neg hap]
        exact hL4
      have wd : Ev (tCB (rLenS K) (tCons (tVar 2) tNil)) [some (.ref p), some (.int m), some (.ref a), some (.ref b)] (Hm p H4) (.int (L.length : Int)) := by
        have := ev_len (K := K) (ta := tVar 2) (σ := [some (V.ref p), some (V.int m), some (V.ref a), some (V.ref b)]) (ev_var (i := 2) rfl) (sq_of hLm)
        rw [nv_len] at this
        exact this
      refine ep_dipI (p := p) (H0 := Hm p H4) (w := (L.length : Int)) hm_p (ev_var (i := 0) rfl) wd (by omega) (by omega) (n + F.length) H4 hm_sub (hpo'.ex e24) (by omega) _ fun v H5 hv p5 e5 => ?_
      obtain ⟨r, rfl, r0, r1⟩ := hv
      obtain ⟨j, rfl⟩ : ∃ j : Nat, r = j := ⟨r.toNat, by omega⟩
      have hj : j < L.length := by omega
      have hL5 := hm_at e5 hap hL4
      have hF5 := hm_at e5 hbp hF4
      refine ⟨a, nv L, j, j, .int (L[j] : Nat), rfl, rfl, hL5, by omega, by omega, ?_, nv_get (List.getElem?_eq_getElem hj), ?_⟩
      · exact seq_at (by rw [nv_len]; exact hj)
      · refine ⟨b, nv F, .int (L[j] : Nat), rfl, rfl, by rw [upd_ne (Ne.symm hab)]; exact hF5, sz_lt (by rw [nv_len]; omega), ?_⟩
        have up := Ex.mut (Ex.mut (hm_trans (hm_trans e (hm_of e24)) e5) (p := a) (o := .lst ((nv L).eraseIdx j)) (by unfold Hm; rw [if_neg hap]; exact ha)) (p := b) (o := .lst (nv F ++ [.int (L[j] : Nat)])) (by unfold Hm; rw [if_neg hbp]; exact hb)
        refine ⟨L.eraseIdx j, F ++ [L[j]], rfl, ?_, ?_, ?_, ?_, up, by rw [List.length_eraseIdx_of_lt hj]; omega⟩
        · rw [upd_ne hab, upd_same, nv_erase]
        · rw [upd_same, nv_app]
          rfl
        · rw [List.append_assoc]
          exact (List.Perm.append_left F (erase_perm hj)).trans hpm
        · obtain ⟨x, y, z, q1, q2⟩ := p5
          refine ⟨x, y, z, by rw [upd_ne (Ne.symm hbp), upd_ne (Ne.symm hap)]; exact q1, q2.1, q2.2.1, ?_⟩
          have := q2.2.2
          rw [List.length_append, List.length_singleton]
          omega
    · have l0 : L = [] := by
        cases L with
        | nil => rfl
        | cons x l => simp [iz] at hb2
      subst l0
      refine s_ret (ev_var (i := 3) rfl) fun H3 e3 => ?_
      rw [List.append_nil] at hpm
      refine k b F H3 hb (e3 b _ (e2 b _ hF)) hpm ?_ (hm_trans e (hm_of (e2.trans e3)))
      have : F.length = m := by simpa using hlen
      rw [← this]
      exact hpo'.ex (e2.trans e3)
end

local macro_rules | `(tactic| walk_at "call") => `(tactic| (with_reducible exact sv_whole))
local macro_rules | `(tactic| walk_at "call") => `(tactic| ((with_reducible refine' sv_ord ?c1 ?c2); (case c1 => assumption); (case c2 => assumption)))

/-! ### _law_entries -/
def EvPA (p : Addr) (k : Nat) (ta : TA) (σ : L2.St) (H0 : Hp) (C : List V → Prop) : Prop := ∀ n H1, Ex H0 H1 → Po p n H1 → n + k ≤ 1000000000 →
  ∀ Q : List V → Hp → Prop, (∀ vs H2, C vs → Po p (n + k) H2 → Ex (Hm p H1) H2 → Q vs H2) → ta σ H1 Q
section
variable {K : PySem.W.Frag} {σ : L2.St} {H0 H : Hp} {p : Addr} {k k1 k2 : Nat} {te ta tb : TE} {R Ra Rb : V → Hp → Prop} {tr : TA} {A : V → Prop} {B C : List V → Prop}
theorem epa_nil : EvPA p 0 tNil σ H0 (fun vs => vs = []) := fun n H1 e hp _ Q q => q [] H1 rfl hp (hm_of (Ex.refl _))
theorem epa_cons (h0 : H0 p = none) (h : EvP p k1 te σ H0 (fun v _ => A v)) (hr : EvPA p k2 tr σ H0 B) : EvPA p (k1 + k2) (tCons te tr) σ H0 (fun vs => ∃ v r, vs = v :: r ∧ A v ∧ B r) := fun n H1 e hp hn Q q =>
  h n H1 e hp (by omega) _ fun v H2 hv p2 e2 => hr (n + k1) H2 (hm_next h0 e e2) p2 (by omega) _ fun vs H3 hvs p3 e3 => q (v :: vs) H3 ⟨v, vs, rfl, hv, hvs⟩ (by rw [← Nat.add_assoc]; exact p3) (hm_trans e2 e3)
theorem epa_pure {v : V} (h0 : H0 p = none) (h : Ev te σ H0 v) (hr : EvPA p k2 tr σ H0 B) : EvPA p (0 + k2) (tCons te tr) σ H0 (fun vs => ∃ x r, vs = x :: r ∧ x = v ∧ B r) := epa_cons (A := fun x => x = v) h0 (ep_ev h) hr
theorem ep_lst (h : EvPA p k tr σ H0 C) (hs : ∀ vs, C vs → vs.length ≤ 100000) : EvP p k (tLst tr) σ H0 (fun x H => ∃ l vs, l ≠ p ∧ x = .ref l ∧ H l = some (.lst vs) ∧ C vs) := fun n H1 e hp hn Q q =>
  h n H1 e hp hn _ fun vs H2 c p2 e2 => ⟨sz_of (hs vs c), fun l hl => q _ _ ⟨l, vs, p2.ne hl, rfl, upd_same, c⟩ (p2.ex (Ex.new hl)) (hm_trans e2 (hm_of (Ex.new hl)))⟩
theorem stb_lst : Stb p (fun x H => ∃ l vs, l ≠ p ∧ x = .ref l ∧ H l = some (.lst vs) ∧ C vs) := fun v H H' ⟨l, vs, ne, e, h, c⟩ s => ⟨l, vs, ne, e, hm_at s ne h, c⟩
theorem ep_ix (h0 : H0 p = none) {ix : V → Prop} (ha : EvP p k1 (tLst tr) σ H0 (fun x H => ∃ l vs, l ≠ p ∧ x = .ref l ∧ H l = some (.lst vs) ∧ C vs)) (hb : EvP p k2 tb σ H0 (fun v _ => ix v)) (hat : ∀ vs v, C vs → ix v → ∃ i z, v = .int i ∧ atI vs i = some z ∧ A z) :
    EvP p (k1 + k2) (tOp (rIxL K) (tLst tr) tb) σ H0 (fun v _ => A v) := ep_op h0 ha hb stb_lst stb_c fun x y H hx hy => by
  obtain ⟨l, vs, ne, rfl, hl, c⟩ := hx
  obtain ⟨i, z, rfl, hz, az⟩ := hat vs y c hy
  exact ⟨z, az, rv_ixL (sq_of hl) hz⟩
theorem ep_isZ (h0 : H0 p = none) (h : EvP p k te σ H0 (fun v _ => ∃ r, v = .int r ∧ 0 ≤ r)) : EvP p (k + 0) (tCB rIntB (tCons (tOp rEq te (tC (.int 0))) tNil)) σ H0 (fun v _ => v = .int 0 ∨ v = .int 1) := fun n H1 e hp hn Q q =>
  (ep_op (k1 := k) (k2 := 0) (R := fun v _ => ∃ b, v = .bl b) h0 h (ep_ev (v := .int 0) ev_c) stb_c stb_c fun x y H ⟨r, e1, _⟩ e2 => ⟨.bl (decide (x = y)), ⟨_, rfl⟩, by
    subst e1
    subst e2
    exact rv_eq rfl⟩) n H1 e hp hn _ fun v H2 ⟨b, hb⟩ p2 e2 => ⟨b, by rw [hb], q _ H2 (by cases b <;> simp) p2 e2⟩
theorem pq_parL {n i j : Nat} {D : Ends} {tz : TS} {ys : List V} (h : EvP p k ta σ H0 R) (e : Ex H0 H) (hp : Po p n H) (hn : n + k ≤ 1000000000) (hb : ∀ H1, EvL tb σ H1 ys) (q : ∀ v l H2 H3, R v H2 → H2 l = none → Ex H2 H3 → H3 l = some (.lst ys) → Po p (n + k) H3 → Ex (Hm p H) H2 → tz D ((σ.set i (some v)).set j (some (.ref l))) H3) :
    tSeq (tPar i j (tCons ta (tCons tb tNil))) tz D σ H := h n H e hp hn _ fun v H2 hv p2 e2 => hb H2 H2 (Ex.refl _) _ fun l H3 hl e3 h3 => ⟨_, _, rfl, q v l H2 H3 hv hl e3 h3 (p2.ex e3) e2⟩
end
def sp_law_entries : Sp := fun vs H Q _ => ∃ (p : Addr) (n m : Nat), vs = [.ref p, .int (m : Int)] ∧ Po p n H ∧ n + 3 * m + 1 < 1000000000 ∧ m ≤ 20 ∧
  ∀ l f H', H l = none → H' l = some (.lst (nv f)) → f.length = m → (∀ (i x : Nat), f[i]? = some x → x ≤ i) → Po p (n + 3 * m + 1) H' → Ex (Hm p H) H' → Q (.ref l) H'
section
variable {P : Program} {w : World} {K : PySem.W.Frag} {mg : Str → Option Value} {base : Heap}
theorem ok_law_entries (T : Tx K mg) : FnOk P w K mg base CX0 2 T.f_law_entries T.d_law_entries ["pouch", "many"] sp_law_entries := by
  refine T.F_law_entries.ok sc_law_entries (fun vs H Q E h => ?_) (fun cdv A outer s H vs Q E hr h => ?_)
  · obtain ⟨p, n, m, rfl, _⟩ := h
    rfl
  · obtain ⟨p, n, m, rfl, hpo, hn, hm, k⟩ := h
    refine ⟨_, (pss_cons (ps_par (i := 2) (j := 3) (by rfl) sc_law_entries.nd rfl rfl (by decide) rfl rfl (pa_cons (pe_call (ok_law_dip T) (hr.mono (by decide)) (by rfl) T.g_law_dip T.F_law_dip.kp T.b_law_dip .nil pass0 (pa_cons (pv 0) (pa_cons pe_int pa_nil))) (pa_cons (pe_lst pa_nil) pa_nil)) (by rfl))
      (pss_cons (ps_for PassesOwn.never rfl (pi_range1 (by rfl) T.m_range (pa_cons (pv 1) pa_nil)) (pg_name (i := 4) sc_law_entries.nd rfl (Or.inl rfl)) (pss_cons (ps_set (i := 5) sc_law_entries.nd rfl (Or.inl rfl) (pe_lst (pa_cons (pv 4) (pa_cons pe_int (pa_cons (pe_call (ok_law_dip T) (hr.mono (by decide)) (by rfl) T.g_law_dip T.F_law_dip.kp T.b_law_dip .nil pass0 (pa_cons (pv 0) (pa_cons (pe_op op_add (pv 4) pe_int) pa_nil))) (pa_cons (pe_callB (call_maxR rfl) (by rfl) T.m_max (by decide +kernel) (pa_cons pe_int (pa_cons (pe_op op_sub (pv 4) pe_int) pa_nil))) pa_nil))))))
      (pss_cons (ps_set (i := 6) sc_law_entries.nd rfl (Or.inl rfl) (pe_ix ix_list (pe_lst (pa_cons (pe_call (ok_law_dip T) (hr.mono (by decide)) (by rfl) T.g_law_dip T.F_law_dip.kp T.b_law_dip .nil pass0 (pa_cons (pv 0) (pa_cons pe_int pa_nil))) (pa_cons pe_int (pa_cons pe_int (pa_cons pe_int (pa_cons pe_int (pa_cons (pe_ix ix_list (pe_lst (pa_cons pe_int (pa_cons pe_int pa_nil))) (pe_callTy call_intB (by rfl) T.m_int (by decide +kernel) (pa_cons (pe_cmpR op_eq (pe_call (ok_law_dip T) (hr.mono (by decide)) (by rfl) T.g_law_dip T.F_law_dip.kp T.b_law_dip .nil pass0 (pa_cons (pv 0) (pa_cons pe_int pa_nil))) pe_int (nomark _)) pa_nil)) (fun _ _ => rfl)) pa_nil))))))) (pv 2) (fun _ _ => rfl)))
      (pss_one (ps_expr (pe_bm PySem.F.plainAttrs_list PySem.F.slot_list_append PySem.F.type_list_append mt_append (pv 3) (pa_cons (pe_ix ix_list (pv 5) (pv 6) (fun _ _ => rfl)) pa_nil)))))))
      (pss_one (ps_ret (pv 3))))), ?_⟩
    have hp0 : Hm p H p = none := hm_p
    refine pq_parL (p := p) (k := 1) (H0 := Hm p H) (ys := []) (ep_dipI (w := 6) hm_p (ev_var rfl) ev_c (by decide) (by decide)) hm_sub hpo (by omega) (fun H1 => el_lst ea_nil (Nat.le_of_ble_eq_true rfl)) ?_
    rintro v b H1 H2 ⟨st, rfl, s0, s1⟩ hb1 e2 hb2 p2 e1
    have hbp : b ≠ p := fun z => by
      subst z
      obtain ⟨x, y, z, q, _⟩ := p2
      rw [hb2] at q
      cases q
    have hb : H b = none := by
      have := fresh_back e1 hb1
      unfold Hm at this
      rw [if_neg hbp] at this
      exact this
    have e02 : Ex (Hm p H) H2 := e1.trans e2
    refine q_forR1 (n := (m : Int)) (by walk_at "ea") (by omega) (fun i σ' H' => ∃ (F : List Nat) (y4 y5 y6 : Option V), σ' = [some (.ref p), some (.int m), some (.int st), some (.ref b), y4, y5, y6] ∧ H' b = some (.lst (nv F)) ∧ F.length = i ∧ (∀ (j x : Nat), F[j]? = some x → x ≤ j) ∧ Po p (n + 3 * i + 1) H' ∧ Ex (Hm p H) H')
      (fun H3 e3 => ⟨[], none, none, none, rfl, e3 b _ hb2, rfl, by simp, p2.ex e3, hm_trans e02 (hm_of e3)⟩) ?_ ?_
    · rintro i σ' H' hi ⟨F, y4, y5, y6, rfl, hF, hFl, hFx, p3, e3⟩
      have him : i < m := by omega
      refine pq_asg (p := p) (k := 0 + (0 + (1 + (0 + 0)))) (H0 := Hm p H') (R := fun x H => ∃ l vs, l ≠ p ∧ x = .ref l ∧ H l = some (.lst vs) ∧ ∃ c d : Nat, vs = [.int (i : Nat), .int 0, .int c, .int d] ∧ c ≤ i ∧ d ≤ i) (ep_is (ep_lst (epa_pure (v := .int (i : Nat)) hm_p (ev_var rfl) (epa_pure hm_p ev_c (epa_cons (A := fun v => ∃ c : Nat, v = .int c ∧ c ≤ i) hm_p (ep_is (ep_dipI (w := (i : Int) + 1) hm_p (ev_var rfl) (by walk_at "ev") (by omega) (by omega)) ?_) (epa_pure (v := .int ((i - 1 : Nat) : Int)) hm_p ?_ epa_nil)))) ?_) ?_) hm_sub p3 (by omega) ?_
      · rintro v _ ⟨r, rfl, r0, r1⟩
        exact ⟨r.toNat, by congr 1; omega, by omega⟩
      · refine ev_is (ev_max2 (i := 0) (j := (i : Int) - 1) ev_c (by walk_at "ev")) ?_
        congr 1
        split <;> omega
      · rintro vs ⟨_, _, rfl, _, _, _, rfl, _, _, _, rfl, _, _, _, rfl, _, rfl⟩
        exact Nat.le_of_ble_eq_true rfl
      · rintro v H4 ⟨l, vs, ne, rfl, hl, _, _, rfl, rfl, _, _, rfl, rfl, _, _, rfl, ⟨c, rfl, hc⟩, _, _, rfl, rfl, rfl⟩
        exact ⟨l, _, ne, rfl, hl, c, i - 1, rfl, hc, by omega⟩
      rintro v H4 ⟨l, vs, lp, rfl, hl, c, d, rfl, hc, hd⟩ p4 e4
      refine pq_asg (p := p) (k := (1 + (0 + (0 + (0 + (0 + ((0 + (0 + 0)) + (1 + 0) + 0)))))) + 0) (H0 := Hm p H4) (R := fun v _ => ∃ r : Nat, v = .int r ∧ r < 4) (ep_ix (ix := fun v => v = .int st) (C := fun vs => ∃ a b : Nat, vs = [.int a, .int 2, .int 0, .int 1, .int 3, .int b] ∧ a < 4 ∧ b < 4) hm_p (ep_is (ep_lst (epa_cons (A := fun v => ∃ c : Nat, v = .int c ∧ c < 4) hm_p (ep_is (ep_dipI (w := 4) hm_p (ev_var rfl) ev_c (by decide) (by decide)) ?_) (epa_pure hm_p ev_c (epa_pure hm_p ev_c (epa_pure hm_p ev_c (epa_pure hm_p ev_c (epa_cons (A := fun v => ∃ c : Nat, v = .int c ∧ c < 4) hm_p (ep_ix (ix := fun v => v = .int 0 ∨ v = .int 1) hm_p (ep_lst (epa_pure hm_p ev_c (epa_pure hm_p ev_c epa_nil)) ?_) (ep_isZ hm_p (ep_is (ep_dipI (w := 3) hm_p (ev_var rfl) ev_c (by decide) (by decide)) ?_)) ?_) epa_nil)))))) ?_) ?_) (ep_ev (ev_var rfl)) ?_) hm_sub p4 (by omega) ?_
      · rintro v _ ⟨r, rfl, r0, r1⟩
        exact ⟨r.toNat, by congr 1; omega, by omega⟩
      · rintro vs ⟨_, _, rfl, _, _, _, rfl, _, rfl⟩
        exact Nat.le_of_ble_eq_true rfl
      · rintro v _ ⟨r, rfl, r0, r1⟩
        exact ⟨r, rfl, r0⟩
      · rintro vs v ⟨_, _, rfl, rfl, _, _, rfl, rfl, rfl⟩ (rfl | rfl)
        · exact ⟨0, .int 2, rfl, rfl, 2, rfl, by decide⟩
        · exact ⟨1, .int 0, rfl, rfl, 0, rfl, by decide⟩
      · rintro vs ⟨_, _, rfl, _, _, _, rfl, _, _, _, rfl, _, _, _, rfl, _, _, _, rfl, _, _, _, rfl, _, rfl⟩
        exact Nat.le_of_ble_eq_true rfl
      · rintro v H5 ⟨l, vs, ne, rfl, hl, _, _, rfl, ⟨a, rfl, ha⟩, _, _, rfl, rfl, _, _, rfl, rfl, _, _, rfl, rfl, _, _, rfl, rfl, _, _, rfl, ⟨b, rfl, hb⟩, rfl⟩
        exact ⟨l, _, ne, rfl, hl, a, b, rfl, ha, hb⟩
      · rintro vs v ⟨a, b, rfl, ha, hb⟩ rfl
        have : st = 0 ∨ st = 1 ∨ st = 2 ∨ st = 3 ∨ st = 4 ∨ st = 5 := by omega
        rcases this with rfl | rfl | rfl | rfl | rfl | rfl
        · exact ⟨0, .int a, rfl, rfl, a, rfl, ha⟩
        · exact ⟨1, .int 2, rfl, rfl, 2, rfl, by decide⟩
        · exact ⟨2, .int 0, rfl, rfl, 0, rfl, by decide⟩
        · exact ⟨3, .int 1, rfl, rfl, 1, rfl, by decide⟩
        · exact ⟨4, .int 3, rfl, rfl, 3, rfl, by decide⟩
        · exact ⟨5, .int b, rfl, rfl, b, rfl, hb⟩
      rintro v H5 ⟨r, rfl, hr4⟩ p5 e5
      have hl5 := hm_at e5 lp hl
      have hF5 := hm_at e5 hbp (hm_at e4 hbp hF)
      obtain ⟨x, hx, hxi⟩ : ∃ x : Nat, atI [V.int (i : Nat), .int 0, .int c, .int d] (r : Int) = some (.int x) ∧ x ≤ i := by
        have : r = 0 ∨ r = 1 ∨ r = 2 ∨ r = 3 := by omega
        rcases this with rfl | rfl | rfl | rfl
        · exact ⟨i, rfl, Nat.le_refl _⟩
        · exact ⟨0, rfl, Nat.zero_le _⟩
        · exact ⟨c, rfl, hc⟩
        · exact ⟨d, rfl, hd⟩
      refine s_app hF5 (ev_var rfl) (ev_op (ev_var rfl) (ev_var rfl) (rv_ixL (K := K) (sq_of hl5) hx)) (by rw [nv_len]; omega) fun H6 e6 => ?_
      have e36 := hm_trans (hm_trans (hm_trans e3 e4) e5) (hm_of e6)
      refine ⟨F ++ [x], _, _, _, rfl, by rw [upd_same, nv_app]; rfl, by simp [hFl], fun j y hy => ?_, ?_, Ex.mut e36 (by unfold Hm; rw [if_neg hbp]; exact hb)⟩
      · by_cases hj : j < F.length
        · rw [List.getElem?_append_left hj] at hy
          exact hFx j y hy
        · rw [List.getElem?_append_right (by omega)] at hy
          have : j - F.length = 0 := by
            have := (List.getElem?_eq_some_iff.mp hy).1
            simp at this
            omega
          rw [this] at hy
          have : x = y := Option.some.inj hy
          omega
      · obtain ⟨x, y, z, q1, q2⟩ := (p5.ex e6).mono (m := n + 3 * (i + 1) + 1) (by omega)
        exact ⟨x, y, z, by rw [upd_ne (Ne.symm hbp)]; exact q1, q2⟩
    · rintro σ' H' ⟨F, y4, y5, y6, rfl, hF, hFl, hFx, p3, e3⟩
      have em : ((m : Int)).toNat = m := Int.toNat_natCast m
      rw [em] at hFl p3
      exact s_ret (ev_var (i := 3) rfl) fun H4 e4 => k b F H4 hb (e4 b _ hF) hFl hFx (p3.ex e4) (hm_trans e3 (hm_of e4))
end

/-! ### rings by entries: the mathematics -/
def insr (pal one : Nat) (r : List Nat) : List Nat := if pal ∈ r ∧ pal ≠ one then r.take (r.idxOf pal + 1) ++ [one] ++ r.drop (r.idxOf pal + 1) else r
def rstep (rs : List (List Nat)) (one pal : Nat) : List (List Nat) := (if one = pal then rs ++ [[one]] else rs).map (insr pal one)
def ringsTo (e : List Nat) : Nat → List (List Nat)
  | 0 => []
  | i + 1 => rstep (ringsTo e i) i (e.getD i 0)
structure RI (m : Nat) (rs : List (List Nat)) : Prop where
  all : rs.flatten.Perm (List.range m)
  ne : ∀ r ∈ rs, 0 < r.length
  low : ∀ r ∈ rs, ∀ x ∈ r, r.headD 0 ≤ x
  asc : (rs.map (·.headD 0)).Pairwise (· < ·)
theorem insr_perm {pal one : Nat} {r : List Nat} (h : pal ∈ r) (ne : pal ≠ one) : (insr pal one r).Perm (one :: r) := by
  unfold insr
  rw [if_pos ⟨h, ne⟩, List.append_assoc]
  refine (List.Perm.append_left _ List.perm_append_comm).trans ?_
  rw [← List.append_assoc, List.take_append_drop]
  exact List.perm_append_comm
theorem insr_no {pal one : Nat} {r : List Nat} (h : pal ∉ r) : insr pal one r = r := if_neg fun q => h q.1
theorem insr_same {pal one : Nat} {r : List Nat} (h : pal = one) : insr pal one r = r := if_neg fun q => q.2 h
theorem insr_head {pal one : Nat} {r : List Nat} : (insr pal one r).headD 0 = r.headD 0 := by
  by_cases h : pal ∈ r ∧ pal ≠ one
  · unfold insr
    rw [if_pos h]
    cases r with
    | nil => simp at h
    | cons x l => simp
  · unfold insr
    rw [if_neg h]
theorem insr_len {pal one : Nat} {r : List Nat} (h : 0 < r.length) : 0 < (insr pal one r).length := by
  unfold insr
  split
  · simp
    omega
  · exact h
theorem insr_mem {pal one x : Nat} {r : List Nat} (h : x ∈ insr pal one r) : x ∈ r ∨ x = one := by
  by_cases q : pal ∈ r ∧ pal ≠ one
  · have := (insr_perm q.1 q.2).mem_iff.mp h
    rcases List.mem_cons.mp this with z | z
    · exact .inr z
    · exact .inl z
  · unfold insr at h
    rw [if_neg q] at h
    exact .inl h
theorem insr_all {pal one : Nat} (ne : pal ≠ one) : ∀ {rs : List (List Nat)}, rs.flatten.Nodup → pal ∈ rs.flatten → (rs.map (insr pal one)).flatten.Perm (one :: rs.flatten)
  | [], _, h => by simp at h
  | r :: l, nd, h => by
    rw [List.flatten_cons, List.nodup_append] at nd
    rw [List.map_cons, List.flatten_cons, List.flatten_cons]
    by_cases q : pal ∈ r
    · have hn : ∀ s ∈ l, pal ∉ s := fun s hs z => absurd rfl (nd.2.2 pal q pal (List.mem_flatten.mpr ⟨s, hs, z⟩))
      have e : l.map (insr pal one) = l := (List.map_congr_left fun s hs => insr_no (hn s hs)).trans (List.map_id _)
      rw [e]
      exact (List.Perm.append_right _ (insr_perm q ne))
    · rw [insr_no q]
      have h' : pal ∈ l.flatten := by
        rw [List.flatten_cons] at h
        rcases List.mem_append.mp h with z | z
        · exact absurd z q
        · exact z
      refine (List.Perm.append_left _ (insr_all ne nd.2.1 h')).trans ?_
      exact List.perm_middle
theorem RI.nd {m : Nat} {rs : List (List Nat)} (R : RI m rs) : rs.flatten.Nodup := R.all.nodup_iff.mpr List.nodup_range
theorem RI.mem {m x : Nat} {rs : List (List Nat)} (R : RI m rs) {r : List Nat} (hr : r ∈ rs) (hx : x ∈ r) : x < m := List.mem_range.mp (R.all.mem_iff.mp (List.mem_flatten.mpr ⟨r, hr, hx⟩))
theorem head_mem {r : List Nat} (h : 0 < r.length) : r.headD 0 ∈ r := by
  cases r with
  | nil => simp at h
  | cons x l => simp
theorem RI.step {one pal : Nat} {rs : List (List Nat)} (R : RI one rs) (h : pal ≤ one) : RI (one + 1) (rstep rs one pal) := by
  unfold rstep
  by_cases q : one = pal
  · rw [if_pos q]
    have e : (rs ++ [[one]]).map (insr pal one) = rs ++ [[one]] := (List.map_congr_left fun s _ => insr_same q.symm).trans (List.map_id _)
    rw [e]
    refine ⟨?_, ?_, ?_, ?_⟩
    · rw [List.flatten_append, List.range_succ]
      exact List.Perm.append_right _ R.all
    · intro r hr
      rcases List.mem_append.mp hr with z | z
      · exact R.ne r z
      · rw [List.mem_singleton.mp z]; simp
    · intro r hr
      rcases List.mem_append.mp hr with z | z
      · exact R.low r z
      · rw [List.mem_singleton.mp z]; simp
    · rw [List.map_append, List.pairwise_append]
      refine ⟨R.asc, by simp, fun a ha b hb => ?_⟩
      obtain ⟨r, hr, rfl⟩ := List.mem_map.mp ha
      have := R.mem hr (head_mem (R.ne r hr))
      simp at hb
      omega
  · rw [if_neg q]
    have hp : pal ∈ rs.flatten := R.all.mem_iff.mpr (List.mem_range.mpr (by omega))
    have eh : (rs.map (insr pal one)).map (·.headD 0) = rs.map (·.headD 0) := by
      rw [List.map_map]
      exact List.map_congr_left fun r _ => insr_head
    refine ⟨?_, ?_, ?_, ?_⟩
    · refine (insr_all (Ne.symm q) R.nd hp).trans ?_
      rw [List.range_succ]
      exact (List.Perm.cons _ R.all).trans (List.perm_append_comm (l₁ := [one]))
    · intro r hr
      obtain ⟨s, hs, rfl⟩ := List.mem_map.mp hr
      exact insr_len (R.ne s hs)
    · intro r hr x hx
      obtain ⟨s, hs, rfl⟩ := List.mem_map.mp hr
      rw [insr_head]
      rcases insr_mem hx with z | z
      · exact R.low s hs x z
      · have := R.mem hs (head_mem (R.ne s hs))
        omega
    · rw [eh]
      exact R.asc
theorem ringsTo_ok {e : List Nat} (h : ∀ (i x : Nat), e[i]? = some x → x ≤ i) : ∀ m, m ≤ e.length → RI m (ringsTo e m)
  | 0, _ => ⟨List.Perm.refl _, by simp [ringsTo], by simp [ringsTo], by simp [ringsTo]⟩
  | m + 1, hm => by
    have ih := ringsTo_ok h m (by omega)
    refine ih.step ?_
    have : e[m]? = some (e.getD m 0) := by
      rw [List.getD_eq_getElem?_getD, List.getElem?_eq_getElem (by omega)]
      rfl
    exact h m _ this
/-! the seating of rings -/
def succ (rs : List (List Nat)) (x : Nat) : Nat := match rs.find? (fun r => decide (x ∈ r)) with
  | some r => r.getD ((r.idxOf x + 1) % r.length) 0
  | none => 0
theorem succ_at {rs : List (List Nat)} (nd : rs.flatten.Nodup) {r : List Nat} (hr : r ∈ rs) {i x : Nat} (hx : r[i]? = some x) : succ rs x = r.getD ((i + 1) % r.length) 0 := by
  have hm := List.mem_of_getElem? hx
  have hf : rs.find? (fun r => decide (x ∈ r)) = some r := by
    cases hq : rs.find? (fun r => decide (x ∈ r)) with
    | none => exact absurd (decide_eq_true hm) (by simpa using List.find?_eq_none.mp hq r hr)
    | some s =>
      have h1 := List.mem_of_find?_eq_some hq
      have h2 := List.find?_some hq
      rw [nodup_flat nd h1 hr (of_decide_eq_true h2) hm]
  have ndr : r.Nodup := List.Pairwise.sublist (List.sublist_flatten_of_mem hr) nd
  have hi : r.idxOf x = i := by
    have hl := List.idxOf_lt_length_of_mem hm
    have := List.getElem_idxOf hl
    have h1 : r[r.idxOf x]? = some x := by rw [List.getElem?_eq_getElem hl, this]
    exact nd_ix ndr h1 hx
  unfold succ
  rw [hf]
  show r.getD ((r.idxOf x + 1) % r.length) 0 = _
  rw [hi]
def seat (rs : List (List Nat)) (n : Nat) : List Nat := (List.range n).map (succ rs)
theorem seat_rg {rs : List (List Nat)} {n : Nat} (hp : rs.flatten.Perm (List.range n)) {r : List Nat} (hr : r ∈ rs) (ne : 0 < r.length) : Rg (seat rs n) r := by
  have nd : rs.flatten.Nodup := hp.nodup_iff.mpr List.nodup_range
  refine ⟨ne, List.Pairwise.sublist (List.sublist_flatten_of_mem hr) nd, fun i hi => ?_⟩
  have hx : r[i]? = some r[i] := List.getElem?_eq_getElem hi
  have hm := Nat.mod_lt (i + 1) ne
  refine ⟨r[i], r[(i + 1) % r.length], hx, List.getElem?_eq_getElem hm, ?_⟩
  have hn : r[i] < n := List.mem_range.mp (hp.mem_iff.mp (List.mem_flatten.mpr ⟨r, hr, List.getElem_mem hi⟩))
  unfold seat
  rw [List.getElem?_map, List.getElem?_range hn]
  show some (succ rs r[i]) = _
  rw [succ_at nd hr hx, List.getD_eq_getElem?_getD, List.getElem?_eq_getElem hm]
  rfl
theorem seat_len (rs : List (List Nat)) (n : Nat) : (seat rs n).length = n := by simp [seat]
theorem map_rot {rs : List (List Nat)} (nd : rs.flatten.Nodup) {r : List Nat} (hr : r ∈ rs) (ne : 0 < r.length) : r.map (succ rs) = rot r (1 % r.length) := by
  have hk := Nat.mod_lt 1 ne
  refine List.ext_getElem? fun i => ?_
  by_cases hi : i < r.length
  · have hx : r[i]? = some r[i] := List.getElem?_eq_getElem hi
    have hm := Nat.mod_lt (i + 1) ne
    rw [List.getElem?_map, hx, rot_get hk hi, Nat.add_mod_mod]
    show some (succ rs r[i]) = _
    rw [succ_at nd hr hx, List.getD_eq_getElem?_getD, List.getElem?_eq_getElem hm]
    rfl
  · rw [List.getElem?_eq_none (by simp; omega), List.getElem?_eq_none (by rw [rot_len (by omega)]; omega)]
theorem flat_map_perm {g : Nat → Nat} : ∀ {rs : List (List Nat)}, (∀ r ∈ rs, (r.map g).Perm r) → (rs.flatten.map g).Perm rs.flatten
  | [], _ => List.Perm.refl _
  | r :: l, h => by
    rw [List.flatten_cons, List.map_append]
    exact List.Perm.append (h r (by simp)) (flat_map_perm fun s hs => h s (by simp [hs]))
theorem seat_perm {rs : List (List Nat)} {n : Nat} (hp : rs.flatten.Perm (List.range n)) (hne : ∀ r ∈ rs, 0 < r.length) : (seat rs n).Perm (List.range n) := by
  have nd : rs.flatten.Nodup := hp.nodup_iff.mpr List.nodup_range
  unfold seat
  refine ((hp.symm.map (succ rs)).trans (flat_map_perm fun r hr => ?_)).trans hp
  rw [map_rot nd hr (hne r hr)]
  exact rot_perm r _
theorem RI.rings {m : Nat} {rs : List (List Nat)} (R : RI m rs) : Rings (seat rs m) rs := ⟨fun r hr => seat_rg R.all hr (R.ne r hr), R.low, R.asc, by rw [seat_len]; exact R.all⟩
theorem seat_ord {rs : List (List Nat)} {n : Nat} (hp : rs.flatten.Perm (List.range n)) (hne : ∀ r ∈ rs, 0 < r.length) (h1 : 1 ≤ n) (h2 : n ≤ 20) : Ord (seat rs n) := by
  unfold Ord
  rw [seat_len]
  exact ⟨seat_perm hp hne, h1, h2⟩

local macro_rules | `(tactic| walk_at "call") => `(tactic| (with_reducible exact sv_whole))
local macro_rules | `(tactic| walk_at "call") => `(tactic| ((with_reducible refine' sv_ord ?c1 ?c2); (case c1 => assumption); (case c2 => assumption)))

/-! ### _law_rings -/
section
variable {K : PySem.W.Frag} {σ : L2.St} {H : Hp} {ta te : TE} {tr : TA} {D : Ends}
theorem nv_flat (r : List Nat) : (nv r).all flatV = true := by
  rw [nv_eq, List.all_map, List.all_eq_true]
  intro x _
  rfl
theorem nv_in (r : List Nat) (x : Nat) : inV (.int x) (nv r) = decide (x ∈ r) := by
  unfold inV
  rw [nv_eq, List.any_map, Bool.eq_iff_iff, List.any_eq_true, decide_eq_true_iff]
  constructor
  · rintro ⟨y, hy, e⟩
    have : ((y : Int) == (x : Int)) = true := e
    have := eq_of_beq this
    have : y = x := by omega
    exact this ▸ hy
  · intro h
    exact ⟨x, h, beq_self_eq_true _⟩
theorem s_dropBM {r : V → List V → Hp → VK → Prop} {l : Addr} {xs : List V} (hl : H l = some (.lst xs)) (ha : Ev ta σ H (.ref l)) (k : ∀ H1, Ex H H1 → tr σ H1 fun vs H2 => r (.ref l) vs H2 fun _ H3 => D.nx σ H3) : tDrop (tBM K "list" r ta tr) D σ H :=
  ha H (Ex.refl H) _ fun H1 e1 => ⟨Or.inl ⟨rfl, xs, sq_of (e1 l _ hl)⟩, k H1 e1⟩
theorem ev_index {l : Addr} {r : List Nat} {x : Nat} (hl : H l = some (.lst (nv r))) (ha : Ev ta σ H (.ref l)) (he : Ev te σ H (.int (x : Int))) (hx : x ∈ r) : Ev (tBM K "list" (rIndex K) ta (tCons te tNil)) σ H (.int (r.idxOf x : Nat)) := fun H1 e Q q =>
  ha H1 e _ fun H2 e2 => ⟨Or.inl ⟨rfl, _, sq_of (e2 l _ (e l _ hl))⟩, he H2 (e.trans e2) _ fun H3 e3 => by
    have hlt := List.idxOf_lt_length_of_mem hx
    refine ⟨l, nv r, .int x, r.idxOf x, .int x, rfl, rfl, sq_of (e3 l _ (e2 l _ (e l _ hl))), rfl, nv_flat r, nv_get (by rw [List.getElem?_eq_getElem hlt, List.getElem_idxOf hlt]), beq_self_eq_true _, fun m z hm hz => ?_, q H3 (e2.trans e3)⟩
    have hml : m < r.length := by omega
    have := nv_get (List.getElem?_eq_getElem hml)
    rw [hz] at this
    have ez := Option.some.inj this
    subst ez
    show ((r[m] : Int) == (x : Int)) = false
    rw [beq_eq_false_iff_ne]
    intro ee
    have ee' : r[m] = x := by omega
    have h1 : r.idxOf x ≤ m := by
      have hh : r.findIdx (· == x) ≤ m := by
        refine Nat.le_of_not_lt fun hlt2 => ?_
        have := List.not_of_lt_findIdx hlt2
        rw [ee'] at this
        simp at this
      exact hh
    omega⟩
end
theorem mid_at {α : Type} (g : α → α) (l : List α) {j : Nat} {x : α} (h : l[j]? = some x) : ((l.take j).map g ++ l.drop j)[j]? = some x := by
  have hj := (List.getElem?_eq_some_iff.mp h).1
  rw [List.getElem?_append_right (by simp; omega)]
  simp [List.length_take, Nat.min_eq_left (Nat.le_of_lt hj), h]
theorem mid_set {α : Type} (g : α → α) (l : List α) {j : Nat} {x : α} (h : l[j]? = some x) : ((l.take j).map g ++ l.drop j).set j (g x) = (l.take (j + 1)).map g ++ l.drop (j + 1) := by
  obtain ⟨hj, e⟩ := List.getElem?_eq_some_iff.mp h
  rw [List.set_append_right _ _ (by simp; omega), take_next h, List.map_append, List.drop_eq_getElem_cons hj, e]
  simp [List.length_take, Nat.min_eq_left (Nat.le_of_lt hj)]
theorem set_same {α : Type} {l : List α} {j : Nat} {x : α} (h : l[j]? = some x) : l.set j x = l := by
  refine List.ext_getElem? fun i => ?_
  by_cases e : i = j
  · subst e
    rw [List.getElem?_set_self (List.getElem?_eq_some_iff.mp h).1, h]
  · rw [List.getElem?_set_ne (Ne.symm e)]
theorem mid_same {α : Type} (g : α → α) (l : List α) {j : Nat} {x : α} (h : l[j]? = some x) (e : g x = x) : (l.take j).map g ++ l.drop j = (l.take (j + 1)).map g ++ l.drop (j + 1) := by
  have := mid_set g l h
  rw [e] at this
  rw [← this]
  exact (set_same (mid_at g l h)).symm
def sp_law_rings : Sp := fun vs H Q _ => ∃ (a : Addr) (e : List Nat), vs = [.ref a] ∧ H a = some (.lst (nv e)) ∧ e.length ≤ 20 ∧ (∀ (i x : Nat), e[i]? = some x → x ≤ i) ∧
  ∀ l bs H', LL H l H' bs (ringsTo e e.length) → Ex H H' → Q (.ref l) H'
section
variable {P : Program} {w : World} {K : PySem.W.Frag} {mg : Str → Option Value} {base : Heap}
theorem ok_law_rings (T : Tx K mg) : FnOk P w K mg base CX0 1 T.f_law_rings T.d_law_rings ["entries"] sp_law_rings := by
  refine T.F_law_rings.ok sc_law_rings (fun vs H Q E h => ?_) (fun cdv A outer s H vs Q E hr h => ?_)
  · obtain ⟨a, e, rfl, _⟩ := h
    rfl
  · obtain ⟨a, f, rfl, ha, hn, hx, k⟩ := h
    refine ⟨_, (pss_cons (ps_set (i := 1) sc_law_rings.nd rfl (Or.inl rfl) (pe_lst pa_nil))
      (pss_cons (ps_for PassesOwn.never rfl (pi_enum (by rfl) T.m_enumerate (pa_cons (pv 0) pa_nil)) (pg_tup rfl (pgs_cons (pg_name (i := 2) sc_law_rings.nd rfl (Or.inl rfl)) (pgs_cons (pg_name (i := 3) sc_law_rings.nd rfl (Or.inl rfl)) pgs_nil))) (pss_cons (ps_if (pt_cmpR op_eq (pv 2) (pv 3) (nomark _)) (pss_one (ps_expr (pe_bm PySem.F.plainAttrs_list PySem.F.slot_list_append PySem.F.type_list_append mt_append (pv 1) (pa_cons (pe_lst (pa_cons (pv 2) pa_nil)) pa_nil)))) pss_nil)
      (pss_one (ps_for PassesOwn.never rfl (pi_list (pv 1)) (pg_name (i := 4) sc_law_rings.nd rfl (Or.inl rfl)) (pss_one (ps_if (PW.pt (pw_and (pt_cmpR op_in_seq (pv 3) (pv 4) (by rfl)) (pw_and1 (pt_cmpR op_ne (pv 3) (pv 2) (nomark _))))) (pss_one (ps_expr (pe_bm PySem.F.plainAttrs_list PySem.F.slot_list_insert PySem.F.type_list_insert mt_insert (pv 4) (pa_cons (pe_op op_add (pe_bm PySem.F.plainAttrs_list PySem.F.slot_list_index PySem.F.type_list_index mt_index (pv 4) (pa_cons (pv 3) pa_nil)) pe_int) (pa_cons (pv 2) pa_nil))))) pss_nil))))))
      (pss_one (ps_ret (pv 1))))), ?_⟩
    refine q_asgL (xs := []) (el_lst ea_nil (Nat.le_of_ble_eq_true rfl)) fun p H1 hp e1 h1 => ?_
    refine q_forEn (xs := nv f) (K := K) (by walk_at "ea") (sq_of (e1 a _ ha)) (fun m σ' H' => ∃ (bs : List Addr) (y2 y3 y4 : Option V), σ' = [some (.ref a), some (.ref p), y2, y3, y4] ∧ Ex H H' ∧ LL H p H' bs (ringsTo f m))
      (fun H2 e2 => ⟨[], none, none, none, rfl, e1.trans e2, LL.nil (e2 p _ h1) hp⟩) (fun m σ' H' _ ⟨_, _, _, _, _, e, _⟩ => sq_of (e a _ ha)) ?_ ?_
    · rintro m v σ' H' H2 hv ⟨bs, y2, y3, y4, rfl, e, L⟩ e2
      have hml : m < f.length := by
        have := (List.getElem?_eq_some_iff.mp hv).1
        rw [nv_len] at this
        exact this
      obtain ⟨x, hfx⟩ : ∃ x, f[m]? = some x := ⟨f[m], List.getElem?_eq_getElem hml⟩
      have ev : v = .int (x : Int) := by
        have := nv_get hfx
        rw [hv] at this
        exact Option.some.inj this
      subst ev
      have gx : f.getD m 0 = x := by
        rw [List.getD_eq_getElem?_getD, hfx]
        rfl
      have hxm := hx m x hfx
      have R := ringsTo_ok hx m (by omega)
      have L2 := L.ex e2
      have hz : (ringsTo f m).length ≤ m := by
        have : ∀ l : List (List Nat), (∀ r ∈ l, 0 < r.length) → l.length ≤ l.flatten.length := fun l => by
          induction l with
          | nil => intro _; simp
          | cons r l ih =>
            intro hl
            have := ih fun x hx => hl x (by simp [hx])
            have := hl r (by simp)
            rw [List.flatten_cons, List.length_append, List.length_cons]
            omega
        have h2 := this _ R.ne
        rw [R.all.length_eq, List.length_range] at h2
        exact h2
      have short : ∀ r ∈ ringsTo f m, r.length ≤ m := fun r hr => by
        have := List.Sublist.length_le (List.sublist_flatten_of_mem hr)
        rw [R.all.length_eq, List.length_range] at this
        exact this
      -- what is left: the inner loop
      have inner : ∀ (rs1 : List (List Nat)) (bs1 : List Addr) (H3 : Hp) (D : Ends), rs1 = (if m = x then ringsTo f m ++ [[m]] else ringsTo f m) → Ex H H3 → LL H p H3 bs1 rs1 → (∀ r ∈ rs1, r.length ≤ 20) → rs1.length ≤ 21 →
          (∀ σ4 H4, (∃ (bs : List Addr) (y2 y3 y4 : Option V), σ4 = [some (.ref a), some (.ref p), y2, y3, y4] ∧ Ex H H4 ∧ LL H p H4 bs (ringsTo f (m + 1))) → D.nx σ4 H4) →
          tFor (iList K (tVar 1)) (gName 4) (tIfS (tAnd (tTest (tOp (rIn K false) (tVar 3) (tVar 4))) (tTest (tOp rNe (tVar 3) (tVar 2)))) (tDrop (tBM K "list" (fun x vs H Q => ∃ (l : Addr) (xs : List V) (i : Int) (y : V), x = .ref l ∧ vs = [.int i, y] ∧ H l = some (.lst xs) ∧ xs.length < sizeLine ∧ 0 ≤ i ∧ i < 2 ^ 63 ∧
    Q .non (upd H l (.lst (xs.take i.toNat ++ [y] ++ xs.drop i.toNat)))) (tVar 4) (tCons (tOp (rI0 fun i j => .int (i + j)) (tBM K "list" (rIndex K) (tVar 4) (tCons (tVar 3) tNil)) (tC (.int 1))) (tCons (tVar 2) tNil)))) tNext) D [some (.ref a), some (.ref p), some (.int (m : Int)), some (.int (x : Int)), y4] H3 := fun rs1 bs1 H3 D hr1 e3 L3 sh1 sl1 hD => by
        have hbl : bs1.length = rs1.length := L3.len
        refine s_forLn (xs := bs1.map V.ref) (K := K) (ev_var rfl) (sq_of L3.self) (fun j σ' H' => ∃ (y4 : Option V), σ' = [some (.ref a), some (.ref p), some (.int (m : Int)), some (.int (x : Int)), y4] ∧ Ex H H' ∧ LL H p H' bs1 ((rs1.take j).map (insr x m) ++ rs1.drop j))
          (fun H4 e4 => ⟨y4, rfl, e3.trans e4, by simpa using L3.ex e4⟩) (fun j σ' H' _ ⟨_, _, _, L⟩ => sq_of L.self) ?_ ?_
        · rintro j v σ' H4 hv ⟨y4, rfl, e4, L4⟩
          rw [List.getElem?_map] at hv
          obtain ⟨b, hb, rfl⟩ := Option.map_eq_some_iff.mp hv
          have hj : j < rs1.length := by
            have := (List.getElem?_eq_some_iff.mp hb).1
            omega
          obtain ⟨r, hr⟩ : ∃ r, rs1[j]? = some r := ⟨rs1[j], List.getElem?_eq_getElem hj⟩
          have hrb := L4.at_ j b r hb (mid_at _ _ hr)
          have hb0 : H b = none := L4.fr b (List.mem_of_getElem? hb)
          have shr := sh1 r (List.mem_of_getElem? hr)
          refine s_if (b := decide (x ∈ r) && !decide (V.int (x : Int) = V.int (m : Int))) (et_and (et_test (ev_is (ev_op (ev_var rfl) (ev_var rfl) (rv_isL (K := K) (sq_of hrb) rfl (nv_flat r))) (by rw [nv_in]))) fun _ => et_test (ev_op (ev_var rfl) (ev_var rfl) (rv_ne rfl))) (fun hc H5 e5 => ?_) (fun hc H5 e5 => ?_)
          · rw [Bool.and_eq_true, decide_eq_true_iff] at hc
            have hne : x ≠ m := fun z => by
              rw [z] at hc
              simp at hc
            have hr5 := e5 b _ hrb
            refine s_dropBM hr5 (ev_var rfl) fun H6 e6 => ?_
            have hr6 := e6 b _ hr5
            refine (ea_cons (ev_op (ev_index (K := K) (ta := tVar 4) (te := tVar 3) (σ := [some (.ref a), some (.ref p), some (.int (m : Int)), some (.int (x : Int)), some (.ref b)]) hr6 (ev_var rfl) (ev_var rfl) hc.1) (ev_c (v := .int 1)) (rv_I0 (g := fun i j => .int (i + j)))) (ea_cons (ev_var (i := 2) rfl) ea_nil)) H6 (Ex.refl _) _ fun H7 e7 => ?_
            refine ⟨b, nv r, _, _, rfl, rfl, e7 b _ hr6, sz_lt (by rw [nv_len]; omega), by omega, by
              have := List.idxOf_lt_length_of_mem hc.1
              omega, ?_⟩
            have L7 := ((L4.ex e5).ex e6).ex e7
            refine ⟨_, rfl, Ex.mut (e4.trans (e5.trans (e6.trans e7))) hb0, ?_⟩
            have g := L7.put (r := insr x m r) hb
            rw [mid_set _ _ hr] at g
            have ei : nv (insr x m r) = (nv r).take ((r.idxOf x : Int) + 1).toNat ++ [.int (m : Int)] ++ (nv r).drop ((r.idxOf x : Int) + 1).toNat := by
              unfold insr
              rw [if_pos ⟨hc.1, hne⟩, nv_app, nv_app]
              have : ((r.idxOf x : Int) + 1).toNat = r.idxOf x + 1 := by omega
              rw [this]
              rw [nv_eq, nv_eq, nv_eq, nv_eq, List.map_take, List.map_drop]
              rfl
            rw [← ei]
            exact g
          · have same : insr x m r = r := by
              unfold insr
              refine if_neg fun q => ?_
              rw [decide_eq_true q.1] at hc
              have : V.int (x : Int) ≠ V.int (m : Int) := fun z => q.2 (by
                have := V.int.inj z
                omega)
              rw [decide_eq_false this] at hc
              exact Bool.noConfusion hc
            refine ⟨_, rfl, e4.trans e5, ?_⟩
            rw [← mid_same _ _ hr same]
            exact L4.ex e5
        · rintro σ' H4 ⟨y4, rfl, e4, L4⟩
          refine hD _ _ ⟨bs1, _, _, _, rfl, e4, ?_⟩
          rw [List.length_map, hbl, List.take_of_length_le (Nat.le_refl _), List.drop_of_length_le (Nat.le_refl _), List.append_nil] at L4
          show LL H p H4 bs1 (rstep (ringsTo f m) m (f.getD m 0))
          rw [gx]
          unfold rstep
          rw [← hr1]
          exact L4
      refine q_when (b := decide (V.int (m : Int) = V.int (x : Int))) (et_test (ev_op (ev_var rfl) (ev_var rfl) (rv_eq rfl))) (fun hc H3 e3 => ?_) (fun hc H3 e3 => ?_)
      · have hmx : m = x := by
          have := V.int.inj (of_decide_eq_true hc)
          omega
        refine s_appL (e3 p _ L2.self) (ev_var rfl) (by walk_at "el") (by rw [List.length_map, L2.len]; omega) fun q H4 hq e4 h4 => ?_
        refine inner (ringsTo f m ++ [[m]]) (bs ++ [q]) _ _ (by rw [if_pos hmx]) (Ex.mut ((e.trans e2).trans (e3.trans e4)) hp) ((L2.ex e3).push ((e.trans e2).trans e3) e4 hq h4) (fun r hr => ?_) (by simp; omega) (fun _ _ q => q)
        rcases List.mem_append.mp hr with z | z
        · have := short r z
          omega
        · rw [List.mem_singleton.mp z]; simp
      · have hmx : ¬ m = x := fun z => by
          rw [z] at hc
          simp at hc
        exact inner (ringsTo f m) bs _ _ (by rw [if_neg hmx]) ((e.trans e2).trans e3) (L2.ex e3) (fun r hr => by have := short r hr; omega) (by omega) (fun _ _ q => q)
    · rintro σ' H' ⟨bs, y2, y3, y4, rfl, e, L⟩
      rw [nv_len] at L
      exact s_ret (ev_var rfl) fun H2 e2 => k p bs H2 (L.ex e2) (e.trans e2)
end

local macro_rules | `(tactic| walk_at "call") => `(tactic| (with_reducible exact sv_whole))
local macro_rules | `(tactic| walk_at "call") => `(tactic| ((with_reducible refine' sv_ord ?c1 ?c2); (case c1 => assumption); (case c2 => assumption)))

/-! ### _law_seat -/
def rLenK : List V → Hp → VK → Prop := fun xs H Q => ∃ a kvs, xs = [V.ref a] ∧ H a = some (.dK kvs) ∧ Q (.int kvs.length) H
theorem call_lenK {X : Cx} : CallR X (.builtin "len") rLenK := call_lenD
section
variable {K : PySem.W.Frag} {σ : L2.St} {H : Hp} {ta tb te : TE} {D : Ends} {tz : TS}
theorem ev_lenK {a : Addr} {kvs : List (Key × V)} (h : Ev ta σ H (.ref a)) (ha : H a = some (.dK kvs)) : Ev (tCB rLenK (tCons ta tNil)) σ H (.int (kvs.length : Int)) := fun H1 e Q q => h H1 e _ fun H2 e2 => ⟨a, kvs, rfl, e2 a _ (e a _ ha), q H2 e2⟩
theorem ev_dgetI {a : Addr} {kvs : List (Key × V)} {x : Int} {v : V} (h : Ev ta σ H (.ref a)) (hx : Ev tb σ H (.int x)) (ha : H a = some (.dK kvs)) (hv : valV kvs (.inl x) = some v) : Ev (tDGet ta tb) σ H v := fun H1 e Q q =>
  h H1 e _ fun H2 e2 => hx H2 (e.trans e2) _ fun H3 e3 => ⟨a, v, rfl, by
    have := DGet.k (k := .inl x) (e3 a _ (e2 a _ (e a _ ha)))
    rw [hv] at this
    exact this, q H3 (e2.trans e3)⟩
theorem s_dputI {a : Addr} {kvs : List (Key × V)} {x : Int} {v : V} (h : Ev ta σ H (.ref a)) (hx : Ev tb σ H (.int x)) (hv : Ev te σ H v) (ha : H a = some (.dK kvs)) (hl : kvs.length < 100000) (k : ∀ H1, Ex H H1 → D.nx σ (upd H1 a (.dK (putK kvs (.inl x) v)))) : sDPut ta tb te D σ H :=
  hv H (Ex.refl _) _ fun H1 e1 => h H1 e1 _ fun H2 e2 => hx H2 (e1.trans e2) _ fun H3 e3 => ⟨a, _, rfl, DPut.k (k := .inl x) (e3 a _ (e2 a _ (e1 a _ ha))) (sz_lt hl), k H3 (e1.trans (e2.trans e3))⟩
theorem q_dnewK {i : Nat} (k : ∀ p H1, H p = none → Ex H H1 → H1 p = some (.dK []) → tz D (σ.set i (some (.ref p))) H1) : tSeq (tAsg tDNewK (gName i)) tz D σ H := fun p hp => k p _ hp (Ex.new hp) upd_same
end
/-- a list at b -/
def Lb (H : Hp) (v : V) (r : List Nat) : Prop := ∃ b, v = .ref b ∧ H b = some (.lst (nv r))
theorem Lb.ex {H H' : Hp} {v : V} {r : List Nat} (e : Ex H H') (h : Lb H v r) : Lb H' v r := by
  obtain ⟨b, rfl, h⟩ := h
  exact ⟨b, rfl, e b _ h⟩
def prev (r : List Nat) (j : Nat) : Nat := r.getD ((j + (r.length - 1)) % r.length) 0
theorem prev_at {r : List Nat} {k : Nat} (h : k < r.length) : atI (nv r) ((k : Int) - 1) = some (.int (prev r k : Nat)) ∧ prev r k ∈ r ∧ r[(k + (r.length - 1)) % r.length]? = some (prev r k) := by
  have hm := Nat.mod_lt (k + (r.length - 1)) (show r.length > 0 by omega)
  have e : r[(k + (r.length - 1)) % r.length]? = some (prev r k) := by
    unfold prev
    rw [List.getD_eq_getElem?_getD, List.getElem?_eq_getElem hm]
    rfl
  refine ⟨?_, List.mem_of_getElem? e, e⟩
  cases k with
  | zero =>
    rcases list_end r with z | ⟨i, x, z⟩
    · rw [z] at h; simp at h
    · have : (0 + (r.length - 1)) % r.length = i.length := by
        rw [Nat.zero_add, Nat.mod_eq_of_lt (by omega), z]
        simp
      rw [this, z] at e
      simp at e
      rw [z, ← e, nv_app]
      exact atI_last _ _
  | succ k =>
    have : (k + 1 + (r.length - 1)) % r.length = k := by
      rw [show k + 1 + (r.length - 1) = k + r.length by omega, Nat.add_mod_right, Nat.mod_eq_of_lt (by omega)]
    rw [this] at e
    have e2 : (((k + 1 : Nat) : Int) - 1) = (k : Int) := by omega
    rw [e2]
    exact atI_nat (nv_get e)
theorem prev_inj {r : List Nat} (nd : r.Nodup) {j k : Nat} (hj : j < r.length) (hk : k < r.length) (h : prev r j = prev r k) : j = k := by
  have h1 := (prev_at hj).2.2
  have h2 := (prev_at hk).2.2
  rw [← h] at h2
  have := nd_ix nd h1 h2
  by_cases a : j = 0
  · by_cases b : k = 0
    · omega
    · rw [show k + (r.length - 1) = (k - 1) + r.length by omega, Nat.add_mod_right, Nat.mod_eq_of_lt (show k - 1 < r.length by omega), a, Nat.zero_add, Nat.mod_eq_of_lt (show r.length - 1 < r.length by omega)] at this
      omega
  · rw [show j + (r.length - 1) = (j - 1) + r.length by omega, Nat.add_mod_right, Nat.mod_eq_of_lt (show j - 1 < r.length by omega)] at this
    by_cases b : k = 0
    · rw [b, Nat.zero_add, Nat.mod_eq_of_lt (show r.length - 1 < r.length by omega)] at this
      omega
    · rw [show k + (r.length - 1) = (k - 1) + r.length by omega, Nat.add_mod_right, Nat.mod_eq_of_lt (show k - 1 < r.length by omega)] at this
      omega
theorem prev_all {r : List Nat} {x : Nat} (h : x ∈ r) : ∃ j, j < r.length ∧ prev r j = x := by
  obtain ⟨i, hi⟩ := List.mem_iff_getElem?.mp h
  have hl := (List.getElem?_eq_some_iff.mp hi).1
  have hm := Nat.mod_lt (i + 1) (show r.length > 0 by omega)
  refine ⟨(i + 1) % r.length, hm, ?_⟩
  have e := (prev_at hm).2.2
  have : ((i + 1) % r.length + (r.length - 1)) % r.length = i := by
    rw [Nat.mod_add_mod, show i + 1 + (r.length - 1) = i + r.length by omega, Nat.add_mod_right, Nat.mod_eq_of_lt hl]
  rw [this, hi] at e
  exact (Option.some.inj e).symm
def dones (r : List Nat) (k : Nat) : List Nat := (List.range k).map (prev r)
theorem dones_next (r : List Nat) (k : Nat) : dones r (k + 1) = dones r k ++ [prev r k] := by
  unfold dones
  rw [List.range_succ, List.map_append]
  rfl
theorem dones_mem {r : List Nat} {k x : Nat} : x ∈ dones r k ↔ ∃ j, j < k ∧ prev r j = x := by
  unfold dones
  rw [List.mem_map]
  constructor
  · rintro ⟨j, hj, e⟩
    exact ⟨j, List.mem_range.mp hj, e⟩
  · rintro ⟨j, hj, e⟩
    exact ⟨j, List.mem_range.mpr hj, e⟩
theorem dones_all {r : List Nat} {x : Nat} : x ∈ dones r r.length ↔ x ∈ r := by
  rw [dones_mem]
  constructor
  · rintro ⟨j, hj, rfl⟩
    exact (prev_at hj).2.1
  · exact prev_all
theorem succ_prev {rs : List (List Nat)} (nd : rs.flatten.Nodup) {r : List Nat} (hr : r ∈ rs) {k : Nat} (hk : k < r.length) : r[k]? = some (succ rs (prev r k)) := by
  rw [succ_at nd hr (prev_at hk).2.2, Nat.mod_add_mod, show k + (r.length - 1) + 1 = k + r.length by omega, Nat.add_mod_right, Nat.mod_eq_of_lt hk, List.getD_eq_getElem?_getD, List.getElem?_eq_getElem hk]
  rfl
/-- the dict: of the guests in l their left neighbours -/
def Near (rs : List (List Nat)) (kvs : List (Key × V)) (l : List Nat) : Prop := kvs.length = l.length ∧ ∀ x : Nat, valV kvs (.inl (x : Int)) = if x ∈ l then some (.int (succ rs x : Nat)) else none
theorem Near.put {rs : List (List Nat)} {kvs : List (Key × V)} {l : List Nat} (N : Near rs kvs l) {x : Nat} (h : x ∉ l) : Near rs (putK kvs (.inl (x : Int)) (.int (succ rs x : Nat))) (l ++ [x]) := by
  have hv := N.2 x
  rw [if_neg h] at hv
  refine ⟨by rw [putK_new _ hv, List.length_append, List.length_append, N.1]; rfl, fun y => ?_⟩
  rw [valV_put]
  by_cases e : y = x
  · subst e
    rw [if_pos rfl, if_pos (by simp)]
  · rw [if_neg (fun z => e (by
      have := Sum.inl.inj z
      omega)), N.2 y]
    simp [e]
def sp_law_seat : Sp := fun vs H Q _ => ∃ (a : Addr) (ws : List V) (rs : List (List Nat)) (n : Nat), vs = [.ref a] ∧ H a = some (.lst ws) ∧ Paired (Lb H) ws rs ∧ rs.flatten.Perm (List.range n) ∧ n ≤ 20 ∧ RetL (nv (seat rs n)) H Q
theorem sl_seat {H : Hp} {a : Addr} {ws : List V} {rs : List (List Nat)} {n : Nat} (ha : H a = some (.lst ws)) (ht : Paired (Lb H) ws rs) (hp : rs.flatten.Perm (List.range n)) (hn : n ≤ 20) : SpL sp_law_seat ([.ref a] ++ []) H (nv (seat rs n)) := fun H1 e Q q E =>
  ⟨a, ws, rs, n, rfl, e a _ ha, paired_imp (fun _ _ x => Lb.ex e x) ht, hp, hn, q⟩
section
variable {P : Program} {w : World} {K : PySem.W.Frag} {mg : Str → Option Value} {base : Heap}
theorem ok_law_seat (T : Tx K mg) : FnOk P w K mg base CX0 1 T.f_law_seat T.d_law_seat ["rings"] sp_law_seat := by
  refine T.F_law_seat.ok sc_law_seat (fun vs H Q E h => ?_) (fun cdv A outer s H vs Q E hr h => ?_)
  · obtain ⟨a, ws, rs, n, rfl, _⟩ := h
    rfl
  · obtain ⟨a, ws, rs, n, rfl, ha, ht, hp, hn, k⟩ := h
    refine ⟨_, (pss_cons (ps_set (i := 1) sc_law_seat.nd rfl (Or.inr rfl) pe_dnewK)
      (pss_cons (ps_for PassesOwn.never rfl (pi_list (pv 0)) (pg_name (i := 2) sc_law_seat.nd rfl (Or.inl rfl)) (pss_one (ps_for PassesOwn.never rfl (pi_range1 (by rfl) T.m_range (pa_cons (pe_callB call_lenR (by rfl) T.m_len (by decide +kernel) (pa_cons (pv 2) pa_nil)) pa_nil)) (pg_name (i := 3) sc_law_seat.nd rfl (Or.inl rfl)) (pss_one (ps_dput (hu_of hr) (pv 1) (pe_ix ix_list (pv 2) (pe_op op_sub (pv 3) pe_int) (fun _ _ => rfl)) (pe_ix ix_list (pv 2) (pv 3) (fun _ _ => rfl)) rfl)))))
      (pss_one (ps_ret (pe_lc (own := [("one", 4)]) (g := (gName 4)) (tt := tYes) rfl sc_law_seat.nd (pi_range1 (by rfl) T.m_range (pa_cons (pe_callB (id := "len") (r := rLenK) call_lenK (by rfl) T.m_len (by decide +kernel) (pa_cons (pv 1) pa_nil)) pa_nil)) (blkOk_by (own := [("one", 4)]) (N := n_law_seat) (sc := defScope s_law_seat) (by decide +kernel)) (fun _ _ _ _ _ => (pg_name (i := 4) sc_law_seat.nd rfl (Or.inl rfl))) (fun _ _ _ _ _ => pts_nil) (fun _ _ _ _ _ => (pe_dget (hu_of hr) (pv 1) (pv 4) (fun _ _ => rfl)))))))), ?_⟩
    have nd : rs.flatten.Nodup := hp.nodup_iff.mpr List.nodup_range
    have hfl : rs.flatten.length = n := by rw [hp.length_eq, List.length_range]
    have hlen : ws.length = rs.length := Paired.length ht
    refine q_dnewK fun p H1 hp1 e1 h1 => ?_
    refine q_forLn (xs := ws) (K := K) (ev_var rfl) (sq_of (e1 a _ ha)) (fun i σ' H' => ∃ (kvs : List (Key × V)) (y2 y3 : Option V), σ' = [some (.ref a), some (.ref p), y2, y3, none] ∧ Ex H H' ∧ H' p = some (.dK kvs) ∧ Near rs kvs (rs.take i).flatten)
      (fun H2 e2 => ⟨[], none, none, rfl, e1.trans e2, e2 p _ h1, rfl, fun x => by simp [valV_nil]⟩) (fun i σ' H' _ ⟨_, _, _, _, e, _⟩ => sq_of (e a _ ha)) ?_ ?_
    · rintro i v σ' H' hv ⟨kvs, y2, y3, rfl, e, hk, N⟩
      obtain ⟨r, hr, b, rfl, hb⟩ := paired_get ht hv
      have hrm := List.mem_of_getElem? hr
      have ndr : r.Nodup := List.Pairwise.sublist (List.sublist_flatten_of_mem hrm) nd
      have hfn := flat_next hr
      have hsub : (rs.take (i + 1)).flatten.Nodup := by
        refine List.Pairwise.sublist ?_ nd
        conv => rhs; rw [← List.take_append_drop (i + 1) rs, List.flatten_append]
        exact List.sublist_append_left _ _
      rw [hfn, List.nodup_append] at hsub
      have hle : (rs.take i).flatten.length + r.length ≤ n := by
        rw [← List.length_append, ← hfn, ← hfl]
        conv => rhs; rw [← List.take_append_drop (i + 1) rs, List.flatten_append, List.length_append]
        omega
      refine s_forR1 (n := (r.length : Int)) (ea_cons (by
        have := ev_len (K := K) (ta := tVar 2) (σ := [some (V.ref a), some (.ref p), some (.ref b), y3, none]) (ev_var (i := 2) rfl) (sq_of (e b _ hb))
        rw [nv_len] at this
        exact this) ea_nil) (by omega) (fun j σ' H' => ∃ (kvs : List (Key × V)) (y3 : Option V), σ' = [some (.ref a), some (.ref p), some (.ref b), y3, none] ∧ Ex H H' ∧ H' p = some (.dK kvs) ∧ Near rs kvs ((rs.take i).flatten ++ dones r j))
        (fun H2 e2 => ⟨kvs, y3, rfl, e.trans e2, e2 p _ hk, by simpa [dones] using N⟩) ?_ ?_
      · rintro j σ' H2 hj ⟨kvs, y3, rfl, e2, hk2, N2⟩
        have hjl : j < r.length := by omega
        obtain ⟨p1, p2, p3⟩ := prev_at hjl
        have hb2 := e2 b _ hb
        have new : prev r j ∉ (rs.take i).flatten ++ dones r j := fun hm => by
          rcases List.mem_append.mp hm with z | z
          · exact hsub.2.2 _ z _ p2 rfl
          · obtain ⟨m, hm1, hm2⟩ := dones_mem.mp z
            have := prev_inj ndr (by omega) hjl hm2
            omega
        have kl := N2.1
        have kl2 : ((rs.take i).flatten ++ dones r j).length ≤ 20 := by
          rw [List.length_append]
          unfold dones
          rw [List.length_map, List.length_range]
          omega
        refine s_dputI (ev_var rfl) (ev_op (ev_var rfl) (ev_op (ev_var rfl) ev_c rv_I0) (rv_ixL (K := K) (sq_of hb2) p1)) (ev_op (ev_var rfl) (ev_var rfl) (rv_ixL (K := K) (sq_of hb2) (atI_nat (nv_get (succ_prev nd hrm hjl))))) hk2 (by omega) fun H3 e3 => ?_
        refine ⟨_, _, rfl, Ex.mut (e2.trans e3) hp1, upd_same, ?_⟩
        rw [dones_next, ← List.append_assoc]
        exact N2.put new
      · rintro σ' H2 ⟨kvs, y3, rfl, e2, hk2, N2⟩
        rw [Int.toNat_natCast] at N2
        refine ⟨kvs, _, _, rfl, e2, hk2, ?_, fun x => ?_⟩
        · rw [N2.1, hfn, List.length_append, List.length_append]
          unfold dones
          rw [List.length_map, List.length_range]
        · rw [N2.2 x, hfn]
          congr 1
          rw [List.mem_append, List.mem_append, dones_all]
    · rintro σ' H' ⟨kvs, y2, y3, rfl, e, hk, N⟩
      rw [hlen, List.take_of_length_le (Nat.le_refl _)] at N
      have kl : kvs.length = n := by rw [N.1, hfl]
      refine s_retL (xs := nv (seat rs n)) ?_ fun q H2 hq e2 h2 => k q H2 (fresh_back e hq) (e.trans e2) h2
      have el : nv (seat rs n) = given ((n : Int)).toNat (fun _ => true) (fun i => V.int (succ rs i : Nat)) := by
        rw [given_at, Int.toNat_natCast, nv_eq]
        unfold seat
        rw [List.map_map]
        rfl
      rw [el]
      refine el_lcR1 (n := (n : Int)) _ _ (ea_cons (by
        have := ev_lenK (ta := tVar 1) (σ := [some (V.ref a), some (.ref p), y2, y3, none]) (ev_var (i := 1) rfl) hk
        rw [kl] at this
        exact this) ea_nil) (by omega) (fun _ => rfl) (fun _ _ _ _ => et_yes) fun i H2 e2 hi _ => ?_
      have hx := N.2 i
      rw [if_pos (hp.mem_iff.mpr (List.mem_range.mpr (by omega)))] at hx
      exact ev_dgetI (ev_var rfl) (ev_var rfl) (e2 p _ hk) hx
end

local macro_rules | `(tactic| walk_at "call") => `(tactic| (with_reducible exact sv_whole))
local macro_rules | `(tactic| walk_at "call") => `(tactic| ((with_reducible refine' sv_ord ?c1 ?c2); (case c1 => assumption); (case c2 => assumption)))

/-! ### _law_cut: the mathematics -/
def leadAt (f : List Nat) (i : Nat) : Bool := (f.take (i + 1)).all fun y => decide (f.getD i 0 ≤ y)
theorem leadAt_iff {f : List Nat} {i : Nat} : leadAt f i = true ↔ ∀ y ∈ f.take (i + 1), f.getD i 0 ≤ y := by
  unfold leadAt
  rw [List.all_eq_true]
  simp only [decide_eq_true_eq]
def starts (f : List Nat) (n : Nat) : List Nat := (List.range n).filter (leadAt f)
def sl (f : List Nat) (lo hi : Nat) : List Nat := (f.take hi).drop lo
def slices (f : List Nat) (S : List Nat) (n : Nat) : List (List Nat) := List.zipWith (sl f) S (S.tail ++ [n])
theorem starts_next (f : List Nat) (n : Nat) : starts f (n + 1) = starts f n ++ (if leadAt f n then [n] else []) := by
  unfold starts
  rw [List.range_succ, List.filter_append]
  congr 1
  by_cases h : leadAt f n = true <;> simp [h]
theorem slices_end (f ini : List Nat) (lo : Nat) : ∃ G, ∀ n, slices f (ini ++ [lo]) n = G ++ [sl f lo n] := by
  refine ⟨List.zipWith (sl f) ini (ini ++ [lo]).tail, fun n => ?_⟩
  unfold slices
  have hl : ini.length = (ini ++ [lo]).tail.length := by simp
  rw [List.zipWith_append hl]
  rfl
theorem slices_new {f S : List Nat} (h : S ≠ []) (n m : Nat) : slices f (S ++ [n]) m = slices f S n ++ [sl f n m] := by
  unfold slices
  rw [List.tail_append_of_ne_nil h]
  have hl : S.length = (S.tail ++ [n]).length := by
    have := List.length_pos_iff.mpr h
    simp
    omega
  rw [List.zipWith_append hl]
  rfl
theorem sl_next {f : List Nat} {lo n x : Nat} (h : f[n]? = some x) (hl : lo ≤ n) : sl f lo (n + 1) = sl f lo n ++ [x] := by
  have hn := (List.getElem?_eq_some_iff.mp h).1
  unfold sl
  rw [take_next h, List.drop_append_of_le_length (by rw [List.length_take]; omega)]
theorem sl_one {f : List Nat} {n x : Nat} (h : f[n]? = some x) : sl f n (n + 1) = [x] := by
  have hn := (List.getElem?_eq_some_iff.mp h).1
  unfold sl
  rw [take_next h, List.drop_append_of_le_length (by rw [List.length_take]; omega), List.drop_of_length_le (by rw [List.length_take]; omega)]
  rfl
theorem sl_head {f : List Nat} {lo n : Nat} (h : lo < n) (hn : n ≤ f.length) : (sl f lo n).headD 0 = f.getD lo 0 := by
  unfold sl
  rw [List.drop_eq_getElem_cons (by rw [List.length_take]; omega)]
  show (f.take n)[lo]'(by rw [List.length_take]; omega) = _
  rw [List.getElem_take, List.getD_eq_getElem?_getD, List.getElem?_eq_getElem (by omega)]
  rfl
theorem cut_ok {f : List Nat} (nd : f.Nodup) : ∀ n, n < f.length → slices f (starts f (n + 1)) (n + 1) = cuts (f.take (n + 1)) ∧ ∃ ini lo, starts f (n + 1) = ini ++ [lo] ∧ lo < n + 1 ∧ ∀ y ∈ f.take (n + 1), f.getD lo 0 ≤ y
  | 0, h => by
    have hx : f[0]? = some f[0] := List.getElem?_eq_getElem h
    have g0 : f.getD 0 0 = f[0] := by rw [List.getD_eq_getElem?_getD, hx]; rfl
    have t1 : f.take (0 + 1) = [f[0]] := by rw [take_next hx]; rfl
    have l0 : leadAt f 0 = true := by
      unfold leadAt
      rw [t1, g0]
      simp
    have s1 : starts f (0 + 1) = [0] := by
      rw [starts_next, l0]
      rfl
    refine ⟨?_, [], 0, by rw [s1]; rfl, by decide, ?_⟩
    · rw [s1, cuts_next hx]
      show [sl f 0 (0 + 1)] = _
      rw [sl_one hx]
      rfl
    · rw [t1, g0]
      simp
  | n + 1, h => by
    obtain ⟨h1, ini, lo, h2, h3, h4⟩ := cut_ok nd n (by omega)
    obtain ⟨G, hG⟩ := slices_end f ini lo
    have hx : f[n + 1]? = some f[n + 1] := List.getElem?_eq_getElem h
    have gx : f.getD (n + 1) 0 = f[n + 1] := by rw [List.getD_eq_getElem?_getD, hx]; rfl
    have cn := cuts_next hx
    rw [← h1, h2, hG, cstep_end, sl_head h3 (by omega)] at cn
    have glo : f[lo]? = some (f.getD lo 0) := by
      rw [List.getD_eq_getElem?_getD, List.getElem?_eq_getElem (show lo < f.length by omega)]
      rfl
    have mlo : f.getD lo 0 ∈ f.take (n + 1 + 1) := by
      refine List.mem_of_getElem? (i := lo) ?_
      rw [List.getElem?_take_of_lt (by omega)]
      exact glo
    by_cases hl : leadAt f (n + 1) = true
    · have hle := leadAt_iff.mp hl
      have lt : f[n + 1] < f.getD lo 0 := by
        have h5 := hle _ mlo
        rw [gx] at h5
        have : f[n + 1] ≠ f.getD lo 0 := fun z => by
          rw [← z] at glo
          have := nd_ix nd hx glo
          omega
        omega
      rw [if_pos lt] at cn
      rw [starts_next, if_pos hl, h2]
      refine ⟨?_, ini ++ [lo], n + 1, rfl, by omega, hle⟩
      rw [slices_new (by simp), hG, sl_one hx, cn]
    · have nlt : ¬ f[n + 1] < f.getD lo 0 := fun z => hl (leadAt_iff.mpr fun y hy => by
        rw [take_next hx] at hy
        rw [gx]
        rcases List.mem_append.mp hy with q | q
        · have := h4 y q
          omega
        · rw [List.mem_singleton.mp q]
          exact Nat.le_refl _)
      rw [if_neg nlt] at cn
      rw [starts_next, if_neg hl, List.append_nil, h2]
      refine ⟨?_, ini, lo, rfl, by omega, fun y hy => ?_⟩
      · rw [hG, sl_next hx (by omega), cn]
      · rw [take_next hx] at hy
        rcases List.mem_append.mp hy with q | q
        · exact h4 y q
        · rw [List.mem_singleton.mp q]
          omega
theorem cut_all {f : List Nat} (nd : f.Nodup) (h : 0 < f.length) : slices f (starts f f.length) f.length = cuts f := by
  obtain ⟨n, hn⟩ : ∃ n, f.length = n + 1 := ⟨f.length - 1, by omega⟩
  have := (cut_ok nd n (by omega)).1
  rw [← hn, List.take_of_length_le (Nat.le_refl _)] at this
  exact this

local macro_rules | `(tactic| walk_at "call") => `(tactic| (with_reducible exact sv_whole))
local macro_rules | `(tactic| walk_at "call") => `(tactic| ((with_reducible refine' sv_ord ?c1 ?c2); (case c1 => assumption); (case c2 => assumption)))

/-! ### _law_cut -/
def EvLB (te : TE) (σ : L2.St) (H : Hp) (rs : List (List Nat)) : Prop := ∀ H1, Ex H H1 → ∀ Q : VK, (∀ p vs H2, H1 p = none → Ex H1 H2 → H2 p = some (.lst vs) → Paired (Lb H2) vs rs → Q (.ref p) H2) → te σ H1 Q
theorem s_retLB {te : TE} {σ : L2.St} {H : Hp} {D : Ends} {rs : List (List Nat)} (h : EvLB te σ H rs) (k : ∀ p vs H1, H p = none → Ex H H1 → H1 p = some (.lst vs) → Paired (Lb H1) vs rs → D.rt (.ref p) H1) : tRet te D σ H := h H (Ex.refl H) _ k
def Lc (Dl : Addr) (H : Hp) (v : V) (r : List Nat) : Prop := ∃ b, v = .ref b ∧ b ≠ Dl ∧ H b = some (.lst (nv r))
theorem Lc.ex {Dl : Addr} {H H' : Hp} {v : V} {r : List Nat} (e : Ex H H') (h : Lc Dl H v r) : Lc Dl H' v r := by
  obtain ⟨b, rfl, n, h⟩ := h
  exact ⟨b, rfl, n, e b _ h⟩
theorem Lc.upd {Dl : Addr} {H : Hp} {o : HO} {v : V} {r : List Nat} (h : Lc Dl H v r) : Lc Dl (upd H Dl o) v r := by
  obtain ⟨b, rfl, n, h⟩ := h
  exact ⟨b, rfl, n, by rw [upd_ne n]; exact h⟩
theorem Lc.lb {Dl : Addr} {H : Hp} {v : V} {r : List Nat} (h : Lc Dl H v r) : Lb H v r := by
  obtain ⟨b, rfl, n, h⟩ := h
  exact ⟨b, rfl, h⟩
theorem elb_zip {K : PySem.W.Frag} {σ : L2.St} {H : Hp} {te : TE} {ta : TA} {i j : Nat} {vs : List Nat} {a : Addr} {xs ys : List V} (F : V → V → List Nat) (h : ∀ H1, Ex H H1 → ∀ Q : List V → Hp → Prop, (∀ b H2, Ex H1 H2 → H2 b = some (.lst ys) → Q [.ref a, .ref b] H2) → ta σ H1 Q) (hx : SqL K H a xs) (hl : xs.length = ys.length) (hz : xs.length ≤ 40000)
    (hw : ∀ x y, wipe (((wipe σ vs).set i (some x)).set j (some y)) vs = wipe σ vs)
    (he : ∀ (n : Nat) x y H1, Ex H H1 → xs[n]? = some x → ys[n]? = some y → EvL te (((wipe σ vs).set i (some x)).set j (some y)) H1 (nv (F x y))) :
    EvLB (tLc (iZip K ta) (gTup K 2 (gCons (gName i) (gCons (gName j) gNil))) tYes te vs) σ H (List.zipWith F xs ys) := fun H0 e Q q => h H0 e _ fun b H1 e1 hb => ⟨a, b, xs, ys, rfl, ex_l (e.trans e1) hx, sq_of hb, fun Dl hD => by
  refine lc_it (walk_zip (n := xs.length) (by omega)) (fun n H' => Ex H1 H' ∧ ∃ ws, H' Dl = some (.lst ws) ∧ Paired (Lc Dl H') ws ((List.zipWith F xs ys).take n)) ⟨Ex.new hD, [], upd_same, .nil⟩ (fun n H' _ p => ⟨ex_l ((e.trans e1).trans p.1) hx, sq_of (p.1 b _ hb)⟩) ?_ fun H' p => ?_
  · rintro n v Hh H' hn ⟨p1, ws, p2, p3⟩ ⟨T, x, y, rfl, nT, rfl, g1, g2⟩
    have eT : Ex Hh (upd Hh T (.tup [x, y])) := Ex.new nT
    refine ⟨T, [x, y], rfl, st_of upd_same, rfl, x, [y], rfl, y, [], rfl, rfl, hw x y, ?_⟩
    show te _ _ _
    refine he n x y H1 (e.trans e1) g1 g2 _ (p1.trans eT) _ fun l H4 hl4 e4 h4 => ?_
    have k2 := e4 Dl _ (eT Dl _ p2)
    have lD : l ≠ Dl := fun z => by
      subst z
      have := eT l _ p2
      rw [hl4] at this
      cases this
    have wl : ws.length = n := by
      have := Paired.length p3
      rw [List.length_take, List.length_zipWith] at this
      omega
    refine ⟨_, k2, sz_lt (by omega), Ex.mut (p1.trans (eT.trans e4)) hD, _, upd_same, ?_⟩
    have gz : (List.zipWith F xs ys)[n]? = some (F x y) := by
      rw [List.getElem?_zipWith, show xs[n]? = some x from g1, show ys[n]? = some y from g2]
    rw [List.take_add_one, gz]
    exact Paired.snoc (paired_imp (fun _ _ z => ((z.ex eT).ex e4).upd) p3) ⟨l, rfl, lD, by rw [upd_ne lD]; exact h4⟩
  · obtain ⟨p1, ws, p2, p3⟩ := p
    rw [List.take_of_length_le (by rw [List.length_zipWith]; omega)] at p3
    exact q Dl ws H' (fresh_back e1 hD) (e1.trans p1) p2 (paired_imp (fun _ _ z => z.lb) p3)⟩
theorem cut_nv {f : List Nat} {lo hi : Nat} (h : hi ≤ f.length) : cutV (nv f) (some (lo : Int)) (some (hi : Int)) = nv (sl f lo hi) := by
  unfold cutV sl
  rw [HT.sIx_nat, HT.sIx_nat, nv_len, Nat.min_eq_left h, nv_eq, nv_eq, List.map_drop, List.map_take, List.drop_take]
  by_cases hl : lo ≤ f.length
  · rw [Nat.min_eq_left hl]
  · rw [Nat.min_eq_right (by omega)]
    have e1 : hi - f.length = 0 := by omega
    have e2 : hi - lo = 0 := by omega
    rw [e1, e2]
    simp
theorem cut_to {f : List Nat} {hi : Nat} (h : hi ≤ f.length) : cutV (nv f) none (some (hi : Int)) = nv (f.take hi) := by
  unfold cutV
  rw [HT.sIx_none, HT.sIx_nat, nv_len, Nat.min_eq_left h, Nat.sub_zero, List.drop_zero, nv_eq, nv_eq, List.map_take]
theorem cut_tail (xs : List V) : cutV xs (some (1 : Int)) none = xs.tail := by
  unfold cutV
  rw [HT.sIx_none, show (some (1 : Int)) = some ((1 : Nat) : Int) from rfl, HT.sIx_nat]
  cases xs with
  | nil => rfl
  | cons x l =>
    rw [Nat.min_eq_left (by simp)]
    show l.take _ = l
    exact List.take_of_length_le (by simp)
theorem ev_minIs {K : PySem.W.Frag} {σ : L2.St} {H : Hp} {ta : TE} {ns : List Int} {m : Int} (h : EvL ta σ H (ns.map V.int)) (hm : m ∈ ns) (hl : ∀ y ∈ ns, m ≤ y) : Ev (tCB (rMin K) (tCons ta tNil)) σ H (.int m) := fun H1 e Q q => h H1 e _ fun p H2 _ e2 h2 =>
  ⟨p, ns, rfl, sq_of h2, List.length_pos_of_mem hm, fun k hk hle => by
    have h1 := hl k hk
    have h2 := hle m hm
    have : k = m := by omega
    rw [this]
    exact q H2 e2⟩
theorem min_lead {f : List Nat} {i : Nat} (hi : i < f.length) : ∃ m : Int, m ∈ iz (f.take (i + 1)) ∧ (∀ y ∈ iz (f.take (i + 1)), m ≤ y) ∧ decide (V.int (f.getD i 0 : Nat) = V.int m) = leadAt f i := by
  have hx : f[i]? = some (f.getD i 0) := by
    rw [List.getD_eq_getElem?_getD, List.getElem?_eq_getElem hi]
    rfl
  have hne : (iz (f.take (i + 1))).length ≠ 0 := by
    unfold iz
    rw [List.length_map, List.length_take]
    omega
  cases hz : iz (f.take (i + 1)) with
  | nil => rw [hz] at hne; exact absurd rfl hne
  | cons z l =>
    obtain ⟨h1, h2⟩ := foldl_min_spec l z
    refine ⟨_, h1, h2, ?_⟩
    rw [← hz] at h1 h2
    rw [dec_int, Bool.eq_iff_iff, leadAt_iff, beq_iff_eq]
    constructor
    · intro e y hy
      have := h2 (y : Int) (List.mem_map.mpr ⟨y, hy, rfl⟩)
      omega
    · intro hle
      obtain ⟨y, hy, ey⟩ := List.mem_map.mp h1
      have a := hle y hy
      have b := h2 ((f.getD i 0 : Nat) : Int) (List.mem_map.mpr ⟨_, by
        rw [take_next hx]
        simp, rfl⟩)
      omega
theorem starts_lt {f : List Nat} {n x : Nat} (h : x ∈ starts f n) : x < n := List.mem_range.mp (List.mem_filter.mp h).1
def sp_law_cut : Sp := fun vs H Q _ => ∃ (a : Addr) (f : List Nat), vs = [.ref a] ∧ H a = some (.lst (nv f)) ∧ f.Nodup ∧ 0 < f.length ∧ f.length ≤ 20 ∧
  ∀ p ws H', H p = none → Ex H H' → H' p = some (.lst ws) → Paired (Lb H') ws (cuts f) → Q (.ref p) H'
section
variable {P : Program} {w : World} {K : PySem.W.Frag} {mg : Str → Option Value} {base : Heap}
theorem ok_law_cut (T : Tx K mg) : FnOk P w K mg base CX0 1 T.f_law_cut T.d_law_cut ["row"] sp_law_cut := by
  refine T.F_law_cut.ok sc_law_cut (fun vs H Q E h => ?_) (fun cdv A outer s H vs Q E hr h => ?_)
  · obtain ⟨a, f, rfl, _⟩ := h
    rfl
  · obtain ⟨a, f, rfl, ha, nd, h0, hn, k⟩ := h
    refine ⟨_, (pss_cons (ps_setLc (i := 2) (own := [("k", 1)]) (g := (gName 1)) rfl sc_law_cut.nd rfl rfl (sw_true rfl rfl rfl (by decide +kernel)) (pi_range1 (by rfl) T.m_range (pa_cons (pe_callB (id := "len") (r := rLenS K) call_lenR (by rfl) T.m_len (by decide +kernel) (pa_cons (pv 0) pa_nil)) pa_nil)) (blkOk_by (own := [("k", 1)]) (N := n_law_cut) (sc := defScope s_law_cut) (by decide +kernel)) (fun _ _ _ _ _ => (pg_name (i := 1) sc_law_cut.nd rfl (Or.inl rfl))) (fun _ _ _ _ _ => (pts_one (pt_cmpR op_eq (pe_ix (r := rIxL K) ix_list (pv 0) (pv 1) (fun _ _ => rfl)) (pe_callB (id := "min") (r := rMin K) (cr_min rfl) (by rfl) T.m_min (by decide +kernel) (pa_cons (pe_slice (r := rSlL K) sl_list (pv 0) po_none (po_some (pe_op op_add (pv 1) pe_int))) pa_nil)) (nomark _)))) (fun _ _ _ _ _ => (pv 1)))
      (pss_one (ps_ret (pe_lc (own := [("low", 3), ("high", 4)]) (g := (gTup _ 2 (gCons (gName 3) (gCons (gName 4) gNil)))) (tt := tYes) rfl sc_law_cut.nd (pi_zip (by rfl) T.m_zip (pa_cons (pv 2) (pa_cons (pe_op op_cat (pe_slice (r := rSlL K) sl_list (pv 2) (po_some pe_int) po_none) (pe_lst (pa_cons (pe_callB (id := "len") (r := rLenS K) call_lenR (by rfl) T.m_len (by decide +kernel) (pa_cons (pv 0) pa_nil)) pa_nil))) pa_nil))) (blkOk_by (own := [("low", 3), ("high", 4)]) (N := n_law_cut) (sc := defScope s_law_cut) (by decide +kernel)) (fun _ _ _ _ _ => (pg_tup rfl (pgs_cons (pg_name (i := 3) sc_law_cut.nd rfl (Or.inl rfl)) (pgs_cons (pg_name (i := 4) sc_law_cut.nd rfl (Or.inl rfl)) pgs_nil)))) (fun _ _ _ _ _ => pts_nil) (fun _ _ _ _ _ => (pe_slice (r := rSlL K) sl_list (pv 0) (po_some (pv 3)) (po_some (pv 4)))))))), ?_⟩
    have lenH : ∀ (σ : L2.St) (H1 : Hp), Ex H H1 → σ[0]? = some (some (.ref a)) → Ev (tCB (rLenS K) (tCons (tVar 0) tNil)) σ H1 (.int (f.length : Int)) := fun σ H1 e hσ => by
      have := ev_len (K := K) (ta := tVar 0) (σ := σ) (ev_var hσ) (sq_of (e a _ ha))
      rw [nv_len] at this
      exact this
    have sv : nv (starts f f.length) = given ((f.length : Int)).toNat (leadAt f) (fun i => V.int (i : Nat)) := by
      rw [Int.toNat_natCast, nv_eq]
      rfl
    refine q_asgL (xs := nv (starts f f.length)) ?_ fun p H1 hp e1 h1 => ?_
    · rw [sv]
      refine el_lcR1 (n := (f.length : Int)) _ _ (ea_cons (lenH _ _ (Ex.refl _) rfl) ea_nil) (by omega) (fun _ => rfl) (fun i H1 e1 hi => ?_) (fun i H1 e1 hi _ => ev_var rfl)
      have hil : i < f.length := by omega
      obtain ⟨m, hm1, hm2, hm3⟩ := min_lead hil
      have hx : f[i]? = some (f.getD i 0) := by
        rw [List.getD_eq_getElem?_getD, List.getElem?_eq_getElem hil]
        rfl
      refine et_is (et_test (ev_op (ev_op (ev_var rfl) (ev_var rfl) (rv_ixL (K := K) (sq_of (e1 a _ ha)) (atI_nat (nv_get hx)))) (ev_minIs ?_ hm1 hm2) (rv_eq rfl))) hm3
      have g := el_sl (K := K) (te := tVar 0) (σ := [some (.ref a), some (.int (i : Int)), none, none, none]) (H := H1) (lo := none) (hi := some ((i : Int) + 1)) (tl := tNoPart) (th := tPart (tOp (rI0 fun i j => .int (i + j)) (tVar 1) (tC (.int 1)))) (ev_var rfl) eo_none (eo_some (ev_op (ev_var rfl) ev_c rv_I0)) (sq_of (e1 a _ ha))
      rw [show (i : Int) + 1 = ((i + 1 : Nat) : Int) by omega, cut_to (by omega)] at g
      exact g
    · have eH : Ex H H1 := e1
      have fz : List.zipWith (sl f) (starts f f.length) ((starts f f.length).tail ++ [f.length]) = cuts f := cut_all nd h0
      have zl : (starts f f.length).length ≤ f.length := by
        unfold starts
        exact Nat.le_trans (List.length_filter_le _ _) (by simp)
      have s0 : 0 < (starts f f.length).length := by
        cases hs : starts f f.length with
        | nil =>
          rw [hs] at fz
          have := cuts_flat f
          rw [← fz] at this
          have : f = [] := this.symm
          rw [this] at h0
          simp at h0
        | cons x l => simp
      have hzl : (nv (starts f f.length)).length = (nv ((starts f f.length).tail ++ [f.length])).length := by
        rw [nv_len, nv_len, List.length_append, List.length_tail, List.length_singleton]
        omega
      refine s_retLB (rs := cuts f) ?_ fun l ws H2 hl e2 h2 hw => k l ws H2 (fresh_back e1 hl) (e1.trans e2) h2 hw
      have big : cuts f = List.zipWith (fun x y => match x, y with | .int x, .int y => sl f x.toNat y.toNat | _, _ => []) (nv (starts f f.length)) (nv ((starts f f.length).tail ++ [f.length])) := by
        rw [← fz, nv_eq, nv_eq, List.zipWith_map]
        rfl
      rw [big]
      refine elb_zip (K := K) (a := p) (xs := nv (starts f f.length)) (ys := nv ((starts f f.length).tail ++ [f.length])) _ (fun H2 e2 Q' q' => ?_) (sq_of h1) hzl (by rw [nv_len]; omega) (fun _ _ => rfl) (fun n x y H2 e2 hx hy => ?_)
      · have h12 := e2 p _ h1
        have g1 := el_sl (K := K) (te := tVar 2) (σ := [some (.ref a), none, some (.ref p), none, none]) (H := H2) (lo := some 1) (hi := none) (tl := tPart (tC (.int 1))) (th := tNoPart) (ev_var rfl) (eo_some ev_c) eo_none (sq_of h12)
        rw [cut_tail] at g1
        have g2 : EvL (tLst (tCons (tCB (rLenS K) (tCons (tVar 0) tNil)) tNil)) [some (.ref a), none, some (.ref p), none, none] H2 (nv [f.length]) := el_lst (ea_cons (lenH _ _ (eH.trans e2) rfl) ea_nil) (Nat.le_of_ble_eq_true rfl)
        have g := el_cat g1 g2 (by rw [List.length_tail, nv_len, nv_len]; simp; omega)
        have et : (nv (starts f f.length)).tail ++ nv [f.length] = nv ((starts f f.length).tail ++ [f.length]) := by
          rw [nv_app]
          congr 1
          rw [nv_eq, nv_eq, List.map_tail]
        rw [et] at g
        exact (ev_var (i := 2) (v := .ref p) rfl : Ev (tVar 2) [some (.ref a), none, some (.ref p), none, none] H2 (.ref p)) H2 (Ex.refl _) _ fun H3 e3 => g H3 e3 _ fun b H4 _ e4 h4 => q' b H4 (e3.trans e4) h4
      · obtain ⟨lo, hlo, rfl⟩ : ∃ lo : Nat, (starts f f.length)[n]? = some lo ∧ x = .int lo := by
          rw [nv_eq, List.getElem?_map] at hx
          obtain ⟨lo, h1, h2⟩ := Option.map_eq_some_iff.mp hx
          exact ⟨lo, h1, h2.symm⟩
        obtain ⟨hi, hhi, rfl⟩ : ∃ hi : Nat, ((starts f f.length).tail ++ [f.length])[n]? = some hi ∧ y = .int hi := by
          rw [nv_eq, List.getElem?_map] at hy
          obtain ⟨hi, h1, h2⟩ := Option.map_eq_some_iff.mp hy
          exact ⟨hi, h1, h2.symm⟩
        have hle : hi ≤ f.length := by
          rcases List.mem_append.mp (List.mem_of_getElem? hhi) with z | z
          · exact Nat.le_of_lt (starts_lt (List.mem_of_mem_tail z))
          · rw [List.mem_singleton.mp z]
            exact Nat.le_refl _
        show EvL _ _ _ (nv (sl f ((lo : Int)).toNat ((hi : Int)).toNat))
        rw [Int.toNat_natCast, Int.toNat_natCast, ← cut_nv hle]
        exact el_sl (K := K) (ev_var rfl) (eo_some (ev_var rfl)) (eo_some (ev_var rfl)) (sq_of ((eH.trans e2) a _ ha))
end

/-! ### records: the mathematics -/
structure Falls (rs : List (List Nat)) : Prop where
  ne : ∀ r ∈ rs, 0 < r.length
  low : ∀ r ∈ rs, ∀ x ∈ r, r.headD 0 ≤ x
  desc : (rs.map (·.headD 0)).Pairwise (· > ·)
theorem head_app {r : List Nat} (h : 0 < r.length) (x : Nat) : (r ++ [x]).headD 0 = r.headD 0 := by
  cases r with
  | nil => simp at h
  | cons c l => rfl
theorem Falls.step {ts : List (List Nat)} (F : Falls ts) (g : Nat) : Falls (cstep ts g) := by
  rcases list_end ts with e | ⟨ini, r, e⟩
  · subst e
    rw [cstep_nil]
    exact ⟨by simp, by simp, by simp⟩
  · subst e
    rw [cstep_end]
    have hr := F.ne r (by simp)
    by_cases q : g < r.headD 0
    · rw [if_pos q]
      refine ⟨cstep_ne g F.ne |> fun h => by rw [cstep_end, if_pos q] at h; exact h, fun s hs => ?_, ?_⟩
      · rcases List.mem_append.mp hs with z | z
        · exact F.low s z
        · rw [List.mem_singleton.mp z]; simp
      · rw [List.map_append, List.pairwise_append]
        refine ⟨F.desc, by simp, fun a ha b hb => ?_⟩
        simp only [List.map_cons, List.map_nil, List.mem_singleton] at hb
        have hb' : b = g := hb
        have hd := F.desc
        rw [List.map_append, List.pairwise_append] at hd
        rw [List.map_append] at ha
        rcases List.mem_append.mp ha with z | z
        · have := hd.2.2 a z (r.headD 0) (by simp)
          omega
        · have : a = r.headD 0 := by simpa using z
          omega
    · rw [if_neg q]
      refine ⟨cstep_ne g F.ne |> fun h => by rw [cstep_end, if_neg q] at h; exact h, fun s hs x hx => ?_, ?_⟩
      · rcases List.mem_append.mp hs with z | z
        · exact F.low s (by simp [z]) x hx
        · rw [List.mem_singleton.mp z] at hx ⊢
          rw [head_app hr]
          rcases List.mem_append.mp hx with y | y
          · exact F.low r (by simp) x y
          · rw [List.mem_singleton.mp y]
            omega
      · have hd := F.desc
        rw [List.map_append] at hd ⊢
        have : [r ++ [g]].map (·.headD 0) = [r].map (·.headD 0) := by
          simp only [List.map_cons, List.map_nil]
          rw [head_app hr]
        rw [this]
        exact hd
theorem falls_fold (f : List Nat) : ∀ ts, Falls ts → Falls (f.foldl cstep ts) := by
  induction f with
  | nil => exact fun ts h => h
  | cons x l ih => exact fun ts h => ih _ (h.step x)
theorem cuts_falls (f : List Nat) : Falls (cuts f) := falls_fold f [] ⟨by simp, by simp, by simp⟩
/-- the items of a table behind its first one stay at it -/
theorem fold_rest (ts : List (List Nat)) : ∀ (l r : List Nat), 0 < r.length → (∀ x ∈ l, r.headD 0 ≤ x) → l.foldl cstep (ts ++ [r]) = ts ++ [r ++ l]
  | [], r, _, _ => by simp
  | x :: l, r, hr, h => by
    rw [List.foldl_cons, cstep_end, if_neg (by have := h x (by simp); omega), fold_rest ts l (r ++ [x]) (by simp) (fun y hy => by
      rw [head_app hr]
      exact h y (by simp [hy]))]
    simp
theorem fold_ring {ts : List (List Nat)} {r : List Nat} (hr : 0 < r.length) (lo : ∀ x ∈ r, r.headD 0 ≤ x) (hd : ∀ s, ts.getLast? = some s → r.headD 0 < s.headD 0) : r.foldl cstep ts = ts ++ [r] := by
  cases r with
  | nil => simp at hr
  | cons c l =>
    have e : cstep ts c = ts ++ [[c]] := by
      rcases list_end ts with e | ⟨ini, s, e⟩
      · subst e
        rfl
      · subst e
        have lt : c < s.headD 0 := hd s (by simp)
        rw [cstep_end, if_pos lt]
    rw [List.foldl_cons, e, fold_rest ts l [c] (by simp) (fun x hx => lo x (by simp [hx]))]
    rfl
theorem cuts_flatten_go : ∀ (rs ts : List (List Nat)), Falls (ts ++ rs) → rs.flatten.foldl cstep ts = ts ++ rs
  | [], ts, _ => by simp
  | r :: rs, ts, F => by
    rw [List.flatten_cons, List.foldl_append, fold_ring (F.ne r (by simp)) (F.low r (by simp)) fun s hs => ?_, cuts_flatten_go rs (ts ++ [r]) (by simpa using F)]
    · simp
    · rcases list_end ts with e | ⟨ini, s', e⟩
      · subst e
        simp at hs
      · subst e
        have : s' = s := by simpa using hs
        subst this
        have hd := F.desc
        rw [List.map_append, List.pairwise_append] at hd
        exact hd.2.2 (s'.headD 0) (by simp) (r.headD 0) (by simp)
theorem cuts_flatten {rs : List (List Nat)} (F : Falls rs) : cuts rs.flatten = rs := cuts_flatten_go rs [] F
theorem Rings.falls {h : List Nat} {rs : List (List Nat)} (R : Rings h rs) : Falls rs.reverse :=
  ⟨fun r hr => (R.rg r (List.mem_reverse.mp hr)).ne, fun r hr => R.low r (List.mem_reverse.mp hr), by
    rw [List.map_reverse, List.pairwise_reverse]
    exact R.asc⟩
/-- the tables of a record, ascending -/
theorem Falls.rings {f : List Nat} {m : Nat} (hp : f.Perm (List.range m)) : Rings (seat (cuts f) m) (cuts f).reverse := by
  have F := cuts_falls f
  have hp' : (cuts f).flatten.Perm (List.range m) := by rw [cuts_flat]; exact hp
  refine ⟨fun r hr => seat_rg hp' (List.mem_reverse.mp hr) (F.ne r (List.mem_reverse.mp hr)), fun r hr => F.low r (List.mem_reverse.mp hr), ?_, ?_⟩
  · rw [List.map_reverse, List.pairwise_reverse]
    exact F.desc
  · rw [seat_len]
    exact (List.Perm.flatten (List.reverse_perm _)).trans hp'
/-! other names -/
def named (f : List Nat) (r : List Nat) : List Nat := r.map fun x => f.getD x 0
theorem perm_inj {f : List Nat} {m : Nat} (hf : f.Perm (List.range m)) {x y : Nat} (hx : x < m) (hy : y < m) (e : f.getD x 0 = f.getD y 0) : x = y := by
  have hl : f.length = m := by simpa using hf.length_eq
  have nd : f.Nodup := hf.nodup_iff.mpr List.nodup_range
  have h1 : f[x]? = some (f.getD x 0) := by
    rw [List.getD_eq_getElem?_getD, List.getElem?_eq_getElem (by omega)]
    rfl
  have h2 : f[y]? = some (f.getD y 0) := by
    rw [List.getD_eq_getElem?_getD, List.getElem?_eq_getElem (by omega)]
    rfl
  rw [← e] at h2
  exact nd_ix nd h1 h2
theorem named_perm {f : List Nat} {m : Nat} (hf : f.Perm (List.range m)) {rs : List (List Nat)} (hp : rs.flatten.Perm (List.range m)) : (rs.map (named f)).flatten.Perm (List.range m) := by
  have e : (rs.map (named f)).flatten = rs.flatten.map fun x => f.getD x 0 := by
    rw [List.map_flatten]
    rfl
  rw [e]
  have e2 : (List.range m).map (fun x => f.getD x 0) = f := by
    have hl : f.length = m := by simpa using hf.length_eq
    rw [← hl]
    exact (range_get f 0).symm
  refine (hp.map _).trans ?_
  rw [e2]
  exact hf
theorem renamed_ok {f h : List Nat} {m : Nat} (hf : f.Perm (List.range m)) {rs : List (List Nat)} (R : Rings h rs) (hm : h.length = m) : ∀ (g x : Nat), h[g]? = some x → ∃ y z, f[g]? = some y ∧ f[x]? = some z ∧ (seat (rs.map (named f)) m)[y]? = some z := by
  intro g x hg
  have hl : f.length = m := by simpa using hf.length_eq
  have hgl := (List.getElem?_eq_some_iff.mp hg).1
  have hmem : g ∈ rs.flatten := R.all.mem_iff.mpr (List.mem_range.mpr hgl)
  obtain ⟨r, hr, hgr⟩ := List.mem_flatten.mp hmem
  obtain ⟨i, hi⟩ := List.mem_iff_getElem?.mp hgr
  have hil := (List.getElem?_eq_some_iff.mp hi).1
  obtain ⟨a, b, h1, h2, h3⟩ := (R.rg r hr).st i hil
  rw [hi] at h1
  have ea : g = a := Option.some.inj h1
  subst ea
  rw [hg] at h3
  have eb : x = b := Option.some.inj h3
  subst eb
  have hxm : x < m := by
    rw [← hm]
    exact List.mem_range.mp (R.all.mem_iff.mp (List.mem_flatten.mpr ⟨r, hr, List.mem_of_getElem? h2⟩))
  have at_ : ∀ z, z < m → f[z]? = some (f.getD z 0) := fun z hz => by
    rw [List.getD_eq_getElem?_getD, List.getElem?_eq_getElem (by omega)]
    rfl
  refine ⟨f.getD g 0, f.getD x 0, at_ g (by omega), at_ x hxm, ?_⟩
  have hp : rs.flatten.Perm (List.range m) := by rw [← hm]; exact R.all
  have rg := seat_rg (named_perm hf hp) (List.mem_map.mpr ⟨r, hr, rfl⟩) (by unfold named; rw [List.length_map]; exact (R.rg r hr).ne)
  have ln : (named f r).length = r.length := by unfold named; rw [List.length_map]
  obtain ⟨a, b, k1, k2, k3⟩ := rg.st i (by rw [ln]; exact hil)
  rw [ln] at k2
  unfold named at k1 k2
  rw [List.getElem?_map, hi] at k1
  rw [List.getElem?_map, h2] at k2
  have ea : f.getD g 0 = a := Option.some.inj k1
  have eb : f.getD x 0 = b := Option.some.inj k2
  rw [ea, eb]
  exact k3
theorem renamed_id {h : List Nat} (o : Ord h) : ∀ (g x : Nat), h[g]? = some x → ∃ y z, (List.range h.length)[g]? = some y ∧ (List.range h.length)[x]? = some z ∧ h[y]? = some z := fun g x hg =>
  ⟨g, x, List.getElem?_range (List.getElem?_eq_some_iff.mp hg).1, List.getElem?_range (List.mem_range.mp (o.1.mem_iff.mp (List.mem_of_getElem? hg))), hg⟩

local macro_rules | `(tactic| walk_at "call") => `(tactic| (with_reducible exact sv_whole))
local macro_rules | `(tactic| walk_at "call") => `(tactic| ((with_reducible refine' sv_ord ?c1 ?c2); (case c1 => assumption); (case c2 => assumption)))

/-! ### _law_right: rules -/
theorem LL.lb {H0 H : Hp} {p : Addr} {bs : List Addr} {rs : List (List Nat)} (L : LL H0 p H bs rs) : Paired (Lb H) (bs.map V.ref) rs := by
  have : ∀ (bs : List Addr) (rs : List (List Nat)), bs.length = rs.length → (∀ (i : Nat) (b : Addr) (r : List Nat), bs[i]? = some b → rs[i]? = some r → H b = some (.lst (nv r))) → Paired (Lb H) (bs.map V.ref) rs := fun bs => by
    induction bs with
    | nil =>
      intro rs hl _
      cases rs with
      | nil => exact .nil
      | cons r l => simp at hl
    | cons b bs ih =>
      intro rs hl ha
      cases rs with
      | nil => simp at hl
      | cons r l => exact .cons ⟨b, rfl, ha 0 b r rfl rfl⟩ (ih l (by simpa using hl) fun i c s h1 h2 => ha (i + 1) c s (by simpa using h1) (by simpa using h2))
  exact this bs rs L.len L.at_
theorem LL.weak {H0 H1 H : Hp} {p : Addr} {bs : List Addr} {rs : List (List Nat)} (L : LL H1 p H bs rs) (e : Ex H0 H1) : LL H0 p H bs rs := ⟨L.self, L.nd, L.np, fresh_back e L.fp, fun b hb => fresh_back e (L.fr b hb), L.len, L.at_⟩
def di (r : List Nat) : PyData := .list ((iz r).map PyData.int)
def dt (r : List Nat) : PyData := .tuple ((iz r).map PyData.int)
theorem canLay_ints : ∀ ms : List Int, PyData.canLayAll0 (ms.map PyData.int) = true
  | [] => rfl
  | m :: r => by simp [PyData.canLayAll0, PyData.canLay0, canLay_ints r]
theorem depth_ints : ∀ ms : List Int, PyData.depthAll (ms.map PyData.int) = 0
  | [] => rfl
  | m :: r => by simp [PyData.depthAll, PyData.depth, depth_ints r]
theorem canLay_dts : ∀ rs : List (List Nat), PyData.canLayAll0 (rs.map dt) = true
  | [] => rfl
  | m :: r => by simp [PyData.canLayAll0, PyData.canLay0, dt, canLay_ints, canLay_dts r]
theorem depth_dts : ∀ rs : List (List Nat), PyData.depthAll (rs.map dt) ≤ 1
  | [] => by simp [PyData.depthAll]
  | m :: r => by
    have := depth_dts r
    simp [PyData.depthAll, PyData.depth, dt, depth_ints]
    omega
theorem shaped_two (r s : List Nat) : SeqAt.shaped (.list [di r, di s]) = true := by
  simp [SeqAt.shaped, PyData.canLay0, PyData.canLayAll0, di, canLay_ints, PyData.depth, PyData.depthAll, depth_ints]
theorem shaped_kept (r : List Nat) (rs : List (List Nat)) : SeqAt.shaped (.list [di r, .list (rs.map dt)]) = true := by
  have := depth_dts rs
  simp [SeqAt.shaped, PyData.canLay0, PyData.canLayAll0, di, canLay_ints, canLay_dts, PyData.depth, PyData.depthAll, depth_ints]
  omega
theorem shaped_di (r : List Nat) : SeqAt.shaped (di r) = true := shaped_ints _
section
variable {K : PySem.W.Frag} {σ : L2.St} {H H' : Hp} {ta tb te : TE} {D : Ends} {tz : TS}
theorem dpa_nv (r : List Nat) : DpAll K H (nv r) ((iz r).map PyData.int) := dpa_ints _
theorem dpa_TL : ∀ {ws : List V} {rs : List (List Nat)}, TL H ws (rs.map nv) → DpAll K H ws (rs.map dt)
  | [], [], _ => .nil
  | _ :: _, r :: _, .cons ⟨b, e, h⟩ t => by
    subst e
    exact .cons (.tup (st_of h) (dpa_nv r)) (dpa_TL t)
theorem dp_L {a : Addr} {r : List Nat} (h : H a = some (.lst (nv r))) : Dp K H (.ref a) (di r) := .lst (sq_of h) (dpa_nv r)
theorem ed_L {r : List Nat} (h : EvL te σ H (nv r)) : EvD K te σ H (di r) := ed_ofL h (dpa_nv r)
theorem ed_two {r s : List Nat} (h : EvD K ta σ H (di r)) (h2 : EvD K tb σ H (di s)) : EvD K (tLst (tCons ta (tCons tb tNil))) σ H (.list [di r, di s]) := ed_lst (eda_cons h (eda_cons h2 eda_nil)) (Nat.le_of_ble_eq_true rfl)
theorem el_callK {sp : Sp} {gV : List V → List V → List V} {E : XK} {t tk : TA} {vs zs xs : List V} (h : EvA t σ H vs) (hk : EvA tk σ H zs) (hs : SpL sp (gV vs zs) H xs) : EvL (tCallK sp gV E t tk) σ H xs := fun H1 e Q q =>
  h H1 e _ fun H2 e2 => hk H2 (e.trans e2) _ fun H3 e3 => hs H3 ((e.trans e2).trans e3) Q (fun l H4 hl e4 h4 => q l H4 (fresh_back (e2.trans e3) hl) ((e2.trans e3).trans e4) h4) E
theorem el_catV {a b : Addr} {xs ys : List V} (h : Ev ta σ H (.ref a)) (h2 : Ev tb σ H (.ref b)) (ha : H a = some (.lst xs)) (hb : H b = some (.lst ys)) (hl : xs.length + ys.length ≤ 100000) : EvL (tOp rCat ta tb) σ H (xs ++ ys) := fun H1 e Q q =>
  h H1 e _ fun H2 e2 => h2 H2 (e.trans e2) _ fun H3 e3 => ⟨a, b, xs, ys, rfl, rfl, e3 a _ (e2 a _ (e a _ ha)), e3 b _ (e2 b _ (e b _ hb)), sz_of hl, fun l hl => q l _ (fresh_back (e2.trans e3) hl) ((e2.trans e3).trans (Ex.new hl)) upd_same⟩
theorem q_parLLT {i j : Nat} {xs : List V} {rs : List (List V)} (h : EvL ta σ H xs) (h2 : EvLT tb σ H rs) (k : ∀ p q ws H1, H p = none → H q = none → Ex H H1 → H1 p = some (.lst xs) → H1 q = some (.lst ws) → TL H1 ws rs → tz D ((σ.set i (some (.ref p))).set j (some (.ref q))) H1) :
    tSeq (tPar i j (tCons ta (tCons tb tNil))) tz D σ H := h H (Ex.refl H) _ fun p H1 hp e1 h1 => h2 H1 e1 _ fun q ws H2 hq e2 h3 ht => ⟨_, _, rfl, k p q ws H2 hp (fresh_back e1 hq) (e1.trans e2) (e2 p _ h1) h3 ht⟩
theorem q_parDL {i j : Nat} {d : PyData} {ys : List V} (h : EvD K ta σ H d) (h2 : EvL tb σ H ys) (k : ∀ v q H1, H q = none → Ex H H1 → Dp K H1 v d → H1 q = some (.lst ys) → tz D ((σ.set i (some v)).set j (some (.ref q))) H1) :
    tSeq (tPar i j (tCons ta (tCons tb tNil))) tz D σ H := h H (Ex.refl H) _ fun v H1 e1 h1 => h2 H1 e1 _ fun q H2 hq e2 h3 => ⟨_, _, rfl, k v q H2 (fresh_back e1 hq) (e1.trans e2) (Dp.ex e2 d v h1) h3⟩
theorem q_rings {i n m : Nat} {p : Addr} {E E' : XK} {t : TA} (h : EvA t σ H [.ref p, .int (m : Int)]) (hp : Po p n H) (hn : n + 3 * m + 1 < 1000000000) (hm : m ≤ 20)
    (k : ∀ l bs rs H1, RI m rs → LL (Hm p H) l H1 bs rs → l ≠ p → (∀ b ∈ bs, b ≠ p) → Po p (n + 3 * m + 1) H1 → Ex (Hm p H) H1 → tz D (σ.set i (some (.ref l))) H1) : tSeq (tAsg (tCall sp_law_rings [] E (tCons (tCall sp_law_entries [] E' t) tNil)) (gName i)) tz D σ H :=
  h H (Ex.refl H) _ fun H1 e1 => ⟨p, n, m, rfl, hp.ex e1, hn, hm, fun l f H2 hl h2 hlen hx p2 e2 => ⟨l, f, rfl, h2, by omega, hx, fun q bs H3 L e3 => by
    have R := ringsTo_ok hx f.length (Nat.le_refl _)
    have e12 := hm_trans (hm_of e1) e2
    refine k q bs _ H3 (hlen ▸ R) (L.weak e12) (p2.ne L.fp) (fun b hb => p2.ne (L.fr b hb)) (p2.ex e3) (hm_trans e12 (hm_of e3))⟩⟩
theorem q_mixed {i n m : Nat} {p : Addr} {E : XK} {t : TA} (h : EvA t σ H [.ref p, .int (m : Int)]) (hp : Po p n H) (hn : n + m < 1000000000) (hm : m ≤ 20)
    (k : ∀ l f H1, Hm p H l = none → l ≠ p → H1 l = some (.lst (nv f)) → f.Perm (List.range m) → Po p (n + m) H1 → Ex (Hm p H) H1 → tz D (σ.set i (some (.ref l))) H1) : tSeq (tAsg (tCall sp_law_mixed [] E t) (gName i)) tz D σ H :=
  h H (Ex.refl H) _ fun H1 e1 => ⟨p, n, m, rfl, hp.ex e1, hn, hm, fun l f H2 hl h2 hf p2 e2 => k l f H2 (by
    unfold Hm
    split
    · rfl
    · exact fresh_back e1 hl) ((hp.ex e1).ne hl) h2 hf p2 (hm_trans (hm_of e1) e2)⟩
/-- a call whose argument is a new list of new lists -/
theorem el_call1LB {sp : Sp} {dvs ys : List V} {rs : List (List Nat)} {E : XK} (h : EvLB te σ H rs) (hs : ∀ p ws H1, Ex H H1 → H1 p = some (.lst ws) → Paired (Lb H1) ws rs → SpL sp ([.ref p] ++ dvs) H1 ys) : EvL (tCall sp dvs E (tCons te tNil)) σ H ys := fun H1 e Q q =>
  h H1 e _ fun p ws H2 _ e2 h2 hw => hs p ws H2 (e.trans e2) h2 hw H2 (Ex.refl _) Q (fun l H3 hl e3 h3 => q l H3 (fresh_back e2 hl) (e2.trans e3) h3) E
theorem elb_cut {a : Addr} {f : List Nat} {E : XK} (h : Ev ta σ H (.ref a)) (ha : H a = some (.lst (nv f))) (nd : f.Nodup) (h0 : 0 < f.length) (hl : f.length ≤ 20) : EvLB (tCall sp_law_cut [] E (tCons ta tNil)) σ H (cuts f) := fun H1 e Q q =>
  h H1 e _ fun H2 e2 => ⟨a, f, rfl, e2 a _ (e a _ ha), nd, h0, hl, fun p ws H3 hp e3 h3 hw => q p ws H3 (fresh_back e2 hp) (e2.trans e3) h3 hw⟩
/-- [[..] for r in rs], rs an old list of lists -/
theorem elb_map {a : Addr} {ws : List V} {rs : List (List Nat)} {j : Nat} {vs : List Nat} (F : List Nat → List Nat) (h : Ev ta σ H (.ref a)) (ha : H a = some (.lst ws)) (hr : Paired (Lb H) ws rs) (hz : ws.length ≤ 40000) (hw : ∀ x, wipe ((wipe σ vs).set j (some x)) vs = wipe σ vs)
    (he : ∀ (b : Addr) (r : List Nat) H1, Ex H H1 → r ∈ rs → H1 b = some (.lst (nv r)) → EvL te ((wipe σ vs).set j (some (.ref b))) H1 (nv (F r))) : EvLB (tLc (iList K ta) (gName j) tYes te vs) σ H (rs.map F) := fun H0 e Q q => h H0 e _ fun H1 e1 => ⟨a, rfl, ⟨ws, sq_of (e1 a _ (e a _ ha))⟩, fun Dl hD =>
  lc_list (xs := ws) (fun i H' => Ex H1 H' ∧ ∃ us, H' Dl = some (.lst us) ∧ Paired (Lc Dl H') us ((rs.map F).take i)) ⟨Ex.new hD, [], upd_same, .nil⟩ (fun i H' _ p => sq_of (p.1 a _ (e1 a _ (e a _ ha)))) (fun i x H' hi p => by
    obtain ⟨p1, us, p2, p3⟩ := p
    obtain ⟨r, hr1, b, rfl, hb⟩ := paired_get hr hi
    have hl := Paired.length hr
    have hil := (List.getElem?_eq_some_iff.mp hi).1
    have ul : us.length = i := by
      have := Paired.length p3
      rw [List.length_take, List.length_map] at this
      omega
    show wipe ((wipe σ vs).set j (some (.ref b))) vs = wipe σ vs ∧ te ((wipe σ vs).set j (some (.ref b))) H' fun y H4 => ∃ acc, H4 Dl = some (.lst acc) ∧ acc.length < sizeLine ∧ _
    refine ⟨hw _, he b r H1 (e.trans e1) (List.mem_of_getElem? hr1) (e1 b _ (e b _ hb)) H' p1 _ fun l H4 hl4 e4 h4 => ?_⟩
    have lD : l ≠ Dl := fun z => by
      subst z
      rw [hl4] at p2
      cases p2
    refine ⟨us, e4 Dl _ p2, sz_lt (by omega), Ex.mut (p1.trans e4) hD, _, upd_same, ?_⟩
    have gz : (rs.map F)[i]? = some (F r) := by rw [List.getElem?_map, hr1]; rfl
    rw [List.take_add_one, gz]
    exact Paired.snoc (paired_imp (fun _ _ z => (z.ex e4).upd) p3) ⟨l, rfl, lD, by rw [upd_ne lD]; exact h4⟩) (fun H' p => by
      obtain ⟨p1, us, p2, p3⟩ := p
      rw [List.take_of_length_le (by rw [List.length_map]; have := Paired.length hr; omega)] at p3
      exact q Dl us H' (fresh_back e1 hD) (e1.trans p1) p2 (paired_imp (fun _ _ z => z.lb) p3))⟩
end

local macro_rules | `(tactic| walk_at "call") => `(tactic| (with_reducible exact sv_whole))
local macro_rules | `(tactic| walk_at "call") => `(tactic| ((with_reducible refine' sv_ord ?c1 ?c2); (case c1 => assumption); (case c2 => assumption)))

/-! ### _law_right -/
theorem LL.hm {S H H' : Hp} {p l : Addr} {bs : List Addr} {rs : List (List Nat)} (L : LL S l H bs rs) (lp : l ≠ p) (bp : ∀ b ∈ bs, b ≠ p) (s : Ex (Hm p H) H') : LL S l H' bs rs :=
  ⟨hm_at s lp L.self, L.nd, L.np, L.fp, L.fr, L.len, fun i b r h1 h2 => hm_at s (bp b (List.mem_of_getElem? h1)) (L.at_ i b r h1 h2)⟩
theorem TL.hm {H H' : Hp} {p : Addr} {n : Nat} {ws : List V} {rs : List (List V)} (t : TL H ws rs) (hp : Po p n H) (s : Ex (Hm p H) H') : TL H' ws rs := t.imp fun a r x => hm_at s (fun z => by
  obtain ⟨_, _, _, h1, _⟩ := hp
  rw [← z, x] at h1
  cases h1) x
theorem paired_rev {α β : Type} {F : α → β → Prop} : ∀ {l : List α} {m : List β}, Paired F l m → Paired F l.reverse m.reverse
  | _, _, .nil => .nil
  | _, _, .cons h t => by
    rw [List.reverse_cons, List.reverse_cons]
    exact Paired.snoc (paired_rev t) h
section
variable {K : PySem.W.Frag} {σ : L2.St} {H H' : Hp} {ta tb tc te : TE} {D : Ends} {tz : TS}
theorem q_parTwo {i j : Nat} {xs1 xs2 ys : List V} (h1 : EvL ta σ H xs1) (h2 : EvL tb σ H xs2) (h3 : EvL tc σ H ys) (k : ∀ t b1 b2 q H1, H t = none → H b1 = none → H b2 = none → H q = none → Ex H H1 → H1 t = some (.lst [.ref b1, .ref b2]) → H1 b1 = some (.lst xs1) → H1 b2 = some (.lst xs2) → H1 q = some (.lst ys) →
    tz D ((σ.set i (some (.ref t))).set j (some (.ref q))) H1) : tSeq (tPar i j (tCons (tLst (tCons ta (tCons tb tNil))) (tCons tc tNil))) tz D σ H :=
  h1 H (Ex.refl H) _ fun b1 H1 n1 e1 v1 => h2 H1 e1 _ fun b2 H2 n2 e2 v2 => ⟨sz_of (by show 2 ≤ 100000; decide), fun t ht => h3 (upd H2 t (.lst [.ref b1, .ref b2])) (e1.trans (e2.trans (Ex.new ht))) _ fun q H3 hq e3 v3 => ⟨_, _, rfl, by
    have eN : Ex H2 (upd H2 t (.lst [.ref b1, .ref b2])) := Ex.new ht
    exact k t b1 b2 q H3 (fresh_back (e1.trans e2) ht) n1 (fresh_back e1 n2) (fresh_back (e1.trans (e2.trans eN)) hq) (e1.trans (e2.trans (eN.trans e3))) (e3 t _ upd_same) (e3 b1 _ (eN b1 _ (e2 b1 _ v1))) (e3 b2 _ (eN b2 _ v2)) v3⟩⟩
theorem q_asgTwo {i : Nat} {r s : List Nat} (h1 : EvL ta σ H (nv r)) (h2 : EvL tb σ H (nv s)) (k : ∀ t bs H1, Ex H H1 → LL H t H1 bs [r, s] → tz D (σ.set i (some (.ref t))) H1) : tSeq (tAsg (tLst (tCons ta (tCons tb tNil))) (gName i)) tz D σ H :=
  h1 H (Ex.refl H) _ fun b1 H1 n1 e1 v1 => h2 H1 e1 _ fun b2 H2 n2 e2 v2 => ⟨sz_of (by show 2 ≤ 100000; decide), fun t ht => by
    have eN : Ex H2 (upd H2 t (.lst [.ref b1, .ref b2])) := Ex.new ht
    have w1 := e2 b1 _ v1
    have t1 : t ≠ b1 := fun z => by rw [z, w1] at ht; cases ht
    have t2 : t ≠ b2 := fun z => by rw [z, v2] at ht; cases ht
    have b12 : b1 ≠ b2 := ne_of_none v1 n2
    refine k t [b1, b2] _ (e1.trans (e2.trans eN)) ⟨upd_same, by simp [b12], by simp [t1, t2], fresh_back (e1.trans e2) ht, ?_, rfl, ?_⟩
    · intro b hb
      rcases List.mem_cons.mp hb with z | z
      · rw [z]; exact n1
      · rw [List.mem_singleton.mp z]; exact fresh_back e1 n2
    · intro i b r' h1 h2
      match i with
      | 0 =>
        cases h1
        cases h2
        exact eN b1 _ w1
      | 1 =>
        cases h1
        cases h2
        exact eN b2 _ v2
      | i + 2 => simp at h1⟩
theorem dp_two {S : Hp} {t : Addr} {bs : List Addr} {r s : List Nat} (L : LL S t H bs [r, s]) : Dp K H (.ref t) (.list [di r, di s]) := by
  obtain ⟨b1, b2, eb⟩ : ∃ b1 b2, bs = [b1, b2] := by
    have := L.len
    match bs, this with
    | [b1, b2], _ => exact ⟨b1, b2, rfl⟩
  subst eb
  exact .lst (sq_of L.self) (.cons (dp_L (L.at_ 0 b1 r rfl rfl)) (.cons (dp_L (L.at_ 1 b2 s rfl rfl)) .nil))
theorem el_call2L {sp : Sp} {dvs xs ys : List V} {a : Addr} {E : XK} (h : Ev ta σ H (.ref a)) (h2 : EvL tb σ H ys) (hs : ∀ p H1, Ex H H1 → H1 p = some (.lst ys) → SpL sp ([.ref a, .ref p] ++ dvs) H1 xs) : EvL (tCall sp dvs E (tCons ta (tCons tb tNil))) σ H xs := fun H1 e Q q =>
  h H1 e _ fun H2 e2 => h2 H2 (e.trans e2) _ fun p H3 _ e3 h3 => hs p H3 ((e.trans e2).trans e3) h3 H3 (Ex.refl _) Q (fun l H4 hl e4 h4 => q l H4 (fresh_back (e2.trans e3) hl) ((e2.trans e3).trans e4) h4) E
theorem el_named {j : Nat} {vs : List Nat} {a b : Addr} {r f : List Nat} {tx : TE} (h : Ev ta σ H (.ref b)) (hb : H b = some (.lst (nv r))) (hf : H a = some (.lst (nv f))) (hr : ∀ x ∈ r, x < f.length) (hz : r.length ≤ 20) (hw : ∀ x, wipe ((wipe σ vs).set j (some x)) vs = wipe σ vs)
    (hx : ∀ x H1, Ev tx ((wipe σ vs).set j (some x)) H1 (.ref a)) (hj : ∀ x, ((wipe σ vs).set j (some x))[j]? = some (some x)) : EvL (tLc (iList K ta) (gName j) tYes (tOp (rIxL K) tx (tVar j)) vs) σ H (nv (named f r)) := by
  have g := el_mapI (K := K) (te := tOp (rIxL K) tx (tVar j)) (j := j) (vs := vs) (fun i => V.int (f.getD (r.getD i 0) 0 : Nat)) h (sq_of hb) (by rw [nv_len]; omega) hw fun i x H1 e1 hi => by
    have hil : i < r.length := by
      have := (List.getElem?_eq_some_iff.mp hi).1
      rw [nv_len] at this
      exact this
    have h1 : r[i]? = some (r.getD i 0) := by
      rw [List.getD_eq_getElem?_getD, List.getElem?_eq_getElem hil]
      rfl
    have ex : x = .int (r.getD i 0 : Nat) := by
      have := nv_get h1
      rw [hi] at this
      exact Option.some.inj this
    subst ex
    have hl := hr _ (List.mem_of_getElem? h1)
    have h2 : f[r.getD i 0]? = some (f.getD (r.getD i 0) 0) := by
      rw [List.getD_eq_getElem?_getD (l := f), List.getElem?_eq_getElem hl]
      rfl
    exact ev_op (hx _ _) (ev_var (hj _)) (rv_ixL (K := K) (sq_of (e1 a _ hf)) (atI_nat (nv_get h2)))
  have e : (List.range (nv r).length).map (fun i => V.int (f.getD (r.getD i 0) 0 : Nat)) = nv (named f r) := by
    rw [nv_len, nv_eq]
    unfold named
    conv => rhs; rw [range_get r 0]
    rw [List.map_map, List.map_map]
    rfl
  rw [e] at g
  exact g
end
theorem sl_recordW {H : Hp} {a : Addr} {h : List Nat} {rs : List (List Nat)} {w : List Nat} (ha : H a = some (.lst (nv h))) (o : Ord h) (R : Rings h rs) (e : rs.reverse.flatten = w) : SpL sp_record_list ([.ref a] ++ []) H (nv w) := e ▸ sl_record ha o R
theorem el_rgN {σ : L2.St} {H : Hp} {tb : TE} {m : Nat} (h : Ev tb σ H (.int (m : Int))) (hm : m ≤ 20) : EvL (tLstRg (tRg1 tb)) σ H (nv (List.range m)) := by
  have g := el_rg1 h (RgOk.of_le (by decide) (by omega) (by decide) (by omega))
  rw [range_iz] at g
  exact g
def sp_law_right : Sp := fun vs H Q _ => ∃ (p : Addr) (n m : Nat), vs = [.ref p, .int (m : Int)] ∧ Po p n H ∧ n + 200 < 1000000000 ∧ 1 ≤ m ∧ m ≤ 20 ∧ ∀ H', Po p (n + 200) H' → Ex (Hm p H) H' → Q (.bl true) H'
section
variable {P : Program} {w : World} {K : PySem.W.Frag} {mg : Str → Option Value} {base : Heap}
theorem ok_law_right (T : Tx K mg) : FnOk P w K mg base CX0 7 T.f_law_right T.d_law_right ["pouch", "many"] sp_law_right := by
  refine T.F_law_right.ok sc_law_right (fun vs H Q E h => ?_) (fun cdv A outer s H vs Q E hr h => ?_)
  · obtain ⟨p, n, m, rfl, _⟩ := h
    rfl
  · obtain ⟨p, n, m, rfl, hpo, hn, hm1, hm, k⟩ := h
    refine ⟨_, (pss_cons (ps_set (i := 2) sc_law_right.nd rfl (Or.inl rfl) (pe_call (ok_law_rings T) (hr.mono (by decide)) (by rfl) T.g_law_rings T.F_law_rings.kp T.b_law_rings .nil pass0 (pa_cons (pe_call (ok_law_entries T) (hr.mono (by decide)) (by rfl) T.g_law_entries T.F_law_entries.kp T.b_law_entries .nil pass0 (pa_cons (pv 0) (pa_cons (pv 1) pa_nil))) pa_nil)))
      (pss_cons (ps_par (i := 4) (j := 5) (by rfl) sc_law_right.nd rfl rfl (by decide) rfl rfl (pa_cons (pe_call (ok_law_seat T) (hr.mono (by decide)) (by rfl) T.g_law_seat T.F_law_seat.kp T.b_law_seat .nil pass0 (pa_cons (pv 2) pa_nil)) (pa_cons (pe_lc (own := [("ring", 3)]) (g := (gName 3)) (tt := tYes) rfl sc_law_right.nd (pi_list (pv 2)) (blkOk_by (own := [("ring", 3)]) (N := n_law_right) (sc := defScope s_law_right) (by decide +kernel)) (fun _ _ _ _ _ => (pg_name (i := 3) sc_law_right.nd rfl (Or.inl rfl))) (fun _ _ _ _ _ => pts_nil) (fun _ _ _ _ _ => (pe_callTy (T := "tuple") (r := rTupS K) call_tupR (by rfl) T.m_tuple (by decide +kernel) (pa_cons (pv 3) pa_nil)))) pa_nil)) (by rfl))
      (pss_cons (ps_par (i := 6) (j := 7) (by rfl) sc_law_right.nd rfl rfl (by decide) rfl rfl (pa_cons (pe_lst (pa_cons (pe_callTy call_listR (by rfl) T.m_list (by decide +kernel) (pa_cons (pv 4) pa_nil)) (pa_cons (pe_callTy call_listR (by rfl) T.m_list (by decide +kernel) (pa_cons (pv 5) pa_nil)) pa_nil))) (pa_cons (pe_lst pa_nil) pa_nil)) (by rfl))
      (pss_cons (ps_set (i := 8) sc_law_right.nd rfl (Or.inl rfl) (pe_lst (pa_cons (pe_call (ok_seating_of T) (hr.mono (by decide)) (by rfl) T.g_seating_of T.F_seating_of.kp T.b_seating_of .nil pass0 (pa_cons (pv 5) pa_nil)) (pa_cons (pe_callK0 (ok_seating_of T) (hr.mono (by decide)) (by rfl) T.g_seating_of T.F_seating_of.kp T.kb_seating_of_0_tables pass0 (pk_cons (pv 5) pk_nil)) pa_nil))))
      (pss_cons (ps_if (pt_cmpR (op_neD hr.units) (pv 8) (pe_lst (pa_cons (pv 4) (pa_cons (pv 4) pa_nil))) (nomark _)) (pss_one (ps_ret pe_bl)) pss_nil)
      (pss_cons (ps_for PassesOwn.never rfl (pi_list (pe_revL (pv 2))) (pg_name (i := 3) sc_law_right.nd rfl (Or.inl rfl)) (pss_one (ps_set (i := 7) sc_law_right.nd rfl (Or.inl rfl) (pe_op op_cat (pv 7) (pv 3)))))
      (pss_cons (ps_set (i := 8) sc_law_right.nd rfl (Or.inl rfl) (pe_lst (pa_cons (pe_call (ok_record_list T) (hr.mono (by decide)) (by rfl) T.g_record_list T.F_record_list.kp T.b_record_list .nil pass0 (pa_cons (pv 4) pa_nil)) (pa_cons (pe_callK0 (ok_record_list T) (hr.mono (by decide)) (by rfl) T.g_record_list T.F_record_list.kp T.kb_record_list_0_seating pass0 (pk_cons (pv 4) pk_nil)) pa_nil))))
      (pss_cons (ps_if (PW.pt (pw_or (pt_cmpR (op_neD hr.units) (pv 8) (pe_lst (pa_cons (pv 7) (pa_cons (pv 7) pa_nil))) (nomark _)) (pw_or1 (pt_cmpR (op_neD hr.units) (pe_call (ok_seating_of_records T) (hr.mono (by decide)) (by rfl) T.g_seating_of_records T.F_seating_of_records.kp T.b_seating_of_records .nil pass0 (pa_cons (pv 7) pa_nil)) (pv 4) (nomark _))))) (pss_one (ps_ret pe_bl)) pss_nil)
      (pss_cons (ps_expr (pe_bm PySem.F.plainAttrs_list PySem.F.slot_list_append PySem.F.type_list_append mt_append (pv 8) (pa_cons (pe_callK0 (ok_seating_of_records T) (hr.mono (by decide)) (by rfl) T.g_seating_of_records T.F_seating_of_records.kp T.kb_seating_of_records_0_names pass0 (pk_cons (pv 7) pk_nil)) pa_nil)))
      (pss_cons (ps_for PassesOwn.never rfl (pi_list (pv 8)) (pg_name (i := 9) sc_law_right.nd rfl (Or.inl rfl)) (pss_one (ps_expr (pe_bm PySem.F.plainAttrs_list PySem.F.slot_list_append PySem.F.type_list_append mt_append (pv 9) (pa_cons pe_non pa_nil)))))
      (pss_cons (ps_set (i := 7) sc_law_right.nd rfl (Or.inl rfl) (pe_call (ok_law_mixed T) (hr.mono (by decide)) (by rfl) T.g_law_mixed T.F_law_mixed.kp T.b_law_mixed .nil pass0 (pa_cons (pv 0) (pa_cons (pv 1) pa_nil))))
      (pss_cons (ps_set (i := 10) sc_law_right.nd rfl (Or.inl rfl) (pe_callTy call_listR (by rfl) T.m_list (by decide +kernel) (pa_cons (pv 7) pa_nil)))
      (pss_cons (ps_if (PW.pt (pw_or (pt_cmpR (op_neD hr.units) (pe_call (ok_seating_of_records T) (hr.mono (by decide)) (by rfl) T.g_seating_of_records T.F_seating_of_records.kp T.b_seating_of_records .nil pass0 (pa_cons (pv 7) pa_nil)) (pe_call (ok_law_seat T) (hr.mono (by decide)) (by rfl) T.g_law_seat T.F_law_seat.kp T.b_law_seat .nil pass0 (pa_cons (pe_call (ok_law_cut T) (hr.mono (by decide)) (by rfl) T.g_law_cut T.F_law_cut.kp T.b_law_cut .nil pass0 (pa_cons (pv 7) pa_nil)) pa_nil)) (nomark _)) (pw_or1 (pt_cmpR (op_neD hr.units) (pe_call (ok_record_list T) (hr.mono (by decide)) (by rfl) T.g_record_list T.F_record_list.kp T.b_record_list .nil pass0 (pa_cons (pe_call (ok_seating_of_records T) (hr.mono (by decide)) (by rfl) T.g_seating_of_records T.F_seating_of_records.kp T.b_seating_of_records .nil pass0 (pa_cons (pv 7) pa_nil)) pa_nil)) (pv 7) (nomark _))))) (pss_one (ps_ret pe_bl)) pss_nil)
      (pss_cons (ps_set (i := 11) sc_law_right.nd rfl (Or.inr rfl) (pe_call (ok_law_mixed T) (hr.mono (by decide)) (by rfl) T.g_law_mixed T.F_law_mixed.kp T.b_law_mixed .nil pass0 (pa_cons (pv 0) (pa_cons (pv 1) pa_nil))))
      (pss_cons (ps_set (i := 13) sc_law_right.nd rfl (Or.inl rfl) (pe_call (ok_law_seat T) (hr.mono (by decide)) (by rfl) T.g_law_seat T.F_law_seat.kp T.b_law_seat .nil pass0 (pa_cons (pe_lc (own := [("ring", 3)]) (g := (gName 3)) (tt := tYes) rfl sc_law_right.nd (pi_list (pv 2)) (blkOk_by (own := [("ring", 3)]) (N := n_law_right) (sc := defScope s_law_right) (by decide +kernel)) (fun _ _ _ _ _ => (pg_name (i := 3) sc_law_right.nd rfl (Or.inl rfl))) (fun _ _ _ _ _ => pts_nil) (fun _ _ _ _ _ => (pe_lc (wi := iList K (tVar 3)) (own := [("one", 12)]) (g := (gName 12)) (tt := tYes) rfl sc_law_right.nd (pi_list (pv 3)) (blkOk_by (own := [("one", 12)]) (N := n_law_right) (sc := { kind := .function, names := [((".0" : Str), NameKind.local), (("ring" : Str), NameKind.local), (("fresh" : Str), NameKind.cell)], isGenerator := false, isCoroutine := false }) (by decide +kernel)) (fun _ _ _ _ _ => (pg_name (i := 12) sc_law_right.nd rfl (Or.inl rfl))) (fun _ _ _ _ _ => pts_nil) (fun _ _ _ _ _ => (pe_ix (r := rIxL K) ix_list (pv 11) (pv 12) (fun _ _ => rfl)))))) pa_nil)))
      (pss_cons (ps_set (i := 8) sc_law_right.nd rfl (Or.inl rfl) (pe_lst (pa_cons (pe_call (ok_renamed T) (hr.mono (by decide)) (by rfl) T.g_renamed T.F_renamed.kp T.b_renamed .nil pass0 (pa_cons (pv 4) (pa_cons (pv 11) pa_nil))) (pa_cons (pe_callK0 (ok_renamed T) (hr.mono (by decide)) (by rfl) T.g_renamed T.F_renamed.kp T.kb_renamed_0_names_seating pass0 (pk_cons (pv 11) (pk_cons (pv 4) pk_nil))) pa_nil))))
      (pss_cons (ps_if (PW.pt (pw_or (pt_cmpR (op_neD hr.units) (pv 8) (pe_lst (pa_cons (pv 13) (pa_cons (pv 13) pa_nil))) (nomark _)) (pw_or1 (pt_cmpR (op_neD hr.units) (pe_call (ok_renamed T) (hr.mono (by decide)) (by rfl) T.g_renamed T.F_renamed.kp T.b_renamed .nil pass0 (pa_cons (pv 4) (pa_cons (pe_listRg rfl (by rfl) T.m_list (prg_1 (by rfl) T.m_range (pv 1))) pa_nil))) (pv 4) (nomark _))))) (pss_one (ps_ret pe_bl)) pss_nil)
      (pss_cons (ps_expr (pe_bm PySem.F.plainAttrs_list PySem.F.slot_list_append PySem.F.type_list_append mt_append (pe_ix ix_list (pv 8) pe_int (fun _ _ => rfl)) (pa_cons pe_non pa_nil)))
      (pss_one (ps_ret (pe_and (pe_cmpR (op_eqD hr.units) (pe_lst (pa_cons (pv 4) (pa_cons (pv 5) pa_nil))) (pv 6) (nomark _)) (pe_and (pe_cmpR (op_eqD hr.units) (pv 7) (pv 10) (nomark _)) (pe_one (pe_cmpR (op_eqD hr.units) (pe_call (ok_renamed T) (hr.mono (by decide)) (by rfl) T.g_renamed T.F_renamed.kp T.b_renamed .nil pass0 (pa_cons (pv 4) (pa_cons (pv 11) pa_nil))) (pv 13) (nomark _))))))))))))))))))))))))), ?_⟩
    refine q_rings (p := p) (n := n) (m := m) (by walk_at "ea") hpo (by omega) hm fun l bs rs H1 R L lp bp p1 e1 => ?_
    have RR := R.rings
    have o := seat_ord R.all R.ne hm1 hm
    have hl := seat_len rs m
    have bsl : bs.length ≤ 20 := by
      have h1 : rs.length ≤ rs.flatten.length := by
        have : ∀ l : List (List Nat), (∀ r ∈ l, 0 < r.length) → l.length ≤ l.flatten.length := fun l => by
          induction l with
          | nil => intro _; simp
          | cons r l ih =>
            intro hl
            have := ih fun x hx => hl x (by simp [hx])
            have := hl r (by simp)
            rw [List.flatten_cons, List.length_append, List.length_cons]
            omega
        exact this rs R.ne
      rw [R.all.length_eq, List.length_range] at h1
      rw [L.len]
      omega
    generalize hh : seat rs m = h at *
    refine q_parLLT (xs := nv h) (rs := rs.map nv) (by rw [← hh]; exact el_call (by walk_at "ea") (sl_seat L.self L.lb R.all hm)) ?_ fun a4 a5 ws H2 h4 h5 e2 v4 v5 t5 => ?_
    · have e : (List.range (bs.map V.ref).length).map (fun i => nv (rs.getD i [])) = rs.map nv := by
        rw [List.length_map, L.len]
        conv => rhs; rw [range_get rs []]
        rw [List.map_map]
        rfl
      rw [← e]
      refine elt_map _ (ev_var rfl) (sq_of L.self) (by rw [List.length_map]; omega) (fun _ => rfl) fun i x H' e' hx => ?_
      obtain ⟨r, hr, b, rfl, hb⟩ := paired_get L.lb hx
      have g : rs.getD i [] = r := by rw [List.getD_eq_getElem?_getD, hr] <;> rfl
      rw [g]
      exact eu_tupOf (K := K) (ev_var rfl) (sq_of (e' b _ hb))
    have p2 := p1.ex e2
    have L2 := L.ex e2
    refine q_parTwo (ys := []) (el_list (K := K) (ev_var rfl) (sq_of v4)) (el_list (K := K) (ev_var rfl) (sq_of v5)) (el_lst ea_nil (Nat.le_of_ble_eq_true rfl)) fun a6 b1 b2 a7 H3 n6 m1 m2 n7 e3 v6 w1 w2 v7 => ?_
    have v43 := e3 a4 _ v4
    have v53 := e3 a5 _ v5
    have t53 := t5.ex e3
    refine q_asgD (K := K) (d := .list [di h, di h]) (ed_two (ed_L (el_call (by walk_at "ea") (sl_seating_of v53 t53 RR o))) (ed_L (el_callK (zs := [.ref a5]) ea_nil (ea_cons (ev_var rfl) ea_nil) (sl_seating_of v53 t53 RR o)))) fun v8 H4 e4 d8 => ?_
    have v44 := e4 a4 _ v43
    refine q_when (b := false) (et_is (et_test (ev_neD (ed_of (ev_var rfl) d8) (ed_two (ed_of (ev_var rfl) (dp_L v44)) (ed_of (ev_var rfl) (dp_L v44))) (shaped_two _ _) (shaped_two _ _))) (by rw [eqv_same (shaped_two _ _)]; rfl)) (fun hb => Bool.noConfusion hb) fun _ H5 e5 => ?_
    have e35 := e4.trans e5
    have L5 := (L2.ex e3).ex e35
    have v55 := e35 a5 _ v53
    have lrev := paired_rev L5.lb
    have wl : ∀ i, (rs.reverse.take i).flatten.length ≤ 20 := fun i => by
      have h1 : (rs.reverse.take i).flatten.length ≤ rs.reverse.flatten.length := by
        conv => rhs; rw [← List.take_append_drop i rs.reverse, List.flatten_append, List.length_append]
        omega
      have h2 : rs.reverse.flatten.length = rs.flatten.length := (List.Perm.flatten (List.reverse_perm rs)).length_eq
      rw [R.all.length_eq, List.length_range] at h2
      omega
    refine q_forNLn (xs := (bs.map V.ref).reverse) (el_rev (K := K) (ev_var rfl) (sq_of L5.self)) (fun q i σ' H' => ∃ (y3 : Option V) (a7 : Addr), σ' = [some (.ref p), some (.int m), some (.ref l), y3, some (.ref a4), some (.ref a5), some (.ref a6), some (.ref a7), some v8, none, none, none, none, none] ∧ H5 q = none ∧ Ex H5 H' ∧ H' q = some (.lst (bs.map V.ref).reverse) ∧ H' a7 = some (.lst (nv (rs.reverse.take i).flatten)) ∧ a7 ≠ p)
      (fun q H6 hq e6 h6 => ⟨none, a7, rfl, hq, e6, h6, e6 a7 _ (e35 a7 _ v7), p2.ne n7⟩) (fun q i σ' H' _ ⟨_, _, _, _, _, h, _⟩ => sq_of h) ?_ ?_
    · rintro q i v σ' H' hv ⟨y3, a, rfl, hq, e, hq2, ha, ap⟩
      obtain ⟨r, hr, b, rfl, hb⟩ := paired_get lrev hv
      have hb' := e b _ hb
      have hnext := flat_next hr
      have wlen := wl (i + 1)
      rw [hnext, List.length_append] at wlen
      refine s_asgL (xs := nv (rs.reverse.take (i + 1)).flatten) ?_ fun a' H7 ha' e7 h7 => ⟨_, a', rfl, hq, e.trans e7, e7 q _ hq2, h7, (p2.ex (e3.trans (e35.trans e))).ne ha'⟩
      rw [hnext, nv_app]
      exact el_catV (ev_var rfl) (ev_var rfl) ha hb' (by rw [nv_len, nv_len]; omega)
    rintro q σ' H6 ⟨y3, a8, rfl, _, e6, _, v7, ap⟩
    rw [List.length_reverse, List.length_map, L.len, ← List.length_reverse (as := rs), List.take_of_length_le (Nat.le_refl _)] at v7
    generalize hw : rs.reverse.flatten = wv at v7
    have wperm : wv.Perm (List.range m) := by
      rw [← hw]
      exact (List.Perm.flatten (List.reverse_perm rs)).trans R.all
    have wlen : wv.length = m := by simpa using wperm.length_eq
    have ow : Ord wv := ⟨by rw [wlen]; exact wperm, by omega, by omega⟩
    have cw : ∀ r ∈ cuts wv, Rg h r := fun r hr => by
      rw [← hw, cuts_flatten RR.falls] at hr
      exact RR.rg r (List.mem_reverse.mp hr)
    have e26 := e3.trans (e35.trans e6)
    have v46 := e26 a4 _ v4
    have p6 := p2.ex e26
    refine q_asgTwo (r := wv) (s := wv) (by rw [← hw]; exact el_call (by walk_at "ea") (sl_record v46 o RR)) (by rw [← hw]; exact el_callK (zs := [.ref a4]) ea_nil (ea_cons (ev_var rfl) ea_nil) (sl_record v46 o RR)) fun t bt H7 e7 LT => ?_
    have v47 := e7 a4 _ v46
    have v77 := e7 a8 _ v7
    refine q_when (b := false) (et_is (et_or (et_is (et_test (ev_neD (ed_of (ev_var rfl) (dp_two LT)) (ed_two (ed_of (ev_var rfl) (dp_L v77)) (ed_of (ev_var rfl) (dp_L v77))) (shaped_two _ _) (shaped_two _ _))) (b := false) (by rw [eqv_same (shaped_two _ _)]; rfl)) fun _ => et_is (et_test (ev_neD (ed_L (el_call (by walk_at "ea") (sl_of_records v77 ow (by omega) cw))) (ed_of (ev_var rfl) (dp_L v47)) (shaped_di _) (shaped_di _))) (b := false) (by rw [eqv_same (shaped_di _)]; rfl)) rfl) (fun hb => Bool.noConfusion hb) fun _ H8 e8 => ?_
    have LT8 := LT.ex e8
    have v78 := e8 a8 _ v77
    refine q_appL LT8.self (ev_var rfl) (el_callK (zs := [.ref a8]) ea_nil (ea_cons (ev_var rfl) ea_nil) (sl_of_records v78 ow (by omega) cw)) (by rw [List.length_map, LT.len]; show 2 < 100000; decide) fun q9 H9 hq9 e9 h9 => ?_
    have LT9 := LT8.push (e7.trans e8) e9 hq9 h9
    have LTn := LT9.np
    have LTf := LT9.fr
    have e69 : Ex H6 (upd H9 t (.lst (bt.map V.ref ++ [.ref q9]))) := Ex.mut (e7.trans (e8.trans e9)) LT.fp
    refine q_forLn (xs := (bt ++ [q9]).map V.ref) (K := K) (ev_var rfl) (sq_of LT9.self) (fun i σ' H' => ∃ (y9 : Option V), σ' = [some (.ref p), some (.int m), some (.ref l), y3, some (.ref a4), some (.ref a5), some (.ref a6), some (.ref a8), some (.ref t), y9, none, none, none, none] ∧ Ex H6 H' ∧ H' t = some (.lst ((bt ++ [q9]).map V.ref)) ∧ ∀ b ∈ bt ++ [q9], ∃ xs, H' b = some (.lst xs) ∧ xs.length ≤ 20 + i)
      (fun H' e' => ⟨none, rfl, e69.trans e', e' t _ LT9.self, fun b hb => by
        obtain ⟨i, hi⟩ := List.mem_iff_getElem?.mp hb
        have hil := (List.getElem?_eq_some_iff.mp hi).1
        have hrl : i < ([wv, wv] ++ [h]).length := by rw [← LT9.len]; exact hil
        refine ⟨_, e' b _ (LT9.at_ i b _ hi (List.getElem?_eq_getElem hrl)), ?_⟩
        have hall3 : ∀ r ∈ [wv, wv] ++ [h], r.length ≤ 20 := fun r hr => by
          have : r = wv ∨ r = h := by simpa using hr
          rcases this with z | z <;> rw [z] <;> omega
        have := hall3 _ (List.getElem_mem hrl)
        rw [nv_len]
        omega⟩) (fun i σ' H' _ ⟨_, _, _, h, _⟩ => sq_of h) ?_ ?_
    · rintro i v σ' H' hv ⟨y9, rfl, e, ht', hall⟩
      have hil := (List.getElem?_eq_some_iff.mp hv).1
      have hi3 : i < 3 := by
        rw [List.length_map, LT9.len] at hil
        exact hil
      rw [List.getElem?_map] at hv
      obtain ⟨b, hb, rfl⟩ := Option.map_eq_some_iff.mp hv
      have hbm := List.mem_of_getElem? hb
      obtain ⟨xs, hx, hxl⟩ := hall b hbm
      refine s_app hx (ev_var (i := 9) rfl) ev_c (by omega) fun H7 e7 => ⟨_, rfl, Ex.mut (e.trans e7) (LTf b hbm), ?_, fun b' hb' => ?_⟩
      · rw [upd_ne (fun z => LTn (by rw [z]; exact hbm))]
        exact e7 t _ ht'
      · by_cases z : b' = b
        · subst z
          exact ⟨_, upd_same, by rw [List.length_append]; simp; omega⟩
        · obtain ⟨ys, hy, hyl⟩ := hall b' hb'
          exact ⟨ys, by rw [upd_ne z]; exact e7 b' _ hy, by omega⟩
    rintro σ' H10 ⟨y9, rfl, e10, _, _⟩
    have e210 := e26.trans e10
    have p10 := p2.ex e210
    have a4p := p1.ne h4
    have a5p := p1.ne h5
    have a6p := p2.ne n6
    have b1p := p2.ne m1
    have b2p := p2.ne m2
    have e310 := e35.trans (e6.trans e10)
    refine q_mixed (p := p) (n := n + 3 * m + 1) (m := m) (by walk_at "ea") p10 (by omega) hm fun a f H11 _ fp vf fperm p11 s11 => ?_
    have L11 := ((L2.ex e210).hm lp bp s11)
    have v411 := hm_at s11 a4p (e210 a4 _ v4)
    have v511 := hm_at s11 a5p (e210 a5 _ v5)
    have t511 := TL.hm (t5.ex e210) p10 s11
    have v611 := hm_at s11 a6p (e310 a6 _ v6)
    have w111 := hm_at s11 b1p (e310 b1 _ w1)
    have w211 := hm_at s11 b2p (e310 b2 _ w2)
    have fl : f.length = m := by simpa using fperm.length_eq
    have fo : Ord f := ⟨by rw [fl]; exact fperm, by omega, by omega⟩
    have fnd : f.Nodup := fperm.nodup_iff.mpr List.nodup_range
    have cp : (cuts f).flatten.Perm (List.range m) := by rw [cuts_flat]; exact fperm
    have cR : ∀ r ∈ cuts f, Rg (seat (cuts f) m) r := fun r hr => seat_rg cp hr (cuts_ne f r hr)
    have co := seat_ord cp (cuts_ne f) hm1 hm
    have cRR := Falls.rings fperm
    have cw2 : (cuts f).reverse.reverse.flatten = f := by rw [List.reverse_reverse, cuts_flat]
    refine q_asgL (el_list (K := K) (ev_var rfl) (sq_of vf)) fun a10 H12 n10 e12 v10 => ?_
    have vf12 := e12 a _ vf
    refine q_when (b := false) (et_is (et_or (et_is (et_test (ev_neD (ed_L (el_call (by walk_at "ea") (sl_of_records vf12 fo (by rw [seat_len]; omega) cR))) (ed_L (el_call1LB (elb_cut (ev_var rfl) vf12 fnd (by omega) (by omega)) fun p' ws' H' e' h' hw' => sl_seat h' hw' cp hm)) (shaped_di _) (shaped_di _))) (b := false) (by rw [eqv_same (shaped_di _)]; rfl)) fun _ => et_is (et_test (ev_neD (ed_L (el_call1L (el_call (by walk_at "ea") (sl_of_records vf12 fo (by rw [seat_len]; omega) cR)) fun p' H' e' hv' => sl_recordW hv' co cRR cw2)) (ed_of (ev_var rfl) (dp_L vf12)) (shaped_di _) (shaped_di _))) (b := false) (by rw [eqv_same (shaped_di _)]; rfl)) rfl) (fun hb => Bool.noConfusion hb) fun _ H13 e13 => ?_
    have e1113 := e12.trans e13
    have p13 := p11.ex e1113
    have a10p := p11.ne n10
    refine q_mixed (p := p) (n := n + 3 * m + 1 + m) (m := m) (by walk_at "ea") p13 (by omega) hm fun a11 g H14 _ gp vg gperm p14 s14 => ?_
    have L14 := ((L11.ex e1113).hm lp bp s14)
    have v414 := hm_at s14 a4p (e1113 a4 _ v411)
    have v514 := hm_at s14 a5p (e1113 a5 _ v511)
    have t514 := TL.hm (t511.ex e1113) p13 s14
    have v614 := hm_at s14 a6p (e1113 a6 _ v611)
    have w114 := hm_at s14 b1p (e1113 b1 _ w111)
    have w214 := hm_at s14 b2p (e1113 b2 _ w211)
    have vf14 := hm_at s14 fp (e1113 a _ vf)
    have v1014 := hm_at s14 a10p (e13 a10 _ v10)
    have gl : g.length = m := by simpa using gperm.length_eq
    have go : Ord g := ⟨by rw [gl]; exact gperm, by omega, by omega⟩
    have hk := renamed_ok gperm RR hl
    have hsl := seat_len (rs.map (named g)) m
    have np := named_perm gperm R.all
    refine q_asgL (xs := nv (seat (rs.map (named g)) m)) (el_call1LB (elb_map (named g) (ev_var rfl) L14.self L14.lb (by rw [List.length_map]; omega) (fun _ => rfl) fun b r H' e' hr hb' => el_named (K := K) (a := a11) (ev_var rfl) hb' (e' a11 _ vg) (fun x hx => by rw [gl]; exact R.mem hr hx) (by
      have := RR.short hr
      omega) (fun _ => rfl) (fun _ _ => ev_var rfl) (fun _ => rfl)) fun p' ws' H' e' h' hw' => sl_seat h' hw' np hm) fun a13 H15 n13 e15 v13 => ?_
    generalize hdh : seat (rs.map (named g)) m = dh at *
    have v415 := e15 a4 _ v414
    have vg15 := e15 a11 _ vg
    refine q_asgTwo (r := dh) (s := dh) (el_call (by walk_at "ea") (sl_renamed v415 vg15 o go (by omega) (by omega) hk)) (el_callK (zs := [.ref a11, .ref a4]) ea_nil (ea_cons (ev_var rfl) (ea_cons (ev_var rfl) ea_nil)) (sl_renamed v415 vg15 o go (by omega) (by omega) hk)) fun t2 bt2 H16 e16 LU => ?_
    have v416 := e16 a4 _ v415
    have ro : Ord (List.range m) := ⟨by rw [List.length_range], by rw [List.length_range]; exact hm1, by rw [List.length_range]; exact hm⟩
    have v1316 := e16 a13 _ v13
    refine q_when (b := false) (et_is (et_or (et_is (et_test (ev_neD (ed_of (ev_var rfl) (dp_two LU)) (ed_two (ed_of (ev_var rfl) (dp_L v1316)) (ed_of (ev_var rfl) (dp_L v1316))) (shaped_two _ _) (shaped_two _ _))) (b := false) (by rw [eqv_same (shaped_two _ _)]; rfl)) fun _ => et_is (et_test (ev_neD (ed_L (el_call2L (ev_var rfl) (el_rgN (ev_var rfl) hm) fun p' H' e' hv' => sl_renamed (e' a4 _ v416) hv' o ro (by rw [List.length_range, hl]) rfl (by rw [← hl]; exact renamed_id o))) (ed_of (ev_var rfl) (dp_L v416)) (shaped_di _) (shaped_di _))) (b := false) (by rw [eqv_same (shaped_di _)]; rfl)) rfl) (fun hb => Bool.noConfusion hb) fun _ H17 e17 => ?_
    have LU17 := LU.ex e17
    obtain ⟨c, hc, hcv, hct, hc0⟩ := LU17.get (i := 0) (r := dh) rfl
    refine q_app hcv (ev_op (ev_var rfl) ev_c (rv_ixL (K := K) (sq_of LU17.self) (atI_nat (j := 0) (by rw [List.getElem?_map, hc]; rfl)))) ev_c (by rw [nv_len]; omega) fun H18 e18 => ?_
    have e1518 : Ex H15 (upd H18 c (.lst (nv dh ++ [.non]))) := Ex.mut (e16.trans (e17.trans e18)) hc0
    have e1418 := e15.trans e1518
    have v418 := e1418 a4 _ v414
    have v518 := e1418 a5 _ v514
    have t518 := t514.ex e1418
    have v618 := e1418 a6 _ v614
    have w118 := e1418 b1 _ w114
    have w218 := e1418 b2 _ w214
    have vf18 := e1418 a _ vf14
    have v1018 := e1418 a10 _ v1014
    have vg18 := e1418 a11 _ vg
    have v1318 := e1518 a13 _ v13
    refine s_ret (v := .bl true) (ev_is (ev_andV (ev_eqD (d := .list [di h, .list (rs.map dt)]) (ed_lst (eda_cons (ed_of (ev_var rfl) (dp_L v418)) (eda_cons (ed_of (ev_var rfl) (.lst (sq_of v518) (dpa_TL t518))) eda_nil)) (Nat.le_of_ble_eq_true rfl)) (ed_of (ev_var rfl) (.lst (sq_of v618) (.cons (dp_L w118) (.cons (.lst (sq_of w218) (dpa_TL t518)) .nil)))) (shaped_kept _ _) (shaped_kept _ _)) fun _ => ev_andV (ev_eqD (ed_of (ev_var rfl) (dp_L vf18)) (ed_of (ev_var rfl) (dp_L v1018)) (shaped_di _) (shaped_di _)) fun _ => ev_eqD (ed_L (el_call (by walk_at "ea") (sl_renamed v418 vg18 o go (by omega) (by omega) hk))) (ed_of (ev_var rfl) (dp_L v1318)) (shaped_di _) (shaped_di _)) (by rw [eqv_same (shaped_kept _ _), eqv_same (shaped_di _), eqv_same (shaped_di _)]; rfl)) fun H19 e19 => ?_
    refine k H19 (((p14.ex (e1418.trans e19))).mono (by omega)) ?_
    exact hm_trans (hm_trans (hm_trans e1 (hm_of (e2.trans e210))) (hm_trans s11 (hm_of e1113))) (hm_trans s14 (hm_of (e1418.trans e19)))
end

local macro_rules | `(tactic| walk_at "call") => `(tactic| (with_reducible exact sv_whole))
local macro_rules | `(tactic| walk_at "call") => `(tactic| ((with_reducible refine' sv_ord ?c1 ?c2); (case c1 => assumption); (case c2 => assumption)))

/-! ### the law: constants -/
def rgB (h r : List Nat) : Bool := decide (0 < r.length) && decide r.Nodup && (List.range r.length).all fun i => match r[i]?, r[(i + 1) % r.length]? with
  | some x, some y => h[x]? == some y
  | _, _ => false
theorem rg_of {h r : List Nat} (e : rgB h r = true) : Rg h r := by
  unfold rgB at e
  rw [Bool.and_eq_true, Bool.and_eq_true, decide_eq_true_iff, decide_eq_true_iff, List.all_eq_true] at e
  refine ⟨e.1.1, e.1.2, fun i hi => ?_⟩
  have := e.2 i (List.mem_range.mpr hi)
  cases h1 : r[i]? with
  | none => rw [h1] at this; cases this
  | some x =>
    cases h2 : r[(i + 1) % r.length]? with
    | none => rw [h1, h2] at this; cases this
    | some y =>
      rw [h1, h2] at this
      exact ⟨x, y, rfl, rfl, eq_of_beq this⟩
def ringsB (h : List Nat) (rs : List (List Nat)) : Bool := (rs.all fun r => rgB h r && leads r) && decide ((rs.map (·.headD 0)).Pairwise (· < ·)) && rs.flatten.isPerm (List.range h.length)
theorem rings_of {h : List Nat} {rs : List (List Nat)} (e : ringsB h rs = true) : Rings h rs := by
  unfold ringsB at e
  rw [Bool.and_eq_true, Bool.and_eq_true, decide_eq_true_iff, List.all_eq_true] at e
  refine ⟨fun r hr => ?_, fun r hr => ?_, e.1.2, List.isPerm_iff.mp e.2⟩
  · exact rg_of (Bool.and_eq_true_iff.mp (e.1.1 r hr)).1
  · exact of_decide_eq_true (Bool.and_eq_true_iff.mp (e.1.1 r hr)).2
def ordB (h : List Nat) : Bool := h.isPerm (List.range h.length) && decide (1 ≤ h.length) && decide (h.length ≤ 20)
theorem ord_of {h : List Nat} (e : ordB h = true) : Ord h := by
  unfold ordB at e
  rw [Bool.and_eq_true, Bool.and_eq_true, decide_eq_true_iff, decide_eq_true_iff] at e
  exact ⟨List.isPerm_iff.mp e.1.1, e.1.2, e.2⟩
theorem cuts_of {h f : List Nat} (e : (cuts f).all (rgB h) = true) : ∀ r ∈ cuts f, Rg h r := fun r hr => rg_of (List.all_eq_true.mp e r hr)
def renB (h f t : List Nat) : Bool := (List.range h.length).all fun g => match h[g]? with
  | some x => match f[g]?, f[x]? with
    | some y, some z => t[y]? == some z
    | _, _ => false
  | none => true
theorem ren_of {h f t : List Nat} (e : renB h f t = true) : ∀ (g x : Nat), h[g]? = some x → ∃ y z, f[g]? = some y ∧ f[x]? = some z ∧ t[y]? = some z := fun g x hg => by
  have := List.all_eq_true.mp e g (List.mem_range.mpr (List.getElem?_eq_some_iff.mp hg).1)
  rw [hg] at this
  cases h1 : f[g]? with
  | none => simp [h1] at this
  | some y =>
    cases h2 : f[x]? with
    | none => simp [h1, h2] at this
    | some z =>
      simp only [h1, h2] at this
      exact ⟨y, z, rfl, rfl, eq_of_beq this⟩
def EvLBA (ta : TA) (σ : L2.St) (H : Hp) (rs : List (List Nat)) : Prop := ∀ H1, Ex H H1 → ∀ Q : List V → Hp → Prop, (∀ vs H2, Ex H1 H2 → Paired (Lb H2) vs rs → Q vs H2) → ta σ H1 Q
def EvLTA (ta : TA) (σ : L2.St) (H : Hp) (rs : List (List V)) : Prop := ∀ H1, Ex H H1 → ∀ Q : List V → Hp → Prop, (∀ vs H2, Ex H1 H2 → TL H2 vs rs → Q vs H2) → ta σ H1 Q
section
variable {K : PySem.W.Frag} {σ : L2.St} {H H' : Hp} {ta tb tc te : TE} {tr : TA} {D : Ends} {tz : TS} {r : List Nat} {rs ss : List (List Nat)}
theorem lba_nil : EvLBA tNil σ H [] := fun H1 _ _ q => q [] H1 (Ex.refl _) .nil
theorem lba_cons (h : EvL te σ H (nv r)) (hr : EvLBA tr σ H rs) : EvLBA (tCons te tr) σ H (r :: rs) := fun H1 e _ q => h H1 e _ fun p H2 _ e2 h2 => hr H2 (e.trans e2) _ fun vs H3 e3 hv => q _ H3 (e2.trans e3) (.cons ⟨p, rfl, e3 p _ h2⟩ hv)
theorem elb_lst (h : EvLBA tr σ H rs) (hl : rs.length ≤ 1000) : EvLB (tLst tr) σ H rs := fun H1 e Q q => h H1 e _ fun vs H2 e2 hv => ⟨sz_of (by have := Paired.length hv; omega), fun l hl => q l vs _ (fresh_back e2 hl) (e2.trans (Ex.new hl)) upd_same (paired_imp (fun _ _ x => Lb.ex (Ex.new hl) x) hv)⟩
theorem lta_nil : EvLTA tNil σ H [] := fun H1 _ _ q => q [] H1 (Ex.refl _) .nil
theorem lta_cons {x : List V} {xs : List (List V)} (h : EvU te σ H x) (hr : EvLTA tr σ H xs) : EvLTA (tCons te tr) σ H (x :: xs) := fun H1 e _ q => h H1 e _ fun p H2 _ e2 h2 => hr H2 (e.trans e2) _ fun vs H3 e3 hv => q _ H3 (e2.trans e3) (.cons ⟨p, rfl, e3 p _ h2⟩ hv)
theorem elt_lst {xs : List (List V)} (h : EvLTA tr σ H xs) (hl : xs.length ≤ 1000) : EvLT (tLst tr) σ H xs := fun H1 e Q q => h H1 e _ fun vs H2 e2 hv => ⟨sz_of (by have := hv.len; omega), fun l hl => q l vs _ (fresh_back e2 hl) (e2.trans (Ex.new hl)) upd_same (hv.ex (Ex.new hl))⟩
theorem dp_LB : ∀ {vs : List V} {rs : List (List Nat)}, Paired (Lb H) vs rs → DpAll K H vs (rs.map di)
  | _, _, .nil => .nil
  | _, _, .cons ⟨b, e, h⟩ t => by
    subst e
    exact .cons (dp_L h) (dp_LB t)
theorem ed_LB (h : EvLB te σ H rs) : EvD K te σ H (.list (rs.map di)) := fun H1 e Q q => h H1 e Q fun p vs H2 _ e2 h2 hv => q _ H2 e2 (.lst (sq_of h2) (dp_LB hv))
theorem elb_cat {a : Addr} {ws : List V} (h : Ev ta σ H (.ref a)) (ha : H a = some (.lst ws)) (hw : Paired (Lb H) ws rs) (h2 : EvLB tb σ H ss) (hl : rs.length + ss.length ≤ 1000) : EvLB (tOp rCat ta tb) σ H (rs ++ ss) := fun H1 e Q q =>
  h H1 e _ fun H2 e2 => h2 H2 (e.trans e2) _ fun p vs H3 _ e3 h3 hv => by
    have hw3 := paired_imp (fun _ _ x => Lb.ex (e.trans (e2.trans e3)) x) hw
    have l1 := Paired.length hw3
    have l2 := Paired.length hv
    have app : ∀ {l : List V} {m : List (List Nat)} {l' : List V} {m' : List (List Nat)} {G : Hp}, Paired (Lb G) l m → Paired (Lb G) l' m' → Paired (Lb G) (l ++ l') (m ++ m') := fun {l m l' m' G} h h' => by
      induction h with
      | nil => exact h'
      | cons a _ ih => exact .cons a ih
    exact ⟨a, p, ws, vs, rfl, rfl, e3 a _ (e2 a _ (e a _ ha)), h3, sz_of (by omega), fun l hl => q l _ _ (fresh_back (e2.trans e3) hl) ((e2.trans e3).trans (Ex.new hl)) upd_same (paired_imp (fun _ _ x => Lb.ex (Ex.new hl) x) (app hw3 hv))⟩
theorem q_asgLB {i : Nat} (h : EvLB te σ H rs) (k : ∀ p vs H1, H p = none → Ex H H1 → H1 p = some (.lst vs) → Paired (Lb H1) vs rs → tz D (σ.set i (some (.ref p))) H1) : tSeq (tAsg te (gName i)) tz D σ H := h H (Ex.refl H) _ k
theorem el_call1LT {sp : Sp} {dvs ys : List V} {xs : List (List V)} {E : XK} (h : EvLT te σ H xs) (hs : ∀ p ws H1, Ex H H1 → H1 p = some (.lst ws) → TL H1 ws xs → SpL sp ([.ref p] ++ dvs) H1 ys) : EvL (tCall sp dvs E (tCons te tNil)) σ H ys := fun H1 e Q q =>
  h H1 e _ fun p ws H2 _ e2 h2 hw => hs p ws H2 (e.trans e2) h2 hw H2 (Ex.refl _) Q (fun l H3 hl e3 h3 => q l H3 (fresh_back e2 hl) (e2.trans e3) h3) E
theorem el_call2LL {sp : Sp} {dvs xs ys zs : List V} {E : XK} (h : EvL ta σ H xs) (h2 : EvL tb σ H ys) (hs : ∀ p q H1, Ex H H1 → H1 p = some (.lst xs) → H1 q = some (.lst ys) → SpL sp ([.ref p, .ref q] ++ dvs) H1 zs) : EvL (tCall sp dvs E (tCons ta (tCons tb tNil))) σ H zs := fun H1 e Q q =>
  h H1 e _ fun p H2 _ e2 hp => h2 H2 (e.trans e2) _ fun p' H3 _ e3 hp' => hs p p' H3 ((e.trans e2).trans e3) (e3 p _ hp) hp' H3 (Ex.refl _) Q (fun l H4 hl e4 h4 => q l H4 (fresh_back (e2.trans e3) hl) ((e2.trans e3).trans e4) h4) E
theorem el_i4 {a b c d : Nat} : EvL (tLst (tCons (tC (.int a)) (tCons (tC (.int b)) (tCons (tC (.int c)) (tCons (tC (.int d)) tNil))))) σ H (nv [a, b, c, d]) := el_lst (ea_cons ev_c (ea_cons ev_c (ea_cons ev_c (ea_cons ev_c ea_nil)))) (Nat.le_of_ble_eq_true rfl)
theorem el_i1 {a : Nat} : EvL (tLst (tCons (tC (.int a)) tNil)) σ H (nv [a]) := el_lst (ea_cons ev_c ea_nil) (Nat.le_of_ble_eq_true rfl)
theorem rec_c {f w : List Nat} {rs : List (List Nat)} {E : XK} (h : EvL te σ H (nv f)) (o : ordB f = true) (R : ringsB f rs = true) (e : rs.reverse.flatten = w) : EvL (tCall sp_record_list [] E (tCons te tNil)) σ H (nv w) := el_call1L h fun p H1 _ hv => sl_recordW hv (ord_of o) (rings_of R) e
theorem sor_c {f w : List Nat} {E : XK} (h : EvL te σ H (nv f)) (o : ordB f = true) (hl : w.length = f.length) (R : (cuts f).all (rgB w) = true) : EvL (tCall sp_of_records [] E (tCons te tNil)) σ H (nv w) := el_call1L h fun p H1 _ hv => sl_of_records hv (ord_of o) hl (cuts_of R)
theorem so_c {w : List Nat} {rs : List (List Nat)} {E : XK} (h : EvLT te σ H (rs.map nv)) (o : ordB w = true) (R : ringsB w rs = true) : EvL (tCall sp_seating_of [] E (tCons te tNil)) σ H (nv w) := el_call1LT h fun p ws H1 _ hv ht => sl_seating_of hv ht (rings_of R) (ord_of o)
end

local macro_rules | `(tactic| walk_at "call") => `(tactic| (with_reducible exact sv_whole))
local macro_rules | `(tactic| walk_at "call") => `(tactic| ((with_reducible refine' sv_ord ?c1 ?c2); (case c1 => assumption); (case c2 => assumption)))

/-! ### the law -/
theorem canLay_dis : ∀ rs : List (List Nat), PyData.canLayAll0 (rs.map di) = true
  | [] => rfl
  | m :: r => by simp [PyData.canLayAll0, PyData.canLay0, di, canLay_ints, canLay_dis r]
theorem depth_dis : ∀ rs : List (List Nat), PyData.depthAll (rs.map di) ≤ 1
  | [] => by simp [PyData.depthAll]
  | m :: r => by
    have := depth_dis r
    simp [PyData.depthAll, PyData.depth, di, depth_ints]
    omega
theorem shaped_dis (rs : List (List Nat)) : SeqAt.shaped (.list (rs.map di)) = true := by
  have := depth_dis rs
  simp [SeqAt.shaped, PyData.canLay0, canLay_dis, PyData.depth]
  omega
def cyc : List Nat := (List.range 19).map (· + 1) ++ [0]
section
variable {K : PySem.W.Frag} {σ : L2.St} {H : Hp} {ta tb te : TE} {p : Addr} {k : Nat}
theorem eu_rgN {m : Nat} (h : Ev tb σ H (.int (m : Int))) (hm : m ≤ 20) : EvU (tTupRg (tRg1 tb)) σ H (nv (List.range m)) := by
  rw [← range_iz]
  exact fun H1 e Q q => h H1 e _ fun H2 e2 => ⟨m, rfl, RgOk.of_le (by decide) (by omega) (by decide) (by omega), fun l hl => q l _ (fresh_back e2 hl) (e2.trans (Ex.new hl)) upd_same⟩
theorem eu_i3 {a b c : Nat} : EvU (tTup (tCons (tC (.int a)) (tCons (tC (.int b)) (tCons (tC (.int c)) tNil)))) σ H (nv [a, b, c]) := eu_tup (ea_cons ev_c (ea_cons ev_c (ea_cons ev_c ea_nil))) (Nat.le_of_ble_eq_true rfl)
theorem eu_i1 {a : Nat} : EvU (tTup (tCons (tC (.int a)) tNil)) σ H (nv [a]) := eu_tup (ea_cons ev_c ea_nil) (Nat.le_of_ble_eq_true rfl)
theorem ep_right {tm : TE} {E : XK} (ha : Ev ta σ H (.ref p)) (hm : EvP p k tm σ H (fun v _ => ∃ m : Nat, v = .int m ∧ 1 ≤ m ∧ m ≤ 20)) : EvP p (k + 201) (tCall sp_law_right [] E (tCons ta (tCons tm tNil))) σ H (fun v _ => v = .bl true) := fun n H1 e hp hn Q q =>
  ha H1 e _ fun H2 e2 => hm n H2 (e.trans e2) (hp.ex e2) (by omega) _ fun v H3 hv p3 e3 => by
    obtain ⟨m, rfl, m1, m2⟩ := hv
    exact ⟨p, n + k, m, rfl, p3, by omega, m1, m2, fun H4 p4 e4 => q _ H4 rfl (p4.mono (by omega)) (hm_trans (hm_trans (hm_of e2) e3) e4)⟩
theorem el_downN {tx : TA} (h : EvA tx σ H [.int 19, .int (-1), .int (-1)]) : EvL (tLstRgC (tRg3 tx)) σ H (nv (List.range 20).reverse) := by
  have e : rgC 19 (-1) ((19 : Int) - (-1)).toNat = nv (List.range 20).reverse := rfl
  rw [← e]
  exact el_down h (by decide) (by decide)
theorem el_cyc : EvL (tOp rCat (tLstRg (tRg2 (tC (.int 1)) (tC (.int 20)))) (tLst (tCons (tC (.int 0)) tNil))) σ H (nv cyc) := by
  have e : rgV 1 20 ++ nv [0] = nv cyc := rfl
  rw [← e]
  exact el_cat (el_rg2 ev_c ev_c (RgOk.of_le (by decide) (by decide) (by decide) (by decide))) (el_i1 (a := 0)) (Nat.le_of_ble_eq_true rfl)
end
theorem max_min5 {m : Int} (h0 : 0 ≤ m) : 0 ≤ (if (if m < 5 then m else 5) > 1 then (if m < 5 then m else 5) else 1) ∧ (if (if m < 5 then m else 5) > 1 then (if m < 5 then m else 5) else 1) ≤ (5 : Int) := by
  split <;> split <;> omega
def sp_law (K : PySem.W.Frag) : Sp := fun vs H Q _ => ∃ (a : Addr) (ns : List Int), vs = [.ref a] ∧ SqL K H a (ns.map V.int) ∧ ns.length ≤ 63 ∧ ∀ H', Q (.bl true) H'
section
variable {P : Program} {w : World} {K : PySem.W.Frag} {mg : Str → Option Value} {base : Heap}
theorem ok_law (T : Tx K mg) : FnOk P w K mg base CX0 8 T.f_law T.d_law ["script"] (sp_law K) := by
  refine T.F_law.ok sc_law (fun vs H Q E h => ?_) (fun cdv A outer s H vs Q E hr h => ?_)
  · obtain ⟨a, ns, rfl, _⟩ := h
    rfl
  · obtain ⟨a, ns, rfl, hs, hl, k⟩ := h
    refine ⟨_, (pss_cons (ps_for PassesOwn.never rfl (pi_range1 (by rfl) T.m_range (pa_cons (pe_callB (call_maxR rfl) (by rfl) T.m_max (by decide +kernel) (pa_cons pe_int (pa_cons (pe_callB (call_minR rfl) (by rfl) T.m_min (by decide +kernel) (pa_cons pe_int (pa_cons (pe_callB call_lenR (by rfl) T.m_len (by decide +kernel) (pa_cons (pv 0) pa_nil)) pa_nil))) pa_nil))) pa_nil)) (pg_name (i := 1) sc_law.nd rfl (Or.inl rfl)) (pss_cons (ps_set (i := 2) sc_law.nd rfl (Or.inl rfl) (pe_call (ok_law_pouch T) (hr.mono (by decide)) (by rfl) T.g_law_pouch T.F_law_pouch.kp T.b_law_pouch .nil pass0 (pa_cons (pv 0) (pa_cons (pv 1) pa_nil))))
      (pss_one (ps_if (PW.pt (pw_or (pt_not (pt_val (pe_call (ok_law_right T) (hr.mono (by decide)) (by rfl) T.g_law_right T.F_law_right.kp T.b_law_right .nil pass0 (pa_cons (pv 2) (pa_cons (pe_op op_add pe_int (pe_call (ok_law_dip T) (hr.mono (by decide)) (by rfl) T.g_law_dip T.F_law_dip.kp T.b_law_dip .nil pass0 (pa_cons (pv 2) (pa_cons pe_int pa_nil)))) pa_nil))))) (pw_or1 (pt_not (pt_val (pe_call (ok_law_right T) (hr.mono (by decide)) (by rfl) T.g_law_right T.F_law_right.kp T.b_law_right .nil pass0 (pa_cons (pv 2) (pa_cons (pe_ix ix_list (pe_lst (pa_cons pe_int (pa_cons pe_int pa_nil))) (pe_call (ok_law_dip T) (hr.mono (by decide)) (by rfl) T.g_law_dip T.F_law_dip.kp T.b_law_dip .nil pass0 (pa_cons (pv 2) (pa_cons pe_int pa_nil))) (fun _ _ => rfl)) pa_nil)))))))) (pss_one (ps_ret pe_bl)) pss_nil))))
      (pss_cons (ps_set (i := 3) sc_law.nd rfl (Or.inl rfl) (pe_lst (pa_cons (pe_call (ok_record_list T) (hr.mono (by decide)) (by rfl) T.g_record_list T.F_record_list.kp T.b_record_list .nil pass0 (pa_cons (pe_lst (pa_cons pe_int (pa_cons pe_int (pa_cons pe_int (pa_cons pe_int pa_nil))))) pa_nil)) (pa_cons (pe_call (ok_seating_of_records T) (hr.mono (by decide)) (by rfl) T.g_seating_of_records T.F_seating_of_records.kp T.b_seating_of_records .nil pass0 (pa_cons (pe_lst (pa_cons pe_int (pa_cons pe_int (pa_cons pe_int (pa_cons pe_int pa_nil))))) pa_nil)) (pa_cons (pe_call (ok_seating_of_records T) (hr.mono (by decide)) (by rfl) T.g_seating_of_records T.F_seating_of_records.kp T.b_seating_of_records .nil pass0 (pa_cons (pe_lst (pa_cons pe_int (pa_cons pe_int (pa_cons pe_int (pa_cons pe_int pa_nil))))) pa_nil)) pa_nil)))))
      (pss_cons (ps_set (i := 3) sc_law.nd rfl (Or.inl rfl) (pe_op op_cat (pv 3) (pe_lst (pa_cons (pe_call (ok_seating_of T) (hr.mono (by decide)) (by rfl) T.g_seating_of T.F_seating_of.kp T.b_seating_of .nil pass0 (pa_cons (pe_lst (pa_cons (pe_tup (pa_cons pe_int (pa_cons pe_int (pa_cons pe_int pa_nil)))) (pa_cons (pe_tup (pa_cons pe_int pa_nil)) pa_nil))) pa_nil)) (pa_cons (pe_call (ok_renamed T) (hr.mono (by decide)) (by rfl) T.g_renamed T.F_renamed.kp T.b_renamed .nil pass0 (pa_cons (pe_lst (pa_cons pe_int (pa_cons pe_int (pa_cons pe_int (pa_cons pe_int pa_nil))))) (pa_cons (pe_lst (pa_cons pe_int (pa_cons pe_int (pa_cons pe_int (pa_cons pe_int pa_nil))))) pa_nil))) (pa_cons (pe_call (ok_record_list T) (hr.mono (by decide)) (by rfl) T.g_record_list T.F_record_list.kp T.b_record_list .nil pass0 (pa_cons (pe_lst (pa_cons pe_int pa_nil)) pa_nil)) pa_nil))))))
      (pss_cons (ps_if (pt_cmpR (op_neD hr.units) (pv 3) (pe_lst (pa_cons (pe_lst (pa_cons pe_int (pa_cons pe_int (pa_cons pe_int (pa_cons pe_int pa_nil))))) (pa_cons (pe_lst (pa_cons pe_int (pa_cons pe_int (pa_cons pe_int (pa_cons pe_int pa_nil))))) (pa_cons (pe_lst (pa_cons pe_int (pa_cons pe_int (pa_cons pe_int (pa_cons pe_int pa_nil))))) (pa_cons (pe_lst (pa_cons pe_int (pa_cons pe_int (pa_cons pe_int (pa_cons pe_int pa_nil))))) (pa_cons (pe_lst (pa_cons pe_int (pa_cons pe_int (pa_cons pe_int (pa_cons pe_int pa_nil))))) (pa_cons (pe_lst (pa_cons pe_int pa_nil)) pa_nil))))))) (nomark _)) (pss_one (ps_ret pe_bl)) pss_nil)
      (pss_cons (ps_set (i := 3) sc_law.nd rfl (Or.inl rfl) (pe_lst (pa_cons (pe_call (ok_record_list T) (hr.mono (by decide)) (by rfl) T.g_record_list T.F_record_list.kp T.b_record_list .nil pass0 (pa_cons (pe_listRg rfl (by rfl) T.m_list (prg_1 (by rfl) T.m_range pe_int)) pa_nil)) (pa_cons (pe_call (ok_seating_of_records T) (hr.mono (by decide)) (by rfl) T.g_seating_of_records T.F_seating_of_records.kp T.b_seating_of_records .nil pass0 (pa_cons (pe_listRg rfl (by rfl) T.m_list (prg_1 (by rfl) T.m_range pe_int)) pa_nil)) (pa_cons (pe_call (ok_seating_of T) (hr.mono (by decide)) (by rfl) T.g_seating_of T.F_seating_of.kp T.b_seating_of .nil pass0 (pa_cons (pe_lst (pa_cons (pe_tupRg rfl (by rfl) T.m_tuple (prg_1 (by rfl) T.m_range pe_int)) pa_nil)) pa_nil)) pa_nil)))))
      (pss_one (ps_ret (pe_cmpR (op_eqD hr.units) (pv 3) (pe_lst (pa_cons (pe_listRgC rfl (by rfl) T.m_list (prg_3 (by rfl) T.m_range (pa_cons pe_int (pa_cons (pe_un un_neg pe_int) (pa_cons (pe_un un_neg pe_int) pa_nil))))) (pa_cons (pe_op op_cat (pe_listRg rfl (by rfl) T.m_list (prg_2 (by rfl) T.m_range pe_int pe_int)) (pe_lst (pa_cons pe_int pa_nil))) (pa_cons (pe_op op_cat (pe_listRg rfl (by rfl) T.m_list (prg_2 (by rfl) T.m_range pe_int pe_int)) (pe_lst (pa_cons pe_int pa_nil))) pa_nil)))) (nomark _))))))))), ?_⟩
    have mm := max_min5 (m := ((ns.map V.int).length : Int)) (by omega)
    refine q_forR1 (by walk_at "ea") ⟨mm.1, Int.le_trans mm.2 (by decide)⟩ (fun i σ' H' => ∃ y1 y2, σ' = [some (.ref a), y1, y2, none] ∧ Ex H H') (fun H1 e1 => ⟨none, none, rfl, e1⟩) ?_ ?_
    · rintro i σ' H' hi ⟨y1, y2, rfl, e⟩
      have hi3 : (i : Int) < 5 := Int.lt_of_lt_of_le hi mm.2
      refine pq_pouch (by walk_at "ea") (ex_l e hs) (by omega) fun p H1 hp e1 hpo => ?_
      refine ps_no (p := p) (k := (0 + 1 + 201) + ((0 + (0 + 0)) + 1 + 201)) (H0 := H') (tp_or (b := false) hp ?_ ?_) e1 hpo (by decide) fun H3 p3 e3 => ?_
      · refine tp_is (b := !true) (tp_not (tp_B ?_)) rfl
        refine ep_right (ev_var rfl) (ep_is (ep_add hp ev_c (ep_dipI (w := 20) hp (ev_var rfl) ev_c (by decide) (by decide))) fun v H4 ⟨r', e', r0', r1'⟩ => ⟨(1 + r').toNat, by rw [e']; exact congrArg V.int (by omega), by omega, by omega⟩)
      · refine tp_is (b := !true) (tp_not (tp_B ?_)) rfl
        refine ep_right (ev_var rfl) (ep_ix (ix := fun v => ∃ r, v = .int r ∧ 0 ≤ r ∧ r < 2) hp (ep_lst (epa_pure hp ev_c (epa_pure hp ev_c epa_nil)) ?_) (ep_dipI (w := 2) hp (ev_var rfl) ev_c (by decide) (by decide)) ?_)
        · rintro vs ⟨_, _, rfl, _, _, _, rfl, _, rfl⟩
          exact Nat.le_of_ble_eq_true rfl
        · rintro vs v ⟨_, _, rfl, rfl, _, _, rfl, rfl, rfl⟩ ⟨r, rfl, r0, r1⟩
          have : r = 0 ∨ r = 1 := by omega
          rcases this with rfl | rfl
          · exact ⟨0, .int 20, rfl, rfl, 20, rfl, by decide, by decide⟩
          · exact ⟨1, .int 1, rfl, rfl, 1, rfl, by decide, by decide⟩
      · exact ⟨_, _, rfl, e.trans (hm_next hp e1 e3)⟩
    · rintro σ' H' ⟨y1, y2, rfl, e⟩
      refine q_asgLB (rs := [[2, 0, 1, 3], [1, 3, 2, 0], [0, 1, 2, 3]]) (elb_lst (lba_cons (rec_c (f := [1, 3, 2, 0]) (rs := [[0, 1, 3], [2]]) (el_i4 (a := 1) (b := 3) (c := 2) (d := 0)) (by decide +kernel) (by decide +kernel) rfl)
        (lba_cons (sor_c (f := [2, 0, 1, 3]) (el_i4 (a := 2) (b := 0) (c := 1) (d := 3)) (by decide +kernel) rfl (by decide +kernel))
        (lba_cons (sor_c (f := [3, 2, 1, 0]) (el_i4 (a := 3) (b := 2) (c := 1) (d := 0)) (by decide +kernel) rfl (by decide +kernel)) lba_nil))) (by decide)) fun t ws H1 ht e1 h1 w1 => ?_
      refine q_asgLB (rs := [[2, 0, 1, 3], [1, 3, 2, 0], [0, 1, 2, 3]] ++ [[1, 3, 2, 0], [3, 1, 0, 2], [0]]) (elb_cat (ev_var rfl) h1 w1 (elb_lst (lba_cons (so_c (rs := [[0, 1, 3], [2]]) (elt_lst (lta_cons (eu_i3 (a := 0) (b := 1) (c := 3)) (lta_cons (eu_i1 (a := 2)) lta_nil)) (by decide)) (by decide +kernel) (by decide +kernel))
        (lba_cons (el_call2LL (el_i4 (a := 1) (b := 3) (c := 2) (d := 0)) (el_i4 (a := 3) (b := 2) (c := 1) (d := 0)) fun p q H2 _ hp hq => sl_renamed hp hq (ord_of (by decide +kernel)) (ord_of (by decide +kernel)) rfl rfl (ren_of (by decide +kernel)))
        (lba_cons (rec_c (f := [0]) (rs := [[0]]) (el_i1 (a := 0)) (by decide +kernel) (by decide +kernel) rfl) lba_nil))) (by decide)) (by decide)) fun t2 ws2 H2 ht2 e2 h2 w2 => ?_
      have w2' : Paired (Lb H2) ws2 [[2, 0, 1, 3], [1, 3, 2, 0], [0, 1, 2, 3], [1, 3, 2, 0], [3, 1, 0, 2], [0]] := w2
      refine q_when (b := false) (et_is (et_test (ev_neD (ed_of (ev_var rfl) (.lst (sq_of h2) (dp_LB w2'))) (ed_LB (rs := [[2, 0, 1, 3], [1, 3, 2, 0], [0, 1, 2, 3], [1, 3, 2, 0], [3, 1, 0, 2], [0]]) (elb_lst (lba_cons (el_i4 (a := 2) (b := 0) (c := 1) (d := 3)) (lba_cons (el_i4 (a := 1) (b := 3) (c := 2) (d := 0)) (lba_cons (el_i4 (a := 0) (b := 1) (c := 2) (d := 3))
        (lba_cons (el_i4 (a := 1) (b := 3) (c := 2) (d := 0)) (lba_cons (el_i4 (a := 3) (b := 1) (c := 0) (d := 2)) (lba_cons (el_i1 (a := 0)) lba_nil)))))) (by decide))) (shaped_dis _) (shaped_dis _))) (by rw [eqv_same (shaped_dis _)]; rfl)) (fun hb => Bool.noConfusion hb) fun _ H3 e3 => ?_
      refine q_asgLB (rs := [(List.range 20).reverse, cyc, cyc]) (elb_lst (lba_cons (rec_c (f := List.range 20) (rs := (List.range 20).map fun x => [x]) (el_rgN (m := 20) ev_c (by decide)) (by decide +kernel) (by decide +kernel) rfl)
        (lba_cons (sor_c (f := List.range 20) (el_rgN (m := 20) ev_c (by decide)) (by decide +kernel) rfl (by decide +kernel))
        (lba_cons (so_c (rs := [List.range 20]) (elt_lst (lta_cons (eu_rgN (m := 20) ev_c (by decide)) lta_nil) (by decide)) (by decide +kernel) (by decide +kernel)) lba_nil))) (by decide)) fun t3 ws3 H4 ht3 e4 h4 w4 => ?_
      refine s_ret (v := .bl true) (ev_is (ev_eqD (ed_of (ev_var rfl) (.lst (sq_of h4) (dp_LB w4))) (ed_LB (rs := [(List.range 20).reverse, cyc, cyc]) (elb_lst (lba_cons (el_downN (ea_cons ev_c (ea_cons (ev_un ev_c ru_neg) (ea_cons (ev_un ev_c ru_neg) ea_nil)))) (lba_cons el_cyc (lba_cons el_cyc lba_nil))) (by decide))) (shaped_dis _) (shaped_dis _)) (by rw [eqv_same (shaped_dis _)])) fun H5 e5 => k H5
end

theorem all_mk {l : PySem.W.OpenLaw} {w : World} {K : PySem.W.Frag} {h : Heap} {mg : Str → Option Value} {fa : Addr} (X : K.In h) (G : h.Ns mainGlobals mg) (hfa : mg "law" = some (.ref fa))
    {f1 : Addr} {od1 an1 : Option Addr} {sl1 : Array (Option Value)} {oc1 kV1 dc1 pm1 cd1 ct1 : Value}
    {f2 : Addr} {od2 an2 : Option Addr} {sl2 : Array (Option Value)} {oc2 kV2 dc2 pm2 cd2 ct2 : Value}
    {f3 : Addr} {od3 an3 : Option Addr} {sl3 : Array (Option Value)} {oc3 kV3 dc3 pm3 cd3 ct3 : Value}
    {f4 : Addr} {od4 an4 : Option Addr} {sl4 : Array (Option Value)} {oc4 kV4 dc4 pm4 cd4 ct4 : Value}
    {f5 : Addr} {od5 an5 : Option Addr} {sl5 : Array (Option Value)} {oc5 kV5 dc5 pm5 cd5 ct5 : Value}
    {f6 : Addr} {od6 an6 : Option Addr} {sl6 : Array (Option Value)} {oc6 kV6 dc6 pm6 cd6 ct6 : Value}
    {f7 : Addr} {od7 an7 : Option Addr} {sl7 : Array (Option Value)} {oc7 kV7 dc7 pm7 cd7 ct7 : Value}
    {f8 : Addr} {od8 an8 : Option Addr} {sl8 : Array (Option Value)} {oc8 kV8 dc8 pm8 cd8 ct8 : Value}
    {f9 : Addr} {od9 an9 : Option Addr} {sl9 : Array (Option Value)} {oc9 kV9 dc9 pm9 cd9 ct9 : Value}
    {f10 : Addr} {od10 an10 : Option Addr} {sl10 : Array (Option Value)} {oc10 kV10 dc10 pm10 cd10 ct10 : Value}
    {f11 : Addr} {od11 an11 : Option Addr} {sl11 : Array (Option Value)} {oc11 kV11 dc11 pm11 cd11 ct11 : Value}
    {f12 : Addr} {od12 an12 : Option Addr} {sl12 : Array (Option Value)} {oc12 kV12 dc12 pm12 cd12 ct12 : Value}
    {f13 : Addr} {od13 an13 : Option Addr} {sl13 : Array (Option Value)} {oc13 kV13 dc13 pm13 cd13 ct13 : Value}
    {f14 : Addr} {od14 an14 : Option Addr} {sl14 : Array (Option Value)} {oc14 kV14 dc14 pm14 cd14 ct14 : Value}
    {f15 : Addr} {od15 an15 : Option Addr} {sl15 : Array (Option Value)} {oc15 kV15 dc15 pm15 cd15 ct15 : Value}
    {f16 : Addr} {od16 an16 : Option Addr} {sl16 : Array (Option Value)} {oc16 kV16 dc16 pm16 cd16 ct16 : Value}
    {f17 : Addr} {od17 an17 : Option Addr} {sl17 : Array (Option Value)} {oc17 kV17 dc17 pm17 cd17 ct17 : Value}
    {f18 : Addr} {od18 an18 : Option Addr} {sl18 : Array (Option Value)} {oc18 kV18 dc18 pm18 cd18 ct18 : Value}
    {f19 : Addr} {od19 an19 : Option Addr} {sl19 : Array (Option Value)} {oc19 kV19 dc19 pm19 cd19 ct19 : Value}
    {f20 : Addr} {od20 an20 : Option Addr} {sl20 : Array (Option Value)} {oc20 kV20 dc20 pm20 cd20 ct20 : Value}
    {f21 : Addr} {od21 an21 : Option Addr} {sl21 : Array (Option Value)} {oc21 kV21 dc21 pm21 cd21 ct21 : Value}
    {f22 : Addr} {od22 an22 : Option Addr} {sl22 : Array (Option Value)} {oc22 kV22 dc22 pm22 cd22 ct22 : Value}
    {f23 : Addr} {od23 an23 : Option Addr} {sl23 : Array (Option Value)} {oc23 kV23 dc23 pm23 cd23 ct23 : Value}
    {f24 : Addr} {od24 an24 : Option Addr} {sl24 : Array (Option Value)} {oc24 kV24 dc24 pm24 cd24 ct24 : Value}
    {t_MOST_GUESTS : Tok}
    (a1 : PySem.W.nsIn K mainGlobals "is_whole" = some (some (.ref f1))) (l1 : K.lookup f1 = some ⟨oc1, od1, .func (PySem.W.fnOf "is_whole" "is_whole" (defArgs s_is_whole) (defBody s_is_whole) (defScope s_is_whole) .none kV1 dc1 pm1 an1 cd1 ct1), sl1⟩) (c1 : PySem.W.codeIn K cd1 "is_whole" = true) (k1 : PySem.W.keepIn K (.ref f1) = true)
    (a2 : PySem.W.nsIn K mainGlobals "is_order" = some (some (.ref f2))) (l2 : K.lookup f2 = some ⟨oc2, od2, .func (PySem.W.fnOf "is_order" "is_order" (defArgs s_is_order) (defBody s_is_order) (defScope s_is_order) .none kV2 dc2 pm2 an2 cd2 ct2), sl2⟩) (c2 : PySem.W.codeIn K cd2 "is_order" = true) (k2 : PySem.W.keepIn K (.ref f2) = true)
    (a3 : PySem.W.nsIn K mainGlobals "is_seating" = some (some (.ref f3))) (l3 : K.lookup f3 = some ⟨oc3, od3, .func (PySem.W.fnOf "is_seating" "is_seating" (defArgs s_is_seating) (defBody s_is_seating) (defScope s_is_seating) .none kV3 dc3 pm3 an3 cd3 ct3), sl3⟩) (c3 : PySem.W.codeIn K cd3 "is_seating" = true) (k3 : PySem.W.keepIn K (.ref f3) = true)
    (a4 : PySem.W.nsIn K mainGlobals "tables_of" = some (some (.ref f4))) (l4 : K.lookup f4 = some ⟨oc4, od4, .func (PySem.W.fnOf "tables_of" "tables_of" (defArgs s_tables_of) (defBody s_tables_of) (defScope s_tables_of) .none kV4 dc4 pm4 an4 cd4 ct4), sl4⟩) (c4 : PySem.W.codeIn K cd4 "tables_of" = true) (k4 : PySem.W.keepIn K (.ref f4) = true)
    (a5 : PySem.W.nsIn K mainGlobals "seating_of" = some (some (.ref f5))) (l5 : K.lookup f5 = some ⟨oc5, od5, .func (PySem.W.fnOf "seating_of" "seating_of" (defArgs s_seating_of) (defBody s_seating_of) (defScope s_seating_of) .none kV5 dc5 pm5 an5 cd5 ct5), sl5⟩) (c5 : PySem.W.codeIn K cd5 "seating_of" = true) (k5 : PySem.W.keepIn K (.ref f5) = true)
    (a6 : PySem.W.nsIn K mainGlobals "renamed" = some (some (.ref f6))) (l6 : K.lookup f6 = some ⟨oc6, od6, .func (PySem.W.fnOf "renamed" "renamed" (defArgs s_renamed) (defBody s_renamed) (defScope s_renamed) .none kV6 dc6 pm6 an6 cd6 ct6), sl6⟩) (c6 : PySem.W.codeIn K cd6 "renamed" = true) (k6 : PySem.W.keepIn K (.ref f6) = true)
    (a7 : PySem.W.nsIn K mainGlobals "record_list" = some (some (.ref f7))) (l7 : K.lookup f7 = some ⟨oc7, od7, .func (PySem.W.fnOf "record_list" "record_list" (defArgs s_record_list) (defBody s_record_list) (defScope s_record_list) .none kV7 dc7 pm7 an7 cd7 ct7), sl7⟩) (c7 : PySem.W.codeIn K cd7 "record_list" = true) (k7 : PySem.W.keepIn K (.ref f7) = true)
    (a8 : PySem.W.nsIn K mainGlobals "seating_of_records" = some (some (.ref f8))) (l8 : K.lookup f8 = some ⟨oc8, od8, .func (PySem.W.fnOf "seating_of_records" "seating_of_records" (defArgs s_seating_of_records) (defBody s_seating_of_records) (defScope s_seating_of_records) .none kV8 dc8 pm8 an8 cd8 ct8), sl8⟩) (c8 : PySem.W.codeIn K cd8 "seating_of_records" = true) (k8 : PySem.W.keepIn K (.ref f8) = true)
    (a9 : PySem.W.nsIn K mainGlobals "check_seating" = some (some (.ref f9))) (l9 : K.lookup f9 = some ⟨oc9, od9, .func (PySem.W.fnOf "check_seating" "check_seating" (defArgs s_check_seating) (defBody s_check_seating) (defScope s_check_seating) .none kV9 dc9 pm9 an9 cd9 ct9), sl9⟩) (c9 : PySem.W.codeIn K cd9 "check_seating" = true) (k9 : PySem.W.keepIn K (.ref f9) = true)
    (a10 : PySem.W.nsIn K mainGlobals "check_names" = some (some (.ref f10))) (l10 : K.lookup f10 = some ⟨oc10, od10, .func (PySem.W.fnOf "check_names" "check_names" (defArgs s_check_names) (defBody s_check_names) (defScope s_check_names) .none kV10 dc10 pm10 an10 cd10 ct10), sl10⟩) (c10 : PySem.W.codeIn K cd10 "check_names" = true) (k10 : PySem.W.keepIn K (.ref f10) = true)
    (a11 : PySem.W.nsIn K mainGlobals "are_tables" = some (some (.ref f11))) (l11 : K.lookup f11 = some ⟨oc11, od11, .func (PySem.W.fnOf "are_tables" "are_tables" (defArgs s_are_tables) (defBody s_are_tables) (defScope s_are_tables) .none kV11 dc11 pm11 an11 cd11 ct11), sl11⟩) (c11 : PySem.W.codeIn K cd11 "are_tables" = true) (k11 : PySem.W.keepIn K (.ref f11) = true)
    (a12 : PySem.W.nsIn K mainGlobals "is_table" = some (some (.ref f12))) (l12 : K.lookup f12 = some ⟨oc12, od12, .func (PySem.W.fnOf "is_table" "is_table" (defArgs s_is_table) (defBody s_is_table) (defScope s_is_table) .none kV12 dc12 pm12 an12 cd12 ct12), sl12⟩) (c12 : PySem.W.codeIn K cd12 "is_table" = true) (k12 : PySem.W.keepIn K (.ref f12) = true)
    (a13 : PySem.W.nsIn K mainGlobals "walk_left" = some (some (.ref f13))) (l13 : K.lookup f13 = some ⟨oc13, od13, .func (PySem.W.fnOf "walk_left" "walk_left" (defArgs s_walk_left) (defBody s_walk_left) (defScope s_walk_left) .none kV13 dc13 pm13 an13 cd13 ct13), sl13⟩) (c13 : PySem.W.codeIn K cd13 "walk_left" = true) (k13 : PySem.W.keepIn K (.ref f13) = true)
    (a14 : PySem.W.nsIn K mainGlobals "tables_among" = some (some (.ref f14))) (l14 : K.lookup f14 = some ⟨oc14, od14, .func (PySem.W.fnOf "tables_among" "tables_among" (defArgs s_tables_among) (defBody s_tables_among) (defScope s_tables_among) .none kV14 dc14 pm14 an14 cd14 ct14), sl14⟩) (c14 : PySem.W.codeIn K cd14 "tables_among" = true) (k14 : PySem.W.keepIn K (.ref f14) = true)
    (a15 : PySem.W.nsIn K mainGlobals "seating_with" = some (some (.ref f15))) (l15 : K.lookup f15 = some ⟨oc15, od15, .func (PySem.W.fnOf "seating_with" "seating_with" (defArgs s_seating_with) (defBody s_seating_with) (defScope s_seating_with) .none kV15 dc15 pm15 an15 cd15 ct15), sl15⟩) (c15 : PySem.W.codeIn K cd15 "seating_with" = true) (k15 : PySem.W.keepIn K (.ref f15) = true)
    (a16 : PySem.W.nsIn K mainGlobals "_law_pouch" = some (some (.ref f16))) (l16 : K.lookup f16 = some ⟨oc16, od16, .func (PySem.W.fnOf "_law_pouch" "_law_pouch" (defArgs s_law_pouch) (defBody s_law_pouch) (defScope s_law_pouch) .none kV16 dc16 pm16 an16 cd16 ct16), sl16⟩) (c16 : PySem.W.codeIn K cd16 "_law_pouch" = true) (k16 : PySem.W.keepIn K (.ref f16) = true)
    (a17 : PySem.W.nsIn K mainGlobals "_law_dip" = some (some (.ref f17))) (l17 : K.lookup f17 = some ⟨oc17, od17, .func (PySem.W.fnOf "_law_dip" "_law_dip" (defArgs s_law_dip) (defBody s_law_dip) (defScope s_law_dip) .none kV17 dc17 pm17 an17 cd17 ct17), sl17⟩) (c17 : PySem.W.codeIn K cd17 "_law_dip" = true) (k17 : PySem.W.keepIn K (.ref f17) = true)
    (a18 : PySem.W.nsIn K mainGlobals "_law_entries" = some (some (.ref f18))) (l18 : K.lookup f18 = some ⟨oc18, od18, .func (PySem.W.fnOf "_law_entries" "_law_entries" (defArgs s_law_entries) (defBody s_law_entries) (defScope s_law_entries) .none kV18 dc18 pm18 an18 cd18 ct18), sl18⟩) (c18 : PySem.W.codeIn K cd18 "_law_entries" = true) (k18 : PySem.W.keepIn K (.ref f18) = true)
    (a19 : PySem.W.nsIn K mainGlobals "_law_rings" = some (some (.ref f19))) (l19 : K.lookup f19 = some ⟨oc19, od19, .func (PySem.W.fnOf "_law_rings" "_law_rings" (defArgs s_law_rings) (defBody s_law_rings) (defScope s_law_rings) .none kV19 dc19 pm19 an19 cd19 ct19), sl19⟩) (c19 : PySem.W.codeIn K cd19 "_law_rings" = true) (k19 : PySem.W.keepIn K (.ref f19) = true)
    (a20 : PySem.W.nsIn K mainGlobals "_law_seat" = some (some (.ref f20))) (l20 : K.lookup f20 = some ⟨oc20, od20, .func (PySem.W.fnOf "_law_seat" "_law_seat" (defArgs s_law_seat) (defBody s_law_seat) (defScope s_law_seat) .none kV20 dc20 pm20 an20 cd20 ct20), sl20⟩) (c20 : PySem.W.codeIn K cd20 "_law_seat" = true) (k20 : PySem.W.keepIn K (.ref f20) = true)
    (a21 : PySem.W.nsIn K mainGlobals "_law_mixed" = some (some (.ref f21))) (l21 : K.lookup f21 = some ⟨oc21, od21, .func (PySem.W.fnOf "_law_mixed" "_law_mixed" (defArgs s_law_mixed) (defBody s_law_mixed) (defScope s_law_mixed) .none kV21 dc21 pm21 an21 cd21 ct21), sl21⟩) (c21 : PySem.W.codeIn K cd21 "_law_mixed" = true) (k21 : PySem.W.keepIn K (.ref f21) = true)
    (a22 : PySem.W.nsIn K mainGlobals "_law_cut" = some (some (.ref f22))) (l22 : K.lookup f22 = some ⟨oc22, od22, .func (PySem.W.fnOf "_law_cut" "_law_cut" (defArgs s_law_cut) (defBody s_law_cut) (defScope s_law_cut) .none kV22 dc22 pm22 an22 cd22 ct22), sl22⟩) (c22 : PySem.W.codeIn K cd22 "_law_cut" = true) (k22 : PySem.W.keepIn K (.ref f22) = true)
    (a23 : PySem.W.nsIn K mainGlobals "_law_right" = some (some (.ref f23))) (l23 : K.lookup f23 = some ⟨oc23, od23, .func (PySem.W.fnOf "_law_right" "_law_right" (defArgs s_law_right) (defBody s_law_right) (defScope s_law_right) .none kV23 dc23 pm23 an23 cd23 ct23), sl23⟩) (c23 : PySem.W.codeIn K cd23 "_law_right" = true) (k23 : PySem.W.keepIn K (.ref f23) = true)
    (a24 : PySem.W.nsIn K mainGlobals "law" = some (some (.ref f24))) (l24 : K.lookup f24 = some ⟨oc24, od24, .func (PySem.W.fnOf "law" "law" (defArgs s_law) (defBody s_law) (defScope s_law) .none kV24 dc24 pm24 an24 cd24 ct24), sl24⟩) (c24 : PySem.W.codeIn K cd24 "law" = true) (k24 : PySem.W.keepIn K (.ref f24) = true)
    (z_abs : PySem.W.nsIn K mainGlobals "abs" = some none)
    (z_all : PySem.W.nsIn K mainGlobals "all" = some none)
    (z_enumerate : PySem.W.nsIn K mainGlobals "enumerate" = some none)
    (z_int : PySem.W.nsIn K mainGlobals "int" = some none)
    (z_len : PySem.W.nsIn K mainGlobals "len" = some none)
    (z_list : PySem.W.nsIn K mainGlobals "list" = some none)
    (z_max : PySem.W.nsIn K mainGlobals "max" = some none)
    (z_min : PySem.W.nsIn K mainGlobals "min" = some none)
    (z_range : PySem.W.nsIn K mainGlobals "range" = some none)
    (z_sorted : PySem.W.nsIn K mainGlobals "sorted" = some none)
    (z_sum : PySem.W.nsIn K mainGlobals "sum" = some none)
    (z_tuple : PySem.W.nsIn K mainGlobals "tuple" = some none)
    (z_type : PySem.W.nsIn K mainGlobals "type" = some none)
    (z_zip : PySem.W.nsIn K mainGlobals "zip" = some none)
    (y_MOST_GUESTS : PySem.W.nsIn K mainGlobals "MOST_GUESTS" = some (some (.int 20 t_MOST_GUESTS)))
    : ∃ fd : FuncData, (∀ (s : Shared) (v : Value), BindsTo s fd ⟨[v], []⟩ [("script", v)]) ∧ ∀ base : Heap, K.In base → base.Ns mainGlobals mg → FnOk l.prog w K mg base CX0 8 fa fd ["script"] (sp_law K) := by
  have e := hfa.symm.trans (PySem.W.mg_of X G a24)
  cases e
  have F1 := fun_mk (st := s_is_whole) l1 c1 k1
  have F2 := fun_mk (st := s_is_order) l2 c2 k2
  have F3 := fun_mk (st := s_is_seating) l3 c3 k3
  have F4 := fun_mk (st := s_tables_of) l4 c4 k4
  have F5 := fun_mk (st := s_seating_of) l5 c5 k5
  have F6 := fun_mk (st := s_renamed) l6 c6 k6
  have F7 := fun_mk (st := s_record_list) l7 c7 k7
  have F8 := fun_mk (st := s_seating_of_records) l8 c8 k8
  have F9 := fun_mk (st := s_check_seating) l9 c9 k9
  have F10 := fun_mk (st := s_check_names) l10 c10 k10
  have F11 := fun_mk (st := s_are_tables) l11 c11 k11
  have F12 := fun_mk (st := s_is_table) l12 c12 k12
  have F13 := fun_mk (st := s_walk_left) l13 c13 k13
  have F14 := fun_mk (st := s_tables_among) l14 c14 k14
  have F15 := fun_mk (st := s_seating_with) l15 c15 k15
  have F16 := fun_mk (st := s_law_pouch) l16 c16 k16
  have F17 := fun_mk (st := s_law_dip) l17 c17 k17
  have F18 := fun_mk (st := s_law_entries) l18 c18 k18
  have F19 := fun_mk (st := s_law_rings) l19 c19 k19
  have F20 := fun_mk (st := s_law_seat) l20 c20 k20
  have F21 := fun_mk (st := s_law_mixed) l21 c21 k21
  have F22 := fun_mk (st := s_law_cut) l22 c22 k22
  have F23 := fun_mk (st := s_law_right) l23 c23 k23
  have F24 := fun_mk (st := s_law) l24 c24 k24
  let T : Tx K mg :=
    { f_is_whole := f1, d_is_whole := _, F_is_whole := F1, g_is_whole := PySem.W.mg_of X G a1, b_is_whole := F1.binds (ps := ["thing"]) fun _ _ _ _ _ _ us hl => match us, hl with | [_], _ => rfl,
      f_is_order := f2, d_is_order := _, F_is_order := F2, g_is_order := PySem.W.mg_of X G a2, b_is_order := F2.binds (ps := ["thing"]) fun _ _ _ _ _ _ us hl => match us, hl with | [_], _ => rfl,
      f_is_seating := f3, d_is_seating := _, F_is_seating := F3, g_is_seating := PySem.W.mg_of X G a3, b_is_seating := F3.binds (ps := ["thing"]) fun _ _ _ _ _ _ us hl => match us, hl with | [_], _ => rfl,
      f_tables_of := f4, d_tables_of := _, F_tables_of := F4, g_tables_of := PySem.W.mg_of X G a4, b_tables_of := F4.binds (ps := ["seating"]) fun _ _ _ _ _ _ us hl => match us, hl with | [_], _ => rfl,
      f_seating_of := f5, d_seating_of := _, F_seating_of := F5, g_seating_of := PySem.W.mg_of X G a5, b_seating_of := F5.binds (ps := ["tables"]) fun _ _ _ _ _ _ us hl => match us, hl with | [_], _ => rfl,
      f_renamed := f6, d_renamed := _, F_renamed := F6, g_renamed := PySem.W.mg_of X G a6, b_renamed := F6.binds (ps := ["seating", "names"]) fun _ _ _ _ _ _ us hl => match us, hl with | [_, _], _ => rfl,
      f_record_list := f7, d_record_list := _, F_record_list := F7, g_record_list := PySem.W.mg_of X G a7, b_record_list := F7.binds (ps := ["seating"]) fun _ _ _ _ _ _ us hl => match us, hl with | [_], _ => rfl,
      f_seating_of_records := f8, d_seating_of_records := _, F_seating_of_records := F8, g_seating_of_records := PySem.W.mg_of X G a8, b_seating_of_records := F8.binds (ps := ["names"]) fun _ _ _ _ _ _ us hl => match us, hl with | [_], _ => rfl,
      f_check_seating := f9, d_check_seating := _, F_check_seating := F9, g_check_seating := PySem.W.mg_of X G a9, b_check_seating := F9.binds (ps := ["seating"]) fun _ _ _ _ _ _ us hl => match us, hl with | [_], _ => rfl,
      f_check_names := f10, d_check_names := _, F_check_names := F10, g_check_names := PySem.W.mg_of X G a10, b_check_names := F10.binds (ps := ["names"]) fun _ _ _ _ _ _ us hl => match us, hl with | [_], _ => rfl,
      f_are_tables := f11, d_are_tables := _, F_are_tables := F11, g_are_tables := PySem.W.mg_of X G a11, b_are_tables := F11.binds (ps := ["thing"]) fun _ _ _ _ _ _ us hl => match us, hl with | [_], _ => rfl,
      f_is_table := f12, d_is_table := _, F_is_table := F12, g_is_table := PySem.W.mg_of X G a12, b_is_table := F12.binds (ps := ["thing"]) fun _ _ _ _ _ _ us hl => match us, hl with | [_], _ => rfl,
      f_walk_left := f13, d_walk_left := _, F_walk_left := F13, g_walk_left := PySem.W.mg_of X G a13, b_walk_left := F13.binds (ps := ["lefts", "guest"]) fun _ _ _ _ _ _ us hl => match us, hl with | [_, _], _ => rfl,
      f_tables_among := f14, d_tables_among := _, F_tables_among := F14, g_tables_among := PySem.W.mg_of X G a14, b_tables_among := F14.binds (ps := ["lefts", "guests"]) fun _ _ _ _ _ _ us hl => match us, hl with | [_, _], _ => rfl,
      f_seating_with := f15, d_seating_with := _, F_seating_with := F15, g_seating_with := PySem.W.mg_of X G a15, b_seating_with := F15.binds (ps := ["tables"]) fun _ _ _ _ _ _ us hl => match us, hl with | [_], _ => rfl,
      f_law_pouch := f16, d_law_pouch := _, F_law_pouch := F16, g_law_pouch := PySem.W.mg_of X G a16, b_law_pouch := F16.binds (ps := ["script", "at"]) fun _ _ _ _ _ _ us hl => match us, hl with | [_, _], _ => rfl,
      f_law_dip := f17, d_law_dip := _, F_law_dip := F17, g_law_dip := PySem.W.mg_of X G a17, b_law_dip := F17.binds (ps := ["pouch", "wide"]) fun _ _ _ _ _ _ us hl => match us, hl with | [_, _], _ => rfl,
      f_law_entries := f18, d_law_entries := _, F_law_entries := F18, g_law_entries := PySem.W.mg_of X G a18, b_law_entries := F18.binds (ps := ["pouch", "many"]) fun _ _ _ _ _ _ us hl => match us, hl with | [_, _], _ => rfl,
      f_law_rings := f19, d_law_rings := _, F_law_rings := F19, g_law_rings := PySem.W.mg_of X G a19, b_law_rings := F19.binds (ps := ["entries"]) fun _ _ _ _ _ _ us hl => match us, hl with | [_], _ => rfl,
      f_law_seat := f20, d_law_seat := _, F_law_seat := F20, g_law_seat := PySem.W.mg_of X G a20, b_law_seat := F20.binds (ps := ["rings"]) fun _ _ _ _ _ _ us hl => match us, hl with | [_], _ => rfl,
      f_law_mixed := f21, d_law_mixed := _, F_law_mixed := F21, g_law_mixed := PySem.W.mg_of X G a21, b_law_mixed := F21.binds (ps := ["pouch", "many"]) fun _ _ _ _ _ _ us hl => match us, hl with | [_, _], _ => rfl,
      f_law_cut := f22, d_law_cut := _, F_law_cut := F22, g_law_cut := PySem.W.mg_of X G a22, b_law_cut := F22.binds (ps := ["row"]) fun _ _ _ _ _ _ us hl => match us, hl with | [_], _ => rfl,
      f_law_right := f23, d_law_right := _, F_law_right := F23, g_law_right := PySem.W.mg_of X G a23, b_law_right := F23.binds (ps := ["pouch", "many"]) fun _ _ _ _ _ _ us hl => match us, hl with | [_, _], _ => rfl,
      f_law := fa, d_law := _, F_law := F24, g_law := PySem.W.mg_of X G a24, b_law := F24.binds (ps := ["script"]) fun _ _ _ _ _ _ us hl => match us, hl with | [_], _ => rfl,
      m_abs := PySem.W.mg_none_of X G z_abs,
      m_all := PySem.W.mg_none_of X G z_all,
      m_enumerate := PySem.W.mg_none_of X G z_enumerate,
      m_int := PySem.W.mg_none_of X G z_int,
      m_len := PySem.W.mg_none_of X G z_len,
      m_list := PySem.W.mg_none_of X G z_list,
      m_max := PySem.W.mg_none_of X G z_max,
      m_min := PySem.W.mg_none_of X G z_min,
      m_range := PySem.W.mg_none_of X G z_range,
      m_sorted := PySem.W.mg_none_of X G z_sorted,
      m_sum := PySem.W.mg_none_of X G z_sum,
      m_tuple := PySem.W.mg_none_of X G z_tuple,
      m_type := PySem.W.mg_none_of X G z_type,
      m_zip := PySem.W.mg_none_of X G z_zip,
      c_MOST_GUESTS := ⟨_, PySem.W.mg_of X G y_MOST_GUESTS, ⟨_, rfl⟩⟩,
      kb_renamed_0_names_seating := ⟨(fun s us ws _ hl => match us, ws, hl with | [], [_, _], _ => .of_eq rfl | (_ :: _), _, hl => absurd (show (0 : Nat) = 2 from hl) (by decide) | [], [], hl => absurd (show (0 : Nat) = 2 from hl) (by decide) | [], (_ :: []), hl => absurd (show (0 : Nat) = 2 from hl) (by decide) | [], (_ :: (_ :: (_ :: _))), hl => absurd (show (0 : Nat) = 2 from hl) (by decide)), (fun {vs us zs ws} r z => match r, z with | .nil, (.cons b0 (.cons b1 .nil)) => (.cons b1 (.cons b0 .nil)) | (.cons _ _), _ => .nil | .nil, .nil => .nil | .nil, (.cons _ .nil) => .nil | .nil, (.cons _ (.cons _ (.cons _ _))) => .nil)⟩,
      kb_seating_of_records_0_names := ⟨(fun s us ws _ hl => match us, ws, hl with | [], [_], _ => .of_eq rfl | (_ :: _), _, hl => absurd (show (0 : Nat) = 1 from hl) (by decide) | [], [], hl => absurd (show (0 : Nat) = 1 from hl) (by decide) | [], (_ :: (_ :: _)), hl => absurd (show (0 : Nat) = 1 from hl) (by decide)), (fun {vs us zs ws} r z => match r, z with | .nil, (.cons b0 .nil) => (.cons b0 .nil) | (.cons _ _), _ => .nil | .nil, .nil => .nil | .nil, (.cons _ (.cons _ _)) => .nil)⟩,
      kb_record_list_0_seating := ⟨(fun s us ws _ hl => match us, ws, hl with | [], [_], _ => .of_eq rfl | (_ :: _), _, hl => absurd (show (0 : Nat) = 1 from hl) (by decide) | [], [], hl => absurd (show (0 : Nat) = 1 from hl) (by decide) | [], (_ :: (_ :: _)), hl => absurd (show (0 : Nat) = 1 from hl) (by decide)), (fun {vs us zs ws} r z => match r, z with | .nil, (.cons b0 .nil) => (.cons b0 .nil) | (.cons _ _), _ => .nil | .nil, .nil => .nil | .nil, (.cons _ (.cons _ _)) => .nil)⟩,
      kb_seating_of_0_tables := ⟨(fun s us ws _ hl => match us, ws, hl with | [], [_], _ => .of_eq rfl | (_ :: _), _, hl => absurd (show (0 : Nat) = 1 from hl) (by decide) | [], [], hl => absurd (show (0 : Nat) = 1 from hl) (by decide) | [], (_ :: (_ :: _)), hl => absurd (show (0 : Nat) = 1 from hl) (by decide)), (fun {vs us zs ws} r z => match r, z with | .nil, (.cons b0 .nil) => (.cons b0 .nil) | (.cons _ _), _ => .nil | .nil, .nil => .nil | .nil, (.cons _ (.cons _ _)) => .nil)⟩ }
  exact ⟨PySem.W.fnOf "law" "law" (defArgs s_law) (defBody s_law) (defScope s_law) .none kV24 dc24 pm24 an24 cd24 ct24, fun s v => .of_eq rfl, fun base _ _ => ok_law T⟩
end K03
open PySem PySem.W PyProof.Rows
set_option maxRecDepth 100000 in
set_option maxHeartbeats 0 in
theorem PySem.Challenge.cw_newtables_k03_tables_and_records_holds : PySem.Challenge.rw_newtables_k03_tables_and_records.Holds := by
  w_on; o_law; k_head; (case hw => w_witness2)
  k_fill
  refine L2.walk_of (l := PySem.Challenge.rw_newtables_k03_tables_and_records) (n := 63) (k := 8) (x := "script") (CX := fun _ => L2.CX0) (sp := fun w => K03.sp_law _) rfl (by decide) rfl ⟨rfl, by decide, by decide⟩ (fun w h Y => PySem.W.kIn_of Y) ?F (fun _ _ a ns hl _ hS => ⟨a, ns, rfl, hS, hl, fun _ => rfl⟩) (fun _ _ _ _ _ h => h)
  case F =>
    intro w mg fa h KX G hmg
    refine' K03.all_mk KX G hmg ?a1 ?l1 ?c1 ?k1 ?a2 ?l2 ?c2 ?k2 ?a3 ?l3 ?c3 ?k3 ?a4 ?l4 ?c4 ?k4 ?a5 ?l5 ?c5 ?k5 ?a6 ?l6 ?c6 ?k6 ?a7 ?l7 ?c7 ?k7 ?a8 ?l8 ?c8 ?k8 ?a9 ?l9 ?c9 ?k9 ?a10 ?l10 ?c10 ?k10 ?a11 ?l11 ?c11 ?k11 ?a12 ?l12 ?c12 ?k12 ?a13 ?l13 ?c13 ?k13 ?a14 ?l14 ?c14 ?k14 ?a15 ?l15 ?c15 ?k15 ?a16 ?l16 ?c16 ?k16 ?a17 ?l17 ?c17 ?k17 ?a18 ?l18 ?c18 ?k18 ?a19 ?l19 ?c19 ?k19 ?a20 ?l20 ?c20 ?k20 ?a21 ?l21 ?c21 ?k21 ?a22 ?l22 ?c22 ?k22 ?a23 ?l23 ?c23 ?k23 ?a24 ?l24 ?c24 ?k24 ?z_abs ?z_all ?z_enumerate ?z_int ?z_len ?z_list ?z_max ?z_min ?z_range ?z_sorted ?z_sum ?z_tuple ?z_type ?z_zip ?y_MOST_GUESTS
    (case a1 => k_is); (case l1 => k_is); (case c1 => k_is); (case k1 => k_is); (case a2 => k_is); (case l2 => k_is)
    (case c2 => k_is); (case k2 => k_is); (case a3 => k_is); (case l3 => k_is); (case c3 => k_is); (case k3 => k_is)
    (case a4 => k_is); (case l4 => k_is); (case c4 => k_is); (case k4 => k_is); (case a5 => k_is); (case l5 => k_is)
    (case c5 => k_is); (case k5 => k_is); (case a6 => k_is); (case l6 => k_is); (case c6 => k_is); (case k6 => k_is)
    (case a7 => k_is); (case l7 => k_is); (case c7 => k_is); (case k7 => k_is); (case a8 => k_is); (case l8 => k_is)
    (case c8 => k_is); (case k8 => k_is); (case a9 => k_is); (case l9 => k_is); (case c9 => k_is); (case k9 => k_is)
    (case a10 => k_is); (case l10 => k_is); (case c10 => k_is); (case k10 => k_is); (case a11 => k_is); (case l11 => k_is)
    (case c11 => k_is); (case k11 => k_is); (case a12 => k_is); (case l12 => k_is); (case c12 => k_is); (case k12 => k_is)
    (case a13 => k_is); (case l13 => k_is); (case c13 => k_is); (case k13 => k_is); (case a14 => k_is); (case l14 => k_is)
    (case c14 => k_is); (case k14 => k_is); (case a15 => k_is); (case l15 => k_is); (case c15 => k_is); (case k15 => k_is)
    (case a16 => k_is); (case l16 => k_is); (case c16 => k_is); (case k16 => k_is); (case a17 => k_is); (case l17 => k_is)
    (case c17 => k_is); (case k17 => k_is); (case a18 => k_is); (case l18 => k_is); (case c18 => k_is); (case k18 => k_is)
    (case a19 => k_is); (case l19 => k_is); (case c19 => k_is); (case k19 => k_is); (case a20 => k_is); (case l20 => k_is)
    (case c20 => k_is); (case k20 => k_is); (case a21 => k_is); (case l21 => k_is); (case c21 => k_is); (case k21 => k_is)
    (case a22 => k_is); (case l22 => k_is); (case c22 => k_is); (case k22 => k_is); (case a23 => k_is); (case l23 => k_is)
    (case c23 => k_is); (case k23 => k_is); (case a24 => k_is); (case l24 => k_is); (case c24 => k_is); (case k24 => k_is)
    (case z_abs => k_is); (case z_all => k_is); (case z_enumerate => k_is); (case z_int => k_is); (case z_len => k_is); (case z_list => k_is)
    (case z_max => k_is); (case z_min => k_is); (case z_range => k_is); (case z_sorted => k_is); (case z_sum => k_is); (case z_tuple => k_is)
    (case z_type => k_is); (case z_zip => k_is); (case y_MOST_GUESTS => k_is)
