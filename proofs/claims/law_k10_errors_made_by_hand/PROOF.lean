import PyProof.Rows.All
import Wide.All
import OpenK.AllK
import Wide.FinOn
import HandS.ForMost
import HandS.ForExc
import HandS.Wide
import HandS.IsInst
import HandS.ExcInit
import HandS.ExcValue
import HandS.Flow
import HandS.ExcIs
import HandS.ExcField
import KE.KExcIs
import HandS.DeepEq
import HandS.HotCalls
import HandS.ExcCtx
import PySem.Challenge.RW_contractheirs_k10_errors_made_by_hand
set_option Elab.async false
set_option linter.all false
set_option maxRecDepth 100000
set_option maxHeartbeats 8000000
namespace Kx
open PySem L2
def top (i : Nat) : Stmt := PySem.Challenge.pw_contractheirs_k10_errors_made_by_hand.main.body.getD i (.Pass ⟨0, 0, 0, 0⟩)
abbrev sWell : Stmt := top 21
abbrev sDraw : Stmt := top 22
abbrev sOne : Stmt := top 23

/-- a source of draws as it stands: three whole numbers, the last one small -/
def WellAt (H : Hp) (p : Addr) (n : Int) : Prop := ∃ a b c : Int, H p = some (.lst [.int a, .int b, .int c]) ∧ 0 ≤ b ∧ b < 4294967296 ∧ 0 ≤ c ∧ c ≤ n
def spWell : Sp := fun vs H Q _ => ∃ c : Int, vs = [.int c] ∧ ∀ p H', H p = none → Same H H' → WellAt H' p 0 → Q (.ref p) H'
def spDraw : Sp := fun vs H Q _ => ∃ (p : Addr) (m n : Int), vs = [.ref p, .int m] ∧ WellAt H p n ∧ n ≤ 1000000 ∧ 0 < m ∧ m < 1000000 ∧
  ∀ (r : Int) (xs : List V), 0 ≤ r → r < m → WellAt (upd H p (.lst xs)) p (n + 1) → Q (.int r) (upd H p (.lst xs))
def spOne (K : PySem.W.Frag) : Sp := fun vs H Q _ => ∃ (p q : Addr) (n : Int) (ys : List V), vs = [.ref p, .ref q] ∧ WellAt H p n ∧ n ≤ 1000000 ∧ p ≠ q ∧ SqL K H q ys ∧ 0 < ys.length ∧ ys.length < 1000000 ∧
  ∀ (r : Nat) (v : V) (xs : List V), ys[r]? = some v → WellAt (upd H p (.lst xs)) p (n + 1) → Q v (upd H p (.lst xs))

structure Bl (mg : Str → Option Value) : Prop where
  int : mg "int" = none
  len : mg "len" = none

section
variable {P : Program} {w : World} {K : PySem.W.Frag} {mg : Str → Option Value} {base : Heap}
theorem scW : FnScope ["_law_cell"] ["_law_cell"] (defScope sWell) := ⟨rfl, rfl, rfl, by decide +kernel, rfl, by decide +kernel, by decide +kernel⟩
theorem ok_well {f : Addr} {fd : FuncData} (F : Fun K "_law_well" "_law_well" sWell f fd) (T : Bl mg) : FnOk P w K mg base CX0 1 f fd ["_law_cell"] spWell := by
  refine F.ok scW (fun vs H Q E h => ?_) (fun cdv A outer s H vs Q E hr h => ?_)
  · obtain ⟨c, rfl, _⟩ := h
    rfl
  · obtain ⟨c, rfl, k⟩ := h
    have hu := hu_of hr
    refine ⟨_, pss_one (ps_ret (pe_lst (pa_cons (pe_op op_mul (pv 0) (pe_callTy call_int1 (by rfl) T.int (by decide +kernel) (pa_cons (pe_cmpR op_ge (pv 0) (pe_op op_pow pe_int pe_int) (nomark _)) pa_nil)))
      (pa_cons (pe_op op_mod (pe_callTy call_int1 (by rfl) T.int (by decide +kernel) (pa_cons (pv 0) pa_nil)) pe_int) (pa_cons pe_int pa_nil))))), ?_⟩
    refine ⟨_, rfl, _, rfl, _, _, rfl, rfl, ⟨by decide, by decide, by decide⟩, _, _, rfl, rfl, .inr ⟨_, rfl, _, _, rfl, rfl, .inr ?_, _, rfl, .inl ⟨_, rfl, _, _, rfl, rfl, (by show (0 : Int) < 2147483629; decide), (by show 3 ≤ sizeLine; decide), fun p hp => ?_⟩⟩⟩
    · split <;> omega
    · refine k p _ hp (fun b o e => ?_) ⟨_, _, 0, upd_same, Int.emod_nonneg _ (by decide), ?_, Int.le_refl _, Int.le_refl _⟩
      · rw [upd_ne (ne_of_none e hp)]
        exact e
      · have := Int.emod_lt_of_pos c (show (0 : Int) < 2147483629 by decide)
        omega
theorem ml (x : Int) : -(2 ^ 64) < x % 2147483647 ∧ x % 2147483647 < 2 ^ 64 := by omega
theorem scD : FnScope ["_law_well_here", "_law_base", "_law_digit", "_law_number"] ["_law_well_here", "_law_base"] (defScope sDraw) := ⟨rfl, rfl, rfl, by decide +kernel, rfl, by decide +kernel, by decide +kernel⟩
theorem ok_draw {f : Addr} {fd : FuncData} (F : Fun K "_law_draw" "_law_draw" sDraw f fd) (T : Bl mg) : FnOk P w K mg base CX0 1 f fd ["_law_well_here", "_law_base"] spDraw := by
  refine F.ok scD (fun vs H Q E h => ?_) (fun cdv A outer s H vs Q E hr h => ?_)
  · obtain ⟨p, m, n, rfl, _⟩ := h
    rfl
  · obtain ⟨p, m, n, rfl, ⟨a, b, c, hp, hb0, hb1, hc0, hcn⟩, hn, hm0, hm1, k⟩ := h
    have hu := hu_of hr
    refine ⟨_, pss_cons (ps_if (pt_cmpR op_gt (pe_ix ix_list (pv 0) pe_int (fun _ _ => rfl)) pe_int (nomark _))
        (pss_cons (ps_set (i := 2) scD.nd rfl (Or.inl rfl) (pe_op op_mod (pe_callTy call_int1 (by rfl) T.int (by decide +kernel) (pa_cons (pe_ix ix_list (pv 0) pe_int (fun _ _ => rfl)) pa_nil)) (pv 1)))
        (pss_cons (ps_asg (pe_op op_fdivW (pe_ix ix_list (pv 0) pe_int (fun _ _ => rfl)) (pv 1)) (pg_sub (pv 0) pe_int set_list))
        (pss_one (ps_ret (pv 2))))) pss_nil)
      (pss_cons (ps_asg (pe_op op_add (pe_ix ix_list (pv 0) pe_int (fun _ _ => rfl)) pe_int) (pg_sub (pv 0) pe_int set_list))
      (pss_cons (ps_set (i := 3) scD.nd rfl (Or.inl rfl) (pe_op op_mod (pe_callTy call_int1 (by rfl) T.int (by decide +kernel) (pa_cons (pe_op op_mul (pe_callTy call_int1 (by rfl) T.int (by decide +kernel) (pa_cons
          (pe_op op_add (pe_op op_add (pe_ix ix_list (pv 0) pe_int (fun _ _ => rfl)) (pe_op op_mul pe_int (pe_ix ix_list (pv 0) pe_int (fun _ _ => rfl)))) pe_int) pa_nil)) pe_int) pa_nil)) pe_int))
      (pss_cons (ps_set (i := 3) scD.nd rfl (Or.inl rfl) (pe_op op_mod (pe_callTy call_int1 (by rfl) T.int (by decide +kernel) (pa_cons (pe_op op_mul (pv 3) (pe_op op_add (pe_op op_fdiv (pv 3) pe_int) pe_int)) pa_nil)) pe_int))
      (pss_one (ps_ret (pe_op op_mod (pe_callTy call_int1 (by rfl) T.int (by decide +kernel) (pa_cons (pe_op op_mod (pe_callTy call_int1 (by rfl) T.int (by decide +kernel) (pa_cons (pe_op op_mul (pv 3) (pe_op op_add (pe_op op_fdiv (pv 3) pe_int) pe_int)) pa_nil)) pe_int) pa_nil)) (pv 1))))))), ?_⟩
    have g0 : ∀ (x y z : V), atI [x, y, z] 0 = some x := fun _ _ _ => rfl
    have g1 : ∀ (x y z : V), atI [x, y, z] 1 = some y := fun _ _ _ => rfl
    have g2 : ∀ (x y z : V), atI [x, y, z] 2 = some z := fun _ _ _ => rfl
    have hc1 : c + 1 ≤ n + 1 := by omega
    refine ⟨_, rfl, p, _, _, _, rfl, rfl, SqL.of hp, g0 _ _ _, _, _, rfl, rfl, _, rfl, ?_⟩
    refine ite2 (fun _ => ?_) (fun _ => ?_)
    · refine ⟨_, rfl, p, _, _, _, rfl, rfl, SqL.of hp, g0 _ _ _, .inl ⟨_, rfl, _, rfl, _, _, rfl, rfl, hm0, ?_⟩⟩
      refine ⟨_, rfl, p, _, _, _, rfl, rfl, SqL.of hp, g0 _ _ _, _, rfl, _, _, rfl, rfl, wide_div (b := 20) hm0 (by omega) (by decide) (by decide), _, rfl, p, _, _, 0, rfl, rfl, hp, rfl, _, rfl, ?_⟩
      exact k _ _ (Int.emod_nonneg _ (by omega)) (Int.emod_lt_of_pos _ hm0) ⟨_, b, c, upd_same, hb0, hb1, hc0, by omega⟩
    · refine ⟨_, rfl, p, _, _, _, rfl, rfl, SqL.of hp, g2 _ _ _, _, _, rfl, rfl, _, rfl, p, _, _, 2, rfl, rfl, hp, rfl, ?_⟩
      have e2 : (upd H p (.lst [.int a, .int b, .int (c + 1)])) p = some (.lst [.int a, .int b, .int (c + 1)]) := upd_same
      refine ⟨_, rfl, p, _, _, _, rfl, rfl, SqL.of e2, g1 _ _ _, _, rfl, p, _, _, _, rfl, rfl, SqL.of e2, g2 _ _ _, _, _, rfl, rfl, .inl ⟨by decide, by decide⟩, _, _, rfl, rfl, _, _, rfl, rfl,
        .inl ⟨_, rfl, _, _, rfl, rfl, .inr ⟨by decide, by decide⟩, .inl ⟨_, rfl, _, _, rfl, rfl, (by show (0 : Int) < 2147483647; decide), ?_⟩⟩⟩
      refine ⟨_, rfl, _, rfl, _, _, rfl, rfl, ⟨by decide, by decide⟩, _, _, rfl, rfl, _, _, rfl, rfl, .inl (ml _), .inl ⟨_, rfl, _, _, rfl, rfl, (by show (0 : Int) < 2147483647; decide), ?_⟩⟩
      refine ⟨_, rfl, _, rfl, _, _, rfl, rfl, ⟨by decide, by decide⟩, _, _, rfl, rfl, _, _, rfl, rfl, .inl (ml _), .inl ⟨_, rfl, _, _, rfl, rfl, (by show (0 : Int) < 2147483399; decide), .inl ⟨_, rfl, _, rfl, _, _, rfl, rfl, hm0, ?_⟩⟩⟩
      exact k _ _ (Int.emod_nonneg _ (by omega)) (Int.emod_lt_of_pos _ hm0) ⟨a, b, c + 1, upd_same, hb0, hb1, by omega, by omega⟩
theorem scO : FnScope ["_law_well_here", "_law_some"] ["_law_well_here", "_law_some"] (defScope sOne) := ⟨rfl, rfl, rfl, by decide +kernel, rfl, by decide +kernel, by decide +kernel⟩
theorem ok_one {f g : Addr} {fd fdD : FuncData} (F : Fun K "_law_one" "_law_one" sOne f fd) (T : Bl mg) (FD : Fun K "_law_draw" "_law_draw" sDraw g fdD) (bD : Binds K fdD ["_law_well_here", "_law_base"] []) (mD : mg "_law_draw" = some (.ref g)) : FnOk P w K mg base CX0 2 f fd ["_law_well_here", "_law_some"] (spOne K) := by
  have GD : FnOk P w K mg base CX0 1 g fdD ["_law_well_here", "_law_base"] spDraw := ok_draw FD T
  refine F.ok scO (fun vs H Q E h => ?_) (fun cdv A outer s H vs Q E hr h => ?_)
  · obtain ⟨p, q, n, ys, rfl, _⟩ := h
    rfl
  · obtain ⟨p, q, n, ys, rfl, hW, hn, hne, hq, h0, h1, k⟩ := h
    refine ⟨_, pss_one (ps_ret (pe_ix ix_list (pv 1) (pe_call GD hr rfl mD FD.kp bD .nil pass0 (pa_cons (pv 0) (pa_cons (pe_callB call_len_seq (by rfl) T.len PySem.boot_len (pa_cons (pv 1) pa_nil)) pa_nil))) (fun _ _ => rfl))), ?_⟩
    refine ⟨_, rfl, _, rfl, _, rfl, q, ys, rfl, .inl hq, p, _, n, rfl, hW, hn, by omega, by omega, fun r xs r0 r1 hW' => ?_⟩
    have hr2 : r.toNat < ys.length := by omega
    have e1 : ys[r.toNat]? = some ys[r.toNat] := by simp [hr2]
    refine ⟨q, ys, r, _, rfl, rfl, ?_, at_of (j := r.toNat) (by omega) e1, k r.toNat _ xs e1 hW'⟩
    rcases hq with (z | ⟨o, z⟩) | z
    · exact .inl (.inl (by rw [upd_ne (fun e => hne e.symm)]; exact z))
    · exact .inl (.inr ⟨o, by rw [upd_ne (fun e => hne e.symm)]; exact z⟩)
    · exact .inr z
end
end Kx
namespace Kx
open PySem L2 PySem.Spec PyProof.Rows

/-! the classes of errors: what the walk asks of each -/
abbrev veL : List Value := [.type "ValueError", .type "Exception", .type "BaseException", .type "object"]
theorem ve_ok (B : Addr) : PySem.HandSPX.refsVE (.ref B :: veL) = true := by
  show PySem.HandSPX.refsVE veL = true
  decide +kernel
structure Ct (K : PySem.W.Frag) (B C : Addr) : Prop where
  cls : ∃ nm q N bs sn sub ab col dd k0 k1 k2 k3 k5, K.lookup C = some (excClassObj nm q C N bs (.ref B :: veL) true sn sub ab col dd k0 k1 k2 k3 k5 "ValueError.__new__")
  sa : PySem.W.findIn K (.ref C) "__setattr__" = some (some (.builtin "object.__setattr__"))
  ga : PySem.W.findIn K (.ref C) "__getattribute__" = some (some (.builtin "BaseException.__getattribute__"))
  gg : PySem.W.findIn K (.ref C) "__getattr__" = some none
  tyC : PySem.W.typeIn K (.ref C) = some (.type "type")
  kC : PySem.W.keepIn K (.ref C) = true
  hdC : PySem.W.hasDictIn K C = true
  ha : PySem.W.findIn K (.ref C) "__class__" = some (some (.builtin "object.__class__"))
structure Gt (K : PySem.W.Frag) (B : Addr) : Prop where
  hn : PySem.W.specialIn K (.builtin "object.__class__") "__get__" = some (some (.builtin "getset_descriptor.__get__"))
  ht : PySem.W.takesIn K (.builtin "object.__class__") = some true
  isB : (PySem.W.clsIn K B).isSome = true
  tyB : PySem.W.typeIn K (.ref B) = some (.type "type")
  bsB : PySem.W.subIn K (.ref B) (.type "BaseException") = some true
  hdB : PySem.W.hasDictIn K B = true
section
variable {K : PySem.W.Frag} {B C D : Addr}
theorem Ct.cd (T : Ct K B C) : ∃ cd, PySem.W.clsIn K C = some cd ∧ cd.mro = .ref C :: .ref B :: veL := by
  obtain ⟨nm, q, N, bs, sn, sub, ab, col, dd, k0, k1, k2, k3, k5, h⟩ := T.cls
  exact ⟨_, by unfold PySem.W.clsIn; rw [h] <;> rfl, rfl⟩
theorem Ct.mro (T : Ct K B C) (v : Value) : PySem.W.mroIn K C v = some ((.ref C :: .ref B :: veL : List Value).contains v) := by
  obtain ⟨cd, h, e⟩ := T.cd
  unfold PySem.W.mroIn
  rw [h, Option.bind_some, e] <;> rfl
theorem Ct.base (T : Ct K B C) : PySem.W.subIn K (.ref C) (.type "BaseException") = some true := by
  show PySem.W.mroIn K C _ = _
  rw [T.mro]
  rfl
theorem Ct.isC (T : Ct K B C) : (PySem.W.clsIn K C).isSome = true := by
  obtain ⟨cd, h, _⟩ := T.cd
  rw [h]; rfl
theorem Ct.oex (T : Ct K B C) : OexC K C := by
  obtain ⟨nm, q, N, bs, sn, sub, ab, col, dd, k0, k1, k2, k3, k5, h⟩ := T.cls
  exact ⟨⟨nm, q, N, bs, _, sn, sub, ab, col, dd, k0, k1, k2, k3, k5, h, ve_ok B⟩, T.sa, T.base, T.tyC, T.kC⟩
theorem Ct.xf (T : Ct K B C) : XfC K C := ⟨T.ga, T.gg, T.base, T.hdC⟩
theorem kit_ref (T : Ct K B C) {b : Bool} (hD : (PySem.W.clsIn K D).isSome = true) (tD : PySem.W.typeIn K (.ref D) = some (.type "type")) (hb : (.ref C :: .ref B :: veL : List Value).contains (.ref D) = b) : PySem.W.kitOne K (.ref C) (.ref D) = some b := by
  unfold PySem.W.kitOne
  by_cases h : ((Value.ref C == Value.ref D) = true)
  · rw [if_pos h]
    have e : Value.ref C = Value.ref D := beq_iff_eq.mp h
    rw [← hb, ← e]
    simp
  · rw [if_neg h]
    show (if ((PySem.W.clsIn K D).isSome && PySem.W.typeIn K (.ref D) == some (.type "type")) = true then PySem.W.subIn K (.ref C) (.ref D) else none) = _
    rw [hD, tD, if_pos (by rfl)]
    show PySem.W.mroIn K C _ = _
    rw [T.mro, hb]
theorem kit_yes (T : Ct K B C) : PySem.W.kitOne K (.ref C) (.ref C) = some true := kit_ref T T.isC T.tyC (by simp)
theorem kit_no (T : Ct K B C) (S : Ct K B D) (h1 : D ≠ C) (h2 : D ≠ B) : PySem.W.kitOne K (.ref C) (.ref D) = some false := kit_ref T S.isC S.tyC (by simp [h1, h2])
theorem kit_b (T : Ct K B C) (G : Gt K B) : PySem.W.kitOne K (.ref C) (.ref B) = some true := kit_ref T G.isB G.tyB (by simp)
theorem kit_ve (T : Ct K B C) : PySem.W.kitOne K (.ref C) (.type "ValueError") = some true := by
  unfold PySem.W.kitOne
  rw [if_neg (by simp)]
  show (if PySem.W.kitMeta "ValueError" = true then PySem.W.subIn K (.ref C) (.type "ValueError") else none) = _
  rw [if_pos (by decide +kernel)]
  show PySem.W.mroIn K C _ = _
  rw [T.mro]
  rfl
end

/-! an error of a class as it stands: with its fields, or without any -/
def HasF (H : Hp) (a C : Addr) (fs : List (Str × V)) : Prop := ∃ d, d ≠ a ∧ H a = some (exo a C (some d)) ∧ H d = some (exd d fs)
def Bare (H : Hp) (a C : Addr) : Prop := H a = some (ExO (.ref C) a)
def ErrAt (H : Hp) (a C : Addr) : Prop := (∃ fs, HasF H a C fs) ∨ Bare H a C

section
variable {X : Cx} {pins : List (Addr × Obj)} {σ : L2.St} {H : Hp} {s : Shared} {a B C : Addr}
theorem err_inst (I : Inv X pins σ H s) (h : ErrAt H a C) : ∃ ox od, PySem.W.InstAt s.heap a ox C od := by
  rcases h with ⟨fs, d, _, h1, h2⟩ | h
  · obtain ⟨t1, e1⟩ := exo_at I.hok h1
    obtain ⟨mA, hn, _⟩ := exd_at I.hok h2
    obtain ⟨od, e2, _⟩ := lookIn_ns hn
    exact ⟨_, some od, ⟨e1, rfl, rfl, e2⟩⟩
  · obtain ⟨⟨oe, vs, e1, hz, hd, _⟩, _, _⟩ := I.hok a _ h
    obtain ⟨oc, odd, oda, osl⟩ := oe
    obtain ⟨z1, z2⟩ := hz
    dsimp only at z1 z2 hd
    subst z1 z2 hd
    exact ⟨_, none, ⟨e1, rfl, rfl, trivial⟩⟩
/-- isinstance(e, c), e an error that stands -/
def rIsErr (K : PySem.W.Frag) (B : Addr) : List V → Hp → VK → Prop := fun xs H Q => ∃ (a C : Addr) (c : V) (u : Value) (b : Bool), xs = [.ref a, c] ∧ ErrAt H a C ∧ Ct K B C ∧ ClsV c u ∧ PySem.W.kitOne K (.ref C) u = some b ∧ Q (.bl b) H
theorem call_isErr (G : Gt X.K B) : CallR X (.builtin "isinstance") (rIsErr X.K B) := by
  intro pins s σ H xs us Q I r h
  obtain ⟨a, C, c, u, b, rfl, he, T, k, e, q⟩ := h
  obtain ⟨u1, u2, rfl, r1, r2⟩ := vals2 r
  have z1 : u1 = Value.ref a := r1
  subst z1
  have e2 := k.eq r2
  subst e2
  obtain ⟨ox, od, J⟩ := err_inst I he
  exact PySem.W.kia_one (PySem.W.kitx_exc T.isC T.ga T.gg T.base T.ha G.hn G.ht (by rw [T.mro]; rfl)) I.kIn J e (fun z => nomatch z) fun tk => ⟨.bl b, H, I.tok tk, rfl, q⟩
/-- e.f, e an error that stands -/
theorem pe_errF {e : Expr} {te : TE} {pos : Pos} {n : Str} (he : PE X e te) (hb : attributeBase e n X.env (eval e X.env) = eval e X.env := by rfl) :
    PE X (.Attribute e n pos) (fun σ H Q => te σ H fun x H1 => ∃ (a B C : Addr) (fs : List (Str × V)) (v : V), x = .ref a ∧ Ct X.K B C ∧ PySem.W.findIn X.K (.ref C) n = some none ∧ HasF H1 a C fs ∧ fs.lookup n = some v ∧ Q v H1) := by
  refine ⟨fun pins s σ H Q I h => ?_⟩
  refine attr_of hb (thn (he.run pins s σ H _ I h) fun u s1 hh => ?_)
  obtain ⟨x, H1, I1, rx, a, B, C, fs, v, ex, T, hno, ⟨d, _, h1, h2⟩, l, q⟩ := hh
  subst ex
  obtain rfl : u = Value.ref a := rx
  obtain ⟨t1, e1⟩ := exo_at I1.hok h1
  obtain ⟨mA, hns, hr⟩ := exd_at I1.hok h2
  obtain ⟨od, ho, hl⟩ := lookIn_ns hns
  obtain ⟨u, hu, ru⟩ := RelO.some_of (v := v) (o := mA n) (by rw [← l]; exact hr n)
  have J : PySem.W.InstAt s1.heap a _ C (some od) := ⟨e1, rfl, rfl, ho⟩
  exact HandSPX.exc_get I1.kIn J T.ga T.gg T.base (PySem.W.findObj_own T.hdC hno rfl (by rw [hl, hu])) (handed_of ru) ⟨v, H1, I1.tok _, ru, q⟩
end

/-! how an error is made: its __init__ stores each argument under its own name -/
def spI (K : PySem.W.Frag) (ns : List Str) : Sp := fun vs H Q _ => ∃ (a B C : Addr) (ws : List V), vs = .ref a :: ws ∧ ws.length = ns.length ∧ Ct K B C ∧ (∀ f ∈ ns, PySem.W.findIn K (.ref C) f = some none) ∧ H a = some (exo a C none) ∧
  ∀ dx H', H dx = none → dx ≠ a → H' a = some (exo a C (some dx)) → H' dx = some (exd dx (ns.zip ws).reverse) → (∀ b, b ≠ a → b ≠ dx → H' b = H b) → Q .non H'
section
variable {X : Cx} {e : Expr} {es : List Expr} {ta : TA} {p pos : Pos}
/-- C(e, ..) as a value: a new error with its fields -/
theorem pe_err {CX : CXT} {x : Str} {B C fI : Addr} {k : Nat} {fd : FuncData} {ps : List Str} {ns : List Str} (T : Ct X.K B C) (hno : ∀ f ∈ ns, PySem.W.findIn X.K (.ref C) f = some none) (iC : PySem.W.findIn X.K (.ref C) "__init__" = some (some (.ref fI))) (tI : PySem.W.typeIn X.K (.ref fI) = some (.type "function"))
    (F1 : FnOk X.prog X.w X.K X.mg X.base CX k fI fd ps (spI X.K ns)) (hr : Room (k + 1) X.A) (hb : Binds X.K fd ps []) (hx : Passes CX X (fun _ _ _ => False)) (hm : X.mg x = some (.ref C)) (ha : PA X (e :: es) ta) (hg : Gl X x := by rfl)
    (hdb : (x == ("__debug__" : Str)) = false := by decide) (he : starEach (e :: es) X.env = (false, eval e X.env) :: starEach es X.env := by rfl) (hpl : (backTo pos (starEach es X.env)).any (·.1) = false := by rfl) :
    PE X (.Call (.Name x p) (e :: es) [] pos) (fun σ H Q => ta σ H fun vs H1 => vs.length = ns.length ∧ ns.length ≤ 100 ∧ ∀ a H2, H1 a = none → HasF H2 a C (ns.zip vs).reverse → Same H1 H2 → Q (.ref a) H2) := by
  refine ⟨fun pins s σ H Q I h => ?_⟩
  obtain ⟨nm, q, N, bs, sn, sub, ab, col, dd, k0, k1, k2, k3, k5, hC⟩ := T.cls
  refine wpAny_Call_Name_kw (ld_glob I hg hm ?_ hdb)
  refine PySem.W.callWith_K (h₀ := X.base) I.ok.mod.kin T.kC (thn (ha.run pos pins s σ H _ I h) fun us s1 ⟨vs, H1, I1, r1, hz, hz2, q1⟩ => ⟨I1.kIn, ?_⟩) he hpl
  show wpAny _ _ (call (.ref C) us) _ _ _
  obtain ⟨hp, g, dr, tk, os⟩ := s1
  have hsz : hp.objs.size ≤ hp.objs.size + 1 := Nat.le_succ _
  have hn : H1 (hp.objs.size + 1) = none := I1.hok.fresh hsz
  have kk : ∀ b o, hp.get? b = some o → ((hp.push (PySem.W.kdv_tup us)).push (PySem.HandSPX.excO C hp.objs.size)).get? b = some o := fun b o z => Heap.get?_push_of_some _ (Heap.get?_push_of_some _ z)
  have hget : ((hp.push (PySem.W.kdv_tup us)).push (PySem.HandSPX.excO C hp.objs.size)).get? (hp.objs.size + 1) = some (PySem.HandSPX.excO C hp.objs.size) := by heap_get
  have I2 := I1.laid (t' := tk) (a := hp.objs.size + 1) (o := exo (hp.objs.size + 1) C none) (h' := (hp.push (PySem.W.kdv_tup us)).push (PySem.HandSPX.excO C hp.objs.size)) kk hsz (exo_ok hget)
  have r2 : Vals (V.ref (hp.objs.size + 1) :: vs) (Value.ref (hp.objs.size + 1) :: us) := .cons rfl r1
  have hq : spI X.K ns (V.ref (hp.objs.size + 1) :: vs) (upd H1 (hp.objs.size + 1) (exo (hp.objs.size + 1) C none)) (fun v H2 => v = .non ∧ Q (.ref (hp.objs.size + 1)) H2) (fun _ _ _ => False) := by
    refine ⟨_, B, C, vs, rfl, hz, T, hno, upd_same, fun dx H' n1 n2 e1 e2 e3 => ⟨rfl, q1 _ H' hn ⟨dx, n2, e1, e2⟩ fun b o z => ?_⟩⟩
    have nb : b ≠ hp.objs.size + 1 := ne_of_none z hn
    have n3 : H1 dx = none := by rw [← upd_ne (H := H1) (o := exo (hp.objs.size + 1) C none) n2]; exact n1
    rw [e3 b nb (ne_of_none z n3), upd_ne nb]
    exact z
  have hl : (Value.ref (hp.objs.size + 1) :: us).length = ps.length := by
    have z := r2.length
    rw [F1.len _ _ _ _ hq] at z
    exact z.symm
  have hus : us.length ≤ sizeLine := by
    rw [← Paired.length r1, sizeLine_eq]
    omega
  have hbs := hb ⟨(hp.push (PySem.W.kdv_tup us)).push (PySem.HandSPX.excO C hp.objs.size), g, dr, tk, os⟩ (Value.ref (hp.objs.size + 1) :: us) I2.kIn (by rw [List.append_nil]; exact hl)
  rw [List.append_nil] at hbs
  refine wpAny_call (PySem.HandSPX.call_own F.excBase_ValueError (fun Y => PySem.HandSPX.refsVE_contains Y _ (ve_ok B)) (I1.kIn _ _ hC) (PySem.W.looks_findIn I1.kIn iC) (fun self => PySem.W.bind_fn I1.kIn self tI) hus
    (codeAny_mono (F1.run _ X.stack _ _ ⟨Value.ref (hp.objs.size + 1) :: us, []⟩ (Value.ref (hp.objs.size + 1) :: us) _ _ (fun _ _ _ => False) (hr.make C us []) (I2.env0.make C us []) hbs r2 hq) fun r s' hq' => ?_))
  cases r with
  | error er => exact hx pins σ _ _ er s' I2 hq'
  | ok fl =>
    cases fl with
    | ret u =>
      obtain ⟨v, H2, os2, bare2, un2, hok2, rv, ev, q2⟩ := hq'
      subst ev
      exact ⟨rv, .ref (hp.objs.size + 1), H2, I2.call' (ch := []) os2 un2 hok2 bare2 (fun b z => absurd z (by simp)), rfl, q2⟩
    | next => exact False.elim hq'
    | brk => exact False.elim hq'
    | cont => exact False.elim hq'
end
end Kx
namespace Kx
open PySem L2 PySem.Spec PyProof.Rows
/-! each error's own __init__ keeps the promise spI -/
section
variable {P : Program} {w : World} {K : PySem.W.Frag} {mg : Str → Option Value} {base : Heap}
theorem sc_BadCond : FnScope ["self", "clause"] ["self", "clause"] (defScope (inClass (top 2) 0)) := ⟨rfl, rfl, rfl, by decide +kernel, rfl, by decide +kernel, by decide +kernel⟩
theorem ok_BadCond {f : Addr} {fd : FuncData} (F : Fun K "__init__" "BadCond.__init__" (inClass (top 2) 0) f fd) : FnOk P w K mg base CX0 1 f fd ["self", "clause"] (spI K ["clause"]) := by
  refine F.ok sc_BadCond (fun vs H Q E h => ?_) (fun cdv A outer s H vs Q E hr h => ?_)
  · obtain ⟨a, B, C, ws, rfl, hl, _⟩ := h
    show ws.length + 1 = 2
    rw [hl] <;> rfl
  · obtain ⟨a, B, C, ws, rfl, hl, T, hno, ha, k⟩ := h
    obtain ⟨v0, rfl⟩ : ∃ v0, ws = [v0] := match ws, hl with | [v0], _ => ⟨v0, rfl⟩
    refine ⟨_, pss_one (ps_ost (pv 0) (pv 1)), ?_⟩
    refine ⟨_, rfl, _, rfl, a, C, rfl, T.oex, hno _ (by simp), .inl ⟨ha, fun dx n1 n2 => ?_⟩⟩
    exact k dx _ n1 n2 upd_same (by rw [upd_ne n2, upd_same]; rfl) (fun b h1 h2 => by rw [upd_ne h1, upd_ne h2])
theorem sc_NoValue : FnScope ["self", "term"] ["self", "term"] (defScope (inClass (top 3) 0)) := ⟨rfl, rfl, rfl, by decide +kernel, rfl, by decide +kernel, by decide +kernel⟩
theorem ok_NoValue {f : Addr} {fd : FuncData} (F : Fun K "__init__" "NoValue.__init__" (inClass (top 3) 0) f fd) : FnOk P w K mg base CX0 1 f fd ["self", "term"] (spI K ["term"]) := by
  refine F.ok sc_NoValue (fun vs H Q E h => ?_) (fun cdv A outer s H vs Q E hr h => ?_)
  · obtain ⟨a, B, C, ws, rfl, hl, _⟩ := h
    show ws.length + 1 = 2
    rw [hl] <;> rfl
  · obtain ⟨a, B, C, ws, rfl, hl, T, hno, ha, k⟩ := h
    obtain ⟨v0, rfl⟩ : ∃ v0, ws = [v0] := match ws, hl with | [v0], _ => ⟨v0, rfl⟩
    refine ⟨_, pss_one (ps_ost (pv 0) (pv 1)), ?_⟩
    refine ⟨_, rfl, _, rfl, a, C, rfl, T.oex, hno _ (by simp), .inl ⟨ha, fun dx n1 n2 => ?_⟩⟩
    exact k dx _ n1 n2 upd_same (by rw [upd_ne n2, upd_same]; rfl) (fun b h1 h2 => by rw [upd_ne h1, upd_ne h2])
theorem sc_NoClauses : FnScope ["self", "at"] ["self", "at"] (defScope (inClass (top 4) 0)) := ⟨rfl, rfl, rfl, by decide +kernel, rfl, by decide +kernel, by decide +kernel⟩
theorem ok_NoClauses {f : Addr} {fd : FuncData} (F : Fun K "__init__" "NoClauses.__init__" (inClass (top 4) 0) f fd) : FnOk P w K mg base CX0 1 f fd ["self", "at"] (spI K ["at"]) := by
  refine F.ok sc_NoClauses (fun vs H Q E h => ?_) (fun cdv A outer s H vs Q E hr h => ?_)
  · obtain ⟨a, B, C, ws, rfl, hl, _⟩ := h
    show ws.length + 1 = 2
    rw [hl] <;> rfl
  · obtain ⟨a, B, C, ws, rfl, hl, T, hno, ha, k⟩ := h
    obtain ⟨v0, rfl⟩ : ∃ v0, ws = [v0] := match ws, hl with | [v0], _ => ⟨v0, rfl⟩
    refine ⟨_, pss_one (ps_ost (pv 0) (pv 1)), ?_⟩
    refine ⟨_, rfl, _, rfl, a, C, rfl, T.oex, hno _ (by simp), .inl ⟨ha, fun dx n1 n2 => ?_⟩⟩
    exact k dx _ n1 n2 upd_same (by rw [upd_ne n2, upd_same]; rfl) (fun b h1 h2 => by rw [upd_ne h1, upd_ne h2])
theorem sc_NoClass : FnScope ["self", "name"] ["self", "name"] (defScope (inClass (top 6) 0)) := ⟨rfl, rfl, rfl, by decide +kernel, rfl, by decide +kernel, by decide +kernel⟩
theorem ok_NoClass {f : Addr} {fd : FuncData} (F : Fun K "__init__" "NoClass.__init__" (inClass (top 6) 0) f fd) : FnOk P w K mg base CX0 1 f fd ["self", "name"] (spI K ["name"]) := by
  refine F.ok sc_NoClass (fun vs H Q E h => ?_) (fun cdv A outer s H vs Q E hr h => ?_)
  · obtain ⟨a, B, C, ws, rfl, hl, _⟩ := h
    show ws.length + 1 = 2
    rw [hl] <;> rfl
  · obtain ⟨a, B, C, ws, rfl, hl, T, hno, ha, k⟩ := h
    obtain ⟨v0, rfl⟩ : ∃ v0, ws = [v0] := match ws, hl with | [v0], _ => ⟨v0, rfl⟩
    refine ⟨_, pss_one (ps_ost (pv 0) (pv 1)), ?_⟩
    refine ⟨_, rfl, _, rfl, a, C, rfl, T.oex, hno _ (by simp), .inl ⟨ha, fun dx n1 n2 => ?_⟩⟩
    exact k dx _ n1 n2 upd_same (by rw [upd_ne n2, upd_same]; rfl) (fun b h1 h2 => by rw [upd_ne h1, upd_ne h2])
theorem sc_NoMethod : FnScope ["self", "method"] ["self", "method"] (defScope (inClass (top 7) 0)) := ⟨rfl, rfl, rfl, by decide +kernel, rfl, by decide +kernel, by decide +kernel⟩
theorem ok_NoMethod {f : Addr} {fd : FuncData} (F : Fun K "__init__" "NoMethod.__init__" (inClass (top 7) 0) f fd) : FnOk P w K mg base CX0 1 f fd ["self", "method"] (spI K ["method"]) := by
  refine F.ok sc_NoMethod (fun vs H Q E h => ?_) (fun cdv A outer s H vs Q E hr h => ?_)
  · obtain ⟨a, B, C, ws, rfl, hl, _⟩ := h
    show ws.length + 1 = 2
    rw [hl] <;> rfl
  · obtain ⟨a, B, C, ws, rfl, hl, T, hno, ha, k⟩ := h
    obtain ⟨v0, rfl⟩ : ∃ v0, ws = [v0] := match ws, hl with | [v0], _ => ⟨v0, rfl⟩
    refine ⟨_, pss_one (ps_ost (pv 0) (pv 1)), ?_⟩
    refine ⟨_, rfl, _, rfl, a, C, rfl, T.oex, hno _ (by simp), .inl ⟨ha, fun dx n1 n2 => ?_⟩⟩
    exact k dx _ n1 n2 upd_same (by rw [upd_ne n2, upd_same]; rfl) (fun b h1 h2 => by rw [upd_ne h1, upd_ne h2])
theorem sc_NoSlot : FnScope ["self", "slot"] ["self", "slot"] (defScope (inClass (top 8) 0)) := ⟨rfl, rfl, rfl, by decide +kernel, rfl, by decide +kernel, by decide +kernel⟩
theorem ok_NoSlot {f : Addr} {fd : FuncData} (F : Fun K "__init__" "NoSlot.__init__" (inClass (top 8) 0) f fd) : FnOk P w K mg base CX0 1 f fd ["self", "slot"] (spI K ["slot"]) := by
  refine F.ok sc_NoSlot (fun vs H Q E h => ?_) (fun cdv A outer s H vs Q E hr h => ?_)
  · obtain ⟨a, B, C, ws, rfl, hl, _⟩ := h
    show ws.length + 1 = 2
    rw [hl] <;> rfl
  · obtain ⟨a, B, C, ws, rfl, hl, T, hno, ha, k⟩ := h
    obtain ⟨v0, rfl⟩ : ∃ v0, ws = [v0] := match ws, hl with | [v0], _ => ⟨v0, rfl⟩
    refine ⟨_, pss_one (ps_ost (pv 0) (pv 1)), ?_⟩
    refine ⟨_, rfl, _, rfl, a, C, rfl, T.oex, hno _ (by simp), .inl ⟨ha, fun dx n1 n2 => ?_⟩⟩
    exact k dx _ n1 n2 upd_same (by rw [upd_ne n2, upd_same]; rfl) (fun b h1 h2 => by rw [upd_ne h1, upd_ne h2])
theorem sc_NoSite : FnScope ["self", "place"] ["self", "place"] (defScope (inClass (top 10) 0)) := ⟨rfl, rfl, rfl, by decide +kernel, rfl, by decide +kernel, by decide +kernel⟩
theorem ok_NoSite {f : Addr} {fd : FuncData} (F : Fun K "__init__" "NoSite.__init__" (inClass (top 10) 0) f fd) : FnOk P w K mg base CX0 1 f fd ["self", "place"] (spI K ["place"]) := by
  refine F.ok sc_NoSite (fun vs H Q E h => ?_) (fun cdv A outer s H vs Q E hr h => ?_)
  · obtain ⟨a, B, C, ws, rfl, hl, _⟩ := h
    show ws.length + 1 = 2
    rw [hl] <;> rfl
  · obtain ⟨a, B, C, ws, rfl, hl, T, hno, ha, k⟩ := h
    obtain ⟨v0, rfl⟩ : ∃ v0, ws = [v0] := match ws, hl with | [v0], _ => ⟨v0, rfl⟩
    refine ⟨_, pss_one (ps_ost (pv 0) (pv 1)), ?_⟩
    refine ⟨_, rfl, _, rfl, a, C, rfl, T.oex, hno _ (by simp), .inl ⟨ha, fun dx n1 n2 => ?_⟩⟩
    exact k dx _ n1 n2 upd_same (by rw [upd_ne n2, upd_same]; rfl) (fun b h1 h2 => by rw [upd_ne h1, upd_ne h2])
theorem sc_NoTape : FnScope ["self", "tape"] ["self", "tape"] (defScope (inClass (top 11) 0)) := ⟨rfl, rfl, rfl, by decide +kernel, rfl, by decide +kernel, by decide +kernel⟩
theorem ok_NoTape {f : Addr} {fd : FuncData} (F : Fun K "__init__" "NoTape.__init__" (inClass (top 11) 0) f fd) : FnOk P w K mg base CX0 1 f fd ["self", "tape"] (spI K ["tape"]) := by
  refine F.ok sc_NoTape (fun vs H Q E h => ?_) (fun cdv A outer s H vs Q E hr h => ?_)
  · obtain ⟨a, B, C, ws, rfl, hl, _⟩ := h
    show ws.length + 1 = 2
    rw [hl] <;> rfl
  · obtain ⟨a, B, C, ws, rfl, hl, T, hno, ha, k⟩ := h
    obtain ⟨v0, rfl⟩ : ∃ v0, ws = [v0] := match ws, hl with | [v0], _ => ⟨v0, rfl⟩
    refine ⟨_, pss_one (ps_ost (pv 0) (pv 1)), ?_⟩
    refine ⟨_, rfl, _, rfl, a, C, rfl, T.oex, hno _ (by simp), .inl ⟨ha, fun dx n1 n2 => ?_⟩⟩
    exact k dx _ n1 n2 upd_same (by rw [upd_ne n2, upd_same]; rfl) (fun b h1 h2 => by rw [upd_ne h1, upd_ne h2])
theorem sc_NoSteps : FnScope ["self", "steps"] ["self", "steps"] (defScope (inClass (top 12) 0)) := ⟨rfl, rfl, rfl, by decide +kernel, rfl, by decide +kernel, by decide +kernel⟩
theorem ok_NoSteps {f : Addr} {fd : FuncData} (F : Fun K "__init__" "NoSteps.__init__" (inClass (top 12) 0) f fd) : FnOk P w K mg base CX0 1 f fd ["self", "steps"] (spI K ["steps"]) := by
  refine F.ok sc_NoSteps (fun vs H Q E h => ?_) (fun cdv A outer s H vs Q E hr h => ?_)
  · obtain ⟨a, B, C, ws, rfl, hl, _⟩ := h
    show ws.length + 1 = 2
    rw [hl] <;> rfl
  · obtain ⟨a, B, C, ws, rfl, hl, T, hno, ha, k⟩ := h
    obtain ⟨v0, rfl⟩ : ∃ v0, ws = [v0] := match ws, hl with | [v0], _ => ⟨v0, rfl⟩
    refine ⟨_, pss_one (ps_ost (pv 0) (pv 1)), ?_⟩
    refine ⟨_, rfl, _, rfl, a, C, rfl, T.oex, hno _ (by simp), .inl ⟨ha, fun dx n1 n2 => ?_⟩⟩
    exact k dx _ n1 n2 upd_same (by rw [upd_ne n2, upd_same]; rfl) (fun b h1 h2 => by rw [upd_ne h1, upd_ne h2])
theorem sc_NoChecks : FnScope ["self", "without"] ["self", "without"] (defScope (inClass (top 13) 0)) := ⟨rfl, rfl, rfl, by decide +kernel, rfl, by decide +kernel, by decide +kernel⟩
theorem ok_NoChecks {f : Addr} {fd : FuncData} (F : Fun K "__init__" "NoChecks.__init__" (inClass (top 13) 0) f fd) : FnOk P w K mg base CX0 1 f fd ["self", "without"] (spI K ["without"]) := by
  refine F.ok sc_NoChecks (fun vs H Q E h => ?_) (fun cdv A outer s H vs Q E hr h => ?_)
  · obtain ⟨a, B, C, ws, rfl, hl, _⟩ := h
    show ws.length + 1 = 2
    rw [hl] <;> rfl
  · obtain ⟨a, B, C, ws, rfl, hl, T, hno, ha, k⟩ := h
    obtain ⟨v0, rfl⟩ : ∃ v0, ws = [v0] := match ws, hl with | [v0], _ => ⟨v0, rfl⟩
    refine ⟨_, pss_one (ps_ost (pv 0) (pv 1)), ?_⟩
    refine ⟨_, rfl, _, rfl, a, C, rfl, T.oex, hno _ (by simp), .inl ⟨ha, fun dx n1 n2 => ?_⟩⟩
    exact k dx _ n1 n2 upd_same (by rw [upd_ne n2, upd_same]; rfl) (fun b h1 h2 => by rw [upd_ne h1, upd_ne h2])
theorem sc_NoDuty : FnScope ["self", "duty"] ["self", "duty"] (defScope (inClass (top 16) 0)) := ⟨rfl, rfl, rfl, by decide +kernel, rfl, by decide +kernel, by decide +kernel⟩
theorem ok_NoDuty {f : Addr} {fd : FuncData} (F : Fun K "__init__" "NoDuty.__init__" (inClass (top 16) 0) f fd) : FnOk P w K mg base CX0 1 f fd ["self", "duty"] (spI K ["duty"]) := by
  refine F.ok sc_NoDuty (fun vs H Q E h => ?_) (fun cdv A outer s H vs Q E hr h => ?_)
  · obtain ⟨a, B, C, ws, rfl, hl, _⟩ := h
    show ws.length + 1 = 2
    rw [hl] <;> rfl
  · obtain ⟨a, B, C, ws, rfl, hl, T, hno, ha, k⟩ := h
    obtain ⟨v0, rfl⟩ : ∃ v0, ws = [v0] := match ws, hl with | [v0], _ => ⟨v0, rfl⟩
    refine ⟨_, pss_one (ps_ost (pv 0) (pv 1)), ?_⟩
    refine ⟨_, rfl, _, rfl, a, C, rfl, T.oex, hno _ (by simp), .inl ⟨ha, fun dx n1 n2 => ?_⟩⟩
    exact k dx _ n1 n2 upd_same (by rw [upd_ne n2, upd_same]; rfl) (fun b h1 h2 => by rw [upd_ne h1, upd_ne h2])
theorem sc_Unkept : FnScope ["self", "duty"] ["self", "duty"] (defScope (inClass (top 17) 0)) := ⟨rfl, rfl, rfl, by decide +kernel, rfl, by decide +kernel, by decide +kernel⟩
theorem ok_Unkept {f : Addr} {fd : FuncData} (F : Fun K "__init__" "Unkept.__init__" (inClass (top 17) 0) f fd) : FnOk P w K mg base CX0 1 f fd ["self", "duty"] (spI K ["duty"]) := by
  refine F.ok sc_Unkept (fun vs H Q E h => ?_) (fun cdv A outer s H vs Q E hr h => ?_)
  · obtain ⟨a, B, C, ws, rfl, hl, _⟩ := h
    show ws.length + 1 = 2
    rw [hl] <;> rfl
  · obtain ⟨a, B, C, ws, rfl, hl, T, hno, ha, k⟩ := h
    obtain ⟨v0, rfl⟩ : ∃ v0, ws = [v0] := match ws, hl with | [v0], _ => ⟨v0, rfl⟩
    refine ⟨_, pss_one (ps_ost (pv 0) (pv 1)), ?_⟩
    refine ⟨_, rfl, _, rfl, a, C, rfl, T.oex, hno _ (by simp), .inl ⟨ha, fun dx n1 n2 => ?_⟩⟩
    exact k dx _ n1 n2 upd_same (by rw [upd_ne n2, upd_same]; rfl) (fun b h1 h2 => by rw [upd_ne h1, upd_ne h2])
theorem sc_BadText : FnScope ["self", "row"] ["self", "row"] (defScope (inClass (top 18) 0)) := ⟨rfl, rfl, rfl, by decide +kernel, rfl, by decide +kernel, by decide +kernel⟩
theorem ok_BadText {f : Addr} {fd : FuncData} (F : Fun K "__init__" "BadText.__init__" (inClass (top 18) 0) f fd) : FnOk P w K mg base CX0 1 f fd ["self", "row"] (spI K ["row"]) := by
  refine F.ok sc_BadText (fun vs H Q E h => ?_) (fun cdv A outer s H vs Q E hr h => ?_)
  · obtain ⟨a, B, C, ws, rfl, hl, _⟩ := h
    show ws.length + 1 = 2
    rw [hl] <;> rfl
  · obtain ⟨a, B, C, ws, rfl, hl, T, hno, ha, k⟩ := h
    obtain ⟨v0, rfl⟩ : ∃ v0, ws = [v0] := match ws, hl with | [v0], _ => ⟨v0, rfl⟩
    refine ⟨_, pss_one (ps_ost (pv 0) (pv 1)), ?_⟩
    refine ⟨_, rfl, _, rfl, a, C, rfl, T.oex, hno _ (by simp), .inl ⟨ha, fun dx n1 n2 => ?_⟩⟩
    exact k dx _ n1 n2 upd_same (by rw [upd_ne n2, upd_same]; rfl) (fun b h1 h2 => by rw [upd_ne h1, upd_ne h2])
theorem sc_BadLibrary : FnScope ["self", "at", "why"] ["self", "at", "why"] (defScope (inClass (top 5) 0)) := ⟨rfl, rfl, rfl, by decide +kernel, rfl, by decide +kernel, by decide +kernel⟩
theorem ok_BadLibrary {f : Addr} {fd : FuncData} (F : Fun K "__init__" "BadLibrary.__init__" (inClass (top 5) 0) f fd) : FnOk P w K mg base CX0 1 f fd ["self", "at", "why"] (spI K ["at", "why"]) := by
  refine F.ok sc_BadLibrary (fun vs H Q E h => ?_) (fun cdv A outer s H vs Q E hr h => ?_)
  · obtain ⟨a, B, C, ws, rfl, hl, _⟩ := h
    show ws.length + 1 = 3
    rw [hl] <;> rfl
  · obtain ⟨a, B, C, ws, rfl, hl, T, hno, ha, k⟩ := h
    obtain ⟨v0, v1, rfl⟩ : ∃ v0 v1, ws = [v0, v1] := match ws, hl with | [v0, v1], _ => ⟨v0, v1, rfl⟩
    refine ⟨_, pss_cons (ps_ost (pv 0) (pv 1)) (pss_one (ps_ost (pv 0) (pv 2))), ?_⟩
    refine ⟨_, rfl, _, rfl, a, C, rfl, T.oex, hno _ (by simp), .inl ⟨ha, fun dx n1 n2 => ?_⟩⟩
    have n3 := Ne.symm n2
    refine ⟨_, rfl, _, rfl, a, C, rfl, T.oex, hno _ (by simp), .inr ⟨dx, _, upd_same, (by rw [upd_ne n2, upd_same]), (by show 1 ≤ 900; decide), ?_⟩⟩
    refine k dx _ n1 n2 (by rw [upd_ne n3]; rw [upd_same]) upd_same (fun b h1 h2 => by rw [upd_ne h2, upd_ne h1, upd_ne h2])
theorem sc_BadBody : FnScope ["self", "at", "why"] ["self", "at", "why"] (defScope (inClass (top 9) 0)) := ⟨rfl, rfl, rfl, by decide +kernel, rfl, by decide +kernel, by decide +kernel⟩
theorem ok_BadBody {f : Addr} {fd : FuncData} (F : Fun K "__init__" "BadBody.__init__" (inClass (top 9) 0) f fd) : FnOk P w K mg base CX0 1 f fd ["self", "at", "why"] (spI K ["at", "why"]) := by
  refine F.ok sc_BadBody (fun vs H Q E h => ?_) (fun cdv A outer s H vs Q E hr h => ?_)
  · obtain ⟨a, B, C, ws, rfl, hl, _⟩ := h
    show ws.length + 1 = 3
    rw [hl] <;> rfl
  · obtain ⟨a, B, C, ws, rfl, hl, T, hno, ha, k⟩ := h
    obtain ⟨v0, v1, rfl⟩ : ∃ v0 v1, ws = [v0, v1] := match ws, hl with | [v0, v1], _ => ⟨v0, v1, rfl⟩
    refine ⟨_, pss_cons (ps_ost (pv 0) (pv 1)) (pss_one (ps_ost (pv 0) (pv 2))), ?_⟩
    refine ⟨_, rfl, _, rfl, a, C, rfl, T.oex, hno _ (by simp), .inl ⟨ha, fun dx n1 n2 => ?_⟩⟩
    have n3 := Ne.symm n2
    refine ⟨_, rfl, _, rfl, a, C, rfl, T.oex, hno _ (by simp), .inr ⟨dx, _, upd_same, (by rw [upd_ne n2, upd_same]), (by show 1 ≤ 900; decide), ?_⟩⟩
    refine k dx _ n1 n2 (by rw [upd_ne n3]; rw [upd_same]) upd_same (fun b h1 h2 => by rw [upd_ne h2, upd_ne h1, upd_ne h2])
theorem sc_Breach : FnScope ["self", "kind", "blamed", "side", "of", "slot", "site", "numbers", "clause", "earlier"] ["self", "kind", "blamed", "side", "of", "slot", "site", "numbers", "clause", "earlier"] (defScope (inClass (top 19) 0)) := ⟨rfl, rfl, rfl, by decide +kernel, rfl, by decide +kernel, by decide +kernel⟩
theorem ok_Breach {f : Addr} {fd : FuncData} (F : Fun K "__init__" "Breach.__init__" (inClass (top 19) 0) f fd) : FnOk P w K mg base CX0 1 f fd ["self", "kind", "blamed", "side", "of", "slot", "site", "numbers", "clause", "earlier"] (spI K ["kind", "blamed", "side", "of", "slot", "site", "numbers", "clause", "earlier"]) := by
  refine F.ok sc_Breach (fun vs H Q E h => ?_) (fun cdv A outer s H vs Q E hr h => ?_)
  · obtain ⟨a, B, C, ws, rfl, hl, _⟩ := h
    show ws.length + 1 = 10
    rw [hl] <;> rfl
  · obtain ⟨a, B, C, ws, rfl, hl, T, hno, ha, k⟩ := h
    obtain ⟨v0, v1, v2, v3, v4, v5, v6, v7, v8, rfl⟩ : ∃ v0 v1 v2 v3 v4 v5 v6 v7 v8, ws = [v0, v1, v2, v3, v4, v5, v6, v7, v8] := match ws, hl with | [v0, v1, v2, v3, v4, v5, v6, v7, v8], _ => ⟨v0, v1, v2, v3, v4, v5, v6, v7, v8, rfl⟩
    refine ⟨_, pss_cons (ps_ost (pv 0) (pv 1)) (pss_cons (ps_ost (pv 0) (pv 2)) (pss_cons (ps_ost (pv 0) (pv 3)) (pss_cons (ps_ost (pv 0) (pv 4)) (pss_cons (ps_ost (pv 0) (pv 5)) (pss_cons (ps_ost (pv 0) (pv 6)) (pss_cons (ps_ost (pv 0) (pv 7)) (pss_cons (ps_ost (pv 0) (pv 8)) (pss_one (ps_ost (pv 0) (pv 9)))))))))), ?_⟩
    refine ⟨_, rfl, _, rfl, a, C, rfl, T.oex, hno _ (by simp), .inl ⟨ha, fun dx n1 n2 => ?_⟩⟩
    have n3 := Ne.symm n2
    refine ⟨_, rfl, _, rfl, a, C, rfl, T.oex, hno _ (by simp), .inr ⟨dx, _, upd_same, (by rw [upd_ne n2, upd_same]), (by show 1 ≤ 900; decide), ?_⟩⟩
    refine ⟨_, rfl, _, rfl, a, C, rfl, T.oex, hno _ (by simp), .inr ⟨dx, _, (by rw [upd_ne n3]; rw [upd_same]), upd_same, (by show 2 ≤ 900; decide), ?_⟩⟩
    refine ⟨_, rfl, _, rfl, a, C, rfl, T.oex, hno _ (by simp), .inr ⟨dx, _, (by rw [upd_ne n3]; rw [upd_ne n3]; rw [upd_same]), upd_same, (by show 3 ≤ 900; decide), ?_⟩⟩
    refine ⟨_, rfl, _, rfl, a, C, rfl, T.oex, hno _ (by simp), .inr ⟨dx, _, (by rw [upd_ne n3]; rw [upd_ne n3]; rw [upd_ne n3]; rw [upd_same]), upd_same, (by show 4 ≤ 900; decide), ?_⟩⟩
    refine ⟨_, rfl, _, rfl, a, C, rfl, T.oex, hno _ (by simp), .inr ⟨dx, _, (by rw [upd_ne n3]; rw [upd_ne n3]; rw [upd_ne n3]; rw [upd_ne n3]; rw [upd_same]), upd_same, (by show 5 ≤ 900; decide), ?_⟩⟩
    refine ⟨_, rfl, _, rfl, a, C, rfl, T.oex, hno _ (by simp), .inr ⟨dx, _, (by rw [upd_ne n3]; rw [upd_ne n3]; rw [upd_ne n3]; rw [upd_ne n3]; rw [upd_ne n3]; rw [upd_same]), upd_same, (by show 6 ≤ 900; decide), ?_⟩⟩
    refine ⟨_, rfl, _, rfl, a, C, rfl, T.oex, hno _ (by simp), .inr ⟨dx, _, (by rw [upd_ne n3]; rw [upd_ne n3]; rw [upd_ne n3]; rw [upd_ne n3]; rw [upd_ne n3]; rw [upd_ne n3]; rw [upd_same]), upd_same, (by show 7 ≤ 900; decide), ?_⟩⟩
    refine ⟨_, rfl, _, rfl, a, C, rfl, T.oex, hno _ (by simp), .inr ⟨dx, _, (by rw [upd_ne n3]; rw [upd_ne n3]; rw [upd_ne n3]; rw [upd_ne n3]; rw [upd_ne n3]; rw [upd_ne n3]; rw [upd_ne n3]; rw [upd_same]), upd_same, (by show 8 ≤ 900; decide), ?_⟩⟩
    refine k dx _ n1 n2 (by rw [upd_ne n3]; rw [upd_ne n3]; rw [upd_ne n3]; rw [upd_ne n3]; rw [upd_ne n3]; rw [upd_ne n3]; rw [upd_ne n3]; rw [upd_ne n3]; rw [upd_same]) upd_same (fun b h1 h2 => by rw [upd_ne h2, upd_ne h2, upd_ne h2, upd_ne h2, upd_ne h2, upd_ne h2, upd_ne h2, upd_ne h2, upd_ne h1, upd_ne h2])
end

/-! all the classes -/
def nms : List Str := ["BadCond", "NoValue", "NoClauses", "NoClass", "NoMethod", "NoSlot", "NoSite", "NoTape", "NoSteps", "NoChecks", "NoDuty", "Unkept", "BadText", "BadLibrary", "BadBody", "TooLong", "TooDeep", "Breach"]
def nm (i : Nat) : Str := nms.getD i ""
structure Txt (K : PySem.W.Frag) (mg : Str → Option Value) (B : Addr) (C : Nat → Addr) : Prop extends Bl mg where
  isi : mg "isinstance" = none
  rng : mg "range" = none
  rep : mg "repr" = none
  ve : mg "ValueError" = none
  gB : mg "ContractError" = some (.ref B)
  G : Gt K B
  ct : ∀ i, i < 18 → Ct K B (C i)
  ne : ∀ i j, i < 18 → j < 18 → i ≠ j → C i ≠ C j
  neB : ∀ i, i < 18 → C i ≠ B
  gm : ∀ i, i < 18 → mg (nm i) = some (.ref (C i))
/-- which classes an error of the class number k is of -/
def mk (k : Nat) : List V := (List.range 18).map fun j => .bl (decide (j = k))
theorem Same.has {H H' : Hp} {a C : Addr} {fs : List (Str × V)} (s : Same H H') (h : HasF H a C fs) : HasF H' a C fs := by
  obtain ⟨d, h0, h1, h2⟩ := h
  exact ⟨d, h0, s _ _ h1, s _ _ h2⟩
theorem Same.err {H H' : Hp} {a C : Addr} (s : Same H H') (h : ErrAt H a C) : ErrAt H' a C := by
  rcases h with ⟨fs, h⟩ | h
  · exact .inl ⟨fs, Same.has s h⟩
  · exact .inr (s _ _ h)
theorem Same.new {H : Hp} {p : Addr} {o : HO} (h : H p = none) : Same H (upd H p o) := fun b u e => by
  rw [upd_ne (ne_of_none e h)]
  exact e
theorem Txt.kit {K : PySem.W.Frag} {mg : Str → Option Value} {B : Addr} {C : Nat → Addr} (T : Txt K mg B C) {k j : Nat} (hk : k < 18) (hj : j < 18) : PySem.W.kitOne K (.ref (C k)) (.ref (C j)) = some (decide (j = k)) := by
  by_cases e : j = k
  · subst e
    rw [decide_eq_true rfl]
    exact kit_yes (T.ct j hj)
  · rw [decide_eq_false e]
    exact kit_no (T.ct k hk) (T.ct j hj) (T.ne j k hj hk e) (T.neB j hj)
def spMarks (C : Nat → Addr) : Sp := fun vs H Q _ => ∃ (a : Addr) (k : Nat), vs = [.ref a] ∧ k < 18 ∧ ErrAt H a (C k) ∧ ∀ p H', H p = none → Same H H' → H' p = some (.lst (mk k)) → Q (.ref p) H'
abbrev sMarks : Stmt := top 25
abbrev sIsOf : Stmt := top 26
section
variable {P : Program} {w : World} {K : PySem.W.Frag} {mg : Str → Option Value} {base : Heap} {B : Addr} {C : Nat → Addr}
theorem scMk : FnScope ["_law_e", "_law_found"] ["_law_e"] (defScope sMarks) := ⟨rfl, rfl, rfl, by decide +kernel, rfl, by decide +kernel, by decide +kernel⟩

theorem ok_marks {f : Addr} {fd : FuncData} (F : Fun K "_law_marks" "_law_marks" sMarks f fd) (T : Txt K mg B C) : FnOk P w K mg base CX0 1 f fd ["_law_e"] (spMarks C) := by
  refine F.ok scMk (fun vs H Q E h => ?_) (fun cdv A outer s H vs Q E hr h => ?_)
  · obtain ⟨a, k, rfl, _⟩ := h
    rfl
  · obtain ⟨a, k, rfl, hk, he, q⟩ := h
    refine ⟨_, pss_cons (ps_set (i := 1) scMk.nd rfl (Or.inl rfl) (pe_lst (pa_cons (pe_callB (call_isErr T.G) (by rfl) T.isi boot_isinstance (pa_cons (pv 0) (pa_cons (pe_glob (v := .ref (C 0)) (by rfl) (T.gm 0 (by decide)) rfl) pa_nil))) (pa_cons (pe_callB (call_isErr T.G) (by rfl) T.isi boot_isinstance (pa_cons (pv 0) (pa_cons (pe_glob (v := .ref (C 1)) (by rfl) (T.gm 1 (by decide)) rfl) pa_nil))) (pa_cons (pe_callB (call_isErr T.G) (by rfl) T.isi boot_isinstance (pa_cons (pv 0) (pa_cons (pe_glob (v := .ref (C 2)) (by rfl) (T.gm 2 (by decide)) rfl) pa_nil))) (pa_cons (pe_callB (call_isErr T.G) (by rfl) T.isi boot_isinstance (pa_cons (pv 0) (pa_cons (pe_glob (v := .ref (C 3)) (by rfl) (T.gm 3 (by decide)) rfl) pa_nil))) pa_nil)))))) (pss_cons (ps_set (i := 1) scMk.nd rfl (Or.inl rfl) (pe_op op_cat (pv 1) (pe_lst (pa_cons (pe_callB (call_isErr T.G) (by rfl) T.isi boot_isinstance (pa_cons (pv 0) (pa_cons (pe_glob (v := .ref (C 4)) (by rfl) (T.gm 4 (by decide)) rfl) pa_nil))) (pa_cons (pe_callB (call_isErr T.G) (by rfl) T.isi boot_isinstance (pa_cons (pv 0) (pa_cons (pe_glob (v := .ref (C 5)) (by rfl) (T.gm 5 (by decide)) rfl) pa_nil))) (pa_cons (pe_callB (call_isErr T.G) (by rfl) T.isi boot_isinstance (pa_cons (pv 0) (pa_cons (pe_glob (v := .ref (C 6)) (by rfl) (T.gm 6 (by decide)) rfl) pa_nil))) (pa_cons (pe_callB (call_isErr T.G) (by rfl) T.isi boot_isinstance (pa_cons (pv 0) (pa_cons (pe_glob (v := .ref (C 7)) (by rfl) (T.gm 7 (by decide)) rfl) pa_nil))) pa_nil))))))) (pss_cons (ps_set (i := 1) scMk.nd rfl (Or.inl rfl) (pe_op op_cat (pv 1) (pe_lst (pa_cons (pe_callB (call_isErr T.G) (by rfl) T.isi boot_isinstance (pa_cons (pv 0) (pa_cons (pe_glob (v := .ref (C 8)) (by rfl) (T.gm 8 (by decide)) rfl) pa_nil))) (pa_cons (pe_callB (call_isErr T.G) (by rfl) T.isi boot_isinstance (pa_cons (pv 0) (pa_cons (pe_glob (v := .ref (C 9)) (by rfl) (T.gm 9 (by decide)) rfl) pa_nil))) (pa_cons (pe_callB (call_isErr T.G) (by rfl) T.isi boot_isinstance (pa_cons (pv 0) (pa_cons (pe_glob (v := .ref (C 10)) (by rfl) (T.gm 10 (by decide)) rfl) pa_nil))) (pa_cons (pe_callB (call_isErr T.G) (by rfl) T.isi boot_isinstance (pa_cons (pv 0) (pa_cons (pe_glob (v := .ref (C 11)) (by rfl) (T.gm 11 (by decide)) rfl) pa_nil))) pa_nil))))))) (pss_cons (ps_set (i := 1) scMk.nd rfl (Or.inl rfl) (pe_op op_cat (pv 1) (pe_lst (pa_cons (pe_callB (call_isErr T.G) (by rfl) T.isi boot_isinstance (pa_cons (pv 0) (pa_cons (pe_glob (v := .ref (C 12)) (by rfl) (T.gm 12 (by decide)) rfl) pa_nil))) (pa_cons (pe_callB (call_isErr T.G) (by rfl) T.isi boot_isinstance (pa_cons (pv 0) (pa_cons (pe_glob (v := .ref (C 13)) (by rfl) (T.gm 13 (by decide)) rfl) pa_nil))) (pa_cons (pe_callB (call_isErr T.G) (by rfl) T.isi boot_isinstance (pa_cons (pv 0) (pa_cons (pe_glob (v := .ref (C 14)) (by rfl) (T.gm 14 (by decide)) rfl) pa_nil))) pa_nil)))))) (pss_one (ps_ret (pe_op op_cat (pv 1) (pe_lst (pa_cons (pe_callB (call_isErr T.G) (by rfl) T.isi boot_isinstance (pa_cons (pv 0) (pa_cons (pe_glob (v := .ref (C 15)) (by rfl) (T.gm 15 (by decide)) rfl) pa_nil))) (pa_cons (pe_callB (call_isErr T.G) (by rfl) T.isi boot_isinstance (pa_cons (pv 0) (pa_cons (pe_glob (v := .ref (C 16)) (by rfl) (T.gm 16 (by decide)) rfl) pa_nil))) (pa_cons (pe_callB (call_isErr T.G) (by rfl) T.isi boot_isinstance (pa_cons (pv 0) (pa_cons (pe_glob (v := .ref (C 17)) (by rfl) (T.gm 17 (by decide)) rfl) pa_nil))) pa_nil)))))))))), ?_⟩
    refine ⟨_, rfl, a, C k, _, _, _, rfl, he, T.ct k hk, ClsV.own _, T.kit hk (by decide : 0 < 18), _, rfl, a, C k, _, _, _, rfl, he, T.ct k hk, ClsV.own _, T.kit hk (by decide : 1 < 18), _, rfl, a, C k, _, _, _, rfl, he, T.ct k hk, ClsV.own _, T.kit hk (by decide : 2 < 18), _, rfl, a, C k, _, _, _, rfl, he, T.ct k hk, ClsV.own _, T.kit hk (by decide : 3 < 18), by show 4 ≤ sizeLine; decide, fun p1 n1 => ?_⟩
    have s1 : Same H (upd H p1 (.lst [.bl (decide (0 = k)), .bl (decide (1 = k)), .bl (decide (2 = k)), .bl (decide (3 = k))])) := Same.new n1
    have he1 := Same.err s1 he
    refine ⟨_, rfl, _, rfl, a, C k, _, _, _, rfl, he1, T.ct k hk, ClsV.own _, T.kit hk (by decide : 4 < 18), _, rfl, a, C k, _, _, _, rfl, he1, T.ct k hk, ClsV.own _, T.kit hk (by decide : 5 < 18), _, rfl, a, C k, _, _, _, rfl, he1, T.ct k hk, ClsV.own _, T.kit hk (by decide : 6 < 18), _, rfl, a, C k, _, _, _, rfl, he1, T.ct k hk, ClsV.own _, T.kit hk (by decide : 7 < 18), by show 4 ≤ sizeLine; decide, fun p2 n2 => ?_⟩
    have m2 : p1 ≠ p2 := ne_of_none (o := .lst ([.bl (decide (0 = k)), .bl (decide (1 = k)), .bl (decide (2 = k)), .bl (decide (3 = k))])) upd_same n2
    have t1a : Same H (upd (upd H p1 (.lst [.bl (decide (0 = k)), .bl (decide (1 = k)), .bl (decide (2 = k)), .bl (decide (3 = k))])) p2 (.lst [.bl (decide (4 = k)), .bl (decide (5 = k)), .bl (decide (6 = k)), .bl (decide (7 = k))])) := s1.trans (Same.new n2)
    refine ⟨_, _, _, _, rfl, rfl, (by rw [upd_ne m2, upd_same]), upd_same, (by show 8 ≤ sizeLine; decide), fun c1 o1 => ?_⟩
    have t1 : Same H (upd (upd (upd H p1 (.lst [.bl (decide (0 = k)), .bl (decide (1 = k)), .bl (decide (2 = k)), .bl (decide (3 = k))])) p2 (.lst [.bl (decide (4 = k)), .bl (decide (5 = k)), .bl (decide (6 = k)), .bl (decide (7 = k))])) c1 (.lst ([.bl (decide (0 = k)), .bl (decide (1 = k)), .bl (decide (2 = k)), .bl (decide (3 = k))] ++ [.bl (decide (4 = k)), .bl (decide (5 = k)), .bl (decide (6 = k)), .bl (decide (7 = k))]))) := t1a.trans (Same.new o1)
    have he2 := Same.err t1 he
    refine ⟨_, rfl, _, rfl, a, C k, _, _, _, rfl, he2, T.ct k hk, ClsV.own _, T.kit hk (by decide : 8 < 18), _, rfl, a, C k, _, _, _, rfl, he2, T.ct k hk, ClsV.own _, T.kit hk (by decide : 9 < 18), _, rfl, a, C k, _, _, _, rfl, he2, T.ct k hk, ClsV.own _, T.kit hk (by decide : 10 < 18), _, rfl, a, C k, _, _, _, rfl, he2, T.ct k hk, ClsV.own _, T.kit hk (by decide : 11 < 18), by show 4 ≤ sizeLine; decide, fun p3 n3 => ?_⟩
    have m3 : c1 ≠ p3 := ne_of_none (o := .lst ([.bl (decide (0 = k)), .bl (decide (1 = k)), .bl (decide (2 = k)), .bl (decide (3 = k))] ++ [.bl (decide (4 = k)), .bl (decide (5 = k)), .bl (decide (6 = k)), .bl (decide (7 = k))])) upd_same n3
    have t2a : Same H (upd (upd (upd (upd H p1 (.lst [.bl (decide (0 = k)), .bl (decide (1 = k)), .bl (decide (2 = k)), .bl (decide (3 = k))])) p2 (.lst [.bl (decide (4 = k)), .bl (decide (5 = k)), .bl (decide (6 = k)), .bl (decide (7 = k))])) c1 (.lst ([.bl (decide (0 = k)), .bl (decide (1 = k)), .bl (decide (2 = k)), .bl (decide (3 = k))] ++ [.bl (decide (4 = k)), .bl (decide (5 = k)), .bl (decide (6 = k)), .bl (decide (7 = k))]))) p3 (.lst [.bl (decide (8 = k)), .bl (decide (9 = k)), .bl (decide (10 = k)), .bl (decide (11 = k))])) := t1.trans (Same.new n3)
    refine ⟨_, _, _, _, rfl, rfl, (by rw [upd_ne m3, upd_same]), upd_same, (by show 12 ≤ sizeLine; decide), fun c2 o2 => ?_⟩
    have t2 : Same H (upd (upd (upd (upd (upd H p1 (.lst [.bl (decide (0 = k)), .bl (decide (1 = k)), .bl (decide (2 = k)), .bl (decide (3 = k))])) p2 (.lst [.bl (decide (4 = k)), .bl (decide (5 = k)), .bl (decide (6 = k)), .bl (decide (7 = k))])) c1 (.lst ([.bl (decide (0 = k)), .bl (decide (1 = k)), .bl (decide (2 = k)), .bl (decide (3 = k))] ++ [.bl (decide (4 = k)), .bl (decide (5 = k)), .bl (decide (6 = k)), .bl (decide (7 = k))]))) p3 (.lst [.bl (decide (8 = k)), .bl (decide (9 = k)), .bl (decide (10 = k)), .bl (decide (11 = k))])) c2 (.lst ([.bl (decide (0 = k)), .bl (decide (1 = k)), .bl (decide (2 = k)), .bl (decide (3 = k))] ++ [.bl (decide (4 = k)), .bl (decide (5 = k)), .bl (decide (6 = k)), .bl (decide (7 = k))] ++ [.bl (decide (8 = k)), .bl (decide (9 = k)), .bl (decide (10 = k)), .bl (decide (11 = k))]))) := t2a.trans (Same.new o2)
    have he3 := Same.err t2 he
    refine ⟨_, rfl, _, rfl, a, C k, _, _, _, rfl, he3, T.ct k hk, ClsV.own _, T.kit hk (by decide : 12 < 18), _, rfl, a, C k, _, _, _, rfl, he3, T.ct k hk, ClsV.own _, T.kit hk (by decide : 13 < 18), _, rfl, a, C k, _, _, _, rfl, he3, T.ct k hk, ClsV.own _, T.kit hk (by decide : 14 < 18), by show 3 ≤ sizeLine; decide, fun p4 n4 => ?_⟩
    have m4 : c2 ≠ p4 := ne_of_none (o := .lst ([.bl (decide (0 = k)), .bl (decide (1 = k)), .bl (decide (2 = k)), .bl (decide (3 = k))] ++ [.bl (decide (4 = k)), .bl (decide (5 = k)), .bl (decide (6 = k)), .bl (decide (7 = k))] ++ [.bl (decide (8 = k)), .bl (decide (9 = k)), .bl (decide (10 = k)), .bl (decide (11 = k))])) upd_same n4
    have t3a : Same H (upd (upd (upd (upd (upd (upd H p1 (.lst [.bl (decide (0 = k)), .bl (decide (1 = k)), .bl (decide (2 = k)), .bl (decide (3 = k))])) p2 (.lst [.bl (decide (4 = k)), .bl (decide (5 = k)), .bl (decide (6 = k)), .bl (decide (7 = k))])) c1 (.lst ([.bl (decide (0 = k)), .bl (decide (1 = k)), .bl (decide (2 = k)), .bl (decide (3 = k))] ++ [.bl (decide (4 = k)), .bl (decide (5 = k)), .bl (decide (6 = k)), .bl (decide (7 = k))]))) p3 (.lst [.bl (decide (8 = k)), .bl (decide (9 = k)), .bl (decide (10 = k)), .bl (decide (11 = k))])) c2 (.lst ([.bl (decide (0 = k)), .bl (decide (1 = k)), .bl (decide (2 = k)), .bl (decide (3 = k))] ++ [.bl (decide (4 = k)), .bl (decide (5 = k)), .bl (decide (6 = k)), .bl (decide (7 = k))] ++ [.bl (decide (8 = k)), .bl (decide (9 = k)), .bl (decide (10 = k)), .bl (decide (11 = k))]))) p4 (.lst [.bl (decide (12 = k)), .bl (decide (13 = k)), .bl (decide (14 = k))])) := t2.trans (Same.new n4)
    refine ⟨_, _, _, _, rfl, rfl, (by rw [upd_ne m4, upd_same]), upd_same, (by show 15 ≤ sizeLine; decide), fun c3 o3 => ?_⟩
    have t3 : Same H (upd (upd (upd (upd (upd (upd (upd H p1 (.lst [.bl (decide (0 = k)), .bl (decide (1 = k)), .bl (decide (2 = k)), .bl (decide (3 = k))])) p2 (.lst [.bl (decide (4 = k)), .bl (decide (5 = k)), .bl (decide (6 = k)), .bl (decide (7 = k))])) c1 (.lst ([.bl (decide (0 = k)), .bl (decide (1 = k)), .bl (decide (2 = k)), .bl (decide (3 = k))] ++ [.bl (decide (4 = k)), .bl (decide (5 = k)), .bl (decide (6 = k)), .bl (decide (7 = k))]))) p3 (.lst [.bl (decide (8 = k)), .bl (decide (9 = k)), .bl (decide (10 = k)), .bl (decide (11 = k))])) c2 (.lst ([.bl (decide (0 = k)), .bl (decide (1 = k)), .bl (decide (2 = k)), .bl (decide (3 = k))] ++ [.bl (decide (4 = k)), .bl (decide (5 = k)), .bl (decide (6 = k)), .bl (decide (7 = k))] ++ [.bl (decide (8 = k)), .bl (decide (9 = k)), .bl (decide (10 = k)), .bl (decide (11 = k))]))) p4 (.lst [.bl (decide (12 = k)), .bl (decide (13 = k)), .bl (decide (14 = k))])) c3 (.lst ([.bl (decide (0 = k)), .bl (decide (1 = k)), .bl (decide (2 = k)), .bl (decide (3 = k))] ++ [.bl (decide (4 = k)), .bl (decide (5 = k)), .bl (decide (6 = k)), .bl (decide (7 = k))] ++ [.bl (decide (8 = k)), .bl (decide (9 = k)), .bl (decide (10 = k)), .bl (decide (11 = k))] ++ [.bl (decide (12 = k)), .bl (decide (13 = k)), .bl (decide (14 = k))]))) := t3a.trans (Same.new o3)
    have he4 := Same.err t3 he
    refine ⟨_, rfl, _, rfl, a, C k, _, _, _, rfl, he4, T.ct k hk, ClsV.own _, T.kit hk (by decide : 15 < 18), _, rfl, a, C k, _, _, _, rfl, he4, T.ct k hk, ClsV.own _, T.kit hk (by decide : 16 < 18), _, rfl, a, C k, _, _, _, rfl, he4, T.ct k hk, ClsV.own _, T.kit hk (by decide : 17 < 18), by show 3 ≤ sizeLine; decide, fun p5 n5 => ?_⟩
    have m5 : c3 ≠ p5 := ne_of_none (o := .lst ([.bl (decide (0 = k)), .bl (decide (1 = k)), .bl (decide (2 = k)), .bl (decide (3 = k))] ++ [.bl (decide (4 = k)), .bl (decide (5 = k)), .bl (decide (6 = k)), .bl (decide (7 = k))] ++ [.bl (decide (8 = k)), .bl (decide (9 = k)), .bl (decide (10 = k)), .bl (decide (11 = k))] ++ [.bl (decide (12 = k)), .bl (decide (13 = k)), .bl (decide (14 = k))])) upd_same n5
    have t4a : Same H (upd (upd (upd (upd (upd (upd (upd (upd H p1 (.lst [.bl (decide (0 = k)), .bl (decide (1 = k)), .bl (decide (2 = k)), .bl (decide (3 = k))])) p2 (.lst [.bl (decide (4 = k)), .bl (decide (5 = k)), .bl (decide (6 = k)), .bl (decide (7 = k))])) c1 (.lst ([.bl (decide (0 = k)), .bl (decide (1 = k)), .bl (decide (2 = k)), .bl (decide (3 = k))] ++ [.bl (decide (4 = k)), .bl (decide (5 = k)), .bl (decide (6 = k)), .bl (decide (7 = k))]))) p3 (.lst [.bl (decide (8 = k)), .bl (decide (9 = k)), .bl (decide (10 = k)), .bl (decide (11 = k))])) c2 (.lst ([.bl (decide (0 = k)), .bl (decide (1 = k)), .bl (decide (2 = k)), .bl (decide (3 = k))] ++ [.bl (decide (4 = k)), .bl (decide (5 = k)), .bl (decide (6 = k)), .bl (decide (7 = k))] ++ [.bl (decide (8 = k)), .bl (decide (9 = k)), .bl (decide (10 = k)), .bl (decide (11 = k))]))) p4 (.lst [.bl (decide (12 = k)), .bl (decide (13 = k)), .bl (decide (14 = k))])) c3 (.lst ([.bl (decide (0 = k)), .bl (decide (1 = k)), .bl (decide (2 = k)), .bl (decide (3 = k))] ++ [.bl (decide (4 = k)), .bl (decide (5 = k)), .bl (decide (6 = k)), .bl (decide (7 = k))] ++ [.bl (decide (8 = k)), .bl (decide (9 = k)), .bl (decide (10 = k)), .bl (decide (11 = k))] ++ [.bl (decide (12 = k)), .bl (decide (13 = k)), .bl (decide (14 = k))]))) p5 (.lst [.bl (decide (15 = k)), .bl (decide (16 = k)), .bl (decide (17 = k))])) := t3.trans (Same.new n5)
    refine ⟨_, _, _, _, rfl, rfl, (by rw [upd_ne m5, upd_same]), upd_same, (by show 18 ≤ sizeLine; decide), fun c4 o4 => ?_⟩
    have t4 : Same H (upd (upd (upd (upd (upd (upd (upd (upd (upd H p1 (.lst [.bl (decide (0 = k)), .bl (decide (1 = k)), .bl (decide (2 = k)), .bl (decide (3 = k))])) p2 (.lst [.bl (decide (4 = k)), .bl (decide (5 = k)), .bl (decide (6 = k)), .bl (decide (7 = k))])) c1 (.lst ([.bl (decide (0 = k)), .bl (decide (1 = k)), .bl (decide (2 = k)), .bl (decide (3 = k))] ++ [.bl (decide (4 = k)), .bl (decide (5 = k)), .bl (decide (6 = k)), .bl (decide (7 = k))]))) p3 (.lst [.bl (decide (8 = k)), .bl (decide (9 = k)), .bl (decide (10 = k)), .bl (decide (11 = k))])) c2 (.lst ([.bl (decide (0 = k)), .bl (decide (1 = k)), .bl (decide (2 = k)), .bl (decide (3 = k))] ++ [.bl (decide (4 = k)), .bl (decide (5 = k)), .bl (decide (6 = k)), .bl (decide (7 = k))] ++ [.bl (decide (8 = k)), .bl (decide (9 = k)), .bl (decide (10 = k)), .bl (decide (11 = k))]))) p4 (.lst [.bl (decide (12 = k)), .bl (decide (13 = k)), .bl (decide (14 = k))])) c3 (.lst ([.bl (decide (0 = k)), .bl (decide (1 = k)), .bl (decide (2 = k)), .bl (decide (3 = k))] ++ [.bl (decide (4 = k)), .bl (decide (5 = k)), .bl (decide (6 = k)), .bl (decide (7 = k))] ++ [.bl (decide (8 = k)), .bl (decide (9 = k)), .bl (decide (10 = k)), .bl (decide (11 = k))] ++ [.bl (decide (12 = k)), .bl (decide (13 = k)), .bl (decide (14 = k))]))) p5 (.lst [.bl (decide (15 = k)), .bl (decide (16 = k)), .bl (decide (17 = k))])) c4 (.lst ([.bl (decide (0 = k)), .bl (decide (1 = k)), .bl (decide (2 = k)), .bl (decide (3 = k))] ++ [.bl (decide (4 = k)), .bl (decide (5 = k)), .bl (decide (6 = k)), .bl (decide (7 = k))] ++ [.bl (decide (8 = k)), .bl (decide (9 = k)), .bl (decide (10 = k)), .bl (decide (11 = k))] ++ [.bl (decide (12 = k)), .bl (decide (13 = k)), .bl (decide (14 = k))] ++ [.bl (decide (15 = k)), .bl (decide (16 = k)), .bl (decide (17 = k))]))) := t4a.trans (Same.new o4)
    refine q c4 _ (Same.free t4a o4) t4 ?_
    rw [upd_same]
    rfl
end
end Kx
namespace Kx
open PySem L2 PySem.Spec PyProof.Rows
/-- the number told, k: the class's own -/
def spIsOf (C : Nat → Addr) : Sp := fun vs H Q _ => ∃ (a : Addr) (k : Nat), vs = [.ref a, .int k] ∧ k < 18 ∧ ErrAt H a (C k) ∧ ∀ H', Same H H' → Q (.bl true) H'
section
variable {P : Program} {w : World} {K : PySem.W.Frag} {mg : Str → Option Value} {base : Heap} {B : Addr} {C : Nat → Addr}
theorem scIs : FnScope ["_law_e", "_law_k", "_law_at"] ["_law_e", "_law_k"] (defScope sIsOf) := ⟨rfl, rfl, rfl, by decide +kernel, rfl, by decide +kernel, by decide +kernel⟩
theorem mk_take (k i : Nat) (hi : i < 18) : (mk k).take i ++ [.bl (decide (V.int (0 + (i : Int)) = V.int (k : Int)))] = (mk k).take (i + 1) := by
  have e : (mk k)[i]? = some (.bl (decide (V.int (0 + (i : Int)) = V.int (k : Int)))) := by
    unfold mk
    rw [List.getElem?_map, List.getElem?_range hi]
    show some (V.bl _) = some (V.bl _)
    congr 2
    apply decide_eq_decide.mpr
    constructor
    · rintro rfl
      congr 1
      omega
    · intro h
      have := V.int.inj h
      omega
  rw [List.take_add_one, e]
  rfl
theorem mk_len (k : Nat) : (mk k).length = 18 := by
  unfold mk
  simp
theorem pair_mk {n : Nat} {H : Hp} : ∀ (xs : List V), (∀ x ∈ xs, flatB x = true) → Paired (EqV K H (n + 1)) xs xs
  | [], _ => .nil
  | x :: xs, h => .cons (.inl ⟨rfl, h x (by simp)⟩) (pair_mk xs fun y hy => h y (List.mem_cons_of_mem _ hy))
theorem mk_flat (k : Nat) : ∀ x ∈ mk k, flatB x = true := by
  intro x hx
  unfold mk at hx
  obtain ⟨j, _, rfl⟩ := List.mem_map.mp hx
  rfl
theorem ok_isof {f g : Addr} {fd fdM : FuncData} (F : Fun K "_law_is_of" "_law_is_of" sIsOf f fd) (T : Txt K mg B C) (FM : Fun K "_law_marks" "_law_marks" sMarks g fdM) (bM : Binds K fdM ["_law_e"] []) (mM : mg "_law_marks" = some (.ref g)) :
    FnOk P w K mg base CX0 2 f fd ["_law_e", "_law_k"] (spIsOf C) := by
  have GM : FnOk P w K mg base CX0 1 g fdM ["_law_e"] (spMarks C) := ok_marks FM T
  refine F.ok scIs (fun vs H Q E h => ?_) (fun cdv A outer s H vs Q E hr h => ?_)
  · obtain ⟨a, k, rfl, _⟩ := h
    rfl
  · obtain ⟨a, k, rfl, hk, he, q⟩ := h
    refine ⟨_, pss_cons (ps_if (PW.pt (pw_or (pt_not (pt_val (pe_callB (call_isErr T.G) (by rfl) T.isi boot_isinstance (pa_cons (pv 0) (pa_cons (pe_glob (v := .ref B) (by rfl) T.gB rfl) pa_nil)))))
        (pw_or1 (pt_not (pt_val (pe_callB (call_isErr T.G) (by rfl) T.isi boot_isinstance (pa_cons (pv 0) (pa_cons (pe_bltn (v := .ty "ValueError") (by rfl) T.ve (by decide +kernel) rfl) pa_nil)))))))) (pss_one (ps_ret pe_bl)) pss_nil)
      (pss_one (ps_ret (pe_cmpR (op_eqV hr.units) (pe_call GM hr rfl mM FM.kp bM .nil pass0 (pa_cons (pv 0) pa_nil))
        (pe_lc (own := [("_law_at", 2)]) (g := gName 2) (tt := tYes) rfl scIs.nd (pi_range1 rfl T.rng (pa_cons pe_int pa_nil)) (blkOk_by (N := ["_law_e", "_law_k", "_law_at"]) (sc := defScope sIsOf) (by decide +kernel))
          (fun _ _ _ _ _ => pg_name (i := 2) scIs.nd rfl (Or.inl rfl)) (fun _ _ _ _ _ => pts_nil) (fun _ _ _ _ _ => pe_cmpR op_eq (pv 2) (pv 1) (nomark _)))
        (nomark _)))), ?_⟩
    refine ⟨_, rfl, a, C k, _, _, _, rfl, he, T.ct k hk, ClsV.own _, kit_b (T.ct k hk) T.G, _, rfl, ?_⟩
    refine iteF ⟨_, rfl, a, C k, _, _, _, rfl, he, T.ct k hk, ClsV.ty _, kit_ve (T.ct k hk), _, rfl, iteF ?_⟩
    refine ⟨_, rfl, a, k, rfl, hk, he, fun p H1 hp s1 h1 => ?_⟩
    refine ⟨18, rfl, by decide, by decide, fun D hD => ?_⟩
    have nDp : p ≠ D := ne_of_none h1 hD
    refine lc_range (lo := 0) (n := 18) (fun i H2 => Same H H2 ∧ H2 p = some (.lst (mk k)) ∧ H2 D = some (.lst ((mk k).take i))) ⟨s1.trans (Same.new hD), by rw [upd_ne nDp]; exact h1, upd_same⟩ ?_ ?_
    · rintro i H2 hi ⟨s2, g1, g2⟩
      refine ⟨rfl, ?_⟩
      show tOp rEq (tVar 2) (tVar 1) _ H2 _
      refine ⟨_, rfl, _, rfl, rfl, (mk k).take i, g2, small1000 (by rw [List.length_take, mk_len]; omega), ?_, ?_, ?_⟩
      · intro b o e
        by_cases hb : b = D
        · subst hb
          rw [s1 b o e] at hD
          cases hD
        · rw [upd_ne hb]
          exact s2 b o e
      · rw [upd_ne nDp]
        exact g1
      · rw [upd_same, mk_take k i hi]
    · rintro H2 ⟨s2, g1, g2⟩
      rw [List.take_of_length_le (by rw [mk_len]; omega)] at g2
      exact ⟨1, by decide, .inl ⟨p, D, _, _, rfl, rfl, SqL.of g1, SqL.of g2, pair_mk _ (mk_flat k)⟩, q H2 s2⟩
end
end Kx
namespace Kx
open PySem L2 PySem.Spec PyProof.Rows
/-! errors made, and what they hold -/
structure IniOf (K : PySem.W.Frag) (C : Addr) (qual : Str) (st : Stmt) (ns : List Str) (f : Addr) (fd : FuncData) : Prop where
  iC : PySem.W.findIn K (.ref C) "__init__" = some (some (.ref f))
  tI : PySem.W.typeIn K (.ref f) = some (.type "function")
  F : Fun K "__init__" qual st f fd
  b : Binds K fd ("self" :: ns) []
  no : ∀ x ∈ ns, PySem.W.findIn K (.ref C) x = some none
structure Inis (K : PySem.W.Frag) (C : Nat → Addr) (f : Nat → Addr) (fd : Nat → FuncData) : Prop where
  x0 : IniOf K (C 0) "BadCond.__init__" (inClass (top 2) 0) ["clause"] (f 0) (fd 0)
  x1 : IniOf K (C 1) "NoValue.__init__" (inClass (top 3) 0) ["term"] (f 1) (fd 1)
  x2 : IniOf K (C 2) "NoClauses.__init__" (inClass (top 4) 0) ["at"] (f 2) (fd 2)
  x3 : IniOf K (C 3) "NoClass.__init__" (inClass (top 6) 0) ["name"] (f 3) (fd 3)
  x4 : IniOf K (C 4) "NoMethod.__init__" (inClass (top 7) 0) ["method"] (f 4) (fd 4)
  x5 : IniOf K (C 5) "NoSlot.__init__" (inClass (top 8) 0) ["slot"] (f 5) (fd 5)
  x6 : IniOf K (C 6) "NoSite.__init__" (inClass (top 10) 0) ["place"] (f 6) (fd 6)
  x7 : IniOf K (C 7) "NoTape.__init__" (inClass (top 11) 0) ["tape"] (f 7) (fd 7)
  x8 : IniOf K (C 8) "NoSteps.__init__" (inClass (top 12) 0) ["steps"] (f 8) (fd 8)
  x9 : IniOf K (C 9) "NoChecks.__init__" (inClass (top 13) 0) ["without"] (f 9) (fd 9)
  x10 : IniOf K (C 10) "NoDuty.__init__" (inClass (top 16) 0) ["duty"] (f 10) (fd 10)
  x11 : IniOf K (C 11) "Unkept.__init__" (inClass (top 17) 0) ["duty"] (f 11) (fd 11)
  x12 : IniOf K (C 12) "BadText.__init__" (inClass (top 18) 0) ["row"] (f 12) (fd 12)
  x13 : IniOf K (C 13) "BadLibrary.__init__" (inClass (top 5) 0) ["at", "why"] (f 13) (fd 13)
  x14 : IniOf K (C 14) "BadBody.__init__" (inClass (top 9) 0) ["at", "why"] (f 14) (fd 14)
  x17 : IniOf K (C 17) "Breach.__init__" (inClass (top 19) 0) ["kind", "blamed", "side", "of", "slot", "site", "numbers", "clause", "earlier"] (f 17) (fd 17)
  q15 : PySem.W.excIn K (C 15) veL "ValueError.__new__" = true
  q16 : PySem.W.excIn K (C 16) veL "ValueError.__new__" = true
abbrev sSingle : Stmt := top 24
abbrev sSeveral : Stmt := top 28
def spSingle (C : Nat → Addr) : Sp := fun vs H Q _ => ∃ (k : Nat) (v : V), vs = [.int k, v] ∧ k < 13 ∧ ∀ (t e : Addr) H', H t = none → Same H H' → ErrAt H' e (C k) → H' t = some (.tup [.ref e, v]) → Q (.ref t) H'
section
variable {P : Program} {w : World} {K : PySem.W.Frag} {mg : Str → Option Value} {base : Heap} {B : Addr} {C : Nat → Addr} {fi : Nat → Addr} {fdi : Nat → FuncData}
theorem scSg : FnScope ["_law_k", "_law_thing", "_law_e"] ["_law_k", "_law_thing"] (defScope sSingle) := ⟨rfl, rfl, rfl, by decide +kernel, rfl, by decide +kernel, by decide +kernel⟩
theorem look1 (f : Str) (v : V) : List.lookup f [(f, v)] = some v := by simp [List.lookup]
theorem sg_end {H H1 : Hp} {Q : VK} {k : Nat} {e : Addr} {v : V} {fs : List (Str × V)} (q : ∀ (t e : Addr) H', H t = none → Same H H' → ErrAt H' e (C k) → H' t = some (.tup [.ref e, v]) → Q (.ref t) H') (s1 : Same H H1) (h1 : HasF H1 e (C k) fs) (t : Addr) (n : H1 t = none) :
    Q (.ref t) (upd H1 t (.tup [.ref e, v])) := q t e _ (s1.free n) (s1.trans (Same.new n)) (Same.err (Same.new n) (.inl ⟨_, h1⟩)) upd_same
theorem ok_single {f : Addr} {fd : FuncData} (F : Fun K "_law_single" "_law_single" sSingle f fd) (T : Txt K mg B C) (S : Inis K C fi fdi) : FnOk P w K mg base CX0 3 f fd ["_law_k", "_law_thing"] (spSingle C) := by
  refine F.ok scSg (fun vs H Q E h => ?_) (fun cdv A outer s H vs Q E hr h => ?_)
  · obtain ⟨k, v, rfl, _⟩ := h
    rfl
  · obtain ⟨k, v, rfl, hk, q⟩ := h
    have hr1 : Room 2 _ := hr
    refine ⟨_, pss_cons (ps_if (pt_cmpR op_eq (pv 0) pe_int (nomark _)) (pss_cons (ps_set (i := 2) scSg.nd rfl (Or.inl rfl) (pe_err (T.ct 0 (by decide)) S.x0.no S.x0.iC S.x0.tI (ok_BadCond S.x0.F) hr1 S.x0.b pass0 (T.gm 0 (by decide)) (pa_cons (pv 1) pa_nil))) (pss_one (ps_ret (pe_tup (pa_cons (pv 2) (pa_cons (pe_errF (pv 2)) pa_nil)))))) pss_nil) (pss_cons (ps_if (pt_cmpR op_eq (pv 0) pe_int (nomark _)) (pss_cons (ps_set (i := 2) scSg.nd rfl (Or.inl rfl) (pe_err (T.ct 1 (by decide)) S.x1.no S.x1.iC S.x1.tI (ok_NoValue S.x1.F) hr1 S.x1.b pass0 (T.gm 1 (by decide)) (pa_cons (pv 1) pa_nil))) (pss_one (ps_ret (pe_tup (pa_cons (pv 2) (pa_cons (pe_errF (pv 2)) pa_nil)))))) pss_nil) (pss_cons (ps_if (pt_cmpR op_eq (pv 0) pe_int (nomark _)) (pss_cons (ps_set (i := 2) scSg.nd rfl (Or.inl rfl) (pe_err (T.ct 2 (by decide)) S.x2.no S.x2.iC S.x2.tI (ok_NoClauses S.x2.F) hr1 S.x2.b pass0 (T.gm 2 (by decide)) (pa_cons (pv 1) pa_nil))) (pss_one (ps_ret (pe_tup (pa_cons (pv 2) (pa_cons (pe_errF (pv 2)) pa_nil)))))) pss_nil) (pss_cons (ps_if (pt_cmpR op_eq (pv 0) pe_int (nomark _)) (pss_cons (ps_set (i := 2) scSg.nd rfl (Or.inl rfl) (pe_err (T.ct 3 (by decide)) S.x3.no S.x3.iC S.x3.tI (ok_NoClass S.x3.F) hr1 S.x3.b pass0 (T.gm 3 (by decide)) (pa_cons (pv 1) pa_nil))) (pss_one (ps_ret (pe_tup (pa_cons (pv 2) (pa_cons (pe_errF (pv 2)) pa_nil)))))) pss_nil) (pss_cons (ps_if (pt_cmpR op_eq (pv 0) pe_int (nomark _)) (pss_cons (ps_set (i := 2) scSg.nd rfl (Or.inl rfl) (pe_err (T.ct 4 (by decide)) S.x4.no S.x4.iC S.x4.tI (ok_NoMethod S.x4.F) hr1 S.x4.b pass0 (T.gm 4 (by decide)) (pa_cons (pv 1) pa_nil))) (pss_one (ps_ret (pe_tup (pa_cons (pv 2) (pa_cons (pe_errF (pv 2)) pa_nil)))))) pss_nil) (pss_cons (ps_if (pt_cmpR op_eq (pv 0) pe_int (nomark _)) (pss_cons (ps_set (i := 2) scSg.nd rfl (Or.inl rfl) (pe_err (T.ct 5 (by decide)) S.x5.no S.x5.iC S.x5.tI (ok_NoSlot S.x5.F) hr1 S.x5.b pass0 (T.gm 5 (by decide)) (pa_cons (pv 1) pa_nil))) (pss_one (ps_ret (pe_tup (pa_cons (pv 2) (pa_cons (pe_errF (pv 2)) pa_nil)))))) pss_nil) (pss_cons (ps_if (pt_cmpR op_eq (pv 0) pe_int (nomark _)) (pss_cons (ps_set (i := 2) scSg.nd rfl (Or.inl rfl) (pe_err (T.ct 6 (by decide)) S.x6.no S.x6.iC S.x6.tI (ok_NoSite S.x6.F) hr1 S.x6.b pass0 (T.gm 6 (by decide)) (pa_cons (pv 1) pa_nil))) (pss_one (ps_ret (pe_tup (pa_cons (pv 2) (pa_cons (pe_errF (pv 2)) pa_nil)))))) pss_nil) (pss_cons (ps_if (pt_cmpR op_eq (pv 0) pe_int (nomark _)) (pss_cons (ps_set (i := 2) scSg.nd rfl (Or.inl rfl) (pe_err (T.ct 7 (by decide)) S.x7.no S.x7.iC S.x7.tI (ok_NoTape S.x7.F) hr1 S.x7.b pass0 (T.gm 7 (by decide)) (pa_cons (pv 1) pa_nil))) (pss_one (ps_ret (pe_tup (pa_cons (pv 2) (pa_cons (pe_errF (pv 2)) pa_nil)))))) pss_nil) (pss_cons (ps_if (pt_cmpR op_eq (pv 0) pe_int (nomark _)) (pss_cons (ps_set (i := 2) scSg.nd rfl (Or.inl rfl) (pe_err (T.ct 8 (by decide)) S.x8.no S.x8.iC S.x8.tI (ok_NoSteps S.x8.F) hr1 S.x8.b pass0 (T.gm 8 (by decide)) (pa_cons (pv 1) pa_nil))) (pss_one (ps_ret (pe_tup (pa_cons (pv 2) (pa_cons (pe_errF (pv 2)) pa_nil)))))) pss_nil) (pss_cons (ps_if (pt_cmpR op_eq (pv 0) pe_int (nomark _)) (pss_cons (ps_set (i := 2) scSg.nd rfl (Or.inl rfl) (pe_err (T.ct 9 (by decide)) S.x9.no S.x9.iC S.x9.tI (ok_NoChecks S.x9.F) hr1 S.x9.b pass0 (T.gm 9 (by decide)) (pa_cons (pv 1) pa_nil))) (pss_one (ps_ret (pe_tup (pa_cons (pv 2) (pa_cons (pe_errF (pv 2)) pa_nil)))))) pss_nil) (pss_cons (ps_if (pt_cmpR op_eq (pv 0) pe_int (nomark _)) (pss_cons (ps_set (i := 2) scSg.nd rfl (Or.inl rfl) (pe_err (T.ct 10 (by decide)) S.x10.no S.x10.iC S.x10.tI (ok_NoDuty S.x10.F) hr1 S.x10.b pass0 (T.gm 10 (by decide)) (pa_cons (pv 1) pa_nil))) (pss_one (ps_ret (pe_tup (pa_cons (pv 2) (pa_cons (pe_errF (pv 2)) pa_nil)))))) pss_nil) (pss_cons (ps_if (pt_cmpR op_eq (pv 0) pe_int (nomark _)) (pss_cons (ps_set (i := 2) scSg.nd rfl (Or.inl rfl) (pe_err (T.ct 11 (by decide)) S.x11.no S.x11.iC S.x11.tI (ok_Unkept S.x11.F) hr1 S.x11.b pass0 (T.gm 11 (by decide)) (pa_cons (pv 1) pa_nil))) (pss_one (ps_ret (pe_tup (pa_cons (pv 2) (pa_cons (pe_errF (pv 2)) pa_nil)))))) pss_nil) (pss_cons (ps_set (i := 2) scSg.nd rfl (Or.inl rfl) (pe_err (T.ct 12 (by decide)) S.x12.no S.x12.iC S.x12.tI (ok_BadText S.x12.F) hr1 S.x12.b pass0 (T.gm 12 (by decide)) (pa_cons (pv 1) pa_nil))) (pss_one (ps_ret (pe_tup (pa_cons (pv 2) (pa_cons (pe_errF (pv 2)) pa_nil))))))))))))))))), ?_⟩
    refine ⟨_, rfl, rfl, _, rfl, ?_⟩
    refine ite2 (fun z => ?_) (fun z0 => ?_)
    · obtain rfl : k = 0 := by have y := V.int.inj (of_decide_eq_true z); omega
      refine ⟨_, rfl, rfl, by decide, fun e H1 n1 h1 s1 => ?_⟩
      refine ⟨_, rfl, _, rfl, e, B, C 0, _, v, rfl, T.ct 0 (by decide), S.x0.no _ (by simp), h1, look1 _ _, (by show 2 ≤ sizeLine; decide), fun t nt => ?_⟩
      exact sg_end q s1 h1 t nt
    refine ⟨_, rfl, rfl, _, rfl, ?_⟩
    refine ite2 (fun z => ?_) (fun z1 => ?_)
    · obtain rfl : k = 1 := by have y := V.int.inj (of_decide_eq_true z); omega
      refine ⟨_, rfl, rfl, by decide, fun e H1 n1 h1 s1 => ?_⟩
      refine ⟨_, rfl, _, rfl, e, B, C 1, _, v, rfl, T.ct 1 (by decide), S.x1.no _ (by simp), h1, look1 _ _, (by show 2 ≤ sizeLine; decide), fun t nt => ?_⟩
      exact sg_end q s1 h1 t nt
    refine ⟨_, rfl, rfl, _, rfl, ?_⟩
    refine ite2 (fun z => ?_) (fun z2 => ?_)
    · obtain rfl : k = 2 := by have y := V.int.inj (of_decide_eq_true z); omega
      refine ⟨_, rfl, rfl, by decide, fun e H1 n1 h1 s1 => ?_⟩
      refine ⟨_, rfl, _, rfl, e, B, C 2, _, v, rfl, T.ct 2 (by decide), S.x2.no _ (by simp), h1, look1 _ _, (by show 2 ≤ sizeLine; decide), fun t nt => ?_⟩
      exact sg_end q s1 h1 t nt
    refine ⟨_, rfl, rfl, _, rfl, ?_⟩
    refine ite2 (fun z => ?_) (fun z3 => ?_)
    · obtain rfl : k = 3 := by have y := V.int.inj (of_decide_eq_true z); omega
      refine ⟨_, rfl, rfl, by decide, fun e H1 n1 h1 s1 => ?_⟩
      refine ⟨_, rfl, _, rfl, e, B, C 3, _, v, rfl, T.ct 3 (by decide), S.x3.no _ (by simp), h1, look1 _ _, (by show 2 ≤ sizeLine; decide), fun t nt => ?_⟩
      exact sg_end q s1 h1 t nt
    refine ⟨_, rfl, rfl, _, rfl, ?_⟩
    refine ite2 (fun z => ?_) (fun z4 => ?_)
    · obtain rfl : k = 4 := by have y := V.int.inj (of_decide_eq_true z); omega
      refine ⟨_, rfl, rfl, by decide, fun e H1 n1 h1 s1 => ?_⟩
      refine ⟨_, rfl, _, rfl, e, B, C 4, _, v, rfl, T.ct 4 (by decide), S.x4.no _ (by simp), h1, look1 _ _, (by show 2 ≤ sizeLine; decide), fun t nt => ?_⟩
      exact sg_end q s1 h1 t nt
    refine ⟨_, rfl, rfl, _, rfl, ?_⟩
    refine ite2 (fun z => ?_) (fun z5 => ?_)
    · obtain rfl : k = 5 := by have y := V.int.inj (of_decide_eq_true z); omega
      refine ⟨_, rfl, rfl, by decide, fun e H1 n1 h1 s1 => ?_⟩
      refine ⟨_, rfl, _, rfl, e, B, C 5, _, v, rfl, T.ct 5 (by decide), S.x5.no _ (by simp), h1, look1 _ _, (by show 2 ≤ sizeLine; decide), fun t nt => ?_⟩
      exact sg_end q s1 h1 t nt
    refine ⟨_, rfl, rfl, _, rfl, ?_⟩
    refine ite2 (fun z => ?_) (fun z6 => ?_)
    · obtain rfl : k = 6 := by have y := V.int.inj (of_decide_eq_true z); omega
      refine ⟨_, rfl, rfl, by decide, fun e H1 n1 h1 s1 => ?_⟩
      refine ⟨_, rfl, _, rfl, e, B, C 6, _, v, rfl, T.ct 6 (by decide), S.x6.no _ (by simp), h1, look1 _ _, (by show 2 ≤ sizeLine; decide), fun t nt => ?_⟩
      exact sg_end q s1 h1 t nt
    refine ⟨_, rfl, rfl, _, rfl, ?_⟩
    refine ite2 (fun z => ?_) (fun z7 => ?_)
    · obtain rfl : k = 7 := by have y := V.int.inj (of_decide_eq_true z); omega
      refine ⟨_, rfl, rfl, by decide, fun e H1 n1 h1 s1 => ?_⟩
      refine ⟨_, rfl, _, rfl, e, B, C 7, _, v, rfl, T.ct 7 (by decide), S.x7.no _ (by simp), h1, look1 _ _, (by show 2 ≤ sizeLine; decide), fun t nt => ?_⟩
      exact sg_end q s1 h1 t nt
    refine ⟨_, rfl, rfl, _, rfl, ?_⟩
    refine ite2 (fun z => ?_) (fun z8 => ?_)
    · obtain rfl : k = 8 := by have y := V.int.inj (of_decide_eq_true z); omega
      refine ⟨_, rfl, rfl, by decide, fun e H1 n1 h1 s1 => ?_⟩
      refine ⟨_, rfl, _, rfl, e, B, C 8, _, v, rfl, T.ct 8 (by decide), S.x8.no _ (by simp), h1, look1 _ _, (by show 2 ≤ sizeLine; decide), fun t nt => ?_⟩
      exact sg_end q s1 h1 t nt
    refine ⟨_, rfl, rfl, _, rfl, ?_⟩
    refine ite2 (fun z => ?_) (fun z9 => ?_)
    · obtain rfl : k = 9 := by have y := V.int.inj (of_decide_eq_true z); omega
      refine ⟨_, rfl, rfl, by decide, fun e H1 n1 h1 s1 => ?_⟩
      refine ⟨_, rfl, _, rfl, e, B, C 9, _, v, rfl, T.ct 9 (by decide), S.x9.no _ (by simp), h1, look1 _ _, (by show 2 ≤ sizeLine; decide), fun t nt => ?_⟩
      exact sg_end q s1 h1 t nt
    refine ⟨_, rfl, rfl, _, rfl, ?_⟩
    refine ite2 (fun z => ?_) (fun z10 => ?_)
    · obtain rfl : k = 10 := by have y := V.int.inj (of_decide_eq_true z); omega
      refine ⟨_, rfl, rfl, by decide, fun e H1 n1 h1 s1 => ?_⟩
      refine ⟨_, rfl, _, rfl, e, B, C 10, _, v, rfl, T.ct 10 (by decide), S.x10.no _ (by simp), h1, look1 _ _, (by show 2 ≤ sizeLine; decide), fun t nt => ?_⟩
      exact sg_end q s1 h1 t nt
    refine ⟨_, rfl, rfl, _, rfl, ?_⟩
    refine ite2 (fun z => ?_) (fun z11 => ?_)
    · obtain rfl : k = 11 := by have y := V.int.inj (of_decide_eq_true z); omega
      refine ⟨_, rfl, rfl, by decide, fun e H1 n1 h1 s1 => ?_⟩
      refine ⟨_, rfl, _, rfl, e, B, C 11, _, v, rfl, T.ct 11 (by decide), S.x11.no _ (by simp), h1, look1 _ _, (by show 2 ≤ sizeLine; decide), fun t nt => ?_⟩
      exact sg_end q s1 h1 t nt
    obtain rfl : k = 12 := by
      have y0 : ¬ (k : Int) = 0 := fun y => z0 (decide_eq_true (congrArg V.int y))
      have y1 : ¬ (k : Int) = 1 := fun y => z1 (decide_eq_true (congrArg V.int y))
      have y2 : ¬ (k : Int) = 2 := fun y => z2 (decide_eq_true (congrArg V.int y))
      have y3 : ¬ (k : Int) = 3 := fun y => z3 (decide_eq_true (congrArg V.int y))
      have y4 : ¬ (k : Int) = 4 := fun y => z4 (decide_eq_true (congrArg V.int y))
      have y5 : ¬ (k : Int) = 5 := fun y => z5 (decide_eq_true (congrArg V.int y))
      have y6 : ¬ (k : Int) = 6 := fun y => z6 (decide_eq_true (congrArg V.int y))
      have y7 : ¬ (k : Int) = 7 := fun y => z7 (decide_eq_true (congrArg V.int y))
      have y8 : ¬ (k : Int) = 8 := fun y => z8 (decide_eq_true (congrArg V.int y))
      have y9 : ¬ (k : Int) = 9 := fun y => z9 (decide_eq_true (congrArg V.int y))
      have y10 : ¬ (k : Int) = 10 := fun y => z10 (decide_eq_true (congrArg V.int y))
      have y11 : ¬ (k : Int) = 11 := fun y => z11 (decide_eq_true (congrArg V.int y))
      omega
    refine ⟨_, rfl, rfl, by decide, fun e H1 n1 h1 s1 => ?_⟩
    refine ⟨_, rfl, _, rfl, e, B, C 12, _, v, rfl, T.ct 12 (by decide), S.x12.no _ (by simp), h1, look1 _ _, (by show 2 ≤ sizeLine; decide), fun t nt => ?_⟩
    exact sg_end q s1 h1 t nt
end
end Kx
namespace Kx
open PySem L2 PySem.Spec PyProof.Rows
/-! two lists of the very same items are not unequal -/
def rNeSame (K : PySem.W.Frag) : R2 := fun x y H Q => ∃ (a b : Addr) (xs : List V), x = .ref a ∧ y = .ref b ∧ SqL K H a xs ∧ SqL K H b xs ∧ (∀ v ∈ xs, flatB v = true ∨ ∃ c, v = .ref c) ∧ Q (.bl false) H
section
variable {X : Cx}
theorem op_neSame (hu : X.A.units + 64 < cLine) : OpR X (compareOp .NotEq) (rNeSame X.K) := by
  intro pins s σ H x y v u Q I rx ry h
  obtain ⟨a, b, xs, rfl, rfl, ha, hb, hf, q⟩ := h
  cases (show v = Value.ref a from rx)
  cases (show u = Value.ref b from ry)
  obtain ⟨us, r1, p1, _⟩ := I.list ha
  obtain ⟨ws, r2, p2, _⟩ := I.list hb
  have hsz : us.toArray.size = ws.toArray.size := by rw [List.size_toArray, List.size_toArray, ← r1.length, ← r2.length]
  have he : ∀ j (h1 : j < us.toArray.size) (h2 : j < ws.toArray.size), SeqAt.EqAt X.A.in1 s us.toArray[j] ws.toArray[j] ((fun _ => true) j) := by
    intro j h1 h2
    have h1' : j < us.length := by simpa using h1
    have h2' : j < ws.length := by simpa using h2
    have h3 : j < xs.length := by rw [r1.length]; exact h1'
    obtain ⟨z1, e1, q1⟩ := r1.get (i := j) (x := xs[j]) (by simp [h3])
    obtain ⟨z2, e2, q2⟩ := r2.get (i := j) (x := xs[j]) (by simp [h3])
    have g1 : us.toArray[j] = z1 := by
      have y : us[j]? = some us[j] := by simp [h1']
      rw [e1] at y
      cases y
      simp
    have g2 : ws.toArray[j] = z2 := by
      have y : ws[j]? = some ws[j] := by simp [h2']
      rw [e2] at y
      cases y
      simp
    rw [g1, g2]
    rcases hf _ (List.getElem_mem h3) with f | ⟨c, f⟩
    · exact eqAt_same q1 q2 f
    · rw [f] at q1 q2
      cases (show z1 = Value.ref c from q1)
      cases (show z2 = Value.ref c from q2)
      exact SeqAt.EqAt.same _
  refine SeqAt.RcNeAt.lists (e := fun _ => true) p1.isList p2.isList hsz (by omega) he X.prog X.w _ _ ?_
  rw [show ((List.range us.toArray.size).all fun _ => true) = true from List.all_eq_true.mpr fun _ _ => rfl]
  exact ⟨.bl false, H, I, rfl, q⟩
end
def spSeveral : Sp := fun vs H Q _ => ∃ (q : Addr) (ys : List V), vs = [.ref q] ∧ H q = some (.lst ys) ∧ ys.length = 9 ∧ (∀ v ∈ ys, flatB v = true ∨ ∃ c, v = .ref c) ∧ ∀ H', Same H H' → Q (.bl true) H'
section
variable {P : Program} {w : World} {K : PySem.W.Frag} {mg : Str → Option Value} {base : Heap} {B : Addr} {C : Nat → Addr} {fi : Nat → Addr} {fdi : Nat → FuncData}
theorem scSv : FnScope ["_law_some", "_law_one_here", "_law_two", "_law_e", "_law_told"] ["_law_some"] (defScope sSeveral) := ⟨rfl, rfl, rfl, by decide +kernel, rfl, by decide +kernel, by decide +kernel⟩
structure Fs (K : PySem.W.Frag) (mg : Str → Option Value) (x : Str) (st : Stmt) (ps : List Str) (f : Addr) (fd : FuncData) : Prop where
  F : Fun K x x st f fd
  b : Binds K fd ps []
  m : mg x = some (.ref f)
theorem ok_several {f g m : Addr} {fd fdI fdM : FuncData} (F : Fun K "_law_several_right" "_law_several_right" sSeveral f fd) (T : Txt K mg B C) (S : Inis K C fi fdi) (FI : Fs K mg "_law_is_of" sIsOf ["_law_e", "_law_k"] g fdI) (FM : Fs K mg "_law_marks" sMarks ["_law_e"] m fdM) :
    FnOk P w K mg base CX0 3 f fd ["_law_some"] spSeveral := by
  have GI : FnOk P w K mg base CX0 2 g fdI ["_law_e", "_law_k"] (spIsOf C) := ok_isof FI.F T FM.F FM.b FM.m
  refine F.ok scSv (fun vs H Q E h => ?_) (fun cdv A outer s H vs Q E hr h => ?_)
  · obtain ⟨q, ys, rfl, _⟩ := h
    rfl
  · obtain ⟨q, ys, rfl, hq, hl, hf, k⟩ := h
    obtain ⟨v0, v1, v2, v3, v4, v5, v6, v7, v8, rfl⟩ : ∃ v0 v1 v2 v3 v4 v5 v6 v7 v8, ys = [v0, v1, v2, v3, v4, v5, v6, v7, v8] := match ys, hl with | [v0, v1, v2, v3, v4, v5, v6, v7, v8], _ => ⟨v0, v1, v2, v3, v4, v5, v6, v7, v8, rfl⟩

    refine ⟨_, pss_cons (ps_par (i := 1) (j := 2) rfl scSv.nd rfl rfl (by decide) rfl rfl (pa_cons (pe_err (T.ct 13 (by decide)) S.x13.no S.x13.iC S.x13.tI (ok_BadLibrary S.x13.F) hr S.x13.b pass0 (T.gm 13 (by decide)) (pa_cons (pe_ix ix_list (pv 0) pe_int (fun _ _ => rfl)) (pa_cons (pe_ix ix_list (pv 0) pe_int (fun _ _ => rfl)) pa_nil))) (pa_cons (pe_err (T.ct 14 (by decide)) S.x14.no S.x14.iC S.x14.tI (ok_BadBody S.x14.F) hr S.x14.b pass0 (T.gm 14 (by decide)) (pa_cons (pe_ix ix_list (pv 0) pe_int (fun _ _ => rfl)) (pa_cons (pe_ix ix_list (pv 0) pe_int (fun _ _ => rfl)) pa_nil))) pa_nil)) (by rfl))
      (pss_cons (ps_set (i := 3) scSv.nd rfl (Or.inl rfl) (pe_err (T.ct 17 (by decide)) S.x17.no S.x17.iC S.x17.tI (ok_Breach S.x17.F) hr S.x17.b pass0 (T.gm 17 (by decide)) (pa_cons (pe_ix ix_list (pv 0) pe_int (fun _ _ => rfl)) (pa_cons (pe_ix ix_list (pv 0) pe_int (fun _ _ => rfl)) (pa_cons (pe_ix ix_list (pv 0) pe_int (fun _ _ => rfl)) (pa_cons (pe_ix ix_list (pv 0) pe_int (fun _ _ => rfl)) (pa_cons (pe_ix ix_list (pv 0) pe_int (fun _ _ => rfl)) (pa_cons (pe_ix ix_list (pv 0) pe_int (fun _ _ => rfl)) (pa_cons (pe_ix ix_list (pv 0) pe_int (fun _ _ => rfl)) (pa_cons (pe_ix ix_list (pv 0) pe_int (fun _ _ => rfl)) (pa_cons (pe_ix ix_list (pv 0) pe_int (fun _ _ => rfl)) pa_nil)))))))))))
      (pss_cons (ps_set (i := 4) scSv.nd rfl (Or.inl rfl) (pe_lst (pa_cons (pe_errF (pv 3)) (pa_cons (pe_errF (pv 3)) (pa_cons (pe_errF (pv 3)) (pa_cons (pe_errF (pv 3)) (pa_cons (pe_errF (pv 3)) (pa_cons (pe_errF (pv 3)) (pa_cons (pe_errF (pv 3)) (pa_cons (pe_errF (pv 3)) (pa_cons (pe_errF (pv 3)) pa_nil)))))))))))
      (pss_cons (ps_if (PW.pt (pw_or (pt_cmpR (op_neSame hr.units) (pv 4) (pv 0) (nomark _)) (pw_or1 (pt_cmpR (op_neSame hr.units) (pe_lst (pa_cons (pe_errF (pv 1)) (pa_cons (pe_errF (pv 1)) (pa_cons (pe_errF (pv 2)) (pa_cons (pe_errF (pv 2)) pa_nil))))) (pe_slice sl_list (pv 0) po_none (po_some pe_int)) (nomark _))))) (pss_one (ps_ret pe_bl)) pss_nil)
      (pss_cons (ps_if (PW.pt (pw_or (pt_not (pt_val (pe_call GI hr (by rfl) FI.m FI.F.kp FI.b .nil pass0 (pa_cons (pv 1) (pa_cons pe_int pa_nil))))) (pw_or (pt_not (pt_val (pe_call GI hr (by rfl) FI.m FI.F.kp FI.b .nil pass0 (pa_cons (pv 2) (pa_cons pe_int pa_nil))))) (pw_or1 (pt_not (pt_val (pe_call GI hr (by rfl) FI.m FI.F.kp FI.b .nil pass0 (pa_cons (pv 3) (pa_cons pe_int pa_nil))))))))) (pss_one (ps_ret pe_bl)) pss_nil)
      (pss_one (ps_ret (pe_and (pe_call GI hr (by rfl) FI.m FI.F.kp FI.b .nil pass0 (pa_cons (pe_exc1 PySem.F.excBase_ValueError S.q15 (T.gm 15 (by decide)) (T.ct 15 (by decide)).kC (by rfl) pe_str) (pa_cons pe_int pa_nil))) (pe_one (pe_call GI hr (by rfl) FI.m FI.F.kp FI.b .nil pass0 (pa_cons (pe_exc1 PySem.F.excBase_ValueError S.q16 (T.gm 16 (by decide)) (T.ct 16 (by decide)).kC (by rfl) pe_str) (pa_cons pe_int pa_nil))))))))))), ?_⟩
    refine ⟨_, rfl, q, _, _, _, rfl, rfl, SqL.of hq, rfl, _, rfl, q, _, _, _, rfl, rfl, SqL.of hq, rfl, rfl, by decide, fun a1 H1 n1 h1 s1 => ?_⟩
    have q1 := s1 _ _ hq
    refine ⟨_, rfl, q, _, _, _, rfl, rfl, SqL.of q1, rfl, _, rfl, q, _, _, _, rfl, rfl, SqL.of q1, rfl, rfl, by decide, fun a2 H2 n2 h2 s2 => ?_⟩
    have q2 := s2 _ _ q1
    refine ⟨_, _, rfl, ?_⟩
    refine ⟨_, rfl, q, _, _, _, rfl, rfl, SqL.of q2, rfl, _, rfl, q, _, _, _, rfl, rfl, SqL.of q2, rfl, _, rfl, q, _, _, _, rfl, rfl, SqL.of q2, rfl, _, rfl, q, _, _, _, rfl, rfl, SqL.of q2, rfl, _, rfl, q, _, _, _, rfl, rfl, SqL.of q2, rfl, _, rfl, q, _, _, _, rfl, rfl, SqL.of q2, rfl, _, rfl, q, _, _, _, rfl, rfl, SqL.of q2, rfl, _, rfl, q, _, _, _, rfl, rfl, SqL.of q2, rfl, _, rfl, q, _, _, _, rfl, rfl, SqL.of q2, rfl, rfl, by decide, fun a3 H3 n3 h3 s3 => ?_⟩
    have q3 := s3 _ _ q2
    refine ⟨_, rfl, a3, B, C 17, _, _, rfl, T.ct 17 (by decide), S.x17.no _ (by simp), h3, by first | rfl | kernel_rfl, _, rfl, a3, B, C 17, _, _, rfl, T.ct 17 (by decide), S.x17.no _ (by simp), h3, by first | rfl | kernel_rfl, _, rfl, a3, B, C 17, _, _, rfl, T.ct 17 (by decide), S.x17.no _ (by simp), h3, by first | rfl | kernel_rfl, _, rfl, a3, B, C 17, _, _, rfl, T.ct 17 (by decide), S.x17.no _ (by simp), h3, by first | rfl | kernel_rfl, _, rfl, a3, B, C 17, _, _, rfl, T.ct 17 (by decide), S.x17.no _ (by simp), h3, by first | rfl | kernel_rfl, _, rfl, a3, B, C 17, _, _, rfl, T.ct 17 (by decide), S.x17.no _ (by simp), h3, by first | rfl | kernel_rfl, _, rfl, a3, B, C 17, _, _, rfl, T.ct 17 (by decide), S.x17.no _ (by simp), h3, by first | rfl | kernel_rfl, _, rfl, a3, B, C 17, _, _, rfl, T.ct 17 (by decide), S.x17.no _ (by simp), h3, by first | rfl | kernel_rfl, _, rfl, a3, B, C 17, _, _, rfl, T.ct 17 (by decide), S.x17.no _ (by simp), h3, by first | rfl | kernel_rfl, by show 9 ≤ sizeLine; decide, fun p4 n4 => ?_⟩
    have s4 : Same H3 (upd H3 p4 (.lst [v0, v1, v2, v3, v4, v5, v6, v7, v8])) := Same.new n4
    have g1 := Same.has (s2.trans (s3.trans s4)) h1
    have g2 := Same.has (s3.trans s4) h2
    have g3 := Same.has s4 h3
    have t4 := ((s1.trans s2).trans s3).trans s4
    refine ⟨_, rfl, _, rfl, p4, q, _, rfl, rfl, SqL.of upd_same, SqL.of (s4 _ _ q3), hf, _, rfl, ?_⟩
    refine iteF ?_
    refine ⟨_, rfl, a1, B, C 13, _, _, rfl, T.ct 13 (by decide), S.x13.no _ (by simp), g1, by first | rfl | kernel_rfl, _, rfl, a1, B, C 13, _, _, rfl, T.ct 13 (by decide), S.x13.no _ (by simp), g1, by first | rfl | kernel_rfl, _, rfl, a2, B, C 14, _, _, rfl, T.ct 14 (by decide), S.x14.no _ (by simp), g2, by first | rfl | kernel_rfl, _, rfl, a2, B, C 14, _, _, rfl, T.ct 14 (by decide), S.x14.no _ (by simp), g2, by first | rfl | kernel_rfl, by show 4 ≤ sizeLine; decide, fun p5 n5 => ?_⟩
    have s5 : Same (upd H3 p4 (.lst [v0, v1, v2, v3, v4, v5, v6, v7, v8])) (upd (upd H3 p4 (.lst [v0, v1, v2, v3, v4, v5, v6, v7, v8])) p5 (.lst [v0, v1, v2, v3])) := Same.new n5
    refine ⟨_, rfl, _, rfl, q, _, rfl, SqL.of (s5 _ _ (s4 _ _ q3)), fun p6 n6 => ?_⟩
    have s6 : Same (upd (upd H3 p4 (.lst [v0, v1, v2, v3, v4, v5, v6, v7, v8])) p5 (.lst [v0, v1, v2, v3])) (upd (upd (upd H3 p4 (.lst [v0, v1, v2, v3, v4, v5, v6, v7, v8])) p5 (.lst [v0, v1, v2, v3])) p6 (.lst [v0, v1, v2, v3])) := Same.new n6
    refine ⟨p5, p6, [v0, v1, v2, v3], rfl, rfl, SqL.of (s6 _ _ upd_same), SqL.of upd_same, (fun v hv => hf v (List.mem_append_left [v4, v5, v6, v7, v8] hv)), _, rfl, ?_⟩
    refine iteF ?_
    have e1 := Same.err (s5.trans s6) (.inl ⟨_, g1⟩)
    have e2 := Same.err (s5.trans s6) (.inl ⟨_, g2⟩)
    have e3 := Same.err (s5.trans s6) (.inl ⟨_, g3⟩)
    have t6 := t4.trans (s5.trans s6)
    refine ⟨_, rfl, a1, 13, rfl, by decide, e1, fun H7 s7 => ⟨_, rfl, iteF ?_⟩⟩
    refine ⟨_, rfl, a2, 14, rfl, by decide, Same.err s7 e2, fun H8 s8 => ⟨_, rfl, iteF ?_⟩⟩
    refine ⟨_, rfl, a3, 17, rfl, by decide, Same.err (s7.trans s8) e3, fun H9 s9 => ⟨_, rfl, iteF ?_⟩⟩
    have t9 := t6.trans (s7.trans (s8.trans s9))
    refine fun x1 m1 => ⟨x1, 15, rfl, by decide, .inr upd_same, fun H10 s10 => ⟨_, rfl, iteT ?_⟩⟩
    have t10 := t9.trans ((Same.new m1).trans s10)
    refine fun x2 m2 => ⟨x2, 16, rfl, by decide, .inr upd_same, fun H11 s11 => ?_⟩
    exact k H11 (t10.trans ((Same.new m2).trans s11))
end
end Kx
namespace Kx
open PySem L2 PySem.Spec PyProof.Rows
/-! what the law draws, and how it is shown -/
inductive Thing (H : Hp) : V → PyData → Prop where
  | non : Thing H .non .none
  | bl (b : Bool) : Thing H (.bl b) (.bool b)
  | int (i : Int) (h : i.natAbs.log2 < 1920) : Thing H (.int i) (.int i)
  | str (x : Str) (h : (reprText x).length ≤ sizeLine) : Thing H (.str x) (.str x)
  | l1 {a : Addr} (h : H a = some (.lst [.str "a"])) : Thing H (.ref a) (.list [.str "a"])
  | t2 {a : Addr} (h : H a = some (.tup [.str "a", .int 1])) : Thing H (.ref a) (.tuple [.str "a", .int 1])
  | d1 {a : Addr} (h : H a = some (.dK [(.inr "x", .int 1)])) : Thing H (.ref a) (.dict [(.str "x", .int 1)])
  | t0 {a : Addr} (h : H a = some (.tup [])) : Thing H (.ref a) (.tuple [])
  | l0 {a : Addr} (h : H a = some (.lst [])) : Thing H (.ref a) (.list [])
  | tt {a b : Addr} (h : H a = some (.tup [.str "x", .ref b])) (g : H b = some (.tup [.str "y", .int 2])) : Thing H (.ref a) (.tuple [.str "x", .tuple [.str "y", .int 2]])
theorem Thing.mono {H H' : Hp} {v : V} {d : PyData} (t : Thing H v d) (s : ∀ b o, H b = some o → (∀ x y z, o ≠ .lst [.int x, .int y, .int z]) → H' b = some o) : Thing H' v d := by
  cases t with
  | non => exact .non
  | bl b => exact .bl b
  | int i h => exact .int i h
  | str x h => exact .str x h
  | l1 h => exact .l1 (s _ _ h fun x y z e => by cases e)
  | t2 h => exact .t2 (s _ _ h fun x y z e => by cases e)
  | d1 h => exact .d1 (s _ _ h fun x y z e => by cases e)
  | t0 h => exact .t0 (s _ _ h fun x y z e => by cases e)
  | l0 h => exact .l0 (s _ _ h fun x y z e => by cases e)
  | tt h g => exact .tt (s _ _ h fun x y z e => by cases e) (s _ _ g fun x y z e => by cases e)
theorem Thing.same {H H' : Hp} {v : V} {d : PyData} (t : Thing H v d) (s : Same H H') : Thing H' v d := t.mono fun b o e _ => s b o e
theorem Thing.well {H : Hp} {v : V} {d : PyData} {p : Addr} {n : Int} {xs : List V} (t : Thing H v d) (w : WellAt H p n) : Thing (upd H p (.lst xs)) v d := by
  obtain ⟨a, b, c, h, _⟩ := w
  exact t.mono fun q o e ne => by rw [upd_ne (ne_of e h (ne a b c))]; exact e
theorem Thing.flat {H : Hp} {v : V} {d : PyData} (t : Thing H v d) : flatB v = true ∨ ∃ c, v = .ref c := by
  cases t <;> first | exact .inl rfl | exact .inr ⟨_, rfl⟩
/-- the reading of repr -/
def rShow : List V → Hp → VK → Prop := fun xs H Q => ∃ v d, xs = [v] ∧ Thing H v d ∧ Q (.str d.shown) H
section
variable {X : Cx} {pins : List (Addr × Obj)} {σ : L2.St} {H : Hp} {s : Shared}
theorem show_ref (hg : X.A.guards = some []) (hu : X.A.units + 64 < cLine) {a : Addr} {d : PyData} {as : List Addr} (r : Reads s.heap (.ref a) d as) (hs : d.showable = true) (hsm : d.hasDict = true → sysModules ∉ as) (hz : d.shown.length ≤ sizeLine) (hd : d.depth ≤ 60)
    (I : Inv X pins σ H s) {Q : VK} (q : Q (.str d.shown) H) : wpAny (model X.prog X.w) X.A (call (.builtin "repr") [.ref a]) (EP X pins σ Q) X.xe s :=
  repr_of_reads' r hs hsm hg (by omega) (fun _ _ e => e) (fun h' u tk k => ⟨.str _, H, I.kept (t' := tk) k, ⟨u, rfl⟩, q⟩) hz
theorem call_show (hg : X.A.guards = some []) (hu : X.A.units + 64 < cLine) : CallR X (.builtin "repr") rShow := by
  intro pins s σ H xs us Q I r h
  obtain ⟨v, d, rfl, t, q⟩ := h
  obtain ⟨u, rfl, ru⟩ := vals1 r
  cases t with
  | non =>
    cases (show u = Value.none from ru)
    exact PySem.P.repr_of_none ⟨.str _, H, I.tok _, ⟨_, rfl⟩, q⟩
  | bl b =>
    cases (show u = Value.bool b from ru)
    exact PySem.P.repr_of_bool ⟨.str _, H, I.tok _, ⟨_, rfl⟩, q⟩
  | int i h =>
    obtain ⟨t, rfl⟩ := (show ∃ t, u = Value.int i t from ru)
    exact PySem.P.repr_of_int h ⟨.str _, H, I.tok _, ⟨_, rfl⟩, q⟩
  | str x h =>
    obtain ⟨t, rfl⟩ := (show ∃ t, u = Value.str x t from ru)
    exact PySem.P.repr_of_str ⟨.str _, H, I.tok _, ⟨_, rfl⟩, q⟩ h
  | l1 h =>
    cases (show u = Value.ref _ from ru)
    obtain ⟨as, e⟩ := Dp.reads I _ _ _ (.lst (SqL.of h) (.cons (.str "a") .nil)) ru
    exact show_ref hg hu e (by decide +kernel) (PyData.noDict_hsm (by decide +kernel)) (by decide +kernel) (by decide +kernel) I q
  | t2 h =>
    cases (show u = Value.ref _ from ru)
    obtain ⟨as, e⟩ := Dp.reads I _ _ _ (.tup (SqT.of h) (.cons (.str "a") (.cons (.int 1) .nil))) ru
    exact show_ref hg hu e (by decide +kernel) (PyData.noDict_hsm (by decide +kernel)) (by decide +kernel) (by decide +kernel) I q
  | @d1 a h =>
    cases (show u = Value.ref _ from ru)
    obtain ⟨_, hsys, vs, kv, hd⟩ := (show ObjOk X.prog X.w H s.heap a (.dK [(.inr "x", .int 1)]) from I.hok a _ h)
    cases kv with
    | cons k kn =>
      rename_i kk rest
      cases kn
      obtain ⟨key, val⟩ := kk
      obtain ⟨k1, k2⟩ := k
      obtain ⟨t1, k2⟩ := (show ∃ t, val = Value.int 1 t from k2)
      subst k2
      have k1 : (Sum.inr "x" : Key) = key := k1
      subst k1
      have e := PyProof.V.reads_dictOf (enc := fun k : Key => match k with | .inl i => PyData.int i | .inr y => PyData.str y) (h := s.heap) (D := [(.str "x", .int 1)]) (bs := [] ++ []) (fun k key hk => by
        rcases keyIs_shape hk with ⟨i, t, rfl, rfl⟩ | ⟨y, t, rfl, rfl⟩
        · exact Reads.int i t
        · exact Reads.str y t) hd (.cons (.int 1 t1) .nil)
      exact show_ref hg hu e (by decide +kernel) (fun _ hm => by
        simp at hm
        subst hm
        simp at hsys) (by decide +kernel) (by decide +kernel) I q
  | t0 h =>
    cases (show u = Value.ref _ from ru)
    obtain ⟨as, e⟩ := Dp.reads I _ _ _ (.tup (SqT.of h) .nil) ru
    exact show_ref hg hu e (by decide +kernel) (PyData.noDict_hsm (by decide +kernel)) (by decide +kernel) (by decide +kernel) I q
  | l0 h =>
    cases (show u = Value.ref _ from ru)
    obtain ⟨as, e⟩ := Dp.reads I _ _ _ (.lst (SqL.of h) .nil) ru
    exact show_ref hg hu e (by decide +kernel) (PyData.noDict_hsm (by decide +kernel)) (by decide +kernel) (by decide +kernel) I q
  | tt h g =>
    cases (show u = Value.ref _ from ru)
    obtain ⟨as, e⟩ := Dp.reads I _ _ _ (.tup (SqT.of h) (.cons (.str "x") (.cons (.tup (SqT.of g) (.cons (.str "y") (.cons (.int 2) .nil))) .nil))) ru
    exact show_ref hg hu e (by decide +kernel) (PyData.noDict_hsm (by decide +kernel)) (by decide +kernel) (by decide +kernel) I q
end
end Kx
namespace Kx
open PySem L2 PySem.Spec PyProof.Rows
abbrev sCaught : Stmt := top 27
abbrev sLaw : Stmt := top 29
def spCaught : Sp := fun vs H Q _ => ∃ k : Nat, vs = [.int k] ∧ k < 3 ∧ ∀ H', Same H H' → Q (.bl true) H'
abbrev nL : List Str := ["_law_script", "_law_cell", "_law_well_here", "_law_things", "_law_k", "_law_thing", "_law_e", "_law_told"]
section
variable {P : Program} {w : World} {K : PySem.W.Frag} {mg : Str → Option Value} {base : Heap} {B : Addr} {C : Nat → Addr} {fi : Nat → Addr} {fdi : Nat → FuncData}
theorem scL : FnScope nL ["_law_script"] (defScope sLaw) := ⟨rfl, rfl, rfl, by decide +kernel, rfl, by decide +kernel, by decide +kernel⟩
/-- all the defs -/
structure Defs (K : PySem.W.Frag) (mg : Str → Option Value) : Prop where
  well : ∃ f fd, Fs K mg "_law_well" sWell ["_law_cell"] f fd
  draw : ∃ f fd, Fs K mg "_law_draw" sDraw ["_law_well_here", "_law_base"] f fd
  one : ∃ f fd, Fs K mg "_law_one" sOne ["_law_well_here", "_law_some"] f fd
  single : ∃ f fd, Fs K mg "_law_single" sSingle ["_law_k", "_law_thing"] f fd
  marks : ∃ f fd, Fs K mg "_law_marks" sMarks ["_law_e"] f fd
  isof : ∃ f fd, Fs K mg "_law_is_of" sIsOf ["_law_e", "_law_k"] f fd
  caught : ∃ f fd, Fs K mg "_law_caught" sCaught ["_law_one_here"] f fd
  several : ∃ f fd, Fs K mg "_law_several_right" sSeveral ["_law_some"] f fd
structure Stage (H0 H : Hp) (wl th : Addr) (xs : List V) (n : Int) : Prop where
  same : Same H0 H
  well : WellAt H wl n
  lst : H th = some (.lst xs)
  ok : ∀ v ∈ xs, ∃ d, Thing H v d
  len : xs.length = 13
  new : H0 wl = none
  ne : wl ≠ th
theorem Stage.draw {H0 H : Hp} {wl th : Addr} {xs ys : List V} {n : Int} (S : Stage H0 H wl th xs n) (h : WellAt (upd H wl (.lst ys)) wl (n + 1)) : Stage H0 (upd H wl (.lst ys)) wl th xs (n + 1) where
  same := fun b o e => by rw [upd_ne (ne_of_none e S.new)]; exact S.same b o e
  well := h
  lst := by rw [upd_ne (Ne.symm S.ne)]; exact S.lst
  ok := fun v hv => let ⟨d, t⟩ := S.ok v hv; ⟨d, t.well S.well⟩
  len := S.len
  new := S.new
  ne := S.ne
theorem WellAt.same {H H' : Hp} {p : Addr} {n : Int} (h : WellAt H p n) (s : Same H H') : WellAt H' p n := by
  obtain ⟨a, b, c, h, r⟩ := h
  exact ⟨a, b, c, s _ _ h, r⟩
theorem Stage.grow {H0 H H' : Hp} {wl th : Addr} {xs : List V} {n : Int} (S : Stage H0 H wl th xs n) (s : Same H H') : Stage H0 H' wl th xs n where
  same := S.same.trans s
  well := S.well.same s
  lst := s _ _ S.lst
  ok := fun v hv => let ⟨d, t⟩ := S.ok v hv; ⟨d, t.same s⟩
  len := S.len
  new := S.new
  ne := S.ne
theorem Same.new2 {H : Hp} {p : Addr} {o u : HO} (h : H p = none) : Same H (upd (upd H p o) p u) := fun b z e => by
  rw [upd_ne (ne_of_none e h), upd_ne (ne_of_none e h)]
  exact e
theorem cut_mem {xs : List V} {lo hi : Option Int} : ∀ v ∈ cutV xs lo hi, v ∈ xs := fun v h => List.mem_of_mem_drop (List.mem_of_mem_take h)
theorem law_body {f : Addr} {cdv : Value} {A : Around} {outer : List Env} {s : Shared} {H : Hp} {Q : VK} {E : XK} (hg : A.guards = some []) (hr : Room 4 (A.deeper (envOfC "law" (defScope sLaw) s.heap.objs.size f cdv))) (T : Txt K mg B C) (S : Inis K C fi fdi) (D : Defs K mg)
    (GCt : ∀ f fd, Fs K mg "_law_caught" sCaught ["_law_one_here"] f fd → FnOk P w K mg base CX0 4 f fd ["_law_one_here"] spCaught) {a : Addr} {ns : List Int} (hS : SqL K H a (ns.map V.int)) (hn : ns.length ≤ 63) (hq : ∀ H', Q (.bl true) H') :
    ∃ t, PSs (cxOf CX0 P w K mg base nL "law" (defScope sLaw) f cdv A outer s H E).nox (defBody sLaw) t ∧ t { nx := fun _ H' => Q .non H', rt := Q } (start nL [.ref a]) H := by
  obtain ⟨_, _, dW⟩ := D.well
  obtain ⟨_, _, dD⟩ := D.draw
  obtain ⟨_, _, dO⟩ := D.one
  obtain ⟨_, _, dS⟩ := D.single
  obtain ⟨_, _, dM⟩ := D.marks
  obtain ⟨_, _, dI⟩ := D.isof
  obtain ⟨_, _, dC⟩ := D.caught
  obtain ⟨_, _, dV⟩ := D.several
  have GW : FnOk P w K mg base CX0 1 _ _ ["_law_cell"] spWell := ok_well dW.F T.toBl
  have GO : FnOk P w K mg base CX0 2 _ _ ["_law_well_here", "_law_some"] (spOne K) := ok_one dO.F T.toBl dD.F dD.b dD.m
  have GS : FnOk P w K mg base CX0 3 _ _ ["_law_k", "_law_thing"] (spSingle C) := ok_single dS.F T S
  have GI : FnOk P w K mg base CX0 2 _ _ ["_law_e", "_law_k"] (spIsOf C) := ok_isof dI.F T dM.F dM.b dM.m
  have GV : FnOk P w K mg base CX0 3 _ _ ["_law_some"] spSeveral := ok_several dV.F T S dI dM
  have GC := GCt _ _ dC
  have hr1 : Room 1 _ := hr.mono (by decide)
  have hr2 : Room 2 _ := hr.mono (by decide)
  have hr3 : Room 3 _ := hr.mono (by decide)
  refine ⟨_, pss_cons (ps_for PassesOwn.never rfl (pi_list (pe_op op_cat (pe_slice sl_list (pv 0) po_none (po_some pe_int)) (pe_lst (pa_cons pe_int pa_nil)))) (pg_name (i := 1) scL.nd rfl (Or.inl rfl)) (pss_cons (ps_set (i := 2) scL.nd rfl (Or.inr rfl) (pe_call GW hr1 (by rfl) dW.m dW.F.kp dW.b .nil pass0 (pa_cons (pv 1) pa_nil)))
      (pss_cons (ps_set (i := 3) scL.nd rfl (Or.inr rfl) (pe_lst (pa_cons pe_str (pa_cons pe_str (pa_cons pe_non (pa_cons pe_int (pa_cons (pe_un un_neg pe_int) (pa_cons (pe_op op_pow pe_int pe_int) (pa_cons (pe_lst (pa_cons pe_str pa_nil)) (pa_cons (pe_tup (pa_cons pe_str (pa_cons pe_int pa_nil))) (pa_cons (pe_disp (pps_cons pe_str pe_int pps_nil) rfl rfl (by simp) (by decide)) (pa_cons (pe_tup pa_nil) (pa_cons (pe_cmpR op_eq pe_int pe_int (nomark _)) (pa_cons (pe_lst pa_nil) (pa_cons (pe_tup (pa_cons pe_str (pa_cons (pe_tup (pa_cons pe_str (pa_cons pe_int pa_nil))) pa_nil))) pa_nil)))))))))))))))
      (pss_cons (ps_for PassesOwn.never rfl (pi_range1 rfl T.rng (pa_cons pe_int pa_nil)) (pg_name (i := 4) scL.nd rfl (Or.inl rfl)) (pss_cons (ps_set (i := 5) scL.nd rfl (Or.inl rfl) (pe_call GO hr2 (by rfl) dO.m dO.F.kp dO.b .nil pass0 (pa_cons (pv 2) (pa_cons (pv 3) pa_nil))))
        (pss_cons (ps_asg (pe_call GS hr3 (by rfl) dS.m dS.F.kp dS.b .nil pass0 (pa_cons (pv 4) (pa_cons (pv 5) pa_nil))) (pg_tup rfl (pgs_cons (pg_name (i := 6) scL.nd rfl (Or.inl rfl)) (pgs_cons (pg_name (i := 7) scL.nd rfl (Or.inl rfl)) pgs_nil))))
        (pss_one (ps_if (PW.pt (pw_or (pt_cmpR op_ne (pe_callB (call_show hg hr.units) (by rfl) T.rep boot_repr (pa_cons (pv 7) pa_nil)) (pe_callB (call_show hg hr.units) (by rfl) T.rep boot_repr (pa_cons (pv 5) pa_nil)) (nomark _)) (pw_or1 (pt_not (pt_val (pe_call GI hr2 (by rfl) dI.m dI.F.kp dI.b .nil pass0 (pa_cons (pv 6) (pa_cons (pv 4) pa_nil)))))))) (pss_one (ps_ret pe_bl)) pss_nil)))))
      (pss_one (ps_if (pt_not (pt_val (pe_call GV hr3 (by rfl) dV.m dV.F.kp dV.b .nil pass0 (pa_cons (pe_lc (own := [("_law_k", 4)]) (g := gName 4) (tt := tYes) rfl scL.nd (pi_range1 rfl T.rng (pa_cons pe_int pa_nil)) (blkOk_by (N := nL) (sc := defScope sLaw) (by decide +kernel))
          (fun _ _ _ _ _ => pg_name (i := 4) scL.nd rfl (Or.inl rfl)) (fun _ _ _ _ _ => pts_nil) (fun _ _ _ _ _ => (pe_call GO hr2 (by rfl) dO.m dO.F.kp dO.b .nil pass0 (pa_cons (pv 2) (pa_cons (pv 3) pa_nil))))) pa_nil)))) (pss_one (ps_ret pe_bl)) pss_nil))))))
    (pss_one (ps_ret (pe_and (pe_call GC hr (by rfl) dC.m dC.F.kp dC.b .nil pass0 (pa_cons pe_int pa_nil)) (pe_and (pe_call GC hr (by rfl) dC.m dC.F.kp dC.b .nil pass0 (pa_cons pe_int pa_nil)) (pe_one (pe_call GC hr (by rfl) dC.m dC.F.kp dC.b .nil pass0 (pa_cons pe_int pa_nil))))))), ?_⟩
  have hc : ∀ v ∈ cutV (ns.map V.int) none (some 6) ++ [V.int 0], ∃ c, v = V.int c := by
    intro v hv
    rcases List.mem_append.mp hv with h | h
    · obtain ⟨c, _, e⟩ := List.mem_map.mp (cut_mem v h)
      exact ⟨c, e.symm⟩
    · exact ⟨0, by simpa using h⟩
  have hcl : (cutV (ns.map V.int) none (some 6)).length ≤ 63 := Nat.le_trans (cutV_length _ _ _) (by rw [List.length_map]; exact hn)
  refine ⟨_, rfl, _, rfl, a, _, rfl, hS, fun l0 n0 => ?_⟩
  refine ⟨by show 1 ≤ sizeLine; decide, fun l1 n1 => ?_⟩
  have e01 : l0 ≠ l1 := ne_of_none (o := .lst (cutV (ns.map V.int) none (some 6))) upd_same n1
  refine ⟨l0, l1, _, _, rfl, rfl, (by rw [upd_ne e01]; exact upd_same), upd_same, (Nat.le_of_lt (small1000 (by show _ + 1 ≤ 1000; omega))), fun l2 n2 => ?_⟩
  refine ⟨l2, rfl, ⟨_, SqL.of upd_same⟩, ?_⟩
  refine for_list (K := K) (a := l2) (xs := cutV (ns.map V.int) none (some 6) ++ [V.int 0])
    (fun i σ H2 => ∃ o1 o2 o3 o4 o5 o6 o7 : Option V, σ = [some (.ref a), o1, o2, o3, o4, o5, o6, o7] ∧ H2 l2 = some (.lst (cutV (ns.map V.int) none (some 6) ++ [V.int 0])))
    ⟨none, none, none, none, none, none, none, rfl, upd_same⟩ (fun i σ H2 _ ⟨_, _, _, _, _, _, _, _, h2⟩ => SqL.of h2) ?_ ?_
  · rintro i y σ H2 hi ⟨o1, o2, o3, o4, o5, o6, o7, rfl, h2⟩
    obtain ⟨c, rfl⟩ := hc y (List.mem_of_getElem? hi)
    refine ⟨_, rfl, c, rfl, fun wl H3 nw s3 hW => ?_⟩
    refine ⟨_, rfl, _, _, rfl, rfl, ⟨by decide, by decide, by decide⟩, ?_⟩
    refine ⟨by show 1 ≤ sizeLine; decide, fun a1 m1 => ?_⟩
    refine ⟨by show 2 ≤ sizeLine; decide, fun a2 m2 => ?_⟩
    refine fun a3 m3 => ⟨upd_same, [(.inr "x", .int 1)], rfl, by decide, ?_⟩
    refine ⟨by show 0 ≤ sizeLine; decide, fun a4 m4 => ?_⟩
    refine ⟨rfl, by show 0 ≤ sizeLine; decide, fun a5 m5 => ?_⟩
    refine ⟨by show 2 ≤ sizeLine; decide, fun b6 m6 => ?_⟩
    refine ⟨by show 2 ≤ sizeLine; decide, fun a6 m7 => ?_⟩
    refine ⟨by show 13 ≤ sizeLine; decide, fun th m8 => ?_⟩
    have t1 := Same.new (o := .lst [.str "a"]) m1
    have t2 := Same.new (o := .tup [.str "a", .int 1]) m2
    have t3 := Same.new2 (o := .dK []) (u := .dK (mergeK [] [(.inr "x", .int 1)])) m3
    have t4 := Same.new (o := .tup []) m4
    have t5 := Same.new (o := .lst []) m5
    have t6 := Same.new (o := .tup [.str "y", .int 2]) m6
    have t7 := Same.new (o := .tup [.str "x", .ref b6]) m7
    have t8 := Same.new (o := .lst [V.str "a", V.str "", V.non, V.int 7, V.int (-1), V.int (10 ^ (60 : Int).toNat), V.ref a1, V.ref a2, V.ref a3, V.ref a4, V.bl (decide (V.int 1 = V.int 1)), V.ref a5, V.ref a6]) m8
    have r78 := t7.trans t8
    have r68 := t6.trans r78
    have r58 := t5.trans r68
    have r48 := t4.trans r58
    have r38 := t3.trans r48
    have r28 := t2.trans r38
    have St : Stage H2 (upd (upd (upd (upd (upd (upd (upd (upd (upd H3 a1 (.lst [.str "a"])) a2 (.tup [.str "a", .int 1])) a3 (.dK [])) a3 (.dK (mergeK [] [(.inr "x", .int 1)]))) a4 (.tup [])) a5 (.lst [])) b6 (.tup [.str "y", .int 2])) a6 (.tup [.str "x", .ref b6])) th (.lst [V.str "a", V.str "", V.non, V.int 7, V.int (-1), V.int (10 ^ (60 : Int).toNat), V.ref a1, V.ref a2, V.ref a3, V.ref a4, V.bl (decide (V.int 1 = V.int 1)), V.ref a5, V.ref a6])) wl th [V.str "a", V.str "", V.non, V.int 7, V.int (-1), V.int (10 ^ (60 : Int).toNat), V.ref a1, V.ref a2, V.ref a3, V.ref a4, V.bl (decide (V.int 1 = V.int 1)), V.ref a5, V.ref a6] 0 := by
      refine ⟨s3.trans (t1.trans r28), hW.same (t1.trans r28), upd_same, fun v hv => ?_, rfl, nw, ?_⟩
      · simp only [List.mem_cons, List.not_mem_nil, or_false] at hv
        rcases hv with rfl | rfl | rfl | rfl | rfl | rfl | rfl | rfl | rfl | rfl | rfl | rfl | rfl
        · exact ⟨_, .str _ (by decide +kernel)⟩
        · exact ⟨_, .str _ (by decide +kernel)⟩
        · exact ⟨_, .non⟩
        · exact ⟨_, .int _ (by decide +kernel)⟩
        · exact ⟨_, .int _ (by decide +kernel)⟩
        · exact ⟨_, .int _ (by decide +kernel)⟩
        · exact ⟨_, .l1 (r28 _ _ upd_same)⟩
        · exact ⟨_, .t2 (r38 _ _ upd_same)⟩
        · exact ⟨_, .d1 (r48 _ _ upd_same)⟩
        · exact ⟨_, .t0 (r58 _ _ upd_same)⟩
        · exact ⟨_, .bl _⟩
        · exact ⟨_, .l0 (r68 _ _ upd_same)⟩
        · exact ⟨_, .tt (t8 _ _ upd_same) (r78 _ _ upd_same)⟩
      · obtain ⟨wa, wb, wc, hw, _⟩ := hW
        exact ne_of_none ((t1.trans (t2.trans (t3.trans (t4.trans (t5.trans (t6.trans t7)))))) _ _ hw) m8
    clear t1 t2 t3 t4 t5 t6 t7 t8 r78 r68 r58 r48 r38 r28
    generalize (upd (upd (upd (upd (upd (upd (upd (upd (upd H3 a1 (.lst [.str "a"])) a2 (.tup [.str "a", .int 1])) a3 (.dK [])) a3 (.dK (mergeK [] [(.inr "x", .int 1)]))) a4 (.tup [])) a5 (.lst [])) b6 (.tup [.str "y", .int 2])) a6 (.tup [.str "x", .ref b6])) th (.lst [V.str "a", V.str "", V.non, V.int 7, V.int (-1), V.int (10 ^ (60 : Int).toNat), V.ref a1, V.ref a2, V.ref a3, V.ref a4, V.bl (decide (V.int 1 = V.int 1)), V.ref a5, V.ref a6])) = H4 at St ⊢
    generalize [V.str "a", V.str "", V.non, V.int 7, V.int (-1), V.int (10 ^ (60 : Int).toNat), V.ref a1, V.ref a2, V.ref a3, V.ref a4, V.bl (decide (V.int 1 = V.int 1)), V.ref a5, V.ref a6] = xs at St
    refine ⟨13, rfl, by decide, by decide, ?_⟩
    refine for_range (lo := 0) (n := 13) (fun i σ H5 => ∃ o4 o5 o6 o7 : Option V, σ = [some (.ref a), some (.int c), some (.ref wl), some (.ref th), o4, o5, o6, o7] ∧ Stage H2 H5 wl th xs (i : Int))
      ⟨_, _, _, _, rfl, St⟩ ?_ ?_
    · rintro i σ H5 hi ⟨p4, p5, p6, p7, rfl, S5⟩
      rw [Int.zero_add]
      refine ⟨_, rfl, _, rfl, wl, th, (i : Int), xs, rfl, S5.well, by omega, S5.ne, SqL.of S5.lst, (by rw [S5.len]; decide), (by rw [S5.len]; decide), fun r v ys hv hW5 => ?_⟩
      have S6 := S5.draw hW5
      generalize upd H5 wl (.lst ys) = H6 at S6 ⊢
      obtain ⟨d, td⟩ := S6.ok v (List.mem_of_getElem? hv)
      refine ⟨_, rfl, _, rfl, i, v, rfl, hi, fun t e H7 nt s7 he ht => ?_⟩
      refine ⟨t, _, rfl, SqT.of ht, rfl, _, _, rfl, _, _, rfl, rfl, ?_⟩
      refine ⟨_, rfl, v, d, rfl, td.same s7, _, rfl, v, d, rfl, td.same s7, rfl, _, rfl, ?_⟩
      refine iteNS rfl ?_
      refine ⟨_, rfl, _, rfl, e, i, rfl, Nat.lt_trans hi (by decide), he, fun H8 s8 => ⟨_, rfl, ?_⟩⟩
      refine iteF ?_
      exact ⟨_, _, _, _, rfl, (S6.grow s7).grow s8⟩
    · rintro σ H5 ⟨p4, p5, p6, p7, rfl, S5⟩
      refine ⟨9, rfl, by decide, by decide, fun D hD => ?_⟩
      have nDw : D ≠ wl := fun z => by
        obtain ⟨wa, wb, wc, hw, _⟩ := S5.well
        rw [z, hw] at hD
        cases hD
      have nDt : th ≠ D := ne_of_none S5.lst hD
      refine lc_range (lo := 0) (n := 9) (fun j H7 => (∀ b, b ≠ wl → b ≠ D → H7 b = H5 b) ∧ WellAt H7 wl (13 + (j : Int)) ∧ ∃ ys, H7 D = some (.lst ys) ∧ ys.length = j ∧ ∀ v ∈ ys, v ∈ xs)
        ⟨fun b _ h => upd_ne h, ?_, [], upd_same, rfl, fun v hv => nomatch hv⟩ ?_ ?_
      · obtain ⟨wa, wb, wc, hw, w1, w2, w3, w4⟩ := S5.well
        exact ⟨wa, wb, wc, by rw [upd_ne (Ne.symm nDw)]; exact hw, w1, w2, w3, by omega⟩
      · rintro j H7 hj ⟨hb, hw, ys, hy, hl, hm⟩
        refine ⟨rfl, ?_⟩
        show tCall (spOne K) [] E0 (tCons (tVar 2) (tCons (tVar 3) tNil)) _ H7 _
        have hth : H7 th = some (.lst xs) := (hb th (Ne.symm S5.ne) nDt).trans S5.lst
        refine ⟨_, rfl, _, rfl, wl, th, 13 + (j : Int), xs, rfl, hw, by omega, S5.ne, SqL.of hth, (by rw [S5.len]; decide), (by rw [S5.len]; decide), fun r v zs hv hW5 => ?_⟩
        refine ⟨ys, (by rw [upd_ne nDw]; exact hy), small1000 (by omega), fun b h1 h2 => ?_, ?_, ys ++ [v], upd_same, by rw [List.length_append, hl]; rfl, fun u hu => ?_⟩
        · rw [upd_ne h2, upd_ne h1]
          exact hb b h1 h2
        · obtain ⟨wa, wb, wc, hw5, w1, w2, w3, w4⟩ := hW5
          exact ⟨wa, wb, wc, by rw [upd_ne (Ne.symm nDw)]; exact hw5, w1, w2, w3, by omega⟩
        · rcases List.mem_append.mp hu with h | h
          · exact hm u h
          · rw [List.mem_singleton.mp h]
            exact List.mem_of_getElem? hv
      · rintro H7 ⟨hb, hw, ys, hy, hl, hm⟩
        refine ⟨D, ys, rfl, hy, hl, fun u hu => ?_, fun H8 s8 => ⟨_, rfl, ?_⟩⟩
        · obtain ⟨d, td⟩ := S5.ok u (hm u hu)
          exact td.flat
        · refine iteF ?_
          refine ⟨_, _, _, _, _, _, _, rfl, s8 _ _ ?_⟩
          have z := S5.same _ _ h2
          rw [hb l2 (fun e => by rw [e, S5.new] at h2; cases h2) (ne_of_none z hD)]
          exact z
  · rintro σ H2 ⟨o1, o2, o3, o4, o5, o6, o7, rfl, h2⟩
    refine ⟨0, rfl, by decide, fun H3 _ => ⟨_, rfl, iteT ?_⟩⟩
    refine ⟨1, rfl, by decide, fun H4 _ => ⟨_, rfl, iteT ?_⟩⟩
    exact ⟨2, rfl, by decide, fun H5 _ => hq H5⟩
end
end Kx
namespace Kx
open PySem L2 PySem.Spec PyProof.Rows
/-! the law's own call, by a caller around whom nothing is being shown -/
section
variable {P : Program} {w : World} {K : PySem.W.Frag} {mg mb : Str → Option Value} {fa a : Addr} {s : Shared} {vs : List Value} {ns : List Int}
abbrev oScript (vs : List Value) : Obj := { cls := .type "list", data := .seq vs.toArray }
/-- what may be tracked at the entry: the script, and nothing else -/
structure Entry (K : PySem.W.Frag) (H : Hp) (a : Addr) (vs : List Value) (ns : List Int) : Prop where
  only : ∀ b u, H b = some u → b = a ∧ u = .frz (oScript vs) (.lst (ns.map V.int)) ∧ K.lookup a = none
  seq : SqL K H a (ns.map V.int)
theorem entry_run {oc kV doc pm cdv ct : Value} {od an : Option Addr} {osl : Array (Option Value)} {H : Hp} (En : Entry K H a vs ns)
    (KX : K.In s.heap) (hns : s.heap.Ns mainGlobals mg) (hb : s.heap.Ns builtinsNs mb) (hbb : ∀ x : Str, x ≠ "__name__" → mb x = bootBuiltins x) (hlim : s.heap.NoLimit) (hg : s.gens = #[])
    (ha : s.heap.get? a = some (oScript vs)) (hi : IntsAre vs ns) (hl : ns.length ≤ 63)
    (lk : K.lookup fa = some ⟨oc, od, .func (PySem.W.fnOf "law" "law" (defArgs sLaw) (defBody sLaw) (defScope sLaw) .none kV doc pm an cdv ct), osl⟩) (hcd : PySem.W.codeIn K cdv "law" = true)
    (body : ∀ (base : Heap), K.In base → base.Ns mainGlobals mg → ∃ t, PSs (cxOf CX0 P w K mg base nL "law" (defScope sLaw) fa cdv callerA [] s H E0).nox (defBody sLaw) t ∧ t { nx := fun _ _ => V.non = V.bl true, rt := fun v _ => v = V.bl true } (start nL [.ref a]) H) :
    codeAny (model P w) callerA (.call (.ref fa) ⟨[.ref a], []⟩) (fun r s' => r = .ok (.ret (.bool true)) ∧ OldK s.heap s'.heap ∧ s'.os = s.os ∧ AllBare s'.gens) s := by
  have rv := vals_ints hi
  have free : ∀ {b : Addr} {o : Obj}, s.heap.get? b = some o → (b = a → o ≠ oScript vs) → H b = none := fun {b o} e d => by
    cases q : H b with
    | none => rfl
    | some u =>
      obtain ⟨rfl, _, _⟩ := En.only b u q
      rw [ha] at e
      exact absurd (Option.some.inj e).symm (d rfl)
  have freeD : ∀ {b : Addr} {o : Obj} {es : Array DictEntry} {ep : Nat}, s.heap.get? b = some o → o.data = .dict es ep → H b = none := fun {b o es ep} e d =>
    free e fun _ z => by
      rw [z] at d
      cases d
  have nsB : ∀ {b : Addr} {m : Str → Option Value}, s.heap.Ns b m → (hidT s.heap H).Ns b m := fun {b m} ⟨o, es, ep, e, d, r⟩ => ⟨o, es, ep, hidT_get e (freeD e d), d, r⟩
  have KB : K.In (hidT s.heap H) := fun b o e => hidT_get (KX b o e) (by
    cases q : H b with
    | none => rfl
    | some u =>
      obtain ⟨rfl, _, n⟩ := En.only b u q
      rw [n] at e
      cases e)
  have M : Mod K mg (hidT s.heap H) := ⟨KB, nsB hns, ⟨mb, nsB hb, hbb⟩, let ⟨mc, h1, h2⟩ := hlim; ⟨mc, nsB h1, h2⟩⟩
  have ok : HOk P w H s.heap := fun b u q => by
    obtain ⟨rfl, rfl, _⟩ := En.only b u q
    exact ⟨ha, by rw [List.length_map]; exact Nat.le_of_lt (small1000 (by omega)), vs, _, rv, ha⟩
  have e0 : Env0 P w K mg (hidT s.heap H) callerA [] s H := ⟨rfl, M, fun b o e => of_hidT e, Nat.le_of_eq (hidT_size _ _), trivial, fun b hb => absurd (show b ∈ ([] : List Addr) from hb) (by simp), ok, .of_eq hg⟩
  have F : FnScope nL ["_law_script"] (defScope sLaw) := scL
  have bd : BindsTo s (PySem.W.fnOf "law" "law" (defArgs sLaw) (defBody sLaw) (defScope sLaw) .none kV doc pm an cdv ct) ⟨[.ref a], []⟩ [("_law_script", .ref a)] := .of_eq rfl
  refine codeAny_call_function (by decide) (KX _ _ lk) rfl F.co F.gen rfl (PySem.W.codeRec_of KX hcd) (bd _ _ _ _ ?_)
  refine wpAny_newFunctionEnv_cells F.kind (fun y hy => ?_) fun env he s1 x => ?_
  · rw [List.mem_singleton.mp hy]
    exact .inl (by rfl)
  · subst he
    refine ⟨hlim.keeps x.toInCall.keep, codeAny_func ?_⟩
    obtain ⟨t, ht, hq⟩ := body _ KB (nsB hns)
    have I := inv_start (CX := CX0) (E := E0) (us := [.ref a]) (vs := [.ref a]) F (show callerA.handled = none from rfl) e0 rfl (.cons rfl .nil) x
    refine wpAny_mono (ht.run [] s1 _ H _ (I.wish _) hq) (fun fl s' hs => ?_) fun e s' hs => False.elim hs
    · cases fl with
      | ret u =>
        obtain ⟨v, σ', H', J, r, q⟩ := hs
        have q' : v = .bl true := q
        subst q'
        obtain rfl : u = Value.bool true := r
        refine ⟨rfl, OldK.of_keep fun b o e => ?_, J.os, J.bare⟩
        cases z : H b with
        | none => exact J.base.keep b o e z (fun y => absurd (show b ∈ ([] : List Addr) from y) (by simp)) (fun y => absurd (show b ∈ ([] : List Addr) from y) (by simp))
        | some u =>
          obtain ⟨rfl, rfl, _⟩ := En.only b u z
          obtain ⟨e2, _⟩ := J.hok b _ (J.base.frzs b _ _ z)
          rw [ha] at e
          cases e
          exact e2
      | next =>
        obtain ⟨_, _, _, q⟩ := hs
        cases (show V.non = V.bl true from q)
      | brk =>
        obtain ⟨_, _, _, q⟩ := hs
        exact False.elim q
      | cont =>
        obtain ⟨_, _, _, q⟩ := hs
        exact False.elim q
end
end Kx
namespace Kx
open PySem L2 PySem.Spec PyProof.Rows
open L2H (HotC Hot1 PinOk RoomH PIH TurnH)
/-! a list comprehension while an error is handled -/
abbrev blkP (X : Cx) (s : Shared) (H : Hp) (scope : Scope) (ce : Env) (fp : List Addr) : Cx := { X.blk s H scope ce fp with pn := X.pn }
section
variable {X : Cx} {pins : List (Addr × Obj)} {σ : L2.St} {H : Hp} {s : Shared}
theorem blk_pin {s3 : Shared} {H3 : Hp} {scope : Scope} {ce : Env} {fp : List Addr} (I : Inv (X.blk s3 H3 scope ce fp) pins σ H s)
    (h : ∀ p ∈ X.pn, s.heap.get? p.1 = some p.2 ∧ H p.1 = none ∧ p.1 ≠ ce.locals ∧ p.1 ∉ frs X.stack ∧ ∀ v, p.2.data ≠ .cell v) : Inv (blkP X s3 H3 scope ce fp) pins σ H s := by
  have k := I.ok
  exact ⟨⟨k.mod, k.kind, k.glob, k.blt, k.above, k.inj, k.has, k.cab, k.hd, k.frames, k.stk, k.exf, k.bs, k.bsz, k.noex, k.exfs, k.funs, k.frf⟩, I.os, I.bare, I.base, I.loc, I.cell, I.free, I.freeC,
    fun p hp => (List.mem_append.mp hp).elim (fun z => h p z) fun z => I.pin p (List.mem_append_right _ z), I.hok, I.len⟩
theorem pe_lcH {elt tg iter : Expr} {scope : Scope} {own : List (Str × Nat)} {pos : Pos} {wi : TI} {g : TG} {te : TE} (hot : HotC X) (hN : X.N.Nodup) (hi : PIH X tg iter wi) (ok : BlkOk X.N X.env.scope scope own)
    (hg : ∀ (s : Shared) (H : Hp) (C : Addr) (cl : List (Str × Addr)) (fp : List Addr), PG (blkP X s H scope (compEnvC scope cl C X.env) fp) tg g)
    (he : ∀ (s : Shared) (H : Hp) (C : Addr) (cl : List (Str × Addr)) (fp : List Addr), PE (blkP X s H scope (compEnvC scope cl C X.env) fp) elt te) (hs : ∀ x, foldedSetIterable iter X.env x = pure x := by intro _; rfl) :
    PE X (.ListComp elt [⟨tg, iter, [], 0⟩] scope pos) (tLc wi g tYes te (own.map (·.2))) := by
  refine ⟨fun pins s σ H Q I h => ?_⟩
  rw [eval_ListComp]
  have fr : ∀ y ∈ scope.names, y.2 = .free → ∃ c, X.env.cells.lookup y.1 = some c := fun y hy e => I.ok.has _ (ok.free y hy e)
  refine wpAny_comprehension_free (use := none) rfl hs (closure_ok fr) ok.kind (fun y hy e => by rw [ok.uniq y hy, e]) (thn (hi.run pins s σ H _ I h) fun xv sa hx => thn hx fun itv sb hb => ?_)
  obtain ⟨it, fp, tn, J, Hb, e, Ib, T, stb, fb, q⟩ := hb
  subst e
  refine wpAny_newObj_type (newEnv_comp ?_) (by show 0 ≤ sizeLine; decide)
  obtain ⟨D, hD⟩ : ∃ D, sb.heap.objs.size = D := ⟨_, rfl⟩
  rw [hD]
  have hDn : Hb D = none := Ib.hok.fresh (Nat.le_of_eq hD)
  obtain ⟨W, ⟨m0, w0⟩, turn⟩ := q D hDn
  obtain ⟨sc, hsc⟩ : ∃ sc : Shared, ({ sb with heap := sb.heap.push { cls := .type "list", data := .seq ([] : List Value).toArray } } : Shared) = sc := ⟨_, rfl⟩
  have hch : sc.heap = sb.heap.push { cls := .type "list", data := .seq ([] : List Value).toArray } := by rw [← hsc]
  have Ic : Inv X pins σ (upd Hb D (.lst [])) sc := by
    rw [← hsc]
    exact Ib.laid (t' := sb.toks) (fun b o z => Heap.get?_push_of_some _ z) (Nat.le_of_eq hD) ⟨Nat.zero_le _, [], 0, .nil, by rw [← hD]; exact Heap.get?_push_size _ rfl⟩
  have lt : ∀ b ∈ fp, b < sb.heap.objs.size := fun b hb => let ⟨o, z, _⟩ := T.obj _ _ stb b hb; Heap.lt_size z
  have fc : ∀ b ∈ fp, FpOk X pins (upd Hb D (.lst [])) b ∧ b < sc.heap.objs.size := fun b hb =>
    ⟨⟨by rw [upd_ne (by rw [← hD]; exact Nat.ne_of_lt (lt b hb))]; exact (fb b hb).1, (fb b hb).2⟩, by rw [hch, Heap.size_push]; exact Nat.lt_succ_of_lt (lt b hb)⟩
  have stc : tn 0 sc.heap := T.keep _ _ _ stb fun b _ o z => by rw [hch]; exact Heap.get?_push_of_some _ z
  have Id0 := block_start Ic ok hN fc
  have pg := hg sc (upd Hb D (.lst [])) sc.heap.objs.size (cellsFrom (sc.heap.objs.size + 1) scope.names (cloFrom X.env.cells scope.names [])) fp
  have pe := he sc (upd Hb D (.lst [])) sc.heap.objs.size (cellsFrom (sc.heap.objs.size + 1) scope.names (cloFrom X.env.cells scope.names [])) fp
  rw [show ({ sb with heap := sb.heap.push { cls := .type "list", data := .seq ([] : List Value).toArray } } : Shared) = sc from hsc]
  obtain ⟨ce, hce⟩ : ∃ ce, compEnvC scope (cellsFrom (sc.heap.objs.size + 1) scope.names (cloFrom X.env.cells scope.names [])) sc.heap.objs.size X.env = ce := ⟨_, rfl⟩
  have cL : ce.locals = sc.heap.objs.size := by rw [← hce] <;> rfl
  obtain ⟨Hc, hHc⟩ : ∃ Hc, upd Hb D (.lst []) = Hc := ⟨_, rfl⟩
  obtain ⟨sd, hsd⟩ : ∃ sd : Shared, ({ sc with heap := pushCells (sc.heap.push { cls := .type "dict", data := .dict #[] }) scope.names } : Shared) = sd := ⟨_, rfl⟩
  have kd : ∀ b o, sc.heap.get? b = some o → sd.heap.get? b = some o := fun b o z => by rw [← hsd]; exact pushCells_keeps _ _ _ _ (Heap.get?_push_of_some _ z)
  rw [hce] at Id0 pg pe
  rw [hHc] at Id0 pg pe w0 Ic fc
  rw [hsd] at Id0
  have pins0 : ∀ p ∈ X.pn, sd.heap.get? p.1 = some p.2 ∧ Hc p.1 = none ∧ p.1 ≠ ce.locals ∧ p.1 ∉ frs X.stack ∧ ∀ v, p.2.data ≠ .cell v := fun p hp => by
    obtain ⟨z1, z2, z3, z4, z5⟩ := Ic.pin p (List.mem_append_left _ hp)
    exact ⟨kd _ _ z1, z2, by rw [cL]; exact Nat.ne_of_lt (Heap.lt_size z1), fun hm => (List.mem_cons.mp (Ic.stkSub p.1 hm)).elim z3 z4, z5⟩
  have Id : Inv (blkP X sc Hc scope ce fp) [] (wipe σ (own.map (·.2))) Hc sd := blk_pin Id0 pins0
  have std : tn 0 sd.heap := T.keep _ _ _ stc fun b _ o z => kd b o z
  have hotB : HotC (blkP X sc Hc scope ce fp) := hot
  have stat : ∀ {σ' : L2.St} {H' : Hp} {s' : Shared}, Inv (blkP X sc Hc scope ce fp) [] σ' H' s' → (∀ b ∈ fp, H' b = none) → ∀ b ∈ fp, FpOk (blkP X sc Hc scope ce fp) [] H' b := fun {σ' H' s'} I' hn b hb =>
    ⟨hn b hb, (I'.ok.exf b hb).1, I'.ok.exfs b hb, .inl hb, fun x c z => (I'.ok.exf b hb).2 x c z, fun p hp => (List.mem_append.mp hp).elim (fun z => ((fc b hb).1.2.2.2.2.2 p (List.mem_append_left _ z))) fun z => nomatch z⟩
  have loop : codeAny (model X.prog X.w) X.A (.compLoop (.ListComp elt [⟨tg, iter, [], 0⟩] scope pos) 0 (.ref it) (.ref D) ce) (compPost (model X.prog X.w) X.A X.xe none (EP X pins σ Q) (.ref D) sc.heap.objs.size) sd := by
    refine compLoop_any (fun n s' => ∃ i H', Inv (blkP X sc Hc scope ce fp) [] (wipe σ (own.map (·.2))) H' s' ∧ tn i s'.heap ∧ (∀ b ∈ fp, H' b = none) ∧ W i n H') ?_ m0 ⟨0, Hc, Id, std, fun b hb => (fc b hb).1.1, w0⟩
    rintro n s5 ⟨i, H5, I5, st5, n5, w5⟩
    rcases turn i n H5 w5 with ⟨stop, qq⟩ | ⟨go, Nx, hNx, step⟩
    · refine thnF (T.done (blkP X sc Hc scope ce fp) rfl rfl rfl hotB i [] s5 _ H5 (fun _ _ => False) I5 (stat I5 n5) st5 stop) fun r s6 ⟨hr, I6⟩ => ?_
      subst hr
      have I7 : Inv X pins σ H5 s6 := Ic.call' (ch := fp) I6.os I6.base I6.hok I6.bare fun b hb => ⟨(fc b hb).1.2.2.2.1, (fc b hb).1.2.1, (fc b hb).1.2.2.2.2.1, (fc b hb).1.2.2.2.2.2⟩
      have nC : H5 sc.heap.objs.size = none := by
        have z : H5 ce.locals = none := I6.free
        rw [cL] at z
        exact z
      obtain ⟨m, hn, _⟩ := I6.loc
      have hn : s6.heap.Ns ce.locals m := hn
      rw [cL] at hn
      obtain ⟨f0, f1, f2, f3, f4, f5⟩ := Ic.fpOk (Nat.le_refl _) nC
      exact ⟨m, hn, fun h'' sb' => ⟨.ref D, H5, I7.turned (t' := s6.toks) (fun b o hb z => (sb'.2 b hb).trans z) f0 f1 f3 f4 f5, rfl, qq⟩⟩
    · refine thnF (T.item (blkP X sc Hc scope ce fp) rfl rfl rfl hotB i [] s5 _ H5 (fun _ _ => False) I5 (stat I5 n5) st5 go) fun r s6 ⟨u, hr, h6⟩ => ?_
      subst hr
      refine thnF h6 fun _ s7 ⟨x, H7, I7, r7, y7, st7, n7⟩ => ?_
      have J7 := I7.pinned (stat I7 n7) (T.obj _ _ st7)
      refine thnF (pg.run _ s7 _ H7 x u _ J7 r7 (step x H7 y7)) fun _ s8 ⟨σ8, H8, I8, hw8, q8⟩ => ?_
      refine wpAny_tests_nil ?_
      rw [if_pos rfl]
      have q9 : te σ8 H8 fun y H4 => ∃ acc, H4 D = some (.lst acc) ∧ acc.length < sizeLine ∧ Nx (upd H4 D (.lst (acc ++ [y]))) := q8
      refine thnF (pe.run _ s8 σ8 H8 _ I8 q9) fun z s9 ⟨yv, H9, I9, r9, acc, hD9, hz9, nx⟩ => ?_
      refine app_ok (X := blkP X sc Hc scope ce fp) I9 hD9 hz9 r9 fun s' I' => ?_
      obtain ⟨m', hm, w'⟩ := hNx _ nx
      have pin' : ∀ b ∈ fp, ∀ o, s7.heap.get? b = some o → s'.heap.get? b = some o ∧ (upd H9 D (.lst (acc ++ [yv]))) b = none := fun b hb o z =>
        let k := I'.pin (b, o) (List.mem_append_right _ (List.mem_append_right _ (mem_pinsAt hb z)))
        ⟨k.1, k.2.1⟩
      refine ⟨m', hm, i + 1, _, (I'.unpinned (pins := [])).weak (by rw [← hw8, wipe_length]) (fun j v z => ?_), T.keep _ _ _ st7 fun b hb o z => (pin' b hb o z).1, fun b hb => ?_, w'⟩
      · rw [← hw8] at z
        exact (wipe_some z).1
      · obtain ⟨o, z, _⟩ := T.obj _ _ st7 b hb
        exact (pin' b hb o z).2
  rw [← hce] at loop
  rw [← hsd] at loop
  exact codeAny_compStart_list loop (T.self X.A 0 _ _ _ (by rw [hsd]; exact std) loop)
end
end Kx
namespace Kx
open PySem L2 PySem.Spec PyProof.Rows
open L2H (HotC Hot1 PinOk RoomH PIH TurnH cxH inv_startH pi_range1H)
/-! defs that are called while the error p is handled -/
structure FnP (P : Program) (w : World) (K : PySem.W.Frag) (mg : Str → Option Value) (base : Heap) (p : Addr × Obj) (k : Nat) (f : Addr) (fd : FuncData) (ps : List Str) (sp : Sp) : Prop where
  len : ∀ vs H Q E, sp vs H Q E → vs.length = ps.length
  run : ∀ (A : Around) (outer : List Env) (s : Shared) (H : Hp) (us : List Value) (vs : List V) (Q : VK), RoomH k A → Hot1 A p → PinOk outer H s p → Env0 P w K mg base A outer s H → BindsTo s fd ⟨us, []⟩ (ps.zip us) → Vals vs us → sp vs H Q E0 →
    codeAny (model P w) A (.call (.ref f) ⟨us, []⟩) (CR CX0 outer P w H s Q E0) s
section
variable {P : Program} {w : World} {K : PySem.W.Frag} {mg : Str → Option Value} {base : Heap} {p : Addr × Obj}
theorem fnP_of {k : Nat} {x : Str} {st : Stmt} {f : Addr} {fd : FuncData} {N ps : List Str} {sp : Sp} (F : Fun K x x st f fd) (S : FnScope N ps (defScope st)) (len : ∀ vs H Q E, sp vs H Q E → vs.length = ps.length)
    (body : ∀ (cdv : Value) (A : Around) (outer : List Env) (s : Shared) (H : Hp) (vs : List V) (Q : VK), Hot1 A p → RoomH k (A.deeper (envOfC x (defScope st) s.heap.objs.size f cdv)) → sp vs H Q E0 →
      ∃ t, PSs (cxH CX0 P w K mg base N x (defScope st) f cdv A outer s H E0 p).nox (defBody st) t ∧ t { nx := fun _ H' => Q .non H', rt := Q } (start N vs) H) : FnP P w K mg base p (k + 1) f fd ps sp := by
  obtain ⟨oc, od, kV, doc, pm, an, cdv, ct, osl, rfl, lk, hcd⟩ := F.ex
  refine ⟨len, fun A outer s H us vs Q hr hot hp e0 hb r hsp => ?_⟩
  have KX : K.In s.heap := e0.mod.kin.keeps fun b o z => (e0.bs b o z).1
  have lim : s.heap.NoLimit := e0.mod.nolimit.keeps fun b o z => (e0.bs b o z).1
  refine codeAny_call_function hr.depth (KX _ _ lk) rfl S.co S.gen rfl (PySem.W.codeRec_of KX hcd) (hb _ _ _ _ ?_)
  refine wpAny_newFunctionEnv_cells S.kind (fun ⟨n, v⟩ hy => (S.par n (List.of_mem_zip hy).1).imp id fun q => ⟨q, PySem.W.cellsFrom_some _ _ _ (.inl q)⟩) fun env he s1 y => ?_
  subst he
  refine ⟨lim.keeps y.toInCall.keep, codeAny_func ?_⟩
  obtain ⟨t, ht, hq⟩ := body cdv A outer s H vs Q hot (hr.deeper _) hsp
  have I := inv_startH (CX := CX0) (E := E0) S hp e0 (len _ _ _ _ hsp) r y
  refine wpAny_mono (ht.run [] s1 _ H _ (I.wish _) hq) (fun fl s' hs => ?_) fun e s' hs => False.elim hs
  cases fl with
  | ret u =>
    obtain ⟨v, σ', H', J, rv, q⟩ := hs
    exact ⟨v, H', J.os, J.bare, J.base, J.hok, rv, q⟩
  | next =>
    obtain ⟨σ', H', J, q⟩ := hs
    exact ⟨.non, H', J.os, J.bare, J.base, J.hok, rfl, q⟩
  | brk =>
    obtain ⟨_, _, _, q⟩ := hs
    exact False.elim q
  | cont =>
    obtain ⟨_, _, _, q⟩ := hs
    exact False.elim q
end
section
variable {X : Cx} {k : Nat} {f : Addr} {fd : FuncData} {ps : List Str} {sp : Sp} {x : Str} {q pos : Pos} {e : Expr} {es : List Expr} {t : TA} {p : Addr × Obj}
theorem pe_callP (F : FnP X.prog X.w X.K X.mg X.base p k f fd ps sp) (hr : RoomH k X.A) (hot : Hot1 X.A p) (hp : p ∈ X.pn) (hg : Gl X x) (hm : X.mg x = some (.ref f)) (hk : PySem.W.keepIn X.K (.ref f) = true) (hb : Binds X.K fd ps [])
    (ha : PA X (e :: es) t) (hdb : (x == ("__debug__" : Str)) = false := by decide) (he : starEach (e :: es) X.env = (false, eval e X.env) :: starEach es X.env := by rfl) (hpl : (backTo pos (starEach es X.env)).any (·.1) = false := by rfl) :
    PE X (.Call (.Name x q) (e :: es) [] pos) (tCall sp [] E0 t) := by
  refine ⟨fun pins s σ H Q I h => ?_⟩
  refine wpAny_Call_Name_kw (ld_glob I hg hm ?_ hdb)
  refine PySem.W.callWith_K (h₀ := X.base) I.ok.mod.kin hk (thn (ha.run pos pins s σ H _ I h) fun us s1 ⟨vs, H1, I1, r, z⟩ => ⟨I1.kIn, ?_⟩) he hpl
  have z : sp vs H1 Q E0 := by rw [← List.append_nil vs]; exact z
  have bd := hb s1 us I1.kIn (by rw [List.append_nil, ← r.length]; exact F.len _ _ _ _ z)
  rw [List.append_nil] at bd
  have g := I1.pin p (List.mem_append_left _ hp)
  refine wpAny_call (codeAny_mono (F.run X.A X.stack s1 H1 us vs Q hr hot ⟨g.1, g.2.1, fun hm => (List.mem_cons.mp (I1.stkSub p.1 hm)).elim g.2.2.1 g.2.2.2.1, g.2.2.2.2⟩ I1.env0 bd r z) fun r s' hq => ?_)
  cases r with
  | error er => exact False.elim hq
  | ok fl =>
    cases fl with
    | ret u => exact I1.after hq
    | next => exact False.elim hq
    | brk => exact False.elim hq
    | cont => exact False.elim hq
end
/-! isinstance of the error that is handled -/
/-- p is an error of the class at C; its own dict, if it has one, is tracked -/
def PinIs (p : Addr × Obj) (C : Addr) (H : Hp) : Prop := ∃ vs d, p.2.data = .fields vs ∧ Zc (.ref C) d p.2 ∧ (d = none ∨ ∃ dd fs, d = some dd ∧ H dd = some (exd dd fs))
theorem PinIs.same {p : Addr × Obj} {C : Addr} {H H' : Hp} (h : PinIs p C H) (s : Same H H') : PinIs p C H' := by
  obtain ⟨vs, d, h1, h2, h3⟩ := h
  exact ⟨vs, d, h1, h2, h3.imp id fun ⟨dd, fs, e, z⟩ => ⟨dd, fs, e, s _ _ z⟩⟩
section
variable {X : Cx} {B : Addr}
def rIsPin (K : PySem.W.Frag) (p : Addr × Obj) (B : Addr) : List V → Hp → VK → Prop := fun xs H Q => ∃ (C : Addr) (c : V) (u : Value) (b : Bool), xs = [.ref p.1, c] ∧ PinIs p C H ∧ Ct K B C ∧ ClsV c u ∧ PySem.W.kitOne K (.ref C) u = some b ∧ Q (.bl b) H
theorem call_isPin {p : Addr × Obj} (G : Gt X.K B) (hp : p ∈ X.pn) : CallR X (.builtin "isinstance") (rIsPin X.K p B) := by
  intro pins s σ H xs us Q I r h
  obtain ⟨C, c, u, b, rfl, ⟨vs, d, hd, hz, hdd⟩, T, k, e, q⟩ := h
  obtain ⟨u1, u2, rfl, r1, r2⟩ := vals2 r
  have z1 : u1 = Value.ref p.1 := r1
  subst z1
  have e2 := k.eq r2
  subst e2
  obtain ⟨a, oc, odd, oda, osl⟩ := p
  obtain ⟨g, _⟩ := I.pin _ (List.mem_append_left pins hp)
  obtain ⟨y1, y2⟩ := hz
  dsimp only at g hd y1 y2
  subst y1 y2 hd
  have J : ∃ od, PySem.W.InstAt s.heap a ⟨.ref C, odd, .fields vs, osl⟩ C od := by
    rcases hdd with rfl | ⟨dd, fs, rfl, hx⟩
    · exact ⟨none, g, rfl, rfl, trivial⟩
    · obtain ⟨mA, hn, _⟩ := exd_at I.hok hx
      obtain ⟨od, e2, _⟩ := lookIn_ns hn
      exact ⟨some od, g, rfl, rfl, e2⟩
  obtain ⟨od, J⟩ := J
  exact PySem.W.kia_one (PySem.W.kitx_exc T.isC T.ga T.gg T.base T.ha G.hn G.ht (by rw [T.mro]; rfl)) I.kIn J e (fun z => nomatch z) fun tk => ⟨.bl b, H, I.tok tk, rfl, q⟩
end
end Kx
namespace Kx
open PySem L2 PySem.Spec PyProof.Rows
open L2H (HotC Hot1 PinOk RoomH PIH TurnH cxH inv_startH pi_range1H)
/-! the same defs, while an error is handled -/
def spMarksP (p : Addr × Obj) (C : Nat → Addr) : Sp := fun vs H Q _ => ∃ k : Nat, vs = [.ref p.1] ∧ k < 18 ∧ PinIs p (C k) H ∧ ∀ q H', H q = none → Same H H' → H' q = some (.lst (mk k)) → Q (.ref q) H'
def spIsOfP (p : Addr × Obj) (C : Nat → Addr) : Sp := fun vs H Q _ => ∃ k : Nat, vs = [.ref p.1, .int k] ∧ k < 18 ∧ PinIs p (C k) H ∧ ∀ H', Same H H' → Q (.bl true) H'
section
variable {P : Program} {w : World} {K : PySem.W.Frag} {mg : Str → Option Value} {base : Heap} {B : Addr} {C : Nat → Addr} {p : Addr × Obj}
theorem ok_marksP {f : Addr} {fd : FuncData} (F : Fun K "_law_marks" "_law_marks" sMarks f fd) (T : Txt K mg B C) : FnP P w K mg base p 1 f fd ["_law_e"] (spMarksP p C) := by
  refine fnP_of F scMk (fun vs H Q E h => ?_) (fun cdv A outer s H vs Q hot hr h => ?_)
  · obtain ⟨k, rfl, _⟩ := h
    rfl
  · obtain ⟨k, rfl, hk, he, q⟩ := h
    refine ⟨_, pss_cons (ps_set (i := 1) scMk.nd rfl (Or.inl rfl) (pe_lst (pa_cons (pe_callB (call_isPin (p := p) T.G List.mem_cons_self) (by rfl) T.isi boot_isinstance (pa_cons (pv 0) (pa_cons (pe_glob (v := .ref (C 0)) (by rfl) (T.gm 0 (by decide)) rfl) pa_nil))) (pa_cons (pe_callB (call_isPin (p := p) T.G List.mem_cons_self) (by rfl) T.isi boot_isinstance (pa_cons (pv 0) (pa_cons (pe_glob (v := .ref (C 1)) (by rfl) (T.gm 1 (by decide)) rfl) pa_nil))) (pa_cons (pe_callB (call_isPin (p := p) T.G List.mem_cons_self) (by rfl) T.isi boot_isinstance (pa_cons (pv 0) (pa_cons (pe_glob (v := .ref (C 2)) (by rfl) (T.gm 2 (by decide)) rfl) pa_nil))) (pa_cons (pe_callB (call_isPin (p := p) T.G List.mem_cons_self) (by rfl) T.isi boot_isinstance (pa_cons (pv 0) (pa_cons (pe_glob (v := .ref (C 3)) (by rfl) (T.gm 3 (by decide)) rfl) pa_nil))) pa_nil)))))) (pss_cons (ps_set (i := 1) scMk.nd rfl (Or.inl rfl) (pe_op op_cat (pv 1) (pe_lst (pa_cons (pe_callB (call_isPin (p := p) T.G List.mem_cons_self) (by rfl) T.isi boot_isinstance (pa_cons (pv 0) (pa_cons (pe_glob (v := .ref (C 4)) (by rfl) (T.gm 4 (by decide)) rfl) pa_nil))) (pa_cons (pe_callB (call_isPin (p := p) T.G List.mem_cons_self) (by rfl) T.isi boot_isinstance (pa_cons (pv 0) (pa_cons (pe_glob (v := .ref (C 5)) (by rfl) (T.gm 5 (by decide)) rfl) pa_nil))) (pa_cons (pe_callB (call_isPin (p := p) T.G List.mem_cons_self) (by rfl) T.isi boot_isinstance (pa_cons (pv 0) (pa_cons (pe_glob (v := .ref (C 6)) (by rfl) (T.gm 6 (by decide)) rfl) pa_nil))) (pa_cons (pe_callB (call_isPin (p := p) T.G List.mem_cons_self) (by rfl) T.isi boot_isinstance (pa_cons (pv 0) (pa_cons (pe_glob (v := .ref (C 7)) (by rfl) (T.gm 7 (by decide)) rfl) pa_nil))) pa_nil))))))) (pss_cons (ps_set (i := 1) scMk.nd rfl (Or.inl rfl) (pe_op op_cat (pv 1) (pe_lst (pa_cons (pe_callB (call_isPin (p := p) T.G List.mem_cons_self) (by rfl) T.isi boot_isinstance (pa_cons (pv 0) (pa_cons (pe_glob (v := .ref (C 8)) (by rfl) (T.gm 8 (by decide)) rfl) pa_nil))) (pa_cons (pe_callB (call_isPin (p := p) T.G List.mem_cons_self) (by rfl) T.isi boot_isinstance (pa_cons (pv 0) (pa_cons (pe_glob (v := .ref (C 9)) (by rfl) (T.gm 9 (by decide)) rfl) pa_nil))) (pa_cons (pe_callB (call_isPin (p := p) T.G List.mem_cons_self) (by rfl) T.isi boot_isinstance (pa_cons (pv 0) (pa_cons (pe_glob (v := .ref (C 10)) (by rfl) (T.gm 10 (by decide)) rfl) pa_nil))) (pa_cons (pe_callB (call_isPin (p := p) T.G List.mem_cons_self) (by rfl) T.isi boot_isinstance (pa_cons (pv 0) (pa_cons (pe_glob (v := .ref (C 11)) (by rfl) (T.gm 11 (by decide)) rfl) pa_nil))) pa_nil))))))) (pss_cons (ps_set (i := 1) scMk.nd rfl (Or.inl rfl) (pe_op op_cat (pv 1) (pe_lst (pa_cons (pe_callB (call_isPin (p := p) T.G List.mem_cons_self) (by rfl) T.isi boot_isinstance (pa_cons (pv 0) (pa_cons (pe_glob (v := .ref (C 12)) (by rfl) (T.gm 12 (by decide)) rfl) pa_nil))) (pa_cons (pe_callB (call_isPin (p := p) T.G List.mem_cons_self) (by rfl) T.isi boot_isinstance (pa_cons (pv 0) (pa_cons (pe_glob (v := .ref (C 13)) (by rfl) (T.gm 13 (by decide)) rfl) pa_nil))) (pa_cons (pe_callB (call_isPin (p := p) T.G List.mem_cons_self) (by rfl) T.isi boot_isinstance (pa_cons (pv 0) (pa_cons (pe_glob (v := .ref (C 14)) (by rfl) (T.gm 14 (by decide)) rfl) pa_nil))) pa_nil)))))) (pss_one (ps_ret (pe_op op_cat (pv 1) (pe_lst (pa_cons (pe_callB (call_isPin (p := p) T.G List.mem_cons_self) (by rfl) T.isi boot_isinstance (pa_cons (pv 0) (pa_cons (pe_glob (v := .ref (C 15)) (by rfl) (T.gm 15 (by decide)) rfl) pa_nil))) (pa_cons (pe_callB (call_isPin (p := p) T.G List.mem_cons_self) (by rfl) T.isi boot_isinstance (pa_cons (pv 0) (pa_cons (pe_glob (v := .ref (C 16)) (by rfl) (T.gm 16 (by decide)) rfl) pa_nil))) (pa_cons (pe_callB (call_isPin (p := p) T.G List.mem_cons_self) (by rfl) T.isi boot_isinstance (pa_cons (pv 0) (pa_cons (pe_glob (v := .ref (C 17)) (by rfl) (T.gm 17 (by decide)) rfl) pa_nil))) pa_nil)))))))))), ?_⟩
    refine ⟨_, rfl, C k, _, _, _, rfl, he, T.ct k hk, ClsV.own _, T.kit hk (by decide : 0 < 18), _, rfl, C k, _, _, _, rfl, he, T.ct k hk, ClsV.own _, T.kit hk (by decide : 1 < 18), _, rfl, C k, _, _, _, rfl, he, T.ct k hk, ClsV.own _, T.kit hk (by decide : 2 < 18), _, rfl, C k, _, _, _, rfl, he, T.ct k hk, ClsV.own _, T.kit hk (by decide : 3 < 18), by show 4 ≤ sizeLine; decide, fun p1 n1 => ?_⟩
    have s1 : Same H (upd H p1 (.lst [.bl (decide (0 = k)), .bl (decide (1 = k)), .bl (decide (2 = k)), .bl (decide (3 = k))])) := Same.new n1
    have he1 := PinIs.same he s1
    refine ⟨_, rfl, _, rfl, C k, _, _, _, rfl, he1, T.ct k hk, ClsV.own _, T.kit hk (by decide : 4 < 18), _, rfl, C k, _, _, _, rfl, he1, T.ct k hk, ClsV.own _, T.kit hk (by decide : 5 < 18), _, rfl, C k, _, _, _, rfl, he1, T.ct k hk, ClsV.own _, T.kit hk (by decide : 6 < 18), _, rfl, C k, _, _, _, rfl, he1, T.ct k hk, ClsV.own _, T.kit hk (by decide : 7 < 18), by show 4 ≤ sizeLine; decide, fun p2 n2 => ?_⟩
    have m2 : p1 ≠ p2 := ne_of_none (o := .lst ([.bl (decide (0 = k)), .bl (decide (1 = k)), .bl (decide (2 = k)), .bl (decide (3 = k))])) upd_same n2
    have t1a : Same H (upd (upd H p1 (.lst [.bl (decide (0 = k)), .bl (decide (1 = k)), .bl (decide (2 = k)), .bl (decide (3 = k))])) p2 (.lst [.bl (decide (4 = k)), .bl (decide (5 = k)), .bl (decide (6 = k)), .bl (decide (7 = k))])) := s1.trans (Same.new n2)
    refine ⟨_, _, _, _, rfl, rfl, (by rw [upd_ne m2, upd_same]), upd_same, (by show 8 ≤ sizeLine; decide), fun c1 o1 => ?_⟩
    have t1 : Same H (upd (upd (upd H p1 (.lst [.bl (decide (0 = k)), .bl (decide (1 = k)), .bl (decide (2 = k)), .bl (decide (3 = k))])) p2 (.lst [.bl (decide (4 = k)), .bl (decide (5 = k)), .bl (decide (6 = k)), .bl (decide (7 = k))])) c1 (.lst ([.bl (decide (0 = k)), .bl (decide (1 = k)), .bl (decide (2 = k)), .bl (decide (3 = k))] ++ [.bl (decide (4 = k)), .bl (decide (5 = k)), .bl (decide (6 = k)), .bl (decide (7 = k))]))) := t1a.trans (Same.new o1)
    have he2 := PinIs.same he t1
    refine ⟨_, rfl, _, rfl, C k, _, _, _, rfl, he2, T.ct k hk, ClsV.own _, T.kit hk (by decide : 8 < 18), _, rfl, C k, _, _, _, rfl, he2, T.ct k hk, ClsV.own _, T.kit hk (by decide : 9 < 18), _, rfl, C k, _, _, _, rfl, he2, T.ct k hk, ClsV.own _, T.kit hk (by decide : 10 < 18), _, rfl, C k, _, _, _, rfl, he2, T.ct k hk, ClsV.own _, T.kit hk (by decide : 11 < 18), by show 4 ≤ sizeLine; decide, fun p3 n3 => ?_⟩
    have m3 : c1 ≠ p3 := ne_of_none (o := .lst ([.bl (decide (0 = k)), .bl (decide (1 = k)), .bl (decide (2 = k)), .bl (decide (3 = k))] ++ [.bl (decide (4 = k)), .bl (decide (5 = k)), .bl (decide (6 = k)), .bl (decide (7 = k))])) upd_same n3
    have t2a : Same H (upd (upd (upd (upd H p1 (.lst [.bl (decide (0 = k)), .bl (decide (1 = k)), .bl (decide (2 = k)), .bl (decide (3 = k))])) p2 (.lst [.bl (decide (4 = k)), .bl (decide (5 = k)), .bl (decide (6 = k)), .bl (decide (7 = k))])) c1 (.lst ([.bl (decide (0 = k)), .bl (decide (1 = k)), .bl (decide (2 = k)), .bl (decide (3 = k))] ++ [.bl (decide (4 = k)), .bl (decide (5 = k)), .bl (decide (6 = k)), .bl (decide (7 = k))]))) p3 (.lst [.bl (decide (8 = k)), .bl (decide (9 = k)), .bl (decide (10 = k)), .bl (decide (11 = k))])) := t1.trans (Same.new n3)
    refine ⟨_, _, _, _, rfl, rfl, (by rw [upd_ne m3, upd_same]), upd_same, (by show 12 ≤ sizeLine; decide), fun c2 o2 => ?_⟩
    have t2 : Same H (upd (upd (upd (upd (upd H p1 (.lst [.bl (decide (0 = k)), .bl (decide (1 = k)), .bl (decide (2 = k)), .bl (decide (3 = k))])) p2 (.lst [.bl (decide (4 = k)), .bl (decide (5 = k)), .bl (decide (6 = k)), .bl (decide (7 = k))])) c1 (.lst ([.bl (decide (0 = k)), .bl (decide (1 = k)), .bl (decide (2 = k)), .bl (decide (3 = k))] ++ [.bl (decide (4 = k)), .bl (decide (5 = k)), .bl (decide (6 = k)), .bl (decide (7 = k))]))) p3 (.lst [.bl (decide (8 = k)), .bl (decide (9 = k)), .bl (decide (10 = k)), .bl (decide (11 = k))])) c2 (.lst ([.bl (decide (0 = k)), .bl (decide (1 = k)), .bl (decide (2 = k)), .bl (decide (3 = k))] ++ [.bl (decide (4 = k)), .bl (decide (5 = k)), .bl (decide (6 = k)), .bl (decide (7 = k))] ++ [.bl (decide (8 = k)), .bl (decide (9 = k)), .bl (decide (10 = k)), .bl (decide (11 = k))]))) := t2a.trans (Same.new o2)
    have he3 := PinIs.same he t2
    refine ⟨_, rfl, _, rfl, C k, _, _, _, rfl, he3, T.ct k hk, ClsV.own _, T.kit hk (by decide : 12 < 18), _, rfl, C k, _, _, _, rfl, he3, T.ct k hk, ClsV.own _, T.kit hk (by decide : 13 < 18), _, rfl, C k, _, _, _, rfl, he3, T.ct k hk, ClsV.own _, T.kit hk (by decide : 14 < 18), by show 3 ≤ sizeLine; decide, fun p4 n4 => ?_⟩
    have m4 : c2 ≠ p4 := ne_of_none (o := .lst ([.bl (decide (0 = k)), .bl (decide (1 = k)), .bl (decide (2 = k)), .bl (decide (3 = k))] ++ [.bl (decide (4 = k)), .bl (decide (5 = k)), .bl (decide (6 = k)), .bl (decide (7 = k))] ++ [.bl (decide (8 = k)), .bl (decide (9 = k)), .bl (decide (10 = k)), .bl (decide (11 = k))])) upd_same n4
    have t3a : Same H (upd (upd (upd (upd (upd (upd H p1 (.lst [.bl (decide (0 = k)), .bl (decide (1 = k)), .bl (decide (2 = k)), .bl (decide (3 = k))])) p2 (.lst [.bl (decide (4 = k)), .bl (decide (5 = k)), .bl (decide (6 = k)), .bl (decide (7 = k))])) c1 (.lst ([.bl (decide (0 = k)), .bl (decide (1 = k)), .bl (decide (2 = k)), .bl (decide (3 = k))] ++ [.bl (decide (4 = k)), .bl (decide (5 = k)), .bl (decide (6 = k)), .bl (decide (7 = k))]))) p3 (.lst [.bl (decide (8 = k)), .bl (decide (9 = k)), .bl (decide (10 = k)), .bl (decide (11 = k))])) c2 (.lst ([.bl (decide (0 = k)), .bl (decide (1 = k)), .bl (decide (2 = k)), .bl (decide (3 = k))] ++ [.bl (decide (4 = k)), .bl (decide (5 = k)), .bl (decide (6 = k)), .bl (decide (7 = k))] ++ [.bl (decide (8 = k)), .bl (decide (9 = k)), .bl (decide (10 = k)), .bl (decide (11 = k))]))) p4 (.lst [.bl (decide (12 = k)), .bl (decide (13 = k)), .bl (decide (14 = k))])) := t2.trans (Same.new n4)
    refine ⟨_, _, _, _, rfl, rfl, (by rw [upd_ne m4, upd_same]), upd_same, (by show 15 ≤ sizeLine; decide), fun c3 o3 => ?_⟩
    have t3 : Same H (upd (upd (upd (upd (upd (upd (upd H p1 (.lst [.bl (decide (0 = k)), .bl (decide (1 = k)), .bl (decide (2 = k)), .bl (decide (3 = k))])) p2 (.lst [.bl (decide (4 = k)), .bl (decide (5 = k)), .bl (decide (6 = k)), .bl (decide (7 = k))])) c1 (.lst ([.bl (decide (0 = k)), .bl (decide (1 = k)), .bl (decide (2 = k)), .bl (decide (3 = k))] ++ [.bl (decide (4 = k)), .bl (decide (5 = k)), .bl (decide (6 = k)), .bl (decide (7 = k))]))) p3 (.lst [.bl (decide (8 = k)), .bl (decide (9 = k)), .bl (decide (10 = k)), .bl (decide (11 = k))])) c2 (.lst ([.bl (decide (0 = k)), .bl (decide (1 = k)), .bl (decide (2 = k)), .bl (decide (3 = k))] ++ [.bl (decide (4 = k)), .bl (decide (5 = k)), .bl (decide (6 = k)), .bl (decide (7 = k))] ++ [.bl (decide (8 = k)), .bl (decide (9 = k)), .bl (decide (10 = k)), .bl (decide (11 = k))]))) p4 (.lst [.bl (decide (12 = k)), .bl (decide (13 = k)), .bl (decide (14 = k))])) c3 (.lst ([.bl (decide (0 = k)), .bl (decide (1 = k)), .bl (decide (2 = k)), .bl (decide (3 = k))] ++ [.bl (decide (4 = k)), .bl (decide (5 = k)), .bl (decide (6 = k)), .bl (decide (7 = k))] ++ [.bl (decide (8 = k)), .bl (decide (9 = k)), .bl (decide (10 = k)), .bl (decide (11 = k))] ++ [.bl (decide (12 = k)), .bl (decide (13 = k)), .bl (decide (14 = k))]))) := t3a.trans (Same.new o3)
    have he4 := PinIs.same he t3
    refine ⟨_, rfl, _, rfl, C k, _, _, _, rfl, he4, T.ct k hk, ClsV.own _, T.kit hk (by decide : 15 < 18), _, rfl, C k, _, _, _, rfl, he4, T.ct k hk, ClsV.own _, T.kit hk (by decide : 16 < 18), _, rfl, C k, _, _, _, rfl, he4, T.ct k hk, ClsV.own _, T.kit hk (by decide : 17 < 18), by show 3 ≤ sizeLine; decide, fun p5 n5 => ?_⟩
    have m5 : c3 ≠ p5 := ne_of_none (o := .lst ([.bl (decide (0 = k)), .bl (decide (1 = k)), .bl (decide (2 = k)), .bl (decide (3 = k))] ++ [.bl (decide (4 = k)), .bl (decide (5 = k)), .bl (decide (6 = k)), .bl (decide (7 = k))] ++ [.bl (decide (8 = k)), .bl (decide (9 = k)), .bl (decide (10 = k)), .bl (decide (11 = k))] ++ [.bl (decide (12 = k)), .bl (decide (13 = k)), .bl (decide (14 = k))])) upd_same n5
    have t4a : Same H (upd (upd (upd (upd (upd (upd (upd (upd H p1 (.lst [.bl (decide (0 = k)), .bl (decide (1 = k)), .bl (decide (2 = k)), .bl (decide (3 = k))])) p2 (.lst [.bl (decide (4 = k)), .bl (decide (5 = k)), .bl (decide (6 = k)), .bl (decide (7 = k))])) c1 (.lst ([.bl (decide (0 = k)), .bl (decide (1 = k)), .bl (decide (2 = k)), .bl (decide (3 = k))] ++ [.bl (decide (4 = k)), .bl (decide (5 = k)), .bl (decide (6 = k)), .bl (decide (7 = k))]))) p3 (.lst [.bl (decide (8 = k)), .bl (decide (9 = k)), .bl (decide (10 = k)), .bl (decide (11 = k))])) c2 (.lst ([.bl (decide (0 = k)), .bl (decide (1 = k)), .bl (decide (2 = k)), .bl (decide (3 = k))] ++ [.bl (decide (4 = k)), .bl (decide (5 = k)), .bl (decide (6 = k)), .bl (decide (7 = k))] ++ [.bl (decide (8 = k)), .bl (decide (9 = k)), .bl (decide (10 = k)), .bl (decide (11 = k))]))) p4 (.lst [.bl (decide (12 = k)), .bl (decide (13 = k)), .bl (decide (14 = k))])) c3 (.lst ([.bl (decide (0 = k)), .bl (decide (1 = k)), .bl (decide (2 = k)), .bl (decide (3 = k))] ++ [.bl (decide (4 = k)), .bl (decide (5 = k)), .bl (decide (6 = k)), .bl (decide (7 = k))] ++ [.bl (decide (8 = k)), .bl (decide (9 = k)), .bl (decide (10 = k)), .bl (decide (11 = k))] ++ [.bl (decide (12 = k)), .bl (decide (13 = k)), .bl (decide (14 = k))]))) p5 (.lst [.bl (decide (15 = k)), .bl (decide (16 = k)), .bl (decide (17 = k))])) := t3.trans (Same.new n5)
    refine ⟨_, _, _, _, rfl, rfl, (by rw [upd_ne m5, upd_same]), upd_same, (by show 18 ≤ sizeLine; decide), fun c4 o4 => ?_⟩
    have t4 : Same H (upd (upd (upd (upd (upd (upd (upd (upd (upd H p1 (.lst [.bl (decide (0 = k)), .bl (decide (1 = k)), .bl (decide (2 = k)), .bl (decide (3 = k))])) p2 (.lst [.bl (decide (4 = k)), .bl (decide (5 = k)), .bl (decide (6 = k)), .bl (decide (7 = k))])) c1 (.lst ([.bl (decide (0 = k)), .bl (decide (1 = k)), .bl (decide (2 = k)), .bl (decide (3 = k))] ++ [.bl (decide (4 = k)), .bl (decide (5 = k)), .bl (decide (6 = k)), .bl (decide (7 = k))]))) p3 (.lst [.bl (decide (8 = k)), .bl (decide (9 = k)), .bl (decide (10 = k)), .bl (decide (11 = k))])) c2 (.lst ([.bl (decide (0 = k)), .bl (decide (1 = k)), .bl (decide (2 = k)), .bl (decide (3 = k))] ++ [.bl (decide (4 = k)), .bl (decide (5 = k)), .bl (decide (6 = k)), .bl (decide (7 = k))] ++ [.bl (decide (8 = k)), .bl (decide (9 = k)), .bl (decide (10 = k)), .bl (decide (11 = k))]))) p4 (.lst [.bl (decide (12 = k)), .bl (decide (13 = k)), .bl (decide (14 = k))])) c3 (.lst ([.bl (decide (0 = k)), .bl (decide (1 = k)), .bl (decide (2 = k)), .bl (decide (3 = k))] ++ [.bl (decide (4 = k)), .bl (decide (5 = k)), .bl (decide (6 = k)), .bl (decide (7 = k))] ++ [.bl (decide (8 = k)), .bl (decide (9 = k)), .bl (decide (10 = k)), .bl (decide (11 = k))] ++ [.bl (decide (12 = k)), .bl (decide (13 = k)), .bl (decide (14 = k))]))) p5 (.lst [.bl (decide (15 = k)), .bl (decide (16 = k)), .bl (decide (17 = k))])) c4 (.lst ([.bl (decide (0 = k)), .bl (decide (1 = k)), .bl (decide (2 = k)), .bl (decide (3 = k))] ++ [.bl (decide (4 = k)), .bl (decide (5 = k)), .bl (decide (6 = k)), .bl (decide (7 = k))] ++ [.bl (decide (8 = k)), .bl (decide (9 = k)), .bl (decide (10 = k)), .bl (decide (11 = k))] ++ [.bl (decide (12 = k)), .bl (decide (13 = k)), .bl (decide (14 = k))] ++ [.bl (decide (15 = k)), .bl (decide (16 = k)), .bl (decide (17 = k))]))) := t4a.trans (Same.new o4)
    refine q c4 _ (Same.free t4a o4) t4 ?_
    rw [upd_same]
    rfl
end
end Kx
namespace Kx
open PySem L2 PySem.Spec PyProof.Rows
open L2H (HotC Hot1 PinOk RoomH PIH TurnH cxH inv_startH pi_range1H)
section
variable {P : Program} {w : World} {K : PySem.W.Frag} {mg : Str → Option Value} {base : Heap} {B : Addr} {C fi : Nat → Addr} {fdi : Nat → FuncData} {p : Addr × Obj}
theorem ok_isofP {f g : Addr} {fd fdM : FuncData} (F : Fun K "_law_is_of" "_law_is_of" sIsOf f fd) (T : Txt K mg B C) (FM : Fs K mg "_law_marks" sMarks ["_law_e"] g fdM) :
    FnP P w K mg base p 2 f fd ["_law_e", "_law_k"] (spIsOfP p C) := by
  have GM : FnP P w K mg base p 1 g fdM ["_law_e"] (spMarksP p C) := ok_marksP FM.F T
  refine fnP_of F scIs (fun vs H Q E h => ?_) (fun cdv A outer s H vs Q hot hr h => ?_)
  · obtain ⟨k, rfl, _⟩ := h
    rfl
  · obtain ⟨k, rfl, hk, he, q⟩ := h
    have hot2 : Hot1 (A.deeper (envOfC "_law_is_of" (defScope sIsOf) s.heap.objs.size f cdv)) p := hot
    have hu : (A.deeper (envOfC "_law_is_of" (defScope sIsOf) s.heap.objs.size f cdv)).units + 64 < cLine := by have := hr.un; omega
    refine ⟨_, pss_cons (ps_if (PW.pt (pw_or (pt_not (pt_val (pe_callB (call_isPin (p := p) T.G List.mem_cons_self) (by rfl) T.isi boot_isinstance (pa_cons (pv 0) (pa_cons (pe_glob (v := .ref B) (by rfl) T.gB rfl) pa_nil)))))
        (pw_or1 (pt_not (pt_val (pe_callB (call_isPin (p := p) T.G List.mem_cons_self) (by rfl) T.isi boot_isinstance (pa_cons (pv 0) (pa_cons (pe_bltn (v := .ty "ValueError") (by rfl) T.ve (by decide +kernel) rfl) pa_nil)))))))) (pss_one (ps_ret pe_bl)) pss_nil)
      (pss_one (ps_ret (pe_cmpR (op_eqV hu) (pe_callP GM hr hot2 List.mem_cons_self (by rfl) FM.m FM.F.kp FM.b (pa_cons (pv 0) pa_nil))
        (pe_lcH (own := [("_law_at", 2)]) (g := gName 2) ⟨p, hot2, List.mem_cons_self⟩ scIs.nd (pi_range1H rfl T.rng (pa_cons pe_int pa_nil)) (blkOk_by (N := ["_law_e", "_law_k", "_law_at"]) (sc := defScope sIsOf) (by decide +kernel))
          (fun _ _ _ _ _ => pg_name (i := 2) scIs.nd rfl (Or.inl rfl)) (fun _ _ _ _ _ => pe_cmpR op_eq (pv 2) (pv 1) (nomark _)))
        (nomark _)))), ?_⟩
    refine ⟨_, rfl, C k, _, _, _, rfl, he, T.ct k hk, ClsV.own _, kit_b (T.ct k hk) T.G, _, rfl, ?_⟩
    refine iteF ⟨_, rfl, C k, _, _, _, rfl, he, T.ct k hk, ClsV.ty _, kit_ve (T.ct k hk), _, rfl, iteF ?_⟩
    refine ⟨_, rfl, k, rfl, hk, he, fun z H1 hz s1 h1 => ?_⟩
    refine ⟨18, rfl, by decide, by decide, fun D hD => ?_⟩
    have nDz : z ≠ D := ne_of_none h1 hD
    refine lc_range (lo := 0) (n := 18) (fun i H2 => Same H H2 ∧ H2 z = some (.lst (mk k)) ∧ H2 D = some (.lst ((mk k).take i))) ⟨s1.trans (Same.new hD), by rw [upd_ne nDz]; exact h1, upd_same⟩ ?_ ?_
    · rintro i H2 hi ⟨s2, g1, g2⟩
      refine ⟨rfl, ?_⟩
      show tOp rEq (tVar 2) (tVar 1) _ H2 _
      refine ⟨_, rfl, _, rfl, rfl, (mk k).take i, g2, small1000 (by rw [List.length_take, mk_len]; omega), fun b o e => ?_, ?_, ?_⟩
      · rw [upd_ne (ne_of_none (s1 b o e) hD)]
        exact s2 b o e
      · rw [upd_ne nDz]
        exact g1
      · rw [upd_same, mk_take k i hi]
    · rintro H2 ⟨s2, g1, g2⟩
      rw [List.take_of_length_le (by rw [mk_len]; omega)] at g2
      exact ⟨1, by decide, .inl ⟨z, D, _, _, rfl, rfl, SqL.of g1, SqL.of g2, pair_mk _ (mk_flat k)⟩, q H2 s2⟩

end
end Kx
namespace Kx
open PySem L2 PySem.Spec PyProof.Rows
open L2H (HotC Hot1 PinOk RoomH PIH TurnH cxH inv_startH pi_range1H)
section
variable {P : Program} {w : World} {K : PySem.W.Frag} {mg : Str → Option Value} {base : Heap} {B : Addr} {C fi : Nat → Addr} {fdi : Nat → FuncData} {p : Addr × Obj}
theorem FnP.imp {k : Nat} {f : Addr} {fd : FuncData} {ps : List Str} {sp sp' : Sp} (F : FnP P w K mg base p k f fd ps sp) (h : ∀ vs H Q E, sp' vs H Q E → sp vs H Q E) : FnP P w K mg base p k f fd ps sp' :=
  ⟨fun vs H Q E z => F.len vs H Q E (h vs H Q E z), fun A outer s H us vs Q hr hot hp e0 hb r z => F.run A outer s H us vs Q hr hot hp e0 hb r (h vs H Q E0 z)⟩
/-- .. told by its class and its dict alone -/
def spIsOfC (C : Nat → Addr) (a : Addr) (cls : Value) (d : Option Addr) : Sp := fun vs H Q _ => ∃ k : Nat, vs = [.ref a, .int k] ∧ k < 18 ∧ cls = .ref (C k) ∧ (d = none ∨ ∃ dd fs, d = some dd ∧ H dd = some (exd dd fs)) ∧ ∀ H', Same H H' → Q (.bl true) H'
theorem takesN0 {X : Cx} : L2N.Takes X (fun _ _ _ _ => False) := fun _ _ x => by
  obtain ⟨_, _, _, _, _, _, _, _, _, _, _, _, _, _, _, _, z⟩ := x
  exact z.elim
end
section
variable {X : Cx} {e : Expr} {te : TE}
theorem pmkN_err {K : PySem.W.Frag} {H0 : Hp} (hK : X.K = K) (hH : X.H_0 = H0) (hx : X.ex = []) (he : PE X e te) : L2N.PMk X e (fun σ H Q => te σ H fun x H1 => ∃ a B C d : Addr, x = .ref a ∧ Ct K B C ∧ H1 a = some (exo a C (some d)) ∧ Fr0 H0 a ∧ Q (.ref C) (some d) (delH H1 a)) := by
  subst hK hH
  intro pins s σ H Q I h
  refine thn (he.run pins s σ H _ I h) fun u s1 ⟨v, H1, I1, r1, a, B, C, d, ev, T, ha, h0, q⟩ => ?_
  subst ev
  obtain rfl : u = Value.ref a := r1
  obtain ⟨t1, ho⟩ := exo_at I1.hok ha
  obtain ⟨G, gs, ga, J⟩ := I1.untrack (show H1 a = some (.ext _) from ha) h0 hx
  exact ⟨a, _, _, { s1 with heap := G }, delH H1 a, .ref C, some d, rfl, J, gs, ga, ho, ⟨rfl, rfl, fun vs z => by cases z; rfl⟩, rfl, rfl, delH_same, rfl, I1.bare, raises_own T.base T.tyC, q⟩
end
section
variable {P : Program} {w : World} {K : PySem.W.Frag} {mg : Str → Option Value} {base : Heap} {B : Addr} {C fi : Nat → Addr} {fdi : Nat → FuncData}
theorem scC : FnScope ["_law_one_here", "_law_e"] ["_law_one_here"] (defScope sCaught) := ⟨rfl, rfl, rfl, by decide +kernel, rfl, by decide +kernel, by decide +kernel⟩
theorem exm_b (T : Txt K mg B C) {k : Nat} (hk : k < 18) : PySem.W.exmOne K (.ref (C k)) (.ref B) = some true := PySem.W.exm_ref T.G.bsB T.G.hdB T.G.tyB (by
  show PySem.W.mroIn K (C k) _ = _
  rw [(T.ct k hk).mro]
  simp)
theorem del_keep {H H1 : Hp} {a : Addr} (s : Same H H1) (n : H a = none) : Same H (delH H1 a) := fun b o e => by
  rw [delH_ne (ne_of_none e n)]
  exact s b o e
theorem isof_c {a : Addr} {oe : Obj} {cls : Value} {d : Option Addr} (hz : L2N.Zn cls d oe) (hf : ∃ vs, oe.data = .fields vs) : ∀ vs H Q E, spIsOfC C a cls d vs H Q E → spIsOfP (a, oe) C vs H Q E := by
  rintro vs H Q E ⟨k, rfl, hk, rfl, hd, q⟩
  obtain ⟨fv, hv⟩ := hf
  exact ⟨k, rfl, hk, ⟨fv, d, hv, hz.zc, hd⟩, q⟩
theorem hot_c {X : Cx} {a : Addr} {oe : Obj} {cls : Value} {d : Option Addr} {pn : List (Addr × Obj)} (hz : L2N.Zn cls d oe) (hf : ∃ vs, oe.data = .fields vs) : Hot1 (X.suite a ((a, oe) :: pn)).A (a, oe) := by
  obtain ⟨fv, hv⟩ := hf
  exact ⟨rfl, fv, hv, hz.2.2 fv hv⟩
theorem ok_caught0 (T : Txt K mg B C) (S : Inis K C fi fdi) (D : Defs K mg) {f : Addr} {fd : FuncData} (dC : Fs K mg "_law_caught" sCaught ["_law_one_here"] f fd) : FnOk P w K mg base CX0 4 f fd ["_law_one_here"] spCaught := by
  obtain ⟨_, _, dM⟩ := D.marks
  obtain ⟨_, _, dI⟩ := D.isof
  refine dC.F.ok scC (fun vs H Q E h => ?_) (fun cdv A outer s H vs Q E hr h => ?_)
  · obtain ⟨k, rfl, _⟩ := h
    rfl
  · obtain ⟨k, rfl, hk, q⟩ := h
    have hr2 : Room 2 _ := hr.mono (by decide)
    refine ⟨_, pss_one (L2N.ps_try_as (i := 1) (ts := fun a cls d => tRet (tCall (spIsOfC C a cls d) [] E0 (tCons (tVar 1) (tCons (tOp (rIxL K) (tLst (tCons (tC (.int 13)) (tCons (tC (.int 15)) (tCons (tC (.int 17)) tNil)))) (tVar 0)) tNil)))) (Wout := fun _ _ _ _ => False)
      rfl rfl scC.nd rfl rfl ⟨rfl, by decide, .inl T.gB⟩ takesN0 (fun W pn xe tk _ => pss_cons (ps_if (pt_cmpR op_eq (pv 0) pe_int (nomark _)) (pss_one (L2N.ps_raise rfl tk (by exact (pmkN_err (X := ((cxOf CX0 P w K mg base ["_law_one_here", "_law_e"] "_law_caught" (defScope sCaught) f cdv A outer s H E).nox.tr pn xe)) (K := K) (H0 := H) rfl rfl rfl (pe_err (X := ((cxOf CX0 P w K mg base ["_law_one_here", "_law_e"] "_law_caught" (defScope sCaught) f cdv A outer s H E).nox.tr pn xe)) (T.ct 13 (by decide)) S.x13.no S.x13.iC S.x13.tI (ok_BadLibrary S.x13.F) hr2 S.x13.b pass0 (T.gm 13 (by decide)) (pa_cons pe_str (pa_cons pe_str pa_nil))))))) pss_nil)
        (pss_cons (ps_if (pt_cmpR op_eq (pv 0) pe_int (nomark _)) (pss_one (L2N.ps_raise rfl tk (L2N.pmk_own PySem.F.excBase_ValueError S.q15 (T.gm 15 (by decide)) (T.ct 15 (by decide)).kC (raises_own (T.ct 15 (by decide)).base (T.ct 15 (by decide)).tyC) (by rfl)))) pss_nil)
        (pss_one (L2N.ps_raise rfl tk (by exact (pmkN_err (X := ((cxOf CX0 P w K mg base ["_law_one_here", "_law_e"] "_law_caught" (defScope sCaught) f cdv A outer s H E).nox.tr pn xe)) (K := K) (H0 := H) rfl rfl rfl (pe_err (X := ((cxOf CX0 P w K mg base ["_law_one_here", "_law_e"] "_law_caught" (defScope sCaught) f cdv A outer s H E).nox.tr pn xe)) (T.ct 17 (by decide)) S.x17.no S.x17.iC S.x17.tI (ok_Breach S.x17.F) hr2 S.x17.b pass0 (T.gm 17 (by decide)) (pa_cons pe_str (pa_cons pe_non (pa_cons pe_str (pa_cons pe_str (pa_cons pe_non (pa_cons (pe_tup (pa_cons pe_non (pa_cons pe_non (pa_cons (pe_tup pa_nil) pa_nil)))) (pa_cons pe_dnewK (pa_cons pe_int (pa_cons pe_non pa_nil))))))))))))))))
      (fun a oe cls d pn hz hf => pss_one (ps_ret (pe_callP (p := (a, oe)) ((ok_isofP (p := (a, oe)) dI.F T dM).imp (isof_c hz hf)) ⟨hr2.dp, hr2.un⟩ (hot_c hz hf) List.mem_cons_self (by rfl) dI.m dI.F.kp dI.b (pa_cons (pv 1) (pa_cons (pe_ix ix_list (pe_lst (pa_cons pe_int (pa_cons pe_int (pa_cons pe_int pa_nil)))) (pv 0) (fun _ _ => rfl)) pa_nil)))))), ?_⟩
    have yes : ∀ (i : Int) {A B : Prop}, A → (if decide (V.int i = V.int i) = true then A else B) := fun i A B h => by rw [if_pos (by simp)]; exact h
    have no : ∀ {i j : Int} {A B : Prop}, i ≠ j → B → (if decide (V.int i = V.int j) = true then A else B) := fun {i j A B} ne h => by
      rw [if_neg (by simpa using ne)]
      exact h
    obtain rfl | rfl | rfl : k = 0 ∨ k = 1 ∨ k = 2 := by omega
    · refine ⟨_, rfl, rfl, _, rfl, yes 0 ?_⟩
      refine ⟨rfl, by decide, fun a H1 n1 h1 s1 => ?_⟩
      obtain ⟨d, hne, h1a, h1d⟩ := h1
      refine ⟨a, B, C 13, d, rfl, T.ct 13 (by decide), h1a, fr0_none n1, true, exm_b T (by decide), fun _ a' na => ?_, fun z => nomatch z⟩
      refine ⟨_, rfl, by show 3 ≤ sizeLine; decide, fun l nl => ?_⟩
      exact ⟨_, rfl, l, _, _, _, rfl, rfl, SqL.of upd_same, rfl, 13, rfl, by decide, rfl, .inr ⟨d, _, rfl, Same.new nl _ _ ((delH_ne hne).trans h1d)⟩, fun H' s' => q H' ((del_keep s1 n1).trans ((Same.new nl).trans s'))⟩
    · refine ⟨_, rfl, rfl, _, rfl, no (by decide) ?_⟩
      refine ⟨_, rfl, rfl, _, rfl, yes 1 ?_⟩
      refine ⟨true, exm_b T (by decide), fun _ a' na => ?_, fun z => nomatch z⟩
      refine ⟨_, rfl, by show 3 ≤ sizeLine; decide, fun l nl => ?_⟩
      exact ⟨_, rfl, l, _, _, _, rfl, rfl, SqL.of upd_same, rfl, 15, rfl, by decide, rfl, .inl rfl, fun H' s' => q H' ((Same.new nl).trans s')⟩
    · refine ⟨_, rfl, rfl, _, rfl, no (by decide) ?_⟩
      refine ⟨_, rfl, rfl, _, rfl, no (by decide) ?_⟩
      refine ⟨by show 0 ≤ sizeLine; decide, fun b0 m0 => ?_⟩
      refine ⟨by show 3 ≤ sizeLine; decide, fun b1 m1 => ?_⟩
      refine fun b2 m2 => ⟨rfl, by decide, fun a H1 n1 h1 s1 => ?_⟩
      have t0 := (Same.new (o := .tup []) m0).trans ((Same.new (o := .tup [.non, .non, .ref b0]) m1).trans (Same.new (o := .dK []) m2))
      obtain ⟨d, hne, h1a, h1d⟩ := h1
      have n0 := t0.free n1
      refine ⟨a, B, C 17, d, rfl, T.ct 17 (by decide), h1a, fr0_none n0, true, exm_b T (by decide), fun _ a' na => ?_, fun z => nomatch z⟩
      refine ⟨_, rfl, by show 3 ≤ sizeLine; decide, fun l nl => ?_⟩
      exact ⟨_, rfl, l, _, _, _, rfl, rfl, SqL.of upd_same, rfl, 17, rfl, by decide, rfl, .inr ⟨d, _, rfl, Same.new nl _ _ ((delH_ne hne).trans h1d)⟩, fun H' s' => q H' ((del_keep (t0.trans s1) n0).trans ((Same.new nl).trans s'))⟩
theorem ok_caught (P : Program) (w : World) (K : PySem.W.Frag) (mg : Str → Option Value) (base : Heap) (B : Addr) (C fi : Nat → Addr) (fdi : Nat → FuncData) (T : Txt K mg B C) (S : Inis K C fi fdi) (D : Defs K mg) (f : Addr) (fd : FuncData) (dC : Fs K mg "_law_caught" sCaught ["_law_one_here"] f fd) : FnOk P w K mg base CX0 4 f fd ["_law_one_here"] spCaught := ok_caught0 T S D dC
end
end Kx
namespace Kx
open PySem L2 PySem.Spec PyProof.Rows
/-! what the top has left, and the law's head -/
structure Law (K : PySem.W.Frag) (mg : Str → Option Value) (fa : Addr) : Prop where
  ex : ∃ (B : Addr) (C fi : Nat → Addr) (fdi : Nat → FuncData), Txt K mg B C ∧ Inis K C fi fdi ∧ Defs K mg
  fn : ∃ (oc kV doc pm cdv ct : Value) (od an : Option Addr) (osl : Array (Option Value)), K.lookup fa = some ⟨oc, od, .func (PySem.W.fnOf "law" "law" (defArgs sLaw) (defBody sLaw) (defScope sLaw) .none kV doc pm an cdv ct), osl⟩ ∧ PySem.W.codeIn K cdv "law" = true
theorem walk {l : PySem.W.OpenLaw} {q : Program} {loose : List Str} {XP : (Str → Option Value) → Heap → Prop} {YP : World → Heap → Prop} {d : DefRec} {K : Params → PySem.W.Frag} (hn : l.most = some 63) (hdf : d.params.defaults = [])
    (hY : ∀ (w : World) (h : Heap), YP w h → (K w.params).In h)
    (F : ∀ (w : World) (mg : Str → Option Value) (fa : Addr) (h : Heap), (K w.params).In h → h.Ns mainGlobals mg → mg d.name = some (.ref fa) → Law (K w.params) mg fa)
    (GCt : ∀ (P : Program) (w : World) (K : PySem.W.Frag) (mg : Str → Option Value) (base : Heap) (B : Addr) (C fi : Nat → Addr) (fdi : Nat → FuncData), Txt K mg B C → Inis K C fi fdi → Defs K mg → ∀ f fd, Fs K mg "_law_caught" sCaught ["_law_one_here"] f fd → FnOk P w K mg base CX0 4 f fd ["_law_one_here"] spCaught) :
    PySem.W.WalkO q loose XP YP l.row.toRowW d [] (fun f vs => PySem.call f vs) := by
  refine Att.attach_call hn hdf fun w s₀ s₁ mg mb fa o pm cd doc a vs ns G Y ho hd hcd hmg hobj hints hlen hg => ?_
  have KX := hY w _ Y
  obtain ⟨⟨B, C, fi, fdi, T, S, D⟩, ⟨oc, kV, dc, pm', cdv, ct, od, an, osl, lk, hc⟩⟩ := F w mg fa _ KX G.T.g hmg
  have go : ∀ H, Entry (K w.params) H a vs ns → _ := fun H En => entry_run (P := l.prog) (w := w) En KX G.T.g G.T.b G.T.builtins G.T.nolimit hg hobj hints hlen lk hc fun base _ _ =>
    law_body (P := l.prog) (w := w) (base := base) (Q := fun v _ => v = V.bl true) (s := s₁) (E := E0) (outer := []) (f := fa) (cdv := cdv) (A := callerA) rfl (Room.deeper (k := 4) (A := callerA) ⟨rfl, by decide, by decide⟩ _) T S D (fun f fd => GCt _ _ _ _ _ B C fi fdi T S D f fd) En.seq hlen (fun _ => rfl)
  cases hk : (K w.params).lookup a with
  | some ob =>
    have e := KX a ob hk
    rw [hobj] at e
    cases e
    exact go (fun _ => none) ⟨fun b u z => (by cases (show (none : Option HO) = some u from z)), .inr ⟨_, vs.toArray, _, hk, rfl, rfl, rfl, by rw [List.size_toArray, hints.length]; exact Nat.le_of_lt (small1000 (by omega)), by simpa using vals_ints hints⟩⟩
  | none =>
    refine go (fun b => if b = a then some (.frz (oScript vs) (.lst (ns.map V.int))) else none) ⟨fun b u z => ?_, .inl (.inr ⟨oScript vs, if_pos rfl⟩)⟩
    by_cases hb : b = a
    · have z' := (if_pos hb).symm.trans z
      exact ⟨hb, (Option.some.inj z').symm, hk⟩
    · have z' := (if_neg hb).symm.trans z
      cases z'
end Kx
namespace Kx
open PySem L2 PySem.Spec PyProof.Rows
section
variable {K : PySem.W.Frag} {mg : Str → Option Value} {h : Heap} {B C : Addr}
theorem ct_mk {nm q : Str} {N : Addr} {bs : List Value} {sn : List Str} {sub : List Value} {ab : Bool} {col : Option Bool} {dd : Option Addr} {k0 k1 k2 k3 k5 : Option Value}
    (x : K.lookup C = some (excClassObj nm q C N bs (.ref B :: veL) true sn sub ab col dd k0 k1 k2 k3 k5 "ValueError.__new__")) (sa : PySem.W.findIn K (.ref C) "__setattr__" = some (some (.builtin "object.__setattr__")))
    (ga : PySem.W.findIn K (.ref C) "__getattribute__" = some (some (.builtin "BaseException.__getattribute__"))) (gg : PySem.W.findIn K (.ref C) "__getattr__" = some none) (tyC : PySem.W.typeIn K (.ref C) = some (.type "type")) (kC : PySem.W.keepIn K (.ref C) = true)
    (hdC : PySem.W.hasDictIn K C = true) (ha : PySem.W.findIn K (.ref C) "__class__" = some (some (.builtin "object.__class__"))) : Ct K B C := ⟨⟨nm, q, N, bs, sn, sub, ab, col, dd, k0, k1, k2, k3, k5, x⟩, sa, ga, gg, tyC, kC, hdC, ha⟩
theorem ini_mk {qual : Str} {st : Stmt} {ns : List Str} {f : Addr} {oc : Value} {od an : Option Addr} {osl : Array (Option Value)} {kV doc pm cdv ct : Value} (iC : PySem.W.findIn K (.ref C) "__init__" = some (some (.ref f))) (tI : PySem.W.typeIn K (.ref f) = some (.type "function"))
    (l : K.lookup f = some ⟨oc, od, .func (PySem.W.fnOf "__init__" qual (defArgs st) (defBody st) (defScope st) .none kV doc pm an cdv ct), osl⟩) (c : PySem.W.codeIn K cdv qual = true) (k : PySem.W.keepIn K (.ref f) = true)
    (b : ∀ (kV doc pm : Value) (an : Option Addr) (cdv ct : Value) (us : List Value), us.length = (("self" : Str) :: ns).length → bindArgs (PySem.W.fnOf "__init__" qual (defArgs st) (defBody st) (defScope st) .none kV doc pm an cdv ct) ⟨us, []⟩ = pure ((("self" : Str) :: ns).zip us))
    (no : ∀ x ∈ ns, PySem.W.findIn K (.ref C) x = some none) : ∃ fd, IniOf K C qual st ns f fd := ⟨_, iC, tI, fun_mk l c k, (fun_mk (st := st) l c k).binds b, no⟩
theorem def_mk {x : Str} {st : Stmt} {ps : List Str} {f : Addr} {oc : Value} {od an : Option Addr} {osl : Array (Option Value)} {kV doc pm cdv ct : Value} (X : K.In h) (G : h.Ns mainGlobals mg) (m : PySem.W.nsIn K mainGlobals x = some (some (.ref f)))
    (l : K.lookup f = some ⟨oc, od, .func (PySem.W.fnOf x x (defArgs st) (defBody st) (defScope st) .none kV doc pm an cdv ct), osl⟩) (c : PySem.W.codeIn K cdv x = true) (k : PySem.W.keepIn K (.ref f) = true)
    (b : ∀ (kV doc pm : Value) (an : Option Addr) (cdv ct : Value) (us : List Value), us.length = ps.length → bindArgs (PySem.W.fnOf x x (defArgs st) (defBody st) (defScope st) .none kV doc pm an cdv ct) ⟨us, []⟩ = pure (ps.zip us)) :
    ∃ f fd, Fs K mg x st ps f fd := ⟨f, _, fun_mk l c k, (fun_mk (st := st) l c k).binds b, PySem.W.mg_of X G m⟩
end
def cls (l : List Addr) : Nat → Addr := fun i => l.getD i 0
theorem cls_get {l : List Addr} {i : Nat} (h : i < l.length) : cls l i = l[i] := by
  unfold cls
  simp [h]
theorem cls_ne {l : List Addr} (nd : l.Nodup) {i j : Nat} (hi : i < l.length) (hj : j < l.length) (h : i ≠ j) : cls l i ≠ cls l j := fun e => h ((List.getElem_inj nd).mp (by rw [cls_get hi, cls_get hj] at e; exact e))
theorem cls_nB {l : List Addr} {B : Addr} (nB : B ∉ l) {i : Nat} (hi : i < l.length) : cls l i ≠ B := fun e => nB (by rw [← e, cls_get hi]; exact List.getElem_mem hi)
-- (l : List Addr) : Nat → Addr := fun i => l.getD i 0
theorem all_mk {K : PySem.W.Frag} {mg : Str → Option Value} {h : Heap} {B c0 c1 c2 c3 c4 c5 c6 c7 c8 c9 c10 c11 c12 c13 c14 c15 c16 c17 f0 f1 f2 f3 f4 f5 f6 f7 f8 f9 f10 f11 f12 f13 f14 f17 fa fl : Addr} {oc kV doc pm cdv ct : Value} {od an : Option Addr} {osl : Array (Option Value)}
    (X : K.In h) (G : h.Ns mainGlobals mg)
    (m0 : PySem.W.nsIn K mainGlobals "BadCond" = some (some (.ref c0)))
    (m1 : PySem.W.nsIn K mainGlobals "NoValue" = some (some (.ref c1)))
    (m2 : PySem.W.nsIn K mainGlobals "NoClauses" = some (some (.ref c2)))
    (m3 : PySem.W.nsIn K mainGlobals "NoClass" = some (some (.ref c3)))
    (m4 : PySem.W.nsIn K mainGlobals "NoMethod" = some (some (.ref c4)))
    (m5 : PySem.W.nsIn K mainGlobals "NoSlot" = some (some (.ref c5)))
    (m6 : PySem.W.nsIn K mainGlobals "NoSite" = some (some (.ref c6)))
    (m7 : PySem.W.nsIn K mainGlobals "NoTape" = some (some (.ref c7)))
    (m8 : PySem.W.nsIn K mainGlobals "NoSteps" = some (some (.ref c8)))
    (m9 : PySem.W.nsIn K mainGlobals "NoChecks" = some (some (.ref c9)))
    (m10 : PySem.W.nsIn K mainGlobals "NoDuty" = some (some (.ref c10)))
    (m11 : PySem.W.nsIn K mainGlobals "Unkept" = some (some (.ref c11)))
    (m12 : PySem.W.nsIn K mainGlobals "BadText" = some (some (.ref c12)))
    (m13 : PySem.W.nsIn K mainGlobals "BadLibrary" = some (some (.ref c13)))
    (m14 : PySem.W.nsIn K mainGlobals "BadBody" = some (some (.ref c14)))
    (m15 : PySem.W.nsIn K mainGlobals "TooLong" = some (some (.ref c15)))
    (m16 : PySem.W.nsIn K mainGlobals "TooDeep" = some (some (.ref c16)))
    (m17 : PySem.W.nsIn K mainGlobals "Breach" = some (some (.ref c17)))
    (mB : PySem.W.nsIn K mainGlobals "ContractError" = some (some (.ref B)))
    (t0 : Ct K B c0)
    (t1 : Ct K B c1)
    (t2 : Ct K B c2)
    (t3 : Ct K B c3)
    (t4 : Ct K B c4)
    (t5 : Ct K B c5)
    (t6 : Ct K B c6)
    (t7 : Ct K B c7)
    (t8 : Ct K B c8)
    (t9 : Ct K B c9)
    (t10 : Ct K B c10)
    (t11 : Ct K B c11)
    (t12 : Ct K B c12)
    (t13 : Ct K B c13)
    (t14 : Ct K B c14)
    (t15 : Ct K B c15)
    (t16 : Ct K B c16)
    (t17 : Ct K B c17)
    (i0 : ∃ fd, IniOf K c0 "BadCond.__init__" (inClass (top 2) 0) ["clause"] f0 fd)
    (i1 : ∃ fd, IniOf K c1 "NoValue.__init__" (inClass (top 3) 0) ["term"] f1 fd)
    (i2 : ∃ fd, IniOf K c2 "NoClauses.__init__" (inClass (top 4) 0) ["at"] f2 fd)
    (i3 : ∃ fd, IniOf K c3 "NoClass.__init__" (inClass (top 6) 0) ["name"] f3 fd)
    (i4 : ∃ fd, IniOf K c4 "NoMethod.__init__" (inClass (top 7) 0) ["method"] f4 fd)
    (i5 : ∃ fd, IniOf K c5 "NoSlot.__init__" (inClass (top 8) 0) ["slot"] f5 fd)
    (i6 : ∃ fd, IniOf K c6 "NoSite.__init__" (inClass (top 10) 0) ["place"] f6 fd)
    (i7 : ∃ fd, IniOf K c7 "NoTape.__init__" (inClass (top 11) 0) ["tape"] f7 fd)
    (i8 : ∃ fd, IniOf K c8 "NoSteps.__init__" (inClass (top 12) 0) ["steps"] f8 fd)
    (i9 : ∃ fd, IniOf K c9 "NoChecks.__init__" (inClass (top 13) 0) ["without"] f9 fd)
    (i10 : ∃ fd, IniOf K c10 "NoDuty.__init__" (inClass (top 16) 0) ["duty"] f10 fd)
    (i11 : ∃ fd, IniOf K c11 "Unkept.__init__" (inClass (top 17) 0) ["duty"] f11 fd)
    (i12 : ∃ fd, IniOf K c12 "BadText.__init__" (inClass (top 18) 0) ["row"] f12 fd)
    (i13 : ∃ fd, IniOf K c13 "BadLibrary.__init__" (inClass (top 5) 0) ["at", "why"] f13 fd)
    (i14 : ∃ fd, IniOf K c14 "BadBody.__init__" (inClass (top 9) 0) ["at", "why"] f14 fd)
    (i17 : ∃ fd, IniOf K c17 "Breach.__init__" (inClass (top 19) 0) ["kind", "blamed", "side", "of", "slot", "site", "numbers", "clause", "earlier"] f17 fd)
    (q15 : PySem.W.excIn K c15 veL "ValueError.__new__" = true) (q16 : PySem.W.excIn K c16 veL "ValueError.__new__" = true)
    (d_well : ∃ f fd, Fs K mg "_law_well" sWell ["_law_cell"] f fd)
    (d_draw : ∃ f fd, Fs K mg "_law_draw" sDraw ["_law_well_here", "_law_base"] f fd)
    (d_one : ∃ f fd, Fs K mg "_law_one" sOne ["_law_well_here", "_law_some"] f fd)
    (d_single : ∃ f fd, Fs K mg "_law_single" sSingle ["_law_k", "_law_thing"] f fd)
    (d_marks : ∃ f fd, Fs K mg "_law_marks" sMarks ["_law_e"] f fd)
    (d_isof : ∃ f fd, Fs K mg "_law_is_of" sIsOf ["_law_e", "_law_k"] f fd)
    (d_caught : ∃ f fd, Fs K mg "_law_caught" sCaught ["_law_one_here"] f fd)
    (d_several : ∃ f fd, Fs K mg "_law_several_right" sSeveral ["_law_some"] f fd)
    (z_int : PySem.W.nsIn K mainGlobals "int" = some none)
    (z_len : PySem.W.nsIn K mainGlobals "len" = some none)
    (z_isinstance : PySem.W.nsIn K mainGlobals "isinstance" = some none)
    (z_range : PySem.W.nsIn K mainGlobals "range" = some none)
    (z_repr : PySem.W.nsIn K mainGlobals "repr" = some none)
    (z_ValueError : PySem.W.nsIn K mainGlobals "ValueError" = some none)
    (g1 : PySem.W.specialIn K (.builtin "object.__class__") "__get__" = some (some (.builtin "getset_descriptor.__get__"))) (g2 : PySem.W.takesIn K (.builtin "object.__class__") = some true) (g3 : PySem.W.isClsIn K B = true) (g4 : PySem.W.typeIn K (.ref B) = some (.type "type")) (g5 : PySem.W.subIn K (.ref B) (.type "BaseException") = some true) (g6 : PySem.W.hasDictIn K B = true)
    (nd : (B :: [c0, c1, c2, c3, c4, c5, c6, c7, c8, c9, c10, c11, c12, c13, c14, c15, c16, c17]).Nodup)
    (hfa : mg "law" = some (.ref fa)) (mL : PySem.W.nsIn K mainGlobals "law" = some (some (.ref fl)))
    (lL : K.lookup fl = some ⟨oc, od, .func (PySem.W.fnOf "law" "law" (defArgs sLaw) (defBody sLaw) (defScope sLaw) .none kV doc pm an cdv ct), osl⟩) (cL : PySem.W.codeIn K cdv "law" = true) : Law K mg fa := by
  have e := hfa.symm.trans (PySem.W.mg_of X G mL)
  cases e
  obtain ⟨fd0, i0⟩ := i0
  obtain ⟨fd1, i1⟩ := i1
  obtain ⟨fd2, i2⟩ := i2
  obtain ⟨fd3, i3⟩ := i3
  obtain ⟨fd4, i4⟩ := i4
  obtain ⟨fd5, i5⟩ := i5
  obtain ⟨fd6, i6⟩ := i6
  obtain ⟨fd7, i7⟩ := i7
  obtain ⟨fd8, i8⟩ := i8
  obtain ⟨fd9, i9⟩ := i9
  obtain ⟨fd10, i10⟩ := i10
  obtain ⟨fd11, i11⟩ := i11
  obtain ⟨fd12, i12⟩ := i12
  obtain ⟨fd13, i13⟩ := i13
  obtain ⟨fd14, i14⟩ := i14
  obtain ⟨fd17, i17⟩ := i17
  have ndC : ([c0, c1, c2, c3, c4, c5, c6, c7, c8, c9, c10, c11, c12, c13, c14, c15, c16, c17] : List Addr).Nodup := (List.nodup_cons.mp nd).2
  have nB : B ∉ ([c0, c1, c2, c3, c4, c5, c6, c7, c8, c9, c10, c11, c12, c13, c14, c15, c16, c17] : List Addr) := (List.nodup_cons.mp nd).1
  refine ⟨⟨B, cls [c0, c1, c2, c3, c4, c5, c6, c7, c8, c9, c10, c11, c12, c13, c14, c15, c16, c17], cls [f0, f1, f2, f3, f4, f5, f6, f7, f8, f9, f10, f11, f12, f13, f14, 0, 0, f17], fun i => [fd0, fd1, fd2, fd3, fd4, fd5, fd6, fd7, fd8, fd9, fd10, fd11, fd12, fd13, fd14, fd0, fd0, fd17].getD i fd0, ?_, ?_, ?_⟩, ⟨oc, kV, doc, pm, cdv, ct, od, an, osl, lL, cL⟩⟩
  · exact { int := PySem.W.mg_none_of X G z_int, len := PySem.W.mg_none_of X G z_len, isi := PySem.W.mg_none_of X G z_isinstance, rng := PySem.W.mg_none_of X G z_range, rep := PySem.W.mg_none_of X G z_repr, ve := PySem.W.mg_none_of X G z_ValueError, gB := PySem.W.mg_of X G mB,
            G := ⟨g1, g2, by unfold PySem.W.isClsIn at g3; exact g3, g4, g5, g6⟩,
            ct := fun i hi => match i, hi with | 0, _ => t0 | 1, _ => t1 | 2, _ => t2 | 3, _ => t3 | 4, _ => t4 | 5, _ => t5 | 6, _ => t6 | 7, _ => t7 | 8, _ => t8 | 9, _ => t9 | 10, _ => t10 | 11, _ => t11 | 12, _ => t12 | 13, _ => t13 | 14, _ => t14 | 15, _ => t15 | 16, _ => t16 | 17, _ => t17 | n + 18, hn => absurd hn (by omega),
            ne := fun i j hi hj h => cls_ne ndC hi hj h,
            neB := fun i hi => cls_nB nB hi,
            gm := fun i hi => match i, hi with | 0, _ => PySem.W.mg_of X G m0 | 1, _ => PySem.W.mg_of X G m1 | 2, _ => PySem.W.mg_of X G m2 | 3, _ => PySem.W.mg_of X G m3 | 4, _ => PySem.W.mg_of X G m4 | 5, _ => PySem.W.mg_of X G m5 | 6, _ => PySem.W.mg_of X G m6 | 7, _ => PySem.W.mg_of X G m7 | 8, _ => PySem.W.mg_of X G m8 | 9, _ => PySem.W.mg_of X G m9 | 10, _ => PySem.W.mg_of X G m10 | 11, _ => PySem.W.mg_of X G m11 | 12, _ => PySem.W.mg_of X G m12 | 13, _ => PySem.W.mg_of X G m13 | 14, _ => PySem.W.mg_of X G m14 | 15, _ => PySem.W.mg_of X G m15 | 16, _ => PySem.W.mg_of X G m16 | 17, _ => PySem.W.mg_of X G m17 | n + 18, hn => absurd hn (by omega) }
  · exact { x0 := i0, x1 := i1, x2 := i2, x3 := i3, x4 := i4, x5 := i5, x6 := i6, x7 := i7, x8 := i8, x9 := i9, x10 := i10, x11 := i11, x12 := i12, x13 := i13, x14 := i14, x17 := i17, q15 := q15, q16 := q16 }
  · exact ⟨d_well, d_draw, d_one, d_single, d_marks, d_isof, d_caught, d_several⟩
end Kx
open PySem PySem.W PyProof.Rows
set_option maxRecDepth 100000 in
set_option maxHeartbeats 0 in
theorem PySem.Challenge.cw_contractheirs_k10_errors_made_by_hand_holds : PySem.Challenge.rw_contractheirs_k10_errors_made_by_hand.Holds := by
  w_on; o_law; k_head; (case hw => w_witness2)
  k_fill
  refine Kx.walk (l := PySem.Challenge.rw_contractheirs_k10_errors_made_by_hand) rfl rfl (fun w h Y => PySem.W.kIn_of Y) ?F Kx.ok_caught
  case F =>
    intro w mg fa h KX G hmg
    refine' Kx.all_mk KX G ?um0 ?um1 ?um2 ?um3 ?um4 ?um5 ?um6 ?um7 ?um8 ?um9 ?um10 ?um11 ?um12 ?um13 ?um14 ?um15 ?um16 ?um17 ?umB (Kx.ct_mk ?ux0 ?ua0 ?ub0 ?uc0 ?ue0 ?uf0 ?ug0 ?uh0) (Kx.ct_mk ?ux1 ?ua1 ?ub1 ?uc1 ?ue1 ?uf1 ?ug1 ?uh1) (Kx.ct_mk ?ux2 ?ua2 ?ub2 ?uc2 ?ue2 ?uf2 ?ug2 ?uh2) (Kx.ct_mk ?ux3 ?ua3 ?ub3 ?uc3 ?ue3 ?uf3 ?ug3 ?uh3) (Kx.ct_mk ?ux4 ?ua4 ?ub4 ?uc4 ?ue4 ?uf4 ?ug4 ?uh4) (Kx.ct_mk ?ux5 ?ua5 ?ub5 ?uc5 ?ue5 ?uf5 ?ug5 ?uh5) (Kx.ct_mk ?ux6 ?ua6 ?ub6 ?uc6 ?ue6 ?uf6 ?ug6 ?uh6) (Kx.ct_mk ?ux7 ?ua7 ?ub7 ?uc7 ?ue7 ?uf7 ?ug7 ?uh7) (Kx.ct_mk ?ux8 ?ua8 ?ub8 ?uc8 ?ue8 ?uf8 ?ug8 ?uh8) (Kx.ct_mk ?ux9 ?ua9 ?ub9 ?uc9 ?ue9 ?uf9 ?ug9 ?uh9) (Kx.ct_mk ?ux10 ?ua10 ?ub10 ?uc10 ?ue10 ?uf10 ?ug10 ?uh10) (Kx.ct_mk ?ux11 ?ua11 ?ub11 ?uc11 ?ue11 ?uf11 ?ug11 ?uh11) (Kx.ct_mk ?ux12 ?ua12 ?ub12 ?uc12 ?ue12 ?uf12 ?ug12 ?uh12) (Kx.ct_mk ?ux13 ?ua13 ?ub13 ?uc13 ?ue13 ?uf13 ?ug13 ?uh13) (Kx.ct_mk ?ux14 ?ua14 ?ub14 ?uc14 ?ue14 ?uf14 ?ug14 ?uh14) (Kx.ct_mk ?ux15 ?ua15 ?ub15 ?uc15 ?ue15 ?uf15 ?ug15 ?uh15) (Kx.ct_mk ?ux16 ?ua16 ?ub16 ?uc16 ?ue16 ?uf16 ?ug16 ?uh16) (Kx.ct_mk ?ux17 ?ua17 ?ub17 ?uc17 ?ue17 ?uf17 ?ug17 ?uh17) (Kx.ini_mk ?ui0 ?uj0 ?uk0 ?ul0 ?un0 (fun _ _ _ _ _ _ us hl => match us, hl with | [_, _], _ => rfl) ?uo0) (Kx.ini_mk ?ui1 ?uj1 ?uk1 ?ul1 ?un1 (fun _ _ _ _ _ _ us hl => match us, hl with | [_, _], _ => rfl) ?uo1) (Kx.ini_mk ?ui2 ?uj2 ?uk2 ?ul2 ?un2 (fun _ _ _ _ _ _ us hl => match us, hl with | [_, _], _ => rfl) ?uo2) (Kx.ini_mk ?ui3 ?uj3 ?uk3 ?ul3 ?un3 (fun _ _ _ _ _ _ us hl => match us, hl with | [_, _], _ => rfl) ?uo3) (Kx.ini_mk ?ui4 ?uj4 ?uk4 ?ul4 ?un4 (fun _ _ _ _ _ _ us hl => match us, hl with | [_, _], _ => rfl) ?uo4) (Kx.ini_mk ?ui5 ?uj5 ?uk5 ?ul5 ?un5 (fun _ _ _ _ _ _ us hl => match us, hl with | [_, _], _ => rfl) ?uo5) (Kx.ini_mk ?ui6 ?uj6 ?uk6 ?ul6 ?un6 (fun _ _ _ _ _ _ us hl => match us, hl with | [_, _], _ => rfl) ?uo6) (Kx.ini_mk ?ui7 ?uj7 ?uk7 ?ul7 ?un7 (fun _ _ _ _ _ _ us hl => match us, hl with | [_, _], _ => rfl) ?uo7) (Kx.ini_mk ?ui8 ?uj8 ?uk8 ?ul8 ?un8 (fun _ _ _ _ _ _ us hl => match us, hl with | [_, _], _ => rfl) ?uo8) (Kx.ini_mk ?ui9 ?uj9 ?uk9 ?ul9 ?un9 (fun _ _ _ _ _ _ us hl => match us, hl with | [_, _], _ => rfl) ?uo9) (Kx.ini_mk ?ui10 ?uj10 ?uk10 ?ul10 ?un10 (fun _ _ _ _ _ _ us hl => match us, hl with | [_, _], _ => rfl) ?uo10) (Kx.ini_mk ?ui11 ?uj11 ?uk11 ?ul11 ?un11 (fun _ _ _ _ _ _ us hl => match us, hl with | [_, _], _ => rfl) ?uo11) (Kx.ini_mk ?ui12 ?uj12 ?uk12 ?ul12 ?un12 (fun _ _ _ _ _ _ us hl => match us, hl with | [_, _], _ => rfl) ?uo12) (Kx.ini_mk ?ui13 ?uj13 ?uk13 ?ul13 ?un13 (fun _ _ _ _ _ _ us hl => match us, hl with | [_, _, _], _ => rfl) ?uo13) (Kx.ini_mk ?ui14 ?uj14 ?uk14 ?ul14 ?un14 (fun _ _ _ _ _ _ us hl => match us, hl with | [_, _, _], _ => rfl) ?uo14) (Kx.ini_mk ?ui17 ?uj17 ?uk17 ?ul17 ?un17 (fun _ _ _ _ _ _ us hl => match us, hl with | [_, _, _, _, _, _, _, _, _, _], _ => rfl) ?uo17) ?uq15 ?uq16 (Kx.def_mk KX G ?uda0 ?udb0 ?udc0 ?udd0 (fun _ _ _ _ _ _ us hl => match us, hl with | [_], _ => rfl)) (Kx.def_mk KX G ?uda1 ?udb1 ?udc1 ?udd1 (fun _ _ _ _ _ _ us hl => match us, hl with | [_, _], _ => rfl)) (Kx.def_mk KX G ?uda2 ?udb2 ?udc2 ?udd2 (fun _ _ _ _ _ _ us hl => match us, hl with | [_, _], _ => rfl)) (Kx.def_mk KX G ?uda3 ?udb3 ?udc3 ?udd3 (fun _ _ _ _ _ _ us hl => match us, hl with | [_, _], _ => rfl)) (Kx.def_mk KX G ?uda4 ?udb4 ?udc4 ?udd4 (fun _ _ _ _ _ _ us hl => match us, hl with | [_], _ => rfl)) (Kx.def_mk KX G ?uda5 ?udb5 ?udc5 ?udd5 (fun _ _ _ _ _ _ us hl => match us, hl with | [_, _], _ => rfl)) (Kx.def_mk KX G ?uda6 ?udb6 ?udc6 ?udd6 (fun _ _ _ _ _ _ us hl => match us, hl with | [_], _ => rfl)) (Kx.def_mk KX G ?uda7 ?udb7 ?udc7 ?udd7 (fun _ _ _ _ _ _ us hl => match us, hl with | [_], _ => rfl)) ?uz0 ?uz1 ?uz2 ?uz3 ?uz4 ?uz5 ?ug_1 ?ug_2 ?ug_3 ?ug_4 ?ug_5 ?ug_6 ?und hmg ?umL ?ulL ?ucL
    (case um0 => k_is)
    (case um1 => k_is)
    (case um2 => k_is)
    (case um3 => k_is)
    (case um4 => k_is)
    (case um5 => k_is)
    (case um6 => k_is)
    (case um7 => k_is)
    (case um8 => k_is)
    (case um9 => k_is)
    (case um10 => k_is)
    (case um11 => k_is)
    (case um12 => k_is)
    (case um13 => k_is)
    (case um14 => k_is)
    (case um15 => k_is)
    (case um16 => k_is)
    (case um17 => k_is)
    (case umB => k_is)
    (case ux0 => k_is)
    (case ua0 => k_is)
    (case ub0 => k_is)
    (case uc0 => k_is)
    (case ue0 => k_is)
    (case uf0 => k_is)
    (case ug0 => k_is)
    (case uh0 => k_is)
    (case ux1 => k_is)
    (case ua1 => k_is)
    (case ub1 => k_is)
    (case uc1 => k_is)
    (case ue1 => k_is)
    (case uf1 => k_is)
    (case ug1 => k_is)
    (case uh1 => k_is)
    (case ux2 => k_is)
    (case ua2 => k_is)
    (case ub2 => k_is)
    (case uc2 => k_is)
    (case ue2 => k_is)
    (case uf2 => k_is)
    (case ug2 => k_is)
    (case uh2 => k_is)
    (case ux3 => k_is)
    (case ua3 => k_is)
    (case ub3 => k_is)
    (case uc3 => k_is)
    (case ue3 => k_is)
    (case uf3 => k_is)
    (case ug3 => k_is)
    (case uh3 => k_is)
    (case ux4 => k_is)
    (case ua4 => k_is)
    (case ub4 => k_is)
    (case uc4 => k_is)
    (case ue4 => k_is)
    (case uf4 => k_is)
    (case ug4 => k_is)
    (case uh4 => k_is)
    (case ux5 => k_is)
    (case ua5 => k_is)
    (case ub5 => k_is)
    (case uc5 => k_is)
    (case ue5 => k_is)
    (case uf5 => k_is)
    (case ug5 => k_is)
    (case uh5 => k_is)
    (case ux6 => k_is)
    (case ua6 => k_is)
    (case ub6 => k_is)
    (case uc6 => k_is)
    (case ue6 => k_is)
    (case uf6 => k_is)
    (case ug6 => k_is)
    (case uh6 => k_is)
    (case ux7 => k_is)
    (case ua7 => k_is)
    (case ub7 => k_is)
    (case uc7 => k_is)
    (case ue7 => k_is)
    (case uf7 => k_is)
    (case ug7 => k_is)
    (case uh7 => k_is)
    (case ux8 => k_is)
    (case ua8 => k_is)
    (case ub8 => k_is)
    (case uc8 => k_is)
    (case ue8 => k_is)
    (case uf8 => k_is)
    (case ug8 => k_is)
    (case uh8 => k_is)
    (case ux9 => k_is)
    (case ua9 => k_is)
    (case ub9 => k_is)
    (case uc9 => k_is)
    (case ue9 => k_is)
    (case uf9 => k_is)
    (case ug9 => k_is)
    (case uh9 => k_is)
    (case ux10 => k_is)
    (case ua10 => k_is)
    (case ub10 => k_is)
    (case uc10 => k_is)
    (case ue10 => k_is)
    (case uf10 => k_is)
    (case ug10 => k_is)
    (case uh10 => k_is)
    (case ux11 => k_is)
    (case ua11 => k_is)
    (case ub11 => k_is)
    (case uc11 => k_is)
    (case ue11 => k_is)
    (case uf11 => k_is)
    (case ug11 => k_is)
    (case uh11 => k_is)
    (case ux12 => k_is)
    (case ua12 => k_is)
    (case ub12 => k_is)
    (case uc12 => k_is)
    (case ue12 => k_is)
    (case uf12 => k_is)
    (case ug12 => k_is)
    (case uh12 => k_is)
    (case ux13 => k_is)
    (case ua13 => k_is)
    (case ub13 => k_is)
    (case uc13 => k_is)
    (case ue13 => k_is)
    (case uf13 => k_is)
    (case ug13 => k_is)
    (case uh13 => k_is)
    (case ux14 => k_is)
    (case ua14 => k_is)
    (case ub14 => k_is)
    (case uc14 => k_is)
    (case ue14 => k_is)
    (case uf14 => k_is)
    (case ug14 => k_is)
    (case uh14 => k_is)
    (case ux15 => k_is)
    (case ua15 => k_is)
    (case ub15 => k_is)
    (case uc15 => k_is)
    (case ue15 => k_is)
    (case uf15 => k_is)
    (case ug15 => k_is)
    (case uh15 => k_is)
    (case ux16 => k_is)
    (case ua16 => k_is)
    (case ub16 => k_is)
    (case uc16 => k_is)
    (case ue16 => k_is)
    (case uf16 => k_is)
    (case ug16 => k_is)
    (case uh16 => k_is)
    (case ux17 => k_is)
    (case ua17 => k_is)
    (case ub17 => k_is)
    (case uc17 => k_is)
    (case ue17 => k_is)
    (case uf17 => k_is)
    (case ug17 => k_is)
    (case uh17 => k_is)
    (case ui0 => k_is)
    (case uj0 => k_is)
    (case uk0 => k_is)
    (case ul0 => k_is)
    (case un0 => k_is)
    (case uo0 => (intro x hx; cases List.mem_singleton.mp hx; k_is))
    (case ui1 => k_is)
    (case uj1 => k_is)
    (case uk1 => k_is)
    (case ul1 => k_is)
    (case un1 => k_is)
    (case uo1 => (intro x hx; cases List.mem_singleton.mp hx; k_is))
    (case ui2 => k_is)
    (case uj2 => k_is)
    (case uk2 => k_is)
    (case ul2 => k_is)
    (case un2 => k_is)
    (case uo2 => (intro x hx; cases List.mem_singleton.mp hx; k_is))
    (case ui3 => k_is)
    (case uj3 => k_is)
    (case uk3 => k_is)
    (case ul3 => k_is)
    (case un3 => k_is)
    (case uo3 => (intro x hx; cases List.mem_singleton.mp hx; k_is))
    (case ui4 => k_is)
    (case uj4 => k_is)
    (case uk4 => k_is)
    (case ul4 => k_is)
    (case un4 => k_is)
    (case uo4 => (intro x hx; cases List.mem_singleton.mp hx; k_is))
    (case ui5 => k_is)
    (case uj5 => k_is)
    (case uk5 => k_is)
    (case ul5 => k_is)
    (case un5 => k_is)
    (case uo5 => (intro x hx; cases List.mem_singleton.mp hx; k_is))
    (case ui6 => k_is)
    (case uj6 => k_is)
    (case uk6 => k_is)
    (case ul6 => k_is)
    (case un6 => k_is)
    (case uo6 => (intro x hx; cases List.mem_singleton.mp hx; k_is))
    (case ui7 => k_is)
    (case uj7 => k_is)
    (case uk7 => k_is)
    (case ul7 => k_is)
    (case un7 => k_is)
    (case uo7 => (intro x hx; cases List.mem_singleton.mp hx; k_is))
    (case ui8 => k_is)
    (case uj8 => k_is)
    (case uk8 => k_is)
    (case ul8 => k_is)
    (case un8 => k_is)
    (case uo8 => (intro x hx; cases List.mem_singleton.mp hx; k_is))
    (case ui9 => k_is)
    (case uj9 => k_is)
    (case uk9 => k_is)
    (case ul9 => k_is)
    (case un9 => k_is)
    (case uo9 => (intro x hx; cases List.mem_singleton.mp hx; k_is))
    (case ui10 => k_is)
    (case uj10 => k_is)
    (case uk10 => k_is)
    (case ul10 => k_is)
    (case un10 => k_is)
    (case uo10 => (intro x hx; cases List.mem_singleton.mp hx; k_is))
    (case ui11 => k_is)
    (case uj11 => k_is)
    (case uk11 => k_is)
    (case ul11 => k_is)
    (case un11 => k_is)
    (case uo11 => (intro x hx; cases List.mem_singleton.mp hx; k_is))
    (case ui12 => k_is)
    (case uj12 => k_is)
    (case uk12 => k_is)
    (case ul12 => k_is)
    (case un12 => k_is)
    (case uo12 => (intro x hx; cases List.mem_singleton.mp hx; k_is))
    (case ui13 => k_is)
    (case uj13 => k_is)
    (case uk13 => k_is)
    (case ul13 => k_is)
    (case un13 => k_is)
    (case uo13 => (intro x hx; simp only [List.mem_cons, List.not_mem_nil, or_false] at hx; rcases hx with rfl | rfl <;> k_is))
    (case ui14 => k_is)
    (case uj14 => k_is)
    (case uk14 => k_is)
    (case ul14 => k_is)
    (case un14 => k_is)
    (case uo14 => (intro x hx; simp only [List.mem_cons, List.not_mem_nil, or_false] at hx; rcases hx with rfl | rfl <;> k_is))
    (case ui17 => k_is)
    (case uj17 => k_is)
    (case uk17 => k_is)
    (case ul17 => k_is)
    (case un17 => k_is)
    (case uo17 => (intro x hx; simp only [List.mem_cons, List.not_mem_nil, or_false] at hx; rcases hx with rfl | rfl | rfl | rfl | rfl | rfl | rfl | rfl | rfl <;> k_is))
    (case uq15 => k_exc)
    (case uq16 => k_exc)
    (case uda0 => k_is)
    (case udb0 => k_is)
    (case udc0 => k_is)
    (case udd0 => k_is)
    (case uda1 => k_is)
    (case udb1 => k_is)
    (case udc1 => k_is)
    (case udd1 => k_is)
    (case uda2 => k_is)
    (case udb2 => k_is)
    (case udc2 => k_is)
    (case udd2 => k_is)
    (case uda3 => k_is)
    (case udb3 => k_is)
    (case udc3 => k_is)
    (case udd3 => k_is)
    (case uda4 => k_is)
    (case udb4 => k_is)
    (case udc4 => k_is)
    (case udd4 => k_is)
    (case uda5 => k_is)
    (case udb5 => k_is)
    (case udc5 => k_is)
    (case udd5 => k_is)
    (case uda6 => k_is)
    (case udb6 => k_is)
    (case udc6 => k_is)
    (case udd6 => k_is)
    (case uda7 => k_is)
    (case udb7 => k_is)
    (case udc7 => k_is)
    (case udd7 => k_is)
    (case uz0 => k_is)
    (case uz1 => k_is)
    (case uz2 => k_is)
    (case uz3 => k_is)
    (case uz4 => k_is)
    (case uz5 => k_is)
    (case ug_1 => k_is)
    (case ug_2 => k_is)
    (case ug_3 => k_is)
    (case ug_4 => k_is)
    (case ug_5 => k_is)
    (case ug_6 => k_is)
    (case und => decide)
    (case umL => k_is)
    (case ulL => k_is)
    (case ucL => k_is)
