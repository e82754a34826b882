import PyProof.Rows.All
import Wide.All
import OpenK.AllK
import Wide.FinOn
import HandS.OwnEq
import OpenK.KOwn
import OpenK.KOps
import OpenK.KMake
import PyProof.EqKinds
import PyProof.InstNe
import HandS.ForMost
import HandS.SetBool
import HandS.SetTxt0
import HandS.Strs
import KE.GoesMore
import HandS.Iter
import HandS.ForExc
import HandS.Wide
import HandS.IsInst
import HandS.Flow
import HandS.Walk
import HandS.Text
import HandS.Conv
import HandS.Star
import HandS.ExcInit
import HandS.ExcValue
import HandS.ExcCtx
import HandS.HotCalls
import HandS.ExcIs
import HandS.ExcField
import KE.KExcIs
import HandS.Lambda
import HandS.Style
import OpenK.KMeth
import HandS.Deep
import HandS.ClsMeth
import HandS.Defaults
import HandS.TupMul
import HandS.TupAny
import HandS.RaiseMore
import HandS.DictTup
import HandS.DictSubView
import HandS.TupLen
import HandS.ListItems
import KE.KDictList
import HandS.Small
import HandS.SetKeys
import HandS.WordsDict
import HandS.DictComp
import HandS.EndTab
import KE.KNest
import PySem.Challenge.RW_contractheirs_k08_clauses_negated_and_re
set_option Elab.async false
set_option linter.all false
set_option maxRecDepth 100000
set_option maxHeartbeats 8000000
set_option linter.all false
/-! == and != of tuples and lists, with any answer, whose items may be objects with an own == -/
namespace PySem.SeqAt
open AutoSeq1 (wpAny_loadPart')
open MeetsSeq MeetsSeq2 MeetsSeq3 SeqRoads2
theorem str_eq_declines_plain (b : Str) (u : Tok) (l : Addr) (c : Value) (dd : Option Addr) (sl : Array (Option Value)) :
    Meets (Builtin.«str.__eq__» ⟨[.str b u, .ref l], []⟩) (fun _ R s => s.heap.get? l = some { cls := c, dict := dd, data := .plain, slots := sl } ∧ R (.ok (.ret .notImplemented)) s) :=
  .of_wp fun prog w A R s h => by obtain ⟨hp, g, d, tk, os⟩ := s; obtain ⟨hl, h⟩ := h; wp_walk using wpAny_loadPart' hl, wpAny_load hl; exact ⟨_, rfl, h⟩
theorem bool_eq_declines_plain (b : Bool) (l : Addr) (c : Value) (dd : Option Addr) (sl : Array (Option Value)) :
    Meets (Builtin.«int.__eq__» ⟨[.bool b, .ref l], []⟩) (fun _ R s => s.heap.get? l = some { cls := c, dict := dd, data := .plain, slots := sl } ∧ R (.ok (.ret .notImplemented)) s) :=
  .of_wp fun prog w A R s h => by obtain ⟨hp, g, d, tk, os⟩ := s; obtain ⟨hl, h⟩ := h; wp_walk using wpAny_loadPart' hl, wpAny_load hl; exact ⟨_, rfl, h⟩
theorem int_eq_declines_plain (b : Int) (u : Tok) (l : Addr) (c : Value) (dd : Option Addr) (sl : Array (Option Value)) :
    Meets (Builtin.«int.__eq__» ⟨[.int b u, .ref l], []⟩) (fun _ R s => s.heap.get? l = some { cls := c, dict := dd, data := .plain, slots := sl } ∧ R (.ok (.ret .notImplemented)) s) :=
  .of_wp fun prog w A R s h => by obtain ⟨hp, g, d, tk, os⟩ := s; obtain ⟨hl, h⟩ := h; wp_walk using wpAny_loadPart' hl, wpAny_load hl; exact ⟨_, rfl, h⟩
end PySem.SeqAt
namespace GQ
open PySem PySem.SeqAt
open AutoSeq1 (wpAny_loadPart')
open MeetsSeq MeetsSeq2 MeetsSeq3 SeqRoads2
section
variable {prog : Program} {w : World} {A : Around} {R : Result → Shared → Prop}
/-- what two rows of things give, by what each pair gives -/
def allEq (m n : Nat) (e : Nat → Bool) : Bool := (List.range (min m n)).all e && m == n
theorem tuple_eqB (l b : Addr) (items items2 : Array Value) (n n2 : Nat) (dd dd2 : Option Addr) (sl sl2 : Array (Option Value)) (e : Nat → Bool) (I : Nat → Shared → Prop)
    (turn : ∀ i (h1 : i < items.size) (h2 : i < items2.size) s, I i s → wpAny (model prog w) A.in1 (eqBool items[i] items2[i]) (fun r s' => r = e i ∧ I (i + 1) s') (fun e s' => R (.error e) s') s)
    (fin : ∀ i s, I i s → R (.ok (.ret (.bool (allEq items.size items2.size e)))) s) {s : Shared} (hl1 : s.heap.get? l = some { cls := .type "tuple", dict := dd, data := .seq items n, slots := sl }) (hb1 : s.heap.get? b = some { cls := .type "tuple", dict := dd2, data := .seq items2 n2, slots := sl2 }) (h : I 0 s) :
    wpAny (model prog w) A.in1 (Builtin.«tuple.__eq__» ⟨[.ref l, .ref b], []⟩) (FinOf prog w A R) (fun e s' => R (.error e) s') s := by
  have f2 := AutoSeq1.sub_tuple_tuple
  have hZ : (items.toList.zip items2.toList).length = min items.size items2.size := by simp
  have h0 := h
  obtain ⟨hp, g, d, tk, os⟩ := s
  wp_walk using wpAny_loadPart' hl1, wpAny_loadPart' hb1, wpAny_forIn_list _ (fun rest b s' => b.1 = none ∧ ∃ i, rest = (items.toList.zip items2.toList).drop i ∧ I i s' ∧ (((List.range (min items.size items2.size)).drop i).all e && items.size == items2.size) = allEq items.size items2.size e) _
  case turn =>
    rintro ⟨y, x⟩ rest b s' ⟨hb', i, hz, hI, hR⟩
    have hlt : i < (items.toList.zip items2.toList).length := by
      rcases Nat.lt_or_ge i (items.toList.zip items2.toList).length with h' | h'
      · exact h'
      · rw [List.drop_of_length_le h'] at hz; cases hz
    have hm : i < min items.size items2.size := hZ ▸ hlt
    have h1 : i < items.size := Nat.lt_of_lt_of_le hm (Nat.min_le_left _ _)
    have h2 : i < items2.size := Nat.lt_of_lt_of_le hm (Nat.min_le_right _ _)
    rw [List.drop_eq_getElem_cons hlt] at hz
    injection hz with hyx hrest
    have hy : y = items[i] := by have := congrArg Prod.fst hyx; simpa using this
    have hx : x = items2[i] := by have := congrArg Prod.snd hyx; simpa using this
    subst hy hx
    have hd : (List.range (min items.size items2.size)).drop i = i :: (List.range (min items.size items2.size)).drop (i + 1) := by simp [List.drop_eq_getElem_cons, hm]
    rw [hd, List.all_cons] at hR
    refine wpAny_bind (wpAny_mono (turn i h1 h2 s' hI) (fun r s2 q2 => ?_) fun _ _ x => x)
    obtain ⟨hr, q2⟩ := q2
    subst hr
    cases hy : e i with
    | true =>
      rw [hy] at hR
      wp_walk
      exact ⟨rfl, i + 1, hrest, q2, by simpa using hR⟩
    | false =>
      rw [hy] at hR
      have hf := fin _ _ q2
      rw [← hR] at hf
      wp_walk
      simpa using hf
  case fin =>
    rintro ⟨b1, b2⟩ s' ⟨hb', i, hz, hI, hR⟩
    simp only at hb'
    subst hb'
    have hge : min items.size items2.size ≤ i := by
      rcases Nat.lt_or_ge i (items.toList.zip items2.toList).length with h' | h'
      · rw [List.drop_eq_getElem_cons h'] at hz; cases hz
      · exact hZ ▸ h'
    rw [List.drop_of_length_le (by simpa using hge)] at hR
    have hf := fin _ _ hI
    rw [← hR] at hf
    wp_walk
    simpa [Builtin.Tuple.tupleCompareSizes] using hf
  case h =>
    exact ⟨rfl, 0, rfl, h0, rfl⟩
theorem tuple_neB (l b : Addr) (items items2 : Array Value) (n n2 : Nat) (dd dd2 : Option Addr) (sl sl2 : Array (Option Value)) (e : Nat → Bool) (I : Nat → Shared → Prop)
    (turn : ∀ i (h1 : i < items.size) (h2 : i < items2.size) s, I i s → wpAny (model prog w) A.in1 (eqBool items[i] items2[i]) (fun r s' => r = e i ∧ I (i + 1) s') (fun e s' => R (.error e) s') s)
    (fin : ∀ i s, I i s → R (.ok (.ret (.bool (!allEq items.size items2.size e)))) s) {s : Shared} (hl1 : s.heap.get? l = some { cls := .type "tuple", dict := dd, data := .seq items n, slots := sl }) (hb1 : s.heap.get? b = some { cls := .type "tuple", dict := dd2, data := .seq items2 n2, slots := sl2 }) (h : I 0 s) :
    wpAny (model prog w) A.in1 (Builtin.«tuple.__ne__» ⟨[.ref l, .ref b], []⟩) (FinOf prog w A R) (fun e s' => R (.error e) s') s := by
  have f2 := AutoSeq1.sub_tuple_tuple
  have hZ : (items.toList.zip items2.toList).length = min items.size items2.size := by simp
  have h0 := h
  obtain ⟨hp, g, d, tk, os⟩ := s
  wp_walk using wpAny_loadPart' hl1, wpAny_loadPart' hb1, wpAny_forIn_list _ (fun rest b s' => b.1 = none ∧ ∃ i, rest = (items.toList.zip items2.toList).drop i ∧ I i s' ∧ (((List.range (min items.size items2.size)).drop i).all e && items.size == items2.size) = allEq items.size items2.size e) _
  case turn =>
    rintro ⟨y, x⟩ rest b s' ⟨hb', i, hz, hI, hR⟩
    have hlt : i < (items.toList.zip items2.toList).length := by
      rcases Nat.lt_or_ge i (items.toList.zip items2.toList).length with h' | h'
      · exact h'
      · rw [List.drop_of_length_le h'] at hz; cases hz
    have hm : i < min items.size items2.size := hZ ▸ hlt
    have h1 : i < items.size := Nat.lt_of_lt_of_le hm (Nat.min_le_left _ _)
    have h2 : i < items2.size := Nat.lt_of_lt_of_le hm (Nat.min_le_right _ _)
    rw [List.drop_eq_getElem_cons hlt] at hz
    injection hz with hyx hrest
    have hy : y = items[i] := by have := congrArg Prod.fst hyx; simpa using this
    have hx : x = items2[i] := by have := congrArg Prod.snd hyx; simpa using this
    subst hy hx
    have hd : (List.range (min items.size items2.size)).drop i = i :: (List.range (min items.size items2.size)).drop (i + 1) := by simp [List.drop_eq_getElem_cons, hm]
    rw [hd, List.all_cons] at hR
    refine wpAny_bind (wpAny_mono (turn i h1 h2 s' hI) (fun r s2 q2 => ?_) fun _ _ x => x)
    obtain ⟨hr, q2⟩ := q2
    subst hr
    cases hy : e i with
    | true =>
      rw [hy] at hR
      wp_walk
      exact ⟨rfl, i + 1, hrest, q2, by simpa using hR⟩
    | false =>
      rw [hy] at hR
      have hf := fin _ _ q2
      rw [← hR] at hf
      wp_walk
      simpa using hf
  case fin =>
    rintro ⟨b1, b2⟩ s' ⟨hb', i, hz, hI, hR⟩
    simp only at hb'
    subst hb'
    have hge : min items.size items2.size ≤ i := by
      rcases Nat.lt_or_ge i (items.toList.zip items2.toList).length with h' | h'
      · rw [List.drop_eq_getElem_cons h'] at hz; cases hz
      · exact hZ ▸ h'
    rw [List.drop_of_length_le (by simpa using hge)] at hR
    have hf := fin _ _ hI
    rw [← hR] at hf
    wp_walk
    simpa [Builtin.Tuple.tupleCompareSizes, bne] using hf
  case h =>
    exact ⟨rfl, 0, rfl, h0, rfl⟩
/-- at each turn the two lists are read anew -/
def ListB (prog : Program) (w : World) (A : Around) (E : Value → Shared → Prop) (l b : Addr) (N : Nat) (e : Nat → Bool) (I : Nat → Shared → Prop) : Prop :=
  ∀ i s, I i s → ∃ (items items2 : Array Value) (n n2 : Nat), s.heap.get? l = some { cls := .type "list", data := .seq items n } ∧ s.heap.get? b = some { cls := .type "list", data := .seq items2 n2 } ∧ items.size = N ∧ items2.size = N ∧
    ∀ (h1 : i < items.size) (h2 : i < items2.size), wpAny (model prog w) A.in1 (eqBool items[i] items2[i]) (fun r s' => r = e i ∧ I (i + 1) s') E s
theorem eq_loopB (l b : Addr) (N : Nat) (e : Nat → Bool) (I : Nat → Shared → Prop) (hl : ListB prog w A (fun e s' => R (.error e) s') l b N e I)
    (fin : ∀ i s, I i s → R (.ok (.ret (.bool ((List.range N).all e)))) s) (k : Nat) :
    ∀ i : Nat, N - i = k → i ≤ N → ((List.range N).drop i).all e = (List.range N).all e → ∀ s, I i s →
      wpAny (model prog w) A.in1 (Builtin.«list.__eq__.loop» ⟨[.ref l, .ref b, rawInt i, rawInt 2], []⟩) (FinOf prog w A R) (fun e s' => R (.error e) s') s := by
  induction k with
  | zero =>
    intro i hk hi hv s h
    obtain ⟨items, items2, n, n2, hl1, hb1, hs1, hs2, _⟩ := hl _ _ h
    have hi' : i = N := by omega
    have hR := fin _ s h
    rw [← hv, hi', List.drop_of_length_le (by simp)] at hR
    obtain ⟨hp, g, d, tk, os⟩ := s
    wp_walk using wpAny_loadPart' hl1, wpAny_loadPart' hb1
    have hi1 : items[((i : Nat) : Int).toNat]? = none := by simp; omega
    have hi2 : items2[((i : Nat) : Int).toNat]? = none := by simp; omega
    rw [hi1, hi2]
    wp_walk using wpAny_loadPart' hl1, wpAny_loadPart' hb1
    show R (.ok (.ret (.bool (items.size == items2.size)))) _
    rw [hs1, hs2]
    simpa using hR
  | succ k ih =>
    intro i hk hi hv s h
    obtain ⟨items, items2, n, n2, hl1, hb1, hs1, hs2, turn⟩ := hl _ _ h
    have hlt : i < items.size := by omega
    have hlt2 : i < items2.size := by omega
    have ht := turn hlt hlt2
    have hd : (List.range N).drop i = i :: (List.range N).drop (i + 1) := by
      have hN : i < (List.range N).length := by simp; omega
      rw [List.drop_eq_getElem_cons hN]; simp
    rw [hd, List.all_cons] at hv
    obtain ⟨hp, g, d, tk, os⟩ := s
    wp_walk using wpAny_loadPart' hl1, wpAny_loadPart' hb1
    have hi1 : items[((i : Nat) : Int).toNat]? = some items[i] := by simp [hlt]
    have hi2 : items2[((i : Nat) : Int).toNat]? = some items2[i] := by simp [hlt2]
    have hc : ((i : Int) + 1) = ((i + 1 : Nat) : Int) := by omega
    rw [hi1, hi2]
    refine wpAny_bind (wpAny_mono ht (fun r s2 h2 => ?_) fun _ _ x => x)
    obtain ⟨hr, h2⟩ := h2
    subst hr
    cases hy : e i with
    | true =>
      rw [hy, Bool.true_and] at hv
      have hrec := ih (i + 1) (by omega) (by omega) hv s2 h2
      obtain ⟨hp2, g2, d2, tk2, os2⟩ := s2
      wp_walk
      rw [hc]
      exact ⟨plainId_quiet plain_eq_loop _, codeAny_builtin entry_eq_loop (by
        rw [Around.under_plainId plain_eq_loop _]
        exact hrec)⟩
    | false =>
      rw [hy, Bool.false_and] at hv
      have hf := fin _ _ h2
      rw [← hv] at hf
      obtain ⟨itemsA, itemsB, nA, nB, hA, hB, hsA, hsB, _⟩ := hl _ _ h2
      obtain ⟨hp2, g2, d2, tk2, os2⟩ := s2
      wp_walk using wpAny_loadPart' hA, wpAny_loadPart' hB
      have hiA : itemsA[((i : Nat) : Int).toNat]? = some (itemsA[i]'(by omega)) := by simp
      have hiB : itemsB[((i : Nat) : Int).toNat]? = some (itemsB[i]'(by omega)) := by simp
      rw [hiA, hiB]
      wp_walk
      simpa using hf
theorem list_eqB (l b : Addr) (N : Nat) (e : Nat → Bool) (I : Nat → Shared → Prop) (hl : ListB prog w A (fun e s' => R (.error e) s') l b N e I)
    (fin : ∀ i s, I i s → R (.ok (.ret (.bool ((List.range N).all e)))) s) {s : Shared} (h : I 0 s) :
    wpAny (model prog w) A.in1 (Builtin.«list.__eq__» ⟨[.ref l, .ref b], []⟩) (FinOf prog w A R) (fun e s' => R (.error e) s') s := by
  obtain ⟨items, items2, n, n2, hl1, hb1, hs1, hs2, _⟩ := hl _ _ h
  have hrec := eq_loopB (A := A) (R := R) l b N e I hl fin _ 0 rfl (Nat.zero_le _) rfl s h
  obtain ⟨hp, g, d, tk, os⟩ := s
  have f3 := AutoSeq1.sub_list_list
  have hne : ¬ (items.size != items2.size) = true := by simp [hs1, hs2]
  wp_walk using wpAny_loadPart' hl1, wpAny_loadPart' hb1
  exact ⟨plainId_quiet plain_eq_loop _, codeAny_builtin entry_eq_loop (by
    rw [Around.under_plainId plain_eq_loop _]
    exact hrec)⟩
end
section
variable {prog : Program} {w : World} {A : Around} {E : Value → Shared → Prop} {s : Shared}
theorem rc_listB {l b : Addr} {N : Nat} {e : Nat → Bool} {Q : Value → Shared → Prop} (hu : A.units < cLine) (I : Nat → Shared → Prop) (hl : ListB prog w A E l b N e I)
    (fin : ∀ i s, I i s → Q (.bool ((List.range N).all e)) s) (h : I 0 s) : wpAny (model prog w) A (richCompare .Eq (.ref l) (.ref b)) Q E s := by
  obtain ⟨items, items2, n, n2, hl1, hb1, _, _, _⟩ := hl _ _ h
  refine wpAny_richCompare_same_room (op := .Eq) ⟨_, hl1, rfl⟩ ⟨_, hb1, rfl⟩ F.slot_list_eq (call_here F.slot_list_eq ⟨_, hl1, rfl⟩ F.entry_list_eq (F.args_list_eq_2 _ _) ?_) hu
  exact list_eqB (R := wants (fun v s' => v ≠ .notImplemented ∧ Q v s') E) l b N e I hl (fun i s' q => ⟨(fun x => nomatch x), fin i s' q⟩) h
theorem rc_tupB {l b : Addr} {items items2 : Array Value} {e : Nat → Bool} {Q : Value → Shared → Prop} (hu : A.units < cLine) (I : Nat → Shared → Prop)
    (hl : s.heap.IsTuple l items) (hb : s.heap.IsTuple b items2)
    (turn : ∀ i (h1 : i < items.size) (h2 : i < items2.size) s, I i s → wpAny (model prog w) A.in1 (eqBool items[i] items2[i]) (fun r s' => r = e i ∧ I (i + 1) s') E s)
    (fin : ∀ i s, I i s → Q (.bool (allEq items.size items2.size e)) s) (h : I 0 s) : wpAny (model prog w) A (richCompare .Eq (.ref l) (.ref b)) Q E s := by
  obtain ⟨⟨cls, dd, data, sl⟩, ho, hc, n, hd⟩ := id hl
  obtain ⟨⟨cls2, dd2, data2, sl2⟩, ho2, hc2, n2, hd2⟩ := id hb
  simp only at hc hd hc2 hd2
  subst hc hd hc2 hd2
  refine wpAny_richCompare_same_room (op := .Eq) ⟨_, ho, rfl⟩ ⟨_, ho2, rfl⟩ F.slot_tuple_eq (call_here F.slot_tuple_eq ⟨_, ho, rfl⟩ F.entry_tuple_eq (F.args_tuple_eq_2 _ _) ?_) hu
  exact tuple_eqB (R := wants (fun v s' => v ≠ .notImplemented ∧ Q v s') E) l b items items2 n n2 dd dd2 sl sl2 e I turn (fun i s' q => ⟨(fun x => nomatch x), fin i s' q⟩) ho ho2 h
theorem rc_tupNeB {l b : Addr} {items items2 : Array Value} {e : Nat → Bool} {Q : Value → Shared → Prop} (hu : A.units < cLine) (I : Nat → Shared → Prop)
    (hl : s.heap.IsTuple l items) (hb : s.heap.IsTuple b items2)
    (turn : ∀ i (h1 : i < items.size) (h2 : i < items2.size) s, I i s → wpAny (model prog w) A.in1 (eqBool items[i] items2[i]) (fun r s' => r = e i ∧ I (i + 1) s') E s)
    (fin : ∀ i s, I i s → Q (.bool (!allEq items.size items2.size e)) s) (h : I 0 s) : wpAny (model prog w) A (richCompare .NotEq (.ref l) (.ref b)) Q E s := by
  obtain ⟨⟨cls, dd, data, sl⟩, ho, hc, n, hd⟩ := id hl
  obtain ⟨⟨cls2, dd2, data2, sl2⟩, ho2, hc2, n2, hd2⟩ := id hb
  simp only at hc hd hc2 hd2
  subst hc hd hc2 hd2
  refine wpAny_richCompare_same_room (op := .NotEq) ⟨_, ho, rfl⟩ ⟨_, ho2, rfl⟩ F.slot_tuple_ne (call_here F.slot_tuple_ne ⟨_, ho, rfl⟩ F.entry_tuple_ne (F.args_tuple_ne_2 _ _) ?_) hu
  exact tuple_neB (R := wants (fun v s' => v ≠ .notImplemented ∧ Q v s') E) l b items items2 n n2 dd dd2 sl sl2 e I turn (fun i s' q => ⟨(fun x => nomatch x), fin i s' q⟩) ho ho2 h
end
end GQ
namespace PySem.W
open PyProof.Rows
section
variable {prog : Program} {w : World} {A : Around} {E : Value → Shared → Prop} {s : Shared} {K : Frag} {x C L f : Addr} {h₀ : Heap} {m : Str → Option Value} {ox : Obj} {od : Option Obj}
/-- a builtin thing == an object with an own ==, which is asked because the thing does not know -/
theorem cmpR_K {a : Value} {Ta ida : String} {Q : Value → Shared → Prop} (hu : A.units < cLine) (F : Fr h₀ L s.heap m) (X₀ : K.In h₀) (I : InstAt s.heap x ox C od) (ha : s.TypeIs a Ta)
    (hsub : subIn K (.ref C) (.type Ta) = some false) (h1 : Slot Ta (cmpInfo .Eq).2.1 ida)
    (hc1 : ∀ Q' : Value → Shared → Prop, Q' .notImplemented s → wpAny (model prog w) A (call (.builtin ida) [a, .ref x]) Q' E s)
    (hs : findIn K (.ref C) (cmpInfo .Eq).2.2 = some (some (.ref f))) (hf : isFn K (.ref f) = true)
    (h : wpAny (model prog w) A (call (.ref f) [.ref x, a]) (CmpBack Q) E s) : wpAny (model prog w) A (richCompare .Eq a (.ref x)) Q E s := by
  have X := X₀.keeps F.keep
  have one : wpAny (model prog w) A (tryCompare (.ref x) (cmpInfo .Eq).2.2 a) (fun r s' => ∃ v, r = some v ∧ Q v s') E s := by
    unfold tryCompare
    refine wpAny_bind (ifBound_K X I hs hf (wpAny_mono h (fun v s' hv => ?_) fun _ _ e => e))
    cases v <;> first | exact hv.elim | exact wpAny_pure ⟨_, rfl, hv⟩
  rcases hi : cmpInfo CmpOp.Eq with ⟨sym, fn, r⟩
  rw [hi] at h1 one
  simp only [richCompare, hi, ha.oneThing_none]
  try with_reducible refine wpAny_holding ?_
  refine wpAny_bind (wpAny_cRoomFor_or (.inr hu) ?_)
  refine wpAny_bind (wpAny_typeOf ha (wpAny_bind (I.type.here ?_)))
  have hne : (Value.type Ta != Value.ref C) = true := by simp
  simp only [hne, if_true]
  refine wpAny_bind ((looks_subIn X hsub).here ?_)
  simp only [Bool.false_eq_true, if_false, Bool.not_false, if_true]
  refine wpAny_bind (m := tryCompare a _ (.ref x)) (wpAny_tryCompare_declines ha h1 (hc1 _ ⟨rfl, ?_⟩))
  refine wpAny_bind (m := tryCompare (.ref x) _ a) (wpAny_mono one (fun r s' z => ?_) fun _ _ e => e)
  obtain ⟨v, rfl, hq⟩ := z
  exact wpAny_pure hq
end
end PySem.W
set_option linter.all false
/-! data with objects that have an own ==: what == says of two of them -/
namespace PySem.SeqAt
open AutoSeq1 (wpAny_loadPart')
open MeetsSeq MeetsSeq2 MeetsSeq3 SeqRoads2
section
variable {prog : Program} {w : World} {A : Around} {R : Result → Shared → Prop}
theorem tuple_eq_declines_own (l x : Addr) (items : Array Value) (n : Nat) (dd : Option Addr) (sl : Array (Option Value)) {s : Shared} (hI : PySem.W.Looks (model prog w) s.heap (isInstance (.ref x) (.type "tuple")) false)
    (hl : s.heap.get? l = some { cls := .type "tuple", dict := dd, data := .seq items n, slots := sl }) (hR : R (.ok (.ret .notImplemented)) s) :
    wpAny (model prog w) A.in1 (Builtin.«tuple.__eq__» ⟨[.ref l, .ref x], []⟩) (GQ.FinOf prog w A R) (fun e s' => R (.error e) s') s := by
  obtain ⟨hp, g, d, tk, os⟩ := s
  wp_walk using wpAny_loadPart' hl, hI.here
  exact hR
theorem list_eq_declines_own (l x : Addr) (items : Array Value) (n : Nat) {s : Shared} (hI : PySem.W.Looks (model prog w) s.heap (isInstance (.ref x) (.type "list")) false)
    (hl : s.heap.get? l = some { cls := .type "list", data := .seq items n }) (hR : R (.ok (.ret .notImplemented)) s) :
    wpAny (model prog w) A.in1 (Builtin.«list.__eq__» ⟨[.ref l, .ref x], []⟩) (GQ.FinOf prog w A R) (fun e s' => R (.error e) s') s := by
  obtain ⟨hp, g, d, tk, os⟩ := s
  wp_walk using wpAny_loadPart' hl, hI.here
  exact hR
end
end PySem.SeqAt
namespace L2
open PySem PySem.Spec PyProof.Rows
inductive OD where
  | fl (v : V)
  | tup (xs : List OD)
  | lst (xs : List OD)
  | obj (k : Nat) (xs : List OD)
structure OCls where
  C : Addr
  f : Addr
  names : List Str
  lv : Nat
section
variable (K : PySem.W.Frag) (cl : Nat → OCls) (H : Hp)
mutual
def Oh : OD → V → Prop
  | .fl v, x => x = v ∧ flatV v = true
  | .tup ds, x => ∃ a xs, x = .ref a ∧ SqT K H a xs ∧ OhAll ds xs
  | .lst ds, x => ∃ a xs, x = .ref a ∧ H a = some (.lst xs) ∧ OhAll ds xs
  | .obj k ds, x => ∃ a dx fs xs, x = .ref a ∧ H a = some (.ins (cl k).C dx fs) ∧ (cl k).names.map (fun n => fs.lookup n) = xs.map some ∧ OhAll ds xs
def OhAll : List OD → List V → Prop
  | [], xs => xs = []
  | d :: ds, xs => ∃ x ys, xs = x :: ys ∧ Oh d x ∧ OhAll ds ys
end
mutual
def eqo : OD → OD → Bool
  | .fl v, .fl w => eqV v w
  | .tup xs, .tup ys => eqoAll xs ys
  | .lst xs, .lst ys => eqoAll xs ys
  | .obj k xs, .obj l ys => k == l && eqoAll xs ys
  | _, _ => false
def eqoAll : List OD → List OD → Bool
  | [], [] => true
  | x :: xs, y :: ys => eqo x y && eqoAll xs ys
  | _, _ => false
end
mutual
def need : OD → Nat
  | .fl _ => 0
  | .tup xs => needAll xs + 1
  | .lst xs => needAll xs + 1
  | .obj k _ => (cl k).lv
def needAll : List OD → Nat
  | [] => 0
  | x :: xs => max (need x) (needAll xs)
end
variable (S : Nat → List OD → Prop)
mutual
def okO : OD → Prop
  | .fl _ => True
  | .tup xs => okAll xs
  | .lst xs => okAll xs
  | .obj k xs => S k xs ∧ okAll xs
def okAll : List OD → Prop
  | [] => True
  | x :: xs => okO x ∧ okAll xs
end
end
def flTy : V → String
  | .non => "NoneType"
  | .bl _ => "bool"
  | .int _ => "int"
  | _ => "str"
/-- the classes that are spoken of -/
def Dm (S : Nat → List OD → Prop) (k : Nat) : Prop := ∃ ds, S k ds
/-- what the text must have of the classes with an own == -/
structure OwnCls (K : PySem.W.Frag) (cl : Nat → OCls) (S : Nat → List OD → Prop) : Prop where
  eqf : ∀ k, Dm S k → PySem.W.findIn K (.ref (cl k).C) "__eq__" = some (some (.ref (cl k).f))
  isf : ∀ k, Dm S k → PySem.W.isFn K (.ref (cl k).f) = true
  inj : ∀ k l, Dm S k → Dm S l → (cl k).C = (cl l).C → k = l
  sub : ∀ k l, Dm S k → Dm S l → k ≠ l → PySem.W.subIn K (.ref (cl l).C) (.ref (cl k).C) = some false
  sT : ∀ k, Dm S k → ∀ T, T ∈ ["NoneType", "bool", "int", "str", "tuple", "list"] → PySem.W.subIn K (.type T) (.ref (cl k).C) = some false ∧ PySem.W.subIn K (.ref (cl k).C) (.type T) = some false
/-- what the own == of these classes promise -/
def OwnGives (X : Cx) (cl : Nat → OCls) (S : Nat → List OD → Prop) : Prop :=
  ∀ k ds, S k ds → ∀ (A : Around) (pins : List (Addr × Obj)) (s : Shared) (σ : St) (H : Hp) (a : Addr) (e : OD) (y : V) (v : Value), Sub X (cl k).lv A → Inv X pins σ H s → RelV y v → Oh X.K cl H (.obj k ds) (.ref a) → Oh X.K cl H e y → okAll S ds → okO S e →
    wpAny (model X.prog X.w) A (call (.ref (cl k).f) [.ref a, v]) (fun r s' => r = .bool (eqo (.obj k ds) e) ∧ ∃ H', Inv X pins σ H' s' ∧ Ext H H') X.xe s
section
variable {K : PySem.W.Frag} {cl : Nat → OCls} {S : Nat → List OD → Prop}
mutual
theorem Oh.ext {H H' : Hp} (x : Ext H H') : ∀ (d : OD) (v : V), Oh K cl H d v → Oh K cl H' d v
  | .fl _, _, h => h
  | .tup ds, _, ⟨a, xs, e, h, q⟩ => ⟨a, xs, e, h.ext x, OhAll.ext x ds xs q⟩
  | .lst ds, _, ⟨a, xs, e, h, q⟩ => ⟨a, xs, e, x _ _ h, OhAll.ext x ds xs q⟩
  | .obj _ ds, _, ⟨a, dx, fs, xs, e, h, l, q⟩ => ⟨a, dx, fs, xs, e, x _ _ h, l, OhAll.ext x ds xs q⟩
theorem OhAll.ext {H H' : Hp} (x : Ext H H') : ∀ (ds : List OD) (xs : List V), OhAll K cl H ds xs → OhAll K cl H' ds xs
  | [], _, h => h
  | d :: ds, _, ⟨v, ys, e, h, q⟩ => ⟨v, ys, e, Oh.ext x d v h, OhAll.ext x ds ys q⟩
end
theorem OhAll.length {H : Hp} : ∀ (ds : List OD) (xs : List V), OhAll K cl H ds xs → ds.length = xs.length
  | [], _, h => by cases h; rfl
  | d :: ds, _, ⟨v, ys, e, _, q⟩ => by rw [e, List.length_cons, List.length_cons, OhAll.length ds ys q]
theorem eqV_refl {v : V} (h : flatV v = true) : eqV v v = true := by
  cases v with
  | non => rfl
  | bl b => show (b == b) = true; exact beq_self_eq_true b
  | int b => show (b == b) = true; exact beq_self_eq_true b
  | str b => show (b == b) = true; exact beq_self_eq_true b
  | _ => cases h
theorem relV_inj {x y : V} {u : Value} (h : RelV x u) (h' : RelV y u) : x = y := by
  cases x <;> cases y <;> simp_all [RelV]
  all_goals (obtain ⟨t, rfl⟩ := h; obtain ⟨t', e⟩ := h'; cases e; try rfl)
theorem map_some_inj : ∀ {xs ys : List V}, xs.map some = ys.map some → xs = ys
  | [], [], _ => rfl
  | [], _ :: _, h => by cases h
  | _ :: _, [], h => by cases h
  | x :: xs, y :: ys, h => by
    rw [List.map_cons, List.map_cons] at h
    injection h with h1 h2
    rw [Option.some.inj h1, map_some_inj h2]
theorem vals_inj : ∀ {xs ys : List V} {us : List Value}, Vals xs us → Vals ys us → xs = ys
  | _, _, _, .nil, .nil => rfl
  | _, _, _, .cons a r, .cons b t => by rw [relV_inj a b, vals_inj r t]
section
variable {X : Cx} {pins : List (Addr × Obj)} {s : Shared} {σ : St} {H : Hp}
theorem tup_obj {a C dx : Addr} {xs : List V} {fs : List (Str × V)} (I : Inv X pins σ H s) (h : SqT X.K H a xs) (h' : H a = some (.ins C dx fs)) : False := by
  obtain ⟨its, r, t, z⟩ := I.tuple h
  obtain ⟨o, ho, hc, _⟩ := t
  obtain ⟨_, O, _⟩ := ins_get I.hok h'
  rw [O.obj] at ho
  cases ho
  cases hc
mutual
theorem eqo_same (W : OwnCls X.K cl S) (I : Inv X pins σ H s) : ∀ (d e : OD) (x : V), Oh X.K cl H d x → Oh X.K cl H e x → okO S d → okO S e → eqo d e = true
  | .fl v, .fl w, x, hd, he, _, _ => by
    obtain ⟨rfl, h⟩ := hd
    obtain ⟨rfl, h'⟩ := he
    exact eqV_refl h
  | .tup ds, .tup es, x, hd, he, oD, oE => by
    obtain ⟨a, xs, rfl, h, q⟩ := hd
    obtain ⟨b, ys, e, h', q'⟩ := he
    cases e
    obtain ⟨its, r, t, z⟩ := I.tuple h
    obtain ⟨its', r', t', z'⟩ := I.tuple h'
    obtain ⟨o, ho, _, n, hn⟩ := t
    obtain ⟨o', ho', _, n', hn'⟩ := t'
    rw [ho] at ho'
    cases ho'
    rw [hn] at hn'
    have e1 : its = its' := by injection hn' with e1 _; exact congrArg Array.toList e1
    subst e1
    rw [← vals_inj r r'] at q'
    exact eqoAll_same W I ds es xs q q' oD oE
  | .lst ds, .lst es, x, hd, he, oD, oE => by
    obtain ⟨a, xs, rfl, h, q⟩ := hd
    obtain ⟨b, ys, e, h', q'⟩ := he
    cases e
    rw [h] at h'
    cases h'
    exact eqoAll_same W I ds es xs q q' oD oE
  | .obj k ds, .obj l es, x, hd, he, oD, oE => by
    obtain ⟨a, dx, fs, xs, rfl, h, n, q⟩ := hd
    obtain ⟨b, dy, gs, ys, e, h', n', q'⟩ := he
    cases e
    rw [h] at h'
    have e1 : (cl k).C = (cl l).C := by injection h' with h'; injection h' with h'
    have e2 : fs = gs := by injection h' with h'; injection h' with _ _ h'
    have e3 := W.inj k l ⟨_, oD.1⟩ ⟨_, oE.1⟩ e1
    subst e3 e2
    rw [n] at n'
    have e4 : xs = ys := map_some_inj n'
    subst e4
    show (k == k && eqoAll ds es) = true
    rw [beq_self_eq_true, eqoAll_same W I ds es xs q q' oD.2 oE.2]
    rfl
  | .fl v, .tup _, x, hd, he, _, _ => by obtain ⟨rfl, h⟩ := hd; obtain ⟨a, xs, rfl, _⟩ := he; cases h
  | .fl v, .lst _, x, hd, he, _, _ => by obtain ⟨rfl, h⟩ := hd; obtain ⟨a, xs, rfl, _⟩ := he; cases h
  | .fl v, .obj _ _, x, hd, he, _, _ => by obtain ⟨rfl, h⟩ := hd; obtain ⟨a, dx, fs, xs, rfl, _⟩ := he; cases h
  | .tup _, .fl v, x, hd, he, _, _ => by obtain ⟨rfl, h⟩ := he; obtain ⟨a, xs, rfl, _⟩ := hd; cases h
  | .lst _, .fl v, x, hd, he, _, _ => by obtain ⟨rfl, h⟩ := he; obtain ⟨a, xs, rfl, _⟩ := hd; cases h
  | .obj _ _, .fl v, x, hd, he, _, _ => by obtain ⟨rfl, h⟩ := he; obtain ⟨a, dx, fs, xs, rfl, _⟩ := hd; cases h
  | .tup _, .lst _, x, hd, he, _, _ => by
    obtain ⟨a, xs, rfl, h, _⟩ := hd
    obtain ⟨b, ys, e, h', _⟩ := he
    cases e
    obtain ⟨its, r, t, z⟩ := I.tuple h
    obtain ⟨z2, its2, k2, r2, e2⟩ := I.hok _ _ h'
    exact absurd rfl (SeqAt.ne_of_list_tuple ⟨_, e2, rfl, _, rfl⟩ t)
  | .lst _, .tup _, x, hd, he, _, _ => by
    obtain ⟨a, xs, rfl, h, _⟩ := he
    obtain ⟨b, ys, e, h', _⟩ := hd
    cases e
    obtain ⟨its, r, t, z⟩ := I.tuple h
    obtain ⟨z2, its2, k2, r2, e2⟩ := I.hok _ _ h'
    exact absurd rfl (SeqAt.ne_of_list_tuple ⟨_, e2, rfl, _, rfl⟩ t)
  | .tup _, .obj _ _, x, hd, he, _, _ => by
    obtain ⟨a, xs, rfl, h, _⟩ := hd
    obtain ⟨b, dx, fs, ys, e, h', _⟩ := he
    cases e
    exact (tup_obj I h h').elim
  | .obj _ _, .tup _, x, hd, he, _, _ => by
    obtain ⟨a, xs, rfl, h, _⟩ := he
    obtain ⟨b, dx, fs, ys, e, h', _⟩ := hd
    cases e
    exact (tup_obj I h h').elim
  | .lst _, .obj _ _, x, hd, he, _, _ => by
    obtain ⟨a, xs, rfl, h, _⟩ := hd
    obtain ⟨b, dx, fs, ys, e, h', _⟩ := he
    cases e
    rw [h] at h'
    cases h'
  | .obj _ _, .lst _, x, hd, he, _, _ => by
    obtain ⟨a, xs, rfl, h, _⟩ := he
    obtain ⟨b, dx, fs, ys, e, h', _⟩ := hd
    cases e
    rw [h] at h'
    cases h'
theorem eqoAll_same (W : OwnCls X.K cl S) (I : Inv X pins σ H s) : ∀ (ds es : List OD) (xs : List V), OhAll X.K cl H ds xs → OhAll X.K cl H es xs → okAll S ds → okAll S es → eqoAll ds es = true
  | [], [], _, _, _, _, _ => rfl
  | d :: ds, e :: es, _, ⟨x, xs, rfl, h, q⟩, ⟨y, ys, e1, h', q'⟩, oD, oE => by
    cases e1
    show (eqo d e && eqoAll ds es) = true
    rw [eqo_same W I d e x h h' oD.1 oE.1, eqoAll_same W I ds es xs q q' oD.2 oE.2]
    rfl
  | [], e :: es, _, h, ⟨y, ys, e1, h', q'⟩, _, _ => by
    have h : _ = [] := h
    rw [e1] at h
    cases h
  | d :: ds, [], _, ⟨y, ys, e1, h', q'⟩, h, _, _ => by
    have h : _ = [] := h
    rw [e1] at h
    cases h
end
end
end
end L2
set_option linter.all false
namespace L2
open PySem PySem.Spec PyProof.Rows
section
variable {cl : Nat → OCls} {S : Nat → List OD → Prop} {X : Cx}
/-- what is asked where == is asked -/
abbrev After (X : Cx) (pins : List (Addr × Obj)) (σ : St) (H : Hp) (b : Bool) : Value → Shared → Prop := fun r s' => r = .bool b ∧ ∃ H', Inv X pins σ H' s' ∧ Ext H H'
theorem own_back (G : OwnGives X cl S) {k : Nat} {ds : List OD} (hk : S k ds) {A : Around} {pins : List (Addr × Obj)} {s : Shared} {σ : St} {H : Hp} {a : Addr} {e : OD} {y : V} {v : Value} (sb : Sub X (cl k).lv A) (I : Inv X pins σ H s) (ry : RelV y v) (h : Oh X.K cl H (.obj k ds) (.ref a)) (he : Oh X.K cl H e y) (oD : okAll S ds) (oE : okO S e) :
    wpAny (model X.prog X.w) A (call (.ref (cl k).f) [.ref a, v]) (PySem.W.CmpBack (After X pins σ H (eqo (.obj k ds) e))) X.xe s :=
  wpAny_mono (G k ds hk A pins s σ H a e y v sb I ry h he oD oE) (fun r s' q => by
    obtain ⟨rfl, q⟩ := q
    exact ⟨rfl, q⟩) fun _ _ e => e
theorem flTy_looks {x : V} {u : Value} (h : flatV x = true) (r : RelV x u) {M : Model} {hp : Heap} : PySem.W.Looks M hp (typeOf u) (.type (flTy x)) := by
  cases x with
  | non => cases r; exact PySem.W.Looks.of_pure rfl
  | bl b => cases r; exact PySem.W.Looks.of_pure rfl
  | int b => obtain ⟨t, rfl⟩ := r; exact PySem.W.Looks.of_pure rfl
  | str b => obtain ⟨t, rfl⟩ := r; exact PySem.W.Looks.of_pure rfl
  | _ => cases h
theorem flTy_mem {x : V} (h : flatV x = true) : flTy x ∈ ["NoneType", "bool", "int", "str", "tuple", "list"] := by
  cases x with
  | non => decide
  | bl b => simp [flTy]
  | int b => simp [flTy]
  | str b => simp [flTy]
  | _ => cases h
theorem ty_looks (W : OwnCls X.K cl S) {pins : List (Addr × Obj)} {s : Shared} {σ : St} {H : Hp} (I : Inv X pins σ H s) {k : Nat} (hk : Dm S k) {e : OD} {y : V} {v : Value} (ry : RelV y v) (he : Oh X.K cl H e y) (oE : okO S e) :
    ∃ tb, PySem.W.Looks (model X.prog X.w) s.heap (typeOf v) tb ∧ PySem.W.notFirst X.K (cl k).C tb = true := by
  cases e with
  | fl w =>
    obtain ⟨rfl, h⟩ := he
    refine ⟨_, flTy_looks h ry, ?_⟩
    unfold PySem.W.notFirst
    rw [(W.sT k hk _ (flTy_mem h)).1]
    simp
  | tup es =>
    obtain ⟨b, xs, rfl, h, _⟩ := he
    obtain rfl : v = Value.ref b := ry
    obtain ⟨its, r, ht, hz⟩ := I.tuple h
    obtain ⟨o, ho, hc⟩ := ht.typeIs
    refine ⟨.type "tuple", hc ▸ (PySem.W.Looks.ld ho).andThen .now, ?_⟩
    unfold PySem.W.notFirst
    rw [(W.sT k hk "tuple" (by decide)).1]
    simp
  | lst es =>
    obtain ⟨b, xs, rfl, h, _⟩ := he
    obtain rfl : v = Value.ref b := ry
    obtain ⟨z2, its2, k2, r2, e2⟩ := I.hok _ _ h
    refine ⟨.type "list", (PySem.W.Looks.ld e2).andThen .now, ?_⟩
    unfold PySem.W.notFirst
    rw [(W.sT k hk "list" (by decide)).1]
    simp
  | obj l es =>
    obtain ⟨b, dx, fs, xs, rfl, h, _, _⟩ := he
    obtain rfl : v = Value.ref b := ry
    obtain ⟨_, O2, _⟩ := ins_get I.hok h
    obtain ⟨o2, J2, _⟩ := O2.look
    refine ⟨.ref (cl l).C, J2.type, ?_⟩
    unfold PySem.W.notFirst
    by_cases hl : k = l
    · subst hl; simp
    · rw [W.sub k l hk ⟨_, oE.1⟩ hl]; simp
/-- an object with an own == on the left -/
theorem rcB_objL (W : OwnCls X.K cl S) (G : OwnGives X cl S) {k : Nat} {A : Around} {pins : List (Addr × Obj)} {s : Shared} {σ : St} {H : Hp} {ds : List OD} {e : OD} {x y : V} {u v : Value} (sb : Sub X (cl k).lv A) (I : Inv X pins σ H s) (rx : RelV x u) (ry : RelV y v) (h : Oh X.K cl H (.obj k ds) x) (he : Oh X.K cl H e y) (oD : okO S (.obj k ds)) (oE : okO S e) :
    wpAny (model X.prog X.w) A (richCompare .Eq u v) (After X pins σ H (eqo (.obj k ds) e)) X.xe s := by
  obtain ⟨a, dx, fs, xs, rfl, hi, hn, hq⟩ := id h
  cases rx
  obtain ⟨_, O1, _⟩ := ins_get I.hok hi
  obtain ⟨o1, J1, _⟩ := O1.look
  obtain ⟨m, hF⟩ := I.fr
  obtain ⟨tb, L, hn⟩ := ty_looks W I ⟨_, oD.1⟩ ry he oE
  exact PySem.W.cmp_K (op := .Eq) (tb := tb) sb.room.units0 hF I.ok.mod.kin J1 L hn (W.eqf k ⟨_, oD.1⟩) (W.isf k ⟨_, oD.1⟩) (own_back G oD.1 sb I ry h he oD.2 oE)
theorem eqo_obj_fl {k : Nat} {ds : List OD} {w : V} : eqo (.obj k ds) (.fl w) = false := by rw [eqo]; all_goals simp
theorem eqo_fl_obj {k : Nat} {ds : List OD} {w : V} : eqo (.fl w) (.obj k ds) = false := by rw [eqo]; all_goals simp
theorem eqo_obj_tup {k : Nat} {ds es : List OD} : eqo (.obj k ds) (.tup es) = false := by rw [eqo]; all_goals simp
theorem eqo_tup_obj {k : Nat} {ds es : List OD} : eqo (.tup es) (.obj k ds) = false := by rw [eqo]; all_goals simp
theorem eqo_obj_lst {k : Nat} {ds es : List OD} : eqo (.obj k ds) (.lst es) = false := by rw [eqo]; all_goals simp
theorem eqo_lst_obj {k : Nat} {ds es : List OD} : eqo (.lst es) (.obj k ds) = false := by rw [eqo]; all_goals simp
theorem rcB_flObj (W : OwnCls X.K cl S) (G : OwnGives X cl S) {k : Nat} {A : Around} {pins : List (Addr × Obj)} {s : Shared} {σ : St} {H : Hp} {ds : List OD} {w : V} {x y : V} {u v : Value} (sb : Sub X (cl k).lv A) (I : Inv X pins σ H s) (rx : RelV x u) (ry : RelV y v) (h : Oh X.K cl H (.fl w) x) (he : Oh X.K cl H (.obj k ds) y) (oE : okO S (.obj k ds)) :
    wpAny (model X.prog X.w) A (richCompare .Eq u v) (After X pins σ H (eqo (.fl w) (.obj k ds))) X.xe s := by
  obtain ⟨a, dx, fs, xs, rfl, hi, hn, hq⟩ := id he
  cases ry
  obtain ⟨_, O1, _⟩ := ins_get I.hok hi
  obtain ⟨o1, J1, _⟩ := O1.look
  obtain ⟨m, hF⟩ := I.fr
  have hb := own_back G oE.1 sb I rx he h oE.2 trivial
  rw [eqo_obj_fl] at hb
  rw [eqo_fl_obj]
  obtain ⟨rfl, hf⟩ := h
  have sT := (W.sT k ⟨_, oE.1⟩ _ (flTy_mem hf)).2
  have ox := O1.obj
  cases x with
  | non =>
    cases rx
    exact PySem.W.cmpR_K sb.room.units0 hF I.ok.mod.kin J1 rfl sT F.slot_NoneType_eq (fun _ hq => call_gives F.slot_NoneType_eq rfl F.entry_NoneType_eq (F.args_NoneType_eq_2 _ _) (SeqAt.NoneType___eq___none_ref_0 _) hq) (W.eqf k ⟨_, oE.1⟩) (W.isf k ⟨_, oE.1⟩) hb
  | int b =>
    obtain ⟨t, rfl⟩ := rx
    exact PySem.W.cmpR_K sb.room.units0 hF I.ok.mod.kin J1 (typeIs_int s b t) sT F.slot_int_eq (fun _ hq => call_meets F.slot_int_eq (typeIs_int s b t) F.entry_int_eq (F.args_int_eq_2 _ _) (SeqAt.int_eq_declines_plain b t _ _ _ _) ⟨ox, hq⟩) (W.eqf k ⟨_, oE.1⟩) (W.isf k ⟨_, oE.1⟩) hb
  | str b =>
    obtain ⟨t, rfl⟩ := rx
    exact PySem.W.cmpR_K sb.room.units0 hF I.ok.mod.kin J1 (typeIs_str s b t) sT F.slot_str_eq (fun _ hq => call_meets F.slot_str_eq (typeIs_str s b t) F.entry_str_eq (F.args_str_eq_2 _ _) (SeqAt.str_eq_declines_plain b t _ _ _ _) ⟨ox, hq⟩) (W.eqf k ⟨_, oE.1⟩) (W.isf k ⟨_, oE.1⟩) hb
  | bl b =>
    cases rx
    exact PySem.W.cmpR_K sb.room.units0 hF I.ok.mod.kin J1 (PySem.typeIs_bool s b) sT F.slot_bool_eq (fun _ hq => call_meets F.slot_bool_eq (PySem.typeIs_bool s b) F.entry_int_eq (F.args_int_eq_2 _ _) (SeqAt.bool_eq_declines_plain b _ _ _ _) ⟨ox, hq⟩) (W.eqf k ⟨_, oE.1⟩) (W.isf k ⟨_, oE.1⟩) hb
  | _ => cases hf
theorem rcB_tupObj (W : OwnCls X.K cl S) (G : OwnGives X cl S) {k : Nat} {A : Around} {pins : List (Addr × Obj)} {s : Shared} {σ : St} {H : Hp} {ds es : List OD} {x y : V} {u v : Value} (sb : Sub X (cl k).lv A) (I : Inv X pins σ H s) (rx : RelV x u) (ry : RelV y v) (h : Oh X.K cl H (.tup es) x) (he : Oh X.K cl H (.obj k ds) y) (oD : okO S (.tup es)) (oE : okO S (.obj k ds)) :
    wpAny (model X.prog X.w) A (richCompare .Eq u v) (After X pins σ H (eqo (.tup es) (.obj k ds))) X.xe s := by
  obtain ⟨a, dx, fs, xs, rfl, hi, hn, hq⟩ := id he
  cases ry
  obtain ⟨_, O1, _⟩ := ins_get I.hok hi
  obtain ⟨o1, J1, _⟩ := O1.look
  obtain ⟨m, hF⟩ := I.fr
  have hb := own_back G oE.1 sb I rx he h oE.2 oD
  rw [eqo_obj_tup] at hb
  rw [eqo_tup_obj]
  obtain ⟨b, ys, rfl, hs, _⟩ := h
  cases rx
  obtain ⟨its, r, ht, hz⟩ := I.tuple hs
  have sT := (W.sT k ⟨_, oE.1⟩ "tuple" (by decide)).2
  have hI : PySem.W.Looks (model X.prog X.w) s.heap (isInstance (.ref a) (.type "tuple")) false := J1.type.andThen (PySem.W.looks_subIn (I.ok.mod.kin.keeps hF.keep) sT)
  obtain ⟨⟨cls, dd, data, sl⟩, ho, hc, n, hd⟩ := id ht
  simp only at hc hd
  subst hc hd
  exact PySem.W.cmpR_K sb.room.units0 hF I.ok.mod.kin J1 ⟨_, ho, rfl⟩ sT F.slot_tuple_eq (fun Q' hq => GQ.call_here F.slot_tuple_eq ⟨_, ho, rfl⟩ F.entry_tuple_eq (F.args_tuple_eq_2 _ _) (SeqAt.tuple_eq_declines_own (R := wants Q' X.xe) b a _ n dd sl hI ho hq)) (W.eqf k ⟨_, oE.1⟩) (W.isf k ⟨_, oE.1⟩) hb
theorem rcB_lstObj (W : OwnCls X.K cl S) (G : OwnGives X cl S) {k : Nat} {A : Around} {pins : List (Addr × Obj)} {s : Shared} {σ : St} {H : Hp} {ds es : List OD} {x y : V} {u v : Value} (sb : Sub X (cl k).lv A) (I : Inv X pins σ H s) (rx : RelV x u) (ry : RelV y v) (h : Oh X.K cl H (.lst es) x) (he : Oh X.K cl H (.obj k ds) y) (oD : okO S (.lst es)) (oE : okO S (.obj k ds)) :
    wpAny (model X.prog X.w) A (richCompare .Eq u v) (After X pins σ H (eqo (.lst es) (.obj k ds))) X.xe s := by
  obtain ⟨a, dx, fs, xs, rfl, hi, hn, hq⟩ := id he
  cases ry
  obtain ⟨_, O1, _⟩ := ins_get I.hok hi
  obtain ⟨o1, J1, _⟩ := O1.look
  obtain ⟨m, hF⟩ := I.fr
  have hb := own_back G oE.1 sb I rx he h oE.2 oD
  rw [eqo_obj_lst] at hb
  rw [eqo_lst_obj]
  obtain ⟨b, ys, rfl, hs, _⟩ := h
  cases rx
  obtain ⟨z, its, n, r, ho⟩ := I.hok _ _ hs
  have sT := (W.sT k ⟨_, oE.1⟩ "list" (by decide)).2
  have hI : PySem.W.Looks (model X.prog X.w) s.heap (isInstance (.ref a) (.type "list")) false := J1.type.andThen (PySem.W.looks_subIn (I.ok.mod.kin.keeps hF.keep) sT)
  exact PySem.W.cmpR_K sb.room.units0 hF I.ok.mod.kin J1 ⟨_, ho, rfl⟩ sT F.slot_list_eq (fun Q' hq => GQ.call_here F.slot_list_eq ⟨_, ho, rfl⟩ F.entry_list_eq (F.args_list_eq_2 _ _) (SeqAt.list_eq_declines_own (R := wants Q' X.xe) b a _ n hI ho hq)) (W.eqf k ⟨_, oE.1⟩) (W.isf k ⟨_, oE.1⟩) hb
theorem allEq_eqo : ∀ (ds es : List OD) (e : Nat → Bool), (∀ i d c, ds[i]? = some d → es[i]? = some c → e i = eqo d c) → GQ.allEq ds.length es.length e = eqoAll ds es
  | [], [], e, _ => rfl
  | [], _ :: _, e, _ => by simp [GQ.allEq, eqoAll]
  | _ :: _, [], e, _ => by simp [GQ.allEq, eqoAll]
  | d :: ds, c :: es, e, h => by
    have ih := allEq_eqo ds es (fun i => e (i + 1)) fun i d' c' h1 h2 => h (i + 1) d' c' (by simpa using h1) (by simpa using h2)
    have h0 : e 0 = eqo d c := h 0 d c rfl rfl
    unfold GQ.allEq at ih ⊢
    rw [eqoAll, ← ih, ← h0]
    have hm : min (d :: ds).length (c :: es).length = min ds.length es.length + 1 := by simp [Nat.succ_min_succ]
    rw [hm, List.range_succ_eq_map, List.all_cons, List.all_map]
    simp [Function.comp_def, Bool.and_assoc]
theorem need_get : ∀ (ds : List OD) (i : Nat) (d : OD), ds[i]? = some d → need cl d ≤ needAll cl ds
  | [], i, d, h => by simp at h
  | x :: xs, 0, d, h => by
    simp at h
    subst h
    show need cl x ≤ max (need cl x) (needAll cl xs)
    omega
  | x :: xs, i + 1, d, h => by
    have := need_get xs i d (by simpa using h)
    show need cl d ≤ max (need cl x) (needAll cl xs)
    omega
theorem okAll_get : ∀ (ds : List OD) (i : Nat) (d : OD), okAll S ds → ds[i]? = some d → okO S d
  | [], i, d, _, h => by simp at h
  | x :: xs, 0, d, o, h => by simp at h; subst h; exact o.1
  | x :: xs, i + 1, d, o, h => okAll_get xs i d o.2 (by simpa using h)
theorem ohAll_get {K : PySem.W.Frag} {H : Hp} : ∀ (ds : List OD) (xs : List V) (i : Nat) (x : V), OhAll K cl H ds xs → xs[i]? = some x → ∃ d, ds[i]? = some d ∧ Oh K cl H d x
  | [], xs, i, x, h, e => by cases h; simp at e
  | d :: ds, _, 0, x, ⟨y, ys, rfl, h, q⟩, e => by simp at e; subst e; exact ⟨d, rfl, h⟩
  | d :: ds, _, i + 1, x, ⟨y, ys, rfl, h, q⟩, e => by
    obtain ⟨d', h1, h2⟩ := ohAll_get ds ys i x q (by simpa using e)
    exact ⟨d', by simpa using h1, h2⟩
def EqOD (X : Cx) (cl : Nat → OCls) (S : Nat → List OD → Prop) (d e : OD) : Prop :=
  ∀ (A : Around) (pins : List (Addr × Obj)) (s : Shared) (σ : St) (H : Hp) (x y : V) (u v : Value), Sub X (max (need cl d) (need cl e)) A → Inv X pins σ H s → RelV x u → RelV y v → Oh X.K cl H d x → Oh X.K cl H e y → okO S d → okO S e →
    wpAny (model X.prog X.w) A (eqBool u v) (fun r s' => r = eqo d e ∧ ∃ H', Inv X pins σ H' s' ∧ Ext H H') X.xe s
def RcOD (X : Cx) (cl : Nat → OCls) (S : Nat → List OD → Prop) (d e : OD) : Prop :=
  ∀ (A : Around) (pins : List (Addr × Obj)) (s : Shared) (σ : St) (H : Hp) (x y : V) (u v : Value), Sub X (max (need cl d) (need cl e)) A → Inv X pins σ H s → RelV x u → RelV y v → Oh X.K cl H d x → Oh X.K cl H e y → okO S d → okO S e →
    wpAny (model X.prog X.w) A (richCompare .Eq u v) (After X pins σ H (eqo d e)) X.xe s
/-- what the items of two rows need -/
theorem turnOD {ds es : List OD} (h : ∀ (i : Nat) (d e : OD), ds[i]? = some d → es[i]? = some e → EqOD X cl S d e) {A : Around} (sb : Sub X (max (needAll cl ds) (needAll cl es) + 1) A) {pins : List (Addr × Obj)} {σ : St} {H : Hp} {xs ys : List V} {its its2 : List Value}
    (p : OhAll X.K cl H ds xs) (q : OhAll X.K cl H es ys) (oD : okAll S ds) (oE : okAll S es) (r : Vals xs its) (r2 : Vals ys its2) (c : Nat → Bool) (hc : ∀ (i : Nat) (d e : OD), ds[i]? = some d → es[i]? = some e → c i = eqo d e)
    (i : Nat) (h1 : i < its.toArray.size) (h2 : i < its2.toArray.size) (s' : Shared) (l : LoopI X pins σ H s') :
    wpAny (model X.prog X.w) A.in1 (eqBool its.toArray[i] its2.toArray[i]) (fun r s2 => r = c i ∧ LoopI X pins σ H s2) X.xe s' := by
  obtain ⟨H1, I1, e1⟩ := l
  have g1 : its[i]? = some its.toArray[i] := by
    have h1' : i < its.length := by simpa using h1
    rw [List.getElem?_eq_getElem h1'] <;> simp
  have g2 : its2[i]? = some its2.toArray[i] := by
    have h2' : i < its2.length := by simpa using h2
    rw [List.getElem?_eq_getElem h2'] <;> simp
  have k1 : i < xs.length := by rw [r.length]; simpa using h1
  have k2 : i < ys.length := by rw [r2.length]; simpa using h2
  obtain ⟨u, hu, ru⟩ := r.get (List.getElem?_eq_getElem k1)
  obtain ⟨v, hv, rv⟩ := r2.get (List.getElem?_eq_getElem k2)
  rw [g1] at hu
  rw [g2] at hv
  rw [Option.some.inj hu, Option.some.inj hv]
  obtain ⟨d, hd, od⟩ := ohAll_get ds xs i _ p (List.getElem?_eq_getElem k1)
  obtain ⟨e, he, oe⟩ := ohAll_get es ys i _ q (List.getElem?_eq_getElem k2)
  have n1 := need_get (cl := cl) ds i d hd
  have n2 := need_get (cl := cl) es i e he
  refine wpAny_mono (h i d e hd he A.in1 pins s' σ H1 _ _ u v (sb.in1.mono (by omega)) I1 ru rv (Oh.ext e1 _ _ od) (Oh.ext e1 _ _ oe) (okAll_get ds i d oD hd) (okAll_get es i e oE he)) (fun r s2 q => ?_) fun _ _ x => x
  obtain ⟨hr, H2, I2, e2⟩ := q
  exact ⟨hr.trans (hc i d e hd he).symm, H2, I2, e1.trans e2⟩
/-- the answers of the pairs -/
def pairs (ds es : List OD) (i : Nat) : Bool := match ds[i]?, es[i]? with
  | some d, some e => eqo d e
  | _, _ => false
theorem pairs_eq {ds es : List OD} {i : Nat} {d e : OD} (h1 : ds[i]? = some d) (h2 : es[i]? = some e) : pairs ds es i = eqo d e := by unfold pairs; rw [h1, h2]
theorem rcOD_tup {ds es : List OD} (h : ∀ (i : Nat) (d e : OD), ds[i]? = some d → es[i]? = some e → EqOD X cl S d e) : RcOD X cl S (.tup ds) (.tup es) := by
  intro A pins s σ H x y u v sb I rx ry hd he oD oE
  obtain ⟨a, xs, rfl, ha, p⟩ := hd
  obtain ⟨b, ys, rfl, hb, q⟩ := he
  cases rx
  cases ry
  obtain ⟨its, r, e, z⟩ := I.tuple ha
  obtain ⟨its2, r2, e2, z2⟩ := I.tuple hb
  have sb' : Sub X (max (needAll cl ds) (needAll cl es) + 1) A := sb.mono (by show _ ≤ max (needAll cl ds + 1) (needAll cl es + 1); omega)
  have z1 : GQ.allEq its.toArray.size its2.toArray.size (pairs ds es) = eqo (.tup ds) (.tup es) := by
    rw [List.size_toArray, List.size_toArray, ← r.length, ← r2.length, ← OhAll.length ds xs p, ← OhAll.length es ys q]
    exact allEq_eqo ds es _ fun i d c h1 h2 => pairs_eq h1 h2
  exact GQ.rc_tupB sb.room.units0 (fun _ s' => LoopI X pins σ H s') e e2 (fun i h1 h2 s' l => turnOD h sb' p q oD oE r r2 (pairs ds es) (fun i d c h1 h2 => pairs_eq h1 h2) i h1 h2 s' l) (fun i s' l => by rw [z1]; exact ⟨rfl, l⟩) ⟨H, I, Ext.rfl'⟩
theorem rcOD_lst {ds es : List OD} (h : ∀ (i : Nat) (d e : OD), ds[i]? = some d → es[i]? = some e → EqOD X cl S d e) : RcOD X cl S (.lst ds) (.lst es) := by
  intro A pins s σ H x y u v sb I rx ry hd he oD oE
  obtain ⟨a, xs, rfl, ha, p⟩ := hd
  obtain ⟨b, ys, rfl, hb, q⟩ := he
  cases rx
  cases ry
  have sb' : Sub X (max (needAll cl ds) (needAll cl es) + 1) A := sb.mono (by show _ ≤ max (needAll cl ds + 1) (needAll cl es + 1); omega)
  have l1 := OhAll.length ds xs p
  have l2 := OhAll.length es ys q
  by_cases hl : ds.length = es.length
  · have z1 : (List.range ds.length).all (pairs ds es) = eqo (.lst ds) (.lst es) := by
      have := allEq_eqo ds es (pairs ds es) fun i d c h1 h2 => pairs_eq h1 h2
      unfold GQ.allEq at this
      rw [show eqo (.lst ds) (.lst es) = eqoAll ds es from rfl, ← this, ← hl]
      simp
    refine GQ.rc_listB (N := ds.length) (e := pairs ds es) sb.room.units0 (fun _ s' => LoopI X pins σ H s') (fun i s' l => ?_) (fun i s' l => by rw [z1]; exact ⟨rfl, l⟩) ⟨H, I, Ext.rfl'⟩
    obtain ⟨H1, I1, e1⟩ := id l
    obtain ⟨z, its, k, r, e⟩ := I1.hok a _ (e1 _ _ ha)
    obtain ⟨z2, its2, k2, r2, e2⟩ := I1.hok b _ (e1 _ _ hb)
    refine ⟨its.toArray, its2.toArray, k, k2, e, e2, by rw [List.size_toArray, ← r.length, l1], by rw [List.size_toArray, ← r2.length, hl, l2], fun h1 h2 => ?_⟩
    exact turnOD h sb' p q oD oE r r2 (pairs ds es) (fun i d c h1 h2 => pairs_eq h1 h2) i h1 h2 s' l
  · obtain ⟨z, its, k, r, e⟩ := I.hok a _ ha
    obtain ⟨z2, its2, k2, r2, e2⟩ := I.hok b _ hb
    have z1 : eqo (.lst ds) (.lst es) = false := by
      have := allEq_eqo ds es (pairs ds es) fun i d c h1 h2 => pairs_eq h1 h2
      unfold GQ.allEq at this
      rw [show eqo (.lst ds) (.lst es) = eqoAll ds es from rfl, ← this]
      simp [hl]
    rw [z1]
    exact SeqAt.RcAt.lists_lengths ⟨_, e, rfl, _, rfl⟩ ⟨_, e2, rfl, _, rfl⟩ (by rw [List.size_toArray, List.size_toArray, ← r.length, ← r2.length, ← l1, ← l2]; simpa using hl) sb.room.units0 X.prog X.w X.xe _ ⟨rfl, H, I, Ext.rfl'⟩
theorem eqOD_ref (W : OwnCls X.K cl S) {d e : OD} (h : RcOD X cl S d e) (hd : ∀ H x, Oh X.K cl H d x → ∃ a, x = .ref a) (he : ∀ H x, Oh X.K cl H e x → ∃ a, x = .ref a) : EqOD X cl S d e := by
  intro A pins s σ H x y u v sb I rx ry od oe oD oE
  obtain ⟨a, rfl⟩ := hd _ _ od
  obtain ⟨b, rfl⟩ := he _ _ oe
  cases rx
  cases ry
  by_cases hab : a = b
  · subst hab
    have e1 := eqo_same W I d e _ od oe oD oE
    exact SeqAt.EqAt.same (A := A) (s := s) (.ref a) X.prog X.w X.xe _ ⟨e1.symm, H, I, Ext.rfl'⟩
  · refine GQ.eqBool_refG hab (wpAny_mono (h A pins s σ H (.ref a) (.ref b) _ _ sb I rfl rfl od oe oD oE) (fun r s' q => ?_) fun _ _ x => x)
    obtain ⟨hr', q⟩ := q
    exact ⟨_, hr', rfl, q⟩
theorem oh_tup_ref {K : PySem.W.Frag} {ds : List OD} (H : Hp) (x : V) (h : Oh K cl H (.tup ds) x) : ∃ a, x = .ref a := let ⟨a, _, e, _⟩ := h; ⟨a, e⟩
theorem oh_lst_ref {K : PySem.W.Frag} {ds : List OD} (H : Hp) (x : V) (h : Oh K cl H (.lst ds) x) : ∃ a, x = .ref a := let ⟨a, _, e, _⟩ := h; ⟨a, e⟩
theorem oh_obj_ref {K : PySem.W.Frag} {k : Nat} {ds : List OD} (H : Hp) (x : V) (h : Oh K cl H (.obj k ds) x) : ∃ a, x = .ref a := let ⟨a, _, _, _, e, _⟩ := h; ⟨a, e⟩
theorem eqo_fl_tup {w : V} {ds : List OD} : eqo (.fl w) (.tup ds) = false := by rw [eqo]; all_goals simp
theorem eqo_tup_fl {w : V} {ds : List OD} : eqo (.tup ds) (.fl w) = false := by rw [eqo]; all_goals simp
theorem eqo_fl_lst {w : V} {ds : List OD} : eqo (.fl w) (.lst ds) = false := by rw [eqo]; all_goals simp
theorem eqo_lst_fl {w : V} {ds : List OD} : eqo (.lst ds) (.fl w) = false := by rw [eqo]; all_goals simp
theorem eqo_tup_lst {es ds : List OD} : eqo (.tup ds) (.lst es) = false := by rw [eqo]; all_goals simp
theorem eqo_lst_tup {es ds : List OD} : eqo (.lst ds) (.tup es) = false := by rw [eqo]; all_goals simp
theorem eqBool_no {P : Program} {w : World} {A : Around} {E : Value → Shared → Prop} {s : Shared} {u v : Value} {Q : Bool → Shared → Prop} (hn : (u == v) = false) (hf : ∀ x t, u ≠ .float x t) (h : wpAny (model P w) A (richCompare .Eq u v) (fun v s' => ∃ r, v = .bool r ∧ Q r s') E s) : wpAny (model P w) A (eqBool u v) Q E s := by
  unfold eqBool
  refine wpAny_holding ?_
  refine wpAny_ite_split (fun hab => absurd hab (by rw [hn]; exact Bool.false_ne_true)) (fun _ => ?_)
  have fin : wpAny (model P w) A (richCompare .Eq u v >>= truthOfDropped) Q E s := by
    refine wpAny_bind (wpAny_mono h (fun v s' hv => ?_) fun _ _ x => x)
    obtain ⟨r, rfl, q⟩ := hv
    exact wpAny_truthy_bool q
  cases u with
  | float x t => exact absurd rfl (hf x t)
  | _ => exact fin
theorem flat_ne_ref {x : V} {u : Value} {a : Addr} (h : flatV x = true) (r : RelV x u) : (u == .ref a) = false ∧ (Value.ref a == u) = false ∧ ∀ x t, u ≠ .float x t := by
  cases x with
  | non => cases r; exact ⟨rfl, rfl, nofun⟩
  | bl b => cases r; exact ⟨rfl, rfl, nofun⟩
  | int b => obtain ⟨t, rfl⟩ := r; exact ⟨rfl, rfl, nofun⟩
  | str b => obtain ⟨t, rfl⟩ := r; exact ⟨rfl, rfl, nofun⟩
  | _ => cases h
theorem flat_tup {x : V} {u : Value} (h : flatV x = true) (r : RelV x u) {A : Around} {s : Shared} {b : Addr} {items : Array Value} (ht : s.heap.IsTuple b items) (hu : A.units < cLine) : SeqAt.EqAt A s u (.ref b) false ∧ SeqAt.EqAt A s (.ref b) u false := by
  cases x with
  | non => cases r; exact ⟨SeqAt.EqAt.none_tuple ht hu, SeqAt.EqAt.tuple_none ht hu⟩
  | bl b => cases r; exact ⟨SeqAt.EqAt.bool_tuple b ht hu, SeqAt.EqAt.tuple_bool b ht hu⟩
  | int b => obtain ⟨t, rfl⟩ := r; exact ⟨SeqAt.EqAt.int_tuple b t ht hu, SeqAt.EqAt.tuple_int b t ht hu⟩
  | str b => obtain ⟨t, rfl⟩ := r; exact ⟨SeqAt.EqAt.str_tuple b t ht hu, SeqAt.EqAt.tuple_str b t ht hu⟩
  | _ => cases h
theorem flat_lst {x : V} {u : Value} (h : flatV x = true) (r : RelV x u) {A : Around} {s : Shared} {b : Addr} {items : Array Value} (ht : s.heap.IsList b items) (hu : A.units < cLine) : SeqAt.EqAt A s u (.ref b) false ∧ SeqAt.EqAt A s (.ref b) u false := by
  cases x with
  | non => cases r; exact ⟨SeqAt.EqAt.none_list ht hu, SeqAt.EqAt.list_none ht hu⟩
  | bl b => cases r; exact ⟨SeqAt.EqAt.bool_list b ht hu, SeqAt.EqAt.list_bool b ht hu⟩
  | int b => obtain ⟨t, rfl⟩ := r; exact ⟨SeqAt.EqAt.int_list b t ht hu, SeqAt.EqAt.list_int b t ht hu⟩
  | str b => obtain ⟨t, rfl⟩ := r; exact ⟨SeqAt.EqAt.str_list b t ht hu, SeqAt.EqAt.list_str b t ht hu⟩
  | _ => cases h
theorem eq_fl_fl (v w : V) : EqOD X cl S (.fl v) (.fl w) := by
  intro A pins s σ H x y u u' sb I rx ry od oe oD oE
  obtain ⟨rfl, h⟩ := od
  obtain ⟨rfl, h'⟩ := oe
  exact eqAt_V (A := A) (s := s) rx ry h h' X.prog X.w X.xe _ ⟨rfl, H, I, Ext.rfl'⟩
theorem eq_fl_tup (v : V) (ds : List OD) : EqOD X cl S (.fl v) (.tup ds) ∧ EqOD X cl S (.tup ds) (.fl v) := by
  refine ⟨fun A pins s σ H x y u u' sb I rx ry od oe oD oE => ?_, fun A pins s σ H x y u u' sb I rx ry oe od oE oD => ?_⟩
  · obtain ⟨rfl, h⟩ := od
    obtain ⟨b, ys, rfl, hb, q⟩ := oe
    cases ry
    obtain ⟨its, r, e, z⟩ := I.tuple hb
    exact (flat_tup h rx e sb.room.units0).1 X.prog X.w X.xe _ ⟨eqo_fl_tup.symm, H, I, Ext.rfl'⟩
  · obtain ⟨rfl, h⟩ := od
    obtain ⟨b, ys, rfl, hb, q⟩ := oe
    cases rx
    obtain ⟨its, r, e, z⟩ := I.tuple hb
    exact (flat_tup h ry e sb.room.units0).2 X.prog X.w X.xe _ ⟨eqo_tup_fl.symm, H, I, Ext.rfl'⟩
theorem eq_fl_lst (v : V) (ds : List OD) : EqOD X cl S (.fl v) (.lst ds) ∧ EqOD X cl S (.lst ds) (.fl v) := by
  refine ⟨fun A pins s σ H x y u u' sb I rx ry od oe oD oE => ?_, fun A pins s σ H x y u u' sb I rx ry oe od oE oD => ?_⟩
  · obtain ⟨rfl, h⟩ := od
    obtain ⟨b, ys, rfl, hb, q⟩ := oe
    cases ry
    obtain ⟨z, its, n, r, e⟩ := I.hok _ _ hb
    exact (flat_lst h rx ⟨_, e, rfl, _, rfl⟩ sb.room.units0).1 X.prog X.w X.xe _ ⟨eqo_fl_lst.symm, H, I, Ext.rfl'⟩
  · obtain ⟨rfl, h⟩ := od
    obtain ⟨b, ys, rfl, hb, q⟩ := oe
    cases rx
    obtain ⟨z, its, n, r, e⟩ := I.hok _ _ hb
    exact (flat_lst h ry ⟨_, e, rfl, _, rfl⟩ sb.room.units0).2 X.prog X.w X.xe _ ⟨eqo_lst_fl.symm, H, I, Ext.rfl'⟩
theorem eq_tup_lst (ds es : List OD) : EqOD X cl S (.tup ds) (.lst es) ∧ EqOD X cl S (.lst es) (.tup ds) := by
  refine ⟨fun A pins s σ H x y u u' sb I rx ry od oe oD oE => ?_, fun A pins s σ H x y u u' sb I rx ry oe od oE oD => ?_⟩
  · obtain ⟨a, xs, rfl, ha, _⟩ := od
    obtain ⟨b, ys, rfl, hb, q⟩ := oe
    cases rx
    cases ry
    obtain ⟨its, r, t, z⟩ := I.tuple ha
    obtain ⟨z, its, n, r, e⟩ := I.hok _ _ hb
    exact SeqAt.EqAt.tuple_list t ⟨_, e, rfl, _, rfl⟩ sb.room.units0 X.prog X.w X.xe _ ⟨eqo_tup_lst.symm, H, I, Ext.rfl'⟩
  · obtain ⟨a, xs, rfl, ha, _⟩ := od
    obtain ⟨b, ys, rfl, hb, q⟩ := oe
    cases rx
    cases ry
    obtain ⟨its, r, t, z⟩ := I.tuple ha
    obtain ⟨z, its, n, r, e⟩ := I.hok _ _ hb
    exact SeqAt.EqAt.list_tuple ⟨_, e, rfl, _, rfl⟩ t sb.room.units0 X.prog X.w X.xe _ ⟨eqo_lst_tup.symm, H, I, Ext.rfl'⟩
theorem rc_obj (W : OwnCls X.K cl S) (G : OwnGives X cl S) (k : Nat) (ds : List OD) (e : OD) : RcOD X cl S (.obj k ds) e :=
  fun A pins s σ H x y u v sb I rx ry od oe oD oE => rcB_objL W G (sb.mono (Nat.le_max_left _ _)) I rx ry od oe oD oE
theorem rc_flObj (W : OwnCls X.K cl S) (G : OwnGives X cl S) (k : Nat) (ds : List OD) (w : V) : RcOD X cl S (.fl w) (.obj k ds) :=
  fun A pins s σ H x y u v sb I rx ry od oe oD oE => rcB_flObj W G (sb.mono (Nat.le_max_right _ _)) I rx ry od oe oE
theorem rc_tupObj (W : OwnCls X.K cl S) (G : OwnGives X cl S) (k : Nat) (ds es : List OD) : RcOD X cl S (.tup es) (.obj k ds) :=
  fun A pins s σ H x y u v sb I rx ry od oe oD oE => rcB_tupObj W G (sb.mono (Nat.le_max_right _ _)) I rx ry od oe oD oE
theorem rc_lstObj (W : OwnCls X.K cl S) (G : OwnGives X cl S) (k : Nat) (ds es : List OD) : RcOD X cl S (.lst es) (.obj k ds) :=
  fun A pins s σ H x y u v sb I rx ry od oe oD oE => rcB_lstObj W G (sb.mono (Nat.le_max_right _ _)) I rx ry od oe oD oE
theorem eq_of_rc_fl {k : Nat} {ds : List OD} {w : V} (h1 : RcOD X cl S (.fl w) (.obj k ds)) (h2 : RcOD X cl S (.obj k ds) (.fl w)) : EqOD X cl S (.fl w) (.obj k ds) ∧ EqOD X cl S (.obj k ds) (.fl w) := by
  refine ⟨fun A pins s σ H x y u u' sb I rx ry od oe oD oE => ?_, fun A pins s σ H x y u u' sb I rx ry od oe oD oE => ?_⟩
  · have q := h1 A pins s σ H x y u u' sb I rx ry od oe oD oE
    obtain ⟨rfl, h⟩ := od
    obtain ⟨a, rfl⟩ := oh_obj_ref _ _ oe
    cases ry
    obtain ⟨n1, n2, n3⟩ := flat_ne_ref (a := a) h rx
    exact eqBool_no n1 n3 (wpAny_mono q (fun r s' z => ⟨_, z.1, rfl, z.2⟩) fun _ _ x => x)
  · have q := h2 A pins s σ H x y u u' sb I rx ry od oe oD oE
    obtain ⟨rfl, h⟩ := oe
    obtain ⟨a, rfl⟩ := oh_obj_ref _ _ od
    cases rx
    obtain ⟨n1, n2, n3⟩ := flat_ne_ref (a := a) h ry
    exact eqBool_no n2 nofun (wpAny_mono q (fun r s' z => ⟨_, z.1, rfl, z.2⟩) fun _ _ x => x)
mutual
theorem eqOD (W : OwnCls X.K cl S) (G : OwnGives X cl S) : ∀ (d e : OD), EqOD X cl S d e
  | .fl v, .fl w => eq_fl_fl v w
  | .fl v, .tup ds => (eq_fl_tup v ds).1
  | .fl v, .lst ds => (eq_fl_lst v ds).1
  | .fl v, .obj k ds => (eq_of_rc_fl (rc_flObj W G k ds v) (rc_obj W G k ds (.fl v))).1
  | .tup ds, .fl v => (eq_fl_tup v ds).2
  | .lst ds, .fl v => (eq_fl_lst v ds).2
  | .obj k ds, .fl v => (eq_of_rc_fl (rc_flObj W G k ds v) (rc_obj W G k ds (.fl v))).2
  | .tup ds, .lst es => (eq_tup_lst ds es).1
  | .lst ds, .tup es => (eq_tup_lst es ds).2
  | .tup ds, .obj k es => eqOD_ref W (rc_tupObj W G k es ds) oh_tup_ref oh_obj_ref
  | .lst ds, .obj k es => eqOD_ref W (rc_lstObj W G k es ds) oh_lst_ref oh_obj_ref
  | .obj k es, .tup ds => eqOD_ref W (rc_obj W G k es (.tup ds)) oh_obj_ref oh_tup_ref
  | .obj k es, .lst ds => eqOD_ref W (rc_obj W G k es (.lst ds)) oh_obj_ref oh_lst_ref
  | .obj k es, .obj l ds => eqOD_ref W (rc_obj W G k es (.obj l ds)) oh_obj_ref oh_obj_ref
  | .tup ds, .tup es => eqOD_ref W (rcOD_tup (eqODs W G ds es)) oh_tup_ref oh_tup_ref
  | .lst ds, .lst es => eqOD_ref W (rcOD_lst (eqODs W G ds es)) oh_lst_ref oh_lst_ref
theorem eqODs (W : OwnCls X.K cl S) (G : OwnGives X cl S) : ∀ (ds es : List OD) (i : Nat) (d e : OD), ds[i]? = some d → es[i]? = some e → EqOD X cl S d e
  | x :: xs, y :: ys, 0, d, e, h1, h2 => by
    have q := eqOD W G x y
    simp at h1 h2
    subst h1 h2
    exact q
  | x :: xs, y :: ys, i + 1, d, e, h1, h2 => eqODs W G xs ys i d e (by simpa using h1) (by simpa using h2)
  | [], es, i, d, e, h1, h2 => by simp at h1
  | x :: xs, [], i, d, e, h1, h2 => by simp at h2
end
end
end L2
set_option linter.all false
namespace PySem.W
open PyProof.Rows Builtin
section
variable {prog : Program} {w : World} {A : Around} {E : Value → Shared → Prop} {s : Shared} {K : Frag} {x C L f : Addr} {h₀ : Heap} {m : Str → Option Value} {ox : Obj} {od : Option Obj} {b tb : Value}
theorem ifBound_objNe {M : Model} {args : List Value} {Q : Option Value → Shared → Prop} (X : K.In s.heap) (I : InstAt s.heap x ox C od) (hs : findIn K (.ref C) "__ne__" = some (some (.builtin "object.__ne__")))
    (h : wpAny M A (call (.builtin "object.__ne__") (.ref x :: args)) (fun v => Q (some v)) E s) : wpAny M A (callSpecialIfBound? (.ref x) "__ne__" args) Q E s := by
  simp only [callSpecialIfBound?, bindSpecialIfBound?]
  refine wpAny_holding (wpAny_bind (wpAny_bind (wpAny_bind (I.type.here ((looks_findIn X hs).here ?_)))))
  refine wpAny_bind (wpAny_askSetting (wpAny_ite ?_))
  have fin : wpAny M A (call (.builtin "object.__ne__") ([.ref x] ++ args) >>= fun v => pure (some v)) Q E s := wpAny_bind (wpAny_mono h (fun v s' h' => wpAny_pure h') fun _ _ h' => h')
  split
  · exact wpAny_bind (wpAny_of_eq (F.cmp_object.ne.bind _) (wpAny_pure (by exact fin)))
  · exact wpAny_tryCatch (wpAny_bind (wpAny_of_eq (F.cmp_object.ne.bind _) (wpAny_pure (by exact fin))))
theorem objNe_entry {Q : Fin → Shared → Prop} (X : K.In s.heap) (I : InstAt s.heap x ox C od) (he : findIn K (.ref C) "__eq__" = some (some (.ref f))) (hf : isFn K (.ref f) = true) (hu : A.units < cLine)
    (hcall : wpAny (model prog w) A (call (.ref f) [.ref x, b]) (fun v s' => ∃ b, v = .bool b ∧ Q (.done (.ret (.bool (!b)))) s') E s) :
    wpAny (model prog w) A (Builtin.«object.__ne__» ⟨[.ref x, b], []⟩) Q E s := by
  unfold Builtin.«object.__ne__»
  repeat (first
    | with_reducible refine wpAny_cRoomFor hu ?_
    | (refine wpAny_bind (m := callSpecialIfBound? (.ref x) (Str.ofString "__eq__") [b])
        (ifBound_K X I he hf (wpAny_mono hcall (fun v s' hr => by
          obtain ⟨b, rfl, hq⟩ := hr
          repeat (first | exact hq | exact wpAny_pure hq | exact wpAny_truthy_bool hq | (refine wpAny_bind (m := truthy (.bool _)) (wpAny_truthy_bool ?_)) | wp_step)) fun _ _ e => e)))
    | wp_step)
/-- x != b, x an object with an own == and no != -/
theorem ne_K {Q : Value → Shared → Prop} (hu : A.units + 1 < cLine) (F0 : Fr h₀ L s.heap m) (X₀ : K.In h₀) (I : InstAt s.heap x ox C od) (hb : Looks (model prog w) s.heap (typeOf b) tb) (hn : notFirst K C tb = true)
    (hm : mroIn K C (.type "object") = some true) (hs : findIn K (.ref C) "__ne__" = some (some (.builtin "object.__ne__"))) (he : findIn K (.ref C) "__eq__" = some (some (.ref f))) (hf : isFn K (.ref f) = true)
    (h : wpAny (model prog w) A.in1 (call (.ref f) [.ref x, b]) (fun v s' => ∃ k, v = .bool k ∧ Q (.bool (!k)) s') E s) : wpAny (model prog w) A (richCompare .NotEq (.ref x) b) Q E s := by
  have X := X₀.keeps F0.keep
  have one : wpAny (model prog w) A (tryCompare (.ref x) (cmpInfo .NotEq).2.1 b) (fun r s' => ∃ v, r = some v ∧ Q v s') E s := by
    unfold tryCompare
    refine wpAny_bind (ifBound_objNe X I hs ?_)
    refine wpAny_call (codeAny_call_builtin F.cmp_object.ne.plain F.cmpEntry_ne (check_slot F.cmpKind_ne F.cmpSplit_ne (I.type.andThen (looks_mroIn X hm)) (F.cmpArgs_ne _ _) ?_))
    refine objNe_entry (A := A.in1) X I he hf (by show A.units + 1 < cLine; exact hu) (wpAny_mono h (fun v s' hv => ?_) fun _ _ e => e)
    obtain ⟨k, rfl, hq⟩ := hv
    first | exact ⟨k, rfl, wpAny_pure ⟨_, rfl, hq⟩⟩ | exact ⟨k, rfl, ⟨_, rfl, hq⟩⟩
  unfold richCompare
  simp only [oneThing_ref]
  refine wpAny_holding (wpAny_bind (wpAny_cRoomFor (Nat.lt_of_succ_lt hu) ?_))
  refine wpAny_bind (I.type.here (wpAny_bind (hb.here ?_)))
  split
  · rename_i q
    have e : subIn K tb (.ref C) = some false := by
      rcases Bool.or_eq_true_iff.mp hn with e | e
      · rw [beq_iff_eq.mp e] at q; simp at q
      · exact beq_iff_eq.mp e
    refine wpAny_bind ((looks_subIn X e).here ?_)
    simp only [Bool.false_eq_true, if_false]
    refine wpAny_bind (wpAny_mono one (fun r s' z => ?_) fun _ _ e => e)
    obtain ⟨v, rfl, hq⟩ := z
    exact wpAny_pure hq
  · refine wpAny_bind (wpAny_pure ?_)
    simp only [Bool.false_eq_true, if_false]
    refine wpAny_bind (wpAny_mono one (fun r s' z => ?_) fun _ _ e => e)
    obtain ⟨v, rfl, hq⟩ := z
    exact wpAny_pure hq
end
end PySem.W
namespace L2
open PySem PySem.Spec PyProof.Rows
section
variable {cl : Nat → OCls} {S : Nat → List OD → Prop} {X : Cx}
theorem rc_flat {A : Around} {s : Shared} {y x : V} {u v : Value} (ry : RelV y u) (rx : RelV x v) (fy : flatV y = true) (fx : flatV x = true) : SeqAt.RcAt A s u v (eqV y x) := by
  cases y with
  | non =>
    cases ry
    cases x with
    | non => cases rx; exact SeqAt.RcAt.none_none
    | bl b => cases rx; exact SeqAt.RcAt.none_bool b
    | int b => obtain ⟨t, rfl⟩ := rx; exact SeqAt.RcAt.none_int b t
    | str b => obtain ⟨t, rfl⟩ := rx; exact SeqAt.RcAt.none_str b t
    | _ => cases fx
  | bl a =>
    cases ry
    cases x with
    | non => cases rx; exact SeqAt.RcAt.bool_none a
    | bl b => cases rx; exact SeqAt.RcAt.bool_bool a b
    | int b => obtain ⟨t, rfl⟩ := rx; exact SeqAt.RcAt.bool_int a b t
    | str b => obtain ⟨t, rfl⟩ := rx; exact SeqAt.RcAt.bool_str a b t
    | _ => cases fx
  | int a =>
    obtain ⟨ta, rfl⟩ := ry
    cases x with
    | non => cases rx; exact SeqAt.RcAt.int_none a ta
    | bl b => cases rx; exact SeqAt.RcAt.int_bool a ta b
    | int b => obtain ⟨t, rfl⟩ := rx; exact SeqAt.RcAt.int_int a ta b t
    | str b => obtain ⟨t, rfl⟩ := rx; exact SeqAt.RcAt.int_str a ta b t
    | _ => cases fx
  | str a =>
    obtain ⟨ta, rfl⟩ := ry
    cases x with
    | non => cases rx; exact SeqAt.RcAt.str_none a ta
    | bl b => cases rx; exact SeqAt.RcAt.str_bool a ta b
    | int b => obtain ⟨t, rfl⟩ := rx; exact SeqAt.RcAt.str_int a ta b t
    | str b => obtain ⟨t, rfl⟩ := rx; exact SeqAt.RcAt.str_str a ta b t
    | _ => cases fx
  | _ => cases fy
theorem rc_flTup {x : V} {u : Value} (h : flatV x = true) (r : RelV x u) {A : Around} {s : Shared} {b : Addr} {items : Array Value} (ht : s.heap.IsTuple b items) (hu : A.units < cLine) : SeqAt.RcAt A s u (.ref b) false ∧ SeqAt.RcAt A s (.ref b) u false := by
  cases x with
  | non => cases r; exact ⟨SeqAt.RcAt.none_tuple ht hu, SeqAt.RcAt.tuple_none ht hu⟩
  | bl b => cases r; exact ⟨SeqAt.RcAt.bool_tuple b ht hu, SeqAt.RcAt.tuple_bool b ht hu⟩
  | int b => obtain ⟨t, rfl⟩ := r; exact ⟨SeqAt.RcAt.int_tuple b t ht hu, SeqAt.RcAt.tuple_int b t ht hu⟩
  | str b => obtain ⟨t, rfl⟩ := r; exact ⟨SeqAt.RcAt.str_tuple b t ht hu, SeqAt.RcAt.tuple_str b t ht hu⟩
  | _ => cases h
/-- == of the two sides, where no list is -/
def noLst : OD → Prop
  | .lst _ => False
  | _ => True
theorem rcOD (W : OwnCls X.K cl S) (G : OwnGives X cl S) : ∀ (d e : OD), noLst d → noLst e → RcOD X cl S d e
  | .fl v, .fl w, _, _ => fun A pins s σ H x y u u' sb I rx ry od oe oD oE => by
    obtain ⟨rfl, h⟩ := od
    obtain ⟨rfl, h'⟩ := oe
    exact rc_flat (A := A) (s := s) rx ry h h' X.prog X.w X.xe _ ⟨rfl, H, I, Ext.rfl'⟩
  | .fl v, .tup ds, _, _ => fun A pins s σ H x y u u' sb I rx ry od oe oD oE => by
    obtain ⟨rfl, h⟩ := od
    obtain ⟨b, ys, rfl, hb, q⟩ := oe
    cases ry
    obtain ⟨its, r, e, z⟩ := I.tuple hb
    rw [eqo_fl_tup]
    exact (rc_flTup h rx e sb.room.units0).1 X.prog X.w X.xe _ ⟨rfl, H, I, Ext.rfl'⟩
  | .tup ds, .fl v, _, _ => fun A pins s σ H x y u u' sb I rx ry oe od oE oD => by
    obtain ⟨rfl, h⟩ := od
    obtain ⟨b, ys, rfl, hb, q⟩ := oe
    cases rx
    obtain ⟨its, r, e, z⟩ := I.tuple hb
    rw [eqo_tup_fl]
    exact (rc_flTup h ry e sb.room.units0).2 X.prog X.w X.xe _ ⟨rfl, H, I, Ext.rfl'⟩
  | .fl v, .obj k ds, _, _ => rc_flObj W G k ds v
  | .tup ds, .obj k es, _, _ => rc_tupObj W G k es ds
  | .obj k es, e, _, _ => rc_obj W G k es e
  | .tup ds, .tup es, _, _ => rcOD_tup (eqODs W G ds es)
  | .lst _, _, h, _ => h.elim
  | .fl _, .lst _, _, h => h.elim
  | .tup _, .lst _, _, h => h.elim
def rEqO (K : PySem.W.Frag) (cl : Nat → OCls) (S : Nat → List OD → Prop) (n : Nat) : R2 := fun x y H Q => ∃ d e, Oh K cl H d x ∧ Oh K cl H e y ∧ okO S d ∧ okO S e ∧ need cl d ≤ n ∧ need cl e ≤ n ∧ noLst d ∧ noLst e ∧ ∀ H', Ext H H' → Q (.bl (eqo d e)) H'
theorem op_eqO (W : OwnCls X.K cl S) (G : OwnGives X cl S) {n : Nat} (hr : Room n X.A) : OpR X (compareOp .Eq) (rEqO X.K cl S n) := by
  intro pins s σ H x y v u Q I rx ry h
  obtain ⟨d, e, hd, he, oD, oE, n1, n2, l1, l2, q⟩ := h
  show wpAny (model X.prog X.w) X.A (richCompare .Eq v u) (EP X pins σ Q) X.xe s
  refine wpAny_mono (rcOD W G d e l1 l2 X.A pins s σ H x y v u ⟨hr.mono (by omega), rfl⟩ I rx ry hd he oD oE) (fun r s' z => ?_) fun _ _ x => x
  obtain ⟨rfl, H', I', e'⟩ := z
  exact ⟨.bl _, H', I', rfl, q H' e'⟩
/-- two lists -/
def rEqOL (K : PySem.W.Frag) (cl : Nat → OCls) (S : Nat → List OD → Prop) (n : Nat) : R2 := fun x y H Q => ∃ ds es, Oh K cl H (.lst ds) x ∧ Oh K cl H (.lst es) y ∧ okAll S ds ∧ okAll S es ∧ needAll cl ds + 1 ≤ n ∧ needAll cl es + 1 ≤ n ∧ ∀ H', Ext H H' → Q (.bl (eqoAll ds es)) H'
theorem op_eqOL (W : OwnCls X.K cl S) (G : OwnGives X cl S) {n : Nat} (hr : Room n X.A) : OpR X (compareOp .Eq) (rEqOL X.K cl S n) := by
  intro pins s σ H x y v u Q I rx ry h
  obtain ⟨ds, es, hd, he, oD, oE, n1, n2, q⟩ := h
  show wpAny (model X.prog X.w) X.A (richCompare .Eq v u) (EP X pins σ Q) X.xe s
  refine wpAny_mono (rcOD_lst (eqODs W G ds es) X.A pins s σ H x y v u ⟨hr.mono (by show max (needAll cl ds + 1) (needAll cl es + 1) ≤ n; omega), rfl⟩ I rx ry hd he oD oE) (fun r s' z => ?_) fun _ _ x => x
  obtain ⟨rfl, H', I', e'⟩ := z
  exact ⟨.bl _, H', I', rfl, q H' e'⟩
/-- != of two tuples -/
def rNeOT (K : PySem.W.Frag) (cl : Nat → OCls) (S : Nat → List OD → Prop) (n : Nat) : R2 := fun x y H Q => ∃ ds es, Oh K cl H (.tup ds) x ∧ Oh K cl H (.tup es) y ∧ okAll S ds ∧ okAll S es ∧ needAll cl ds + 1 ≤ n ∧ needAll cl es + 1 ≤ n ∧ ∀ H', Ext H H' → Q (.bl (!eqoAll ds es)) H'
theorem op_neOT (W : OwnCls X.K cl S) (G : OwnGives X cl S) {n : Nat} (hr : Room n X.A) : OpR X (compareOp .NotEq) (rNeOT X.K cl S n) := by
  intro pins s σ H x y v u Q I rx ry h
  obtain ⟨ds, es, hd, he, oD, oE, n1, n2, q⟩ := h
  obtain ⟨a, xs, rfl, ha, p⟩ := hd
  obtain ⟨b, ys, rfl, hb, q'⟩ := he
  cases rx
  cases ry
  obtain ⟨its, r, e, z⟩ := I.tuple ha
  obtain ⟨its2, r2, e2, z2⟩ := I.tuple hb
  have sb' : Sub X (max (needAll cl ds) (needAll cl es) + 1) X.A := ⟨hr.mono (by omega), rfl⟩
  have z1 : GQ.allEq its.toArray.size its2.toArray.size (pairs ds es) = eqoAll ds es := by
    rw [List.size_toArray, List.size_toArray, ← r.length, ← r2.length, ← OhAll.length ds xs p, ← OhAll.length es ys q']
    exact allEq_eqo ds es _ fun i d c h1 h2 => pairs_eq h1 h2
  show wpAny (model X.prog X.w) X.A (richCompare .NotEq (.ref a) (.ref b)) (EP X pins σ Q) X.xe s
  exact GQ.rc_tupNeB sb'.room.units0 (fun _ s' => LoopI X pins σ H s') e e2 (fun i h1 h2 s' l => turnOD (eqODs W G ds es) sb' p q' oD oE r r2 (pairs ds es) (fun i d c h1 h2 => pairs_eq h1 h2) i h1 h2 s' l)
    (fun i s' l => by rw [z1]; obtain ⟨H', I', e'⟩ := l; exact ⟨.bl _, H', I', rfl, q H' e'⟩) ⟨H, I, Ext.rfl'⟩
/-- what != asks of the class -/
structure NoNe (K : PySem.W.Frag) (C : Addr) : Prop where
  mo : PySem.W.mroIn K C (.type "object") = some true
  ne : PySem.W.findIn K (.ref C) "__ne__" = some (some (.builtin "object.__ne__"))
/-- != of an object with an own == and anything -/
def rNeOO (K : PySem.W.Frag) (cl : Nat → OCls) (S : Nat → List OD → Prop) (n : Nat) : R2 := fun x y H Q => ∃ k ds e, Oh K cl H (.obj k ds) x ∧ Oh K cl H e y ∧ okO S (.obj k ds) ∧ okO S e ∧ (cl k).lv ≤ n ∧ NoNe K (cl k).C ∧ ∀ H', Ext H H' → Q (.bl (!eqo (.obj k ds) e)) H'
theorem op_neOO (W : OwnCls X.K cl S) (G : OwnGives X cl S) {n : Nat} (hr : Room (n + 1) X.A) : OpR X (compareOp .NotEq) (rNeOO X.K cl S n) := by
  intro pins s σ H x y v u Q I rx ry h
  obtain ⟨k, ds, e, hd, he, oD, oE, n1, nn, q⟩ := h
  obtain ⟨a, dx, fs, xs, rfl, hi, hn, hq⟩ := id hd
  cases rx
  obtain ⟨_, O1, _⟩ := ins_get I.hok hi
  obtain ⟨o1, J1, _⟩ := O1.look
  obtain ⟨m, hF⟩ := I.fr
  obtain ⟨tb, L, hn⟩ := ty_looks W I ⟨_, oD.1⟩ ry he oE
  show wpAny (model X.prog X.w) X.A (richCompare .NotEq (.ref a) u) (EP X pins σ Q) X.xe s
  refine PySem.W.ne_K (tb := tb) (by have := hr.un; omega) hF I.ok.mod.kin J1 L hn nn.mo nn.ne (W.eqf k ⟨_, oD.1⟩) (W.isf k ⟨_, oD.1⟩) ?_
  refine wpAny_mono (G k ds oD.1 X.A.in1 pins s σ H a e y u ⟨hr.in1.mono n1, rfl⟩ I ry hd he oD.2 oE) (fun r s' z => ?_) fun _ _ e => e
  obtain ⟨rfl, H', I', e'⟩ := z
  exact ⟨_, rfl, .bl _, H', I', rfl, q H' e'⟩
end
end L2
namespace Kx
open PySem L2 PySem.Spec PyProof.Rows PySem.Froz
/-! sets of texts that can be walked and sorted -/
structure GoodX (P : Program) (w : World) (D : SD) (l : List Str) : Prop where
  tx : TxOk P w D l
  nd : l.Nodup
  ris : Ris D.2.2.place.toList
  led : w.params.followText "set-order" = true ∨ D.2.2.led = true
theorem tailTx_ris {ep : Nat} {es : Array (Int × Value)} {t : SetTable} {b : Bool} (r : Ris t.place.toList) : Ris (tailTx ep es t b).2.2.place.toList := by
  unfold tailTx
  by_cases c : (!b && t.tooFull) = true
  · rw [if_pos c]; exact relayAll_ris _ _ _
  · rw [if_neg c]; exact r
theorem tailTx_led {ep : Nat} {es : Array (Int × Value)} {t : SetTable} {b : Bool} : (tailTx ep es t b).2.2.led = t.led := by
  unfold tailTx
  by_cases c : (!b && t.tooFull) = true
  · rw [if_pos c]; exact relayAll_led _ _ _
  · rw [if_neg c]
theorem off_ris {t : SetTable} (r : Ris t.place.toList) : Ris (if t.plain = true then { t with plain := false } else t).place.toList := by
  by_cases c : t.plain = true
  · rw [if_pos c]; exact r
  · rw [if_neg c]; exact r
theorem off_led {t : SetTable} : (if t.plain = true then { t with plain := false } else t).led = t.led := by
  by_cases c : t.plain = true
  · rw [if_pos c]
  · rw [if_neg c]
theorem addTx_ris {hh : Int} {v : Value} {D : SD} (r : Ris D.2.2.place.toList) : Ris (addTx hh v D).2.2.place.toList := by
  unfold addTx
  exact tailTx_ris (off_ris (layNew_ris _ _ _ _ r))
theorem addTx_led {hh : Int} {v : Value} {D : SD} : (addTx hh v D).2.2.led = D.2.2.led := by
  unfold addTx
  rw [tailTx_led, off_led, layNew_led]
theorem GoodX.add {P : Program} {w : World} {D : SD} {l : List Str} {k : Str} (u : Tok) (G : GoodX P w D l) (hk : k ∉ l) : GoodX P w (addTx (hashStr w k) (.str k u) D) (k :: l) :=
  ⟨add_ok u G.tx, List.nodup_cons.mpr ⟨hk, G.nd⟩, addTx_ris G.ris, G.led.imp id fun z => by rw [addTx_led]; exact z⟩
section
variable {P : Program} {w : World} {A : Around} {E : Value → Shared → Prop} {s : Shared}
theorem add_old {a : Addr} {D : SD} {l : List Str} {k : Str} {u : Tok} {Q : Bool → Shared → Prop} (ho : s.heap.get? a = some (sObj "set" D)) (F : TxOk P w D l) (hk : k ∈ l) (hb : l.length < scanBound)
    (h : Q false s) : wpAny (model P w) A (setAddHashed a (.str k u) (hashStr w k)) Q E s := by
  obtain ⟨es, ep, t⟩ := D
  have hd : (sObj "set" (es, ep, t)).data = .set es ep t := rfl
  have hf : t.fits es.size = true := F.fit
  have he : ElemsOf (strKind P w) es.toList := F.el
  have hz : es.size < scanBound := by rw [show es.size = l.length from F.sz]; exact hb
  unfold setAddHashed setAddHashedIn
  refine wpAny_holding (wpAny_bind (wpAny_setState_of ho hd hf ?_))
  dsimp only
  rw [byScan_of rfl hz he]
  simp only [↓reduceIte]
  unfold setAddByScan
  refine wpAny_bind (wpAny_bind (wpAny_rule (wpAny_bind (wpAny_setScan_of (knd := strKind P w) (k := k) (is_str k u) ho hd hf he ?_))))
  cases hr : List.findIdx? (fun e => (strKind P w).is k e.2) es.toList with
  | some j => exact wpAny_pure (wpAny_pure h)
  | none =>
    obtain ⟨e, hm, q⟩ := (F.mem k).mp hk
    have c := List.findIdx?_eq_none_iff.mp hr e hm
    rw [q] at c
    cases c
end
/-- the set of texts at a: its members, each once -/
def TxAt (P : Program) (w : World) (h : Heap) (a : Addr) (l : List Str) : Prop := ∃ D, h.get? a = some (sObj "set" D) ∧ GoodX P w D l
/-- a text put into a list of texts -/
def put (l : List Str) (k : Str) : List Str := if k ∈ l then l else k :: l
theorem mem_put {l : List Str} {k x : Str} : x ∈ put l k ↔ x ∈ l ∨ x = k := by
  unfold put
  by_cases h : k ∈ l
  · rw [if_pos h]
    exact ⟨.inl, fun z => z.elim id fun e => e ▸ h⟩
  · rw [if_neg h, List.mem_cons]
    exact Or.comm
theorem put_len {l : List Str} {k : Str} : (put l k).length ≤ l.length + 1 := by
  unfold put
  by_cases h : k ∈ l
  · rw [if_pos h]; exact Nat.le_succ _
  · rw [if_neg h]; exact Nat.le_refl _
section
variable {P : Program} {w : World} {A : Around} {E : Value → Shared → Prop} {s : Shared}
theorem txAt_new {h : Heap} : TxAt P w (h.push { cls := .type "set", dict := none, data := .set #[] 0 (.fresh 0 0 (!w.params.followText "set-order")) }) h.objs.size [] :=
  ⟨(#[], 0, .fresh 0 0 (!w.params.followText "set-order")), Heap.get?_push_size _ rfl, TxOk.nil rfl, List.nodup_nil, List.Pairwise.nil, by
    show _ ∨ (!w.params.followText "set-order") = true
    cases w.params.followText "set-order"
    · exact .inr rfl
    · exact .inl rfl⟩
/-- found.add(k) -/
theorem tx_add {a : Addr} {l : List Str} {k : Str} {u : Tok} {Q : Value → Shared → Prop} (R : TxAt P w s.heap a l) (room : l.length + 1 < scanBound)
    (hQ : ∀ h' : Heap, Heap.SameBut a s.heap h' → TxAt P w h' a (put l k) → Q .none { s with heap := h', toks := s.toks + 1 }) :
    wpAny (model P w) A (call (.builtin "set.add") [.ref a, .str k u]) Q E s := by
  obtain ⟨D, ho, G⟩ := R
  have hT : s.TypeIs (.ref a) "set" := ⟨_, ho, rfl⟩
  refine wpAny_call_entry F.slot_set_add hT F.entry_set_add ?_ (F.args_set_add_2 _ _)
  unfold Builtin.«set.add» Builtin.Frozenset.oneOther
  simp only [List.isEmpty_nil, bind_assoc]
  unfold Builtin.Frozenset.addrOf setAdd
  refine wpAny_bind (wpAny_pure ?_)
  try dsimp only
  refine wpAny_bind (wpAny_pure ?_)
  try dsimp only
  refine wpAny_bind (wpAny_holding (wpAny_bind ((strKind P w).pyHash (is_str k u) ?_)))
  by_cases hk : k ∈ l
  · refine add_old (s := { s with toks := s.toks + 1 }) ho G.tx hk (by omega) ?_
    have q := hQ s.heap (Heap.SameBut.refl a s.heap) ⟨D, ho, by unfold put; rw [if_pos hk]; exact G⟩
    show wpAny _ _ (ret Value.none) _ _ _
    exact wpAny_pure ⟨_, rfl, q⟩
  · refine add_x (s := { s with toks := s.toks + 1 }) ho G.tx hk room ?_
    have q := hQ _ (Heap.SameBut.update s.heap a (fun _ => sObj "set" (addTx (hashStr w k) (.str k u) D))) ⟨_, get_upd _ ho rfl, by unfold put; rw [if_neg hk]; exact G.add u hk⟩
    show wpAny _ _ (ret Value.none) _ _ _
    exact wpAny_pure ⟨_, rfl, q⟩
theorem strs_of_kind {l : List Str} {D : SD} (F : TxOk P w D l) : ∀ v ∈ D.1.toList.map (·.2), ∃ x t, v = Value.str x t := fun v hv => by
  obtain ⟨e, he, rfl⟩ := List.mem_map.mp hv
  obtain ⟨⟨k, h1, _⟩, _⟩ := F.el e he
  obtain ⟨t, z⟩ := Value.isStrOf_shape (x := k) (v := e.2) h1
  exact ⟨k, t, z⟩
def txt : Value → Str
  | .str x _ => x
  | _ => ⟨#[]⟩
theorem strsAre_txt : ∀ {vs : List Value}, (∀ v ∈ vs, ∃ x t, v = Value.str x t) → StrsAre vs (vs.map txt)
  | [], _ => .nil
  | v :: vs, h => by
    obtain ⟨x, t, rfl⟩ := h v List.mem_cons_self
    exact .cons x t (strsAre_txt fun u hu => h u (List.mem_cons_of_mem _ hu))
theorem perm_of_sub : ∀ {l m : List Str}, l.Nodup → (∀ x ∈ l, x ∈ m) → m.length = l.length → m.Perm l
  | [], m, _, _, h => by
    rw [List.eq_nil_of_length_eq_zero h]
  | x :: l, m, nd, sub, h => by
    obtain ⟨n1, n2⟩ := List.nodup_cons.mp nd
    have hx : x ∈ m := sub x List.mem_cons_self
    have p := List.perm_cons_erase hx
    have hl : (m.erase x).length = l.length := by
      have q := p.length_eq
      rw [List.length_cons] at q h
      omega
    refine p.trans (List.Perm.cons x (perm_of_sub n2 (fun y hy => ?_) hl))
    have ne : y ≠ x := fun e => n1 (e ▸ hy)
    exact (List.mem_erase_of_ne ne).mpr (sub y (List.mem_cons_of_mem _ hy))
/-- sorted(found), fewer than 64 members -/
theorem tx_sorted {a : Addr} {l : List Str} {Q : Value → Shared → Prop} (R : TxAt P w s.heap a l) (hh : A.handled = none) (h64 : l.length < 64)
    (hQ : ∀ (s' : Shared) (p : Addr) (out : Array Value) (c : Nat) (ys : List Str), (∀ b o, s.heap.get? b = some o → s'.heap.get? b = some o) → s'.gens = s.gens → s'.os = s.os → s.heap.objs.size ≤ p →
      s'.heap.get? p = some (seqObj "list" out c) → StrsAre out.toList ys → sortedS ys = true → ys.Perm l → Q (.ref p) s') :
    wpAny (model P w) A (call (.builtin "sorted") [.ref a]) Q E s := by
  obtain ⟨⟨es, ep, t⟩, ho, G⟩ := R
  have hz : es.size = l.length := G.tx.sz
  have lim : scanBound > 64 := by decide
  refine Calls.call_function_entry kind_sorted plain_sorted entry_sorted (args_sorted1 _) ?_
  unfold Builtin.«sorted»
  refine wpAny_bind (m := checkCount "sorted" 1 1 _) (wpAny_pure ?_)
  refine wpAny_bind (collect_set (A := A.in1) hh ⟨_, ho, rfl, rfl⟩ G.tx.fit (by show es.size < _; omega) G.ris G.led fun s1 vs k1 z1 g1 o1 pm => ?_)
  have pm' : vs.Perm (es.toList.map (·.2)) := pm
  have hvl : vs.length = l.length := by rw [pm'.length_eq, List.length_map, Array.length_toList]; exact hz
  have hstr : ∀ v ∈ vs, ∃ x t, v = Value.str x t := fun v hv => strs_of_kind G.tx v (pm'.mem_iff.mp hv)
  have hS := strsAre_txt hstr
  have hperm : (vs.map txt).Perm l := (pm'.map txt).trans <| perm_of_sub G.nd (fun x hx => by
      obtain ⟨e, he, q⟩ := (G.tx.mem x).mp hx
      obtain ⟨t', z⟩ := Value.isStrOf_shape (x := x) (v := e.2) q
      exact List.mem_map.mpr ⟨e.2, List.mem_map.mpr ⟨e, he, rfl⟩, by rw [z]; rfl⟩) (by rw [List.length_map, List.length_map, Array.length_toList]; exact hz)
  refine wpAny_bind (wpAny_newList ?_ (by rw [hvl, sizeLine_eq]; omega))
  have hoL : (s1.heap.push (seqObj "list" vs.toArray 0)).get? s1.heap.objs.size = some (seqObj "list" vs.toArray 0) := Heap.get?_push_size _ rfl
  refine wpAny_bind (wpAny_holding (wpAny_call_entry slot_list_sort ⟨_, hoL, rfl⟩ entry_list_sort
    (list_sort_treeK strKind_oneLt hoL hS.keysOf (fun v₁ v₂ rest e => keyKind_strs (by rw [← e]; exact hS)) (by rw [hvl]; exact h64) fun st' a1 a2 => ⟨_, rfl, ?_⟩) (args_list_sort _)))
  obtain ⟨ys, b1, b2, b3⟩ := sorted_out_str hS a1 a2
  obtain ⟨c, hc⟩ := sortedHeap_at (vs := vs) (out := (arrOf st').map (·.2)) hoL
  refine wpAny_pure ⟨_, rfl, hQ _ s1.heap.objs.size _ c ys (fun b u e => ?_) g1 o1 z1 hc b1 b3 (b2.trans hperm)⟩
  have q := k1 b u e
  have hlt := Heap.lt_size q
  show (sortedHeap (s1.heap.push (seqObj "list" vs.toArray 0)) s1.heap.objs.size vs _).get? b = some u
  rw [sortedHeap_old (Nat.ne_of_lt hlt) (by rw [size_push']; exact Nat.lt_succ_of_lt hlt)]
  exact Heap.get?_push_of_some _ q
end
/-! ### as tracked things -/
def SetX (P : Program) (w : World) (a : Addr) (l : List Str) : HO := .ext fun h => TxAt P w h a l
theorem setX_new {w : World} {P : Program} {H : Hp} {h : Heap} {a : Addr} {l : List Str} (R : TxAt P w h a l) : ObjOk P w H h a (SetX P w a l) := by
  obtain ⟨D, ho, G⟩ := R
  exact ⟨⟨D, ho, G⟩, ⟨_, ho⟩, fun h1 h2 p k => let ⟨D', ho', G'⟩ := p; ⟨D', k _ ho', G'⟩⟩
section
variable {X : Cx}
theorem setX_get {pins : List (Addr × Obj)} {σ : L2.St} {H : Hp} {s : Shared} {a : Addr} {l : List Str} (I : Inv X pins σ H s) (ha : H a = some (SetX X.prog X.w a l)) : TxAt X.prog X.w s.heap a l := (I.hok a _ ha).1
theorem addX_ok {pins : List (Addr × Obj)} {σ : L2.St} {H : Hp} {s : Shared} {E : Value → Shared → Prop} {D : Addr} {l : List Str} {k : Str} {u : Tok} {Q : Value → Shared → Prop} (I : Inv X pins σ H s) (hD : H D = some (SetX X.prog X.w D l)) (room : l.length + 1 < scanBound)
    (h : ∀ s', Inv X pins σ (upd H D (SetX X.prog X.w D (put l k))) s' → Q .none s') : wpAny (model X.prog X.w) X.A (call (.builtin "set.add") [.ref D, .str k u]) Q E s := by
  refine tx_add (setX_get I hD) room fun h' sb new => ?_
  have he : ∃ u, h'.get? D = some u := let ⟨_, ho, _⟩ := new; ⟨_, ho⟩
  exact h _ (I.write (e := D) (t' := s.toks + 1) (by rw [hD]; trivial) (.inl rfl) (fun b u hb hu => (sb.2 b hb).trans hu) he (setX_new new))
def rSortedX (P : Program) (w : World) : List V → Hp → VK → Prop := fun vs H Q => ∃ (a : Addr) (l : List Str), vs = [V.ref a] ∧ H a = some (SetX P w a l) ∧ l.length < 64 ∧
  ∀ (ys : List Str) (p : Addr), sortedS ys = true → ys.Perm l → H p = none → Q (.ref p) (upd H p (.lst (ys.map V.str)))
theorem cr_sortedX (hc : X.calm = true) : CallR X (.builtin "sorted") (rSortedX X.prog X.w) := by
  intro pins s σ H vs us Q I r h
  obtain ⟨a, l, rfl, ha, h64, q⟩ := h
  rw [Vals.ref1 r]
  refine tx_sorted (setX_get I ha) (I.ok.hd hc) h64 fun s' p out c ys k g o hp hg hi hs hl => ?_
  have hlen : (ys.map V.str).length ≤ sizeLine := by rw [List.length_map, hl.length_eq, sizeLine_eq]; omega
  have hn : H p = none := I.hok.fresh hp
  have J : Inv X pins σ (upd H p (.lst (ys.map V.str))) { s with heap := s'.heap, gens := s'.gens, drawn := s'.drawn, toks := s'.toks } :=
    I.call (ch := []) (Un.laid k hp hn) (I.hok.laid k hp ⟨hlen, out.toList, c, vals_of_strs hi, hg⟩) (by rw [g]; exact I.bare) (fun _ z => nomatch z)
  have e : s' = { s with heap := s'.heap, gens := s'.gens, drawn := s'.drawn, toks := s'.toks } := by
    cases s'; cases s; cases o; rfl
  rw [e]
  exact ⟨.ref p, _, J, rfl, q ys p hs hl hn⟩
end
end Kx
namespace Kx
open PySem L2 PySem.Spec PyProof.Rows PpSet
/-! set comprehensions of texts, with several clauses -/
/-- one turn of a clause, whatever is done with an element that passes -/
def turnOf (tg : Expr) (pos : Pos) (ifs : List Expr) (body : Sem Unit) (c : Expr) (j : Nat) (it acc : Value) (env : Env) : Sem Fin := do
  standAt pos
  match ← pyNext it with
  | none => pure (.done .next)
  | some v =>
    letOwnedTupleGo tg it v
    assign tg env v
    let mut ok := true
    for c in ifs do
      if ok then ok ← isTrue c env (eval c env)
    if ok then body
    again (.compLoop c j it acc env)
abbrev testsOf (ifs : List Expr) (env : Env) : Sem Bool := forIn ifs true fun c r => if r = true then do let ok ← isTrue c env (eval c env); pure (ForInStep.yield ok) else pure (ForInStep.yield r)
section
variable {P : Program} {w : World} {A : Around} {R : Result → Shared → Prop} {s : Shared} {elt tg : Expr} {gs : List Comprehension} {scope : Scope} {cp : Pos} {j : Nat} {ifs : List Expr} {pos : Pos} {it acc : Value} {env : Env} {body : Sem Unit}
abbrev NoE : Value → Shared → Prop := fun _ _ => False
theorem loop_gen (hturn : compTurn (.SetComp elt gs scope cp) j it acc env = turnOf tg pos ifs body (.SetComp elt gs scope cp) j it acc env) (I : Nat → Shared → Prop)
    (turn : ∀ n s, I n s → wpAny (model P w) A (pyNext it) (fun r s1 => match r with
      | none => R (.ok .next) s1
      | some v => wpAny (model P w) A (letOwnedTupleGo tg it v) (fun _ s2 => wpAny (model P w) A (assign tg env v) (fun _ s3 => wpAny (model P w) A (testsOf ifs env) (fun ok s4 =>
          if ok = true then wpAny (model P w) A body (fun _ s5 => ∃ m, m < n ∧ I m s5) NoE s4 else ∃ m, m < n ∧ I m s4) NoE s3) NoE s2) NoE s1) NoE s)
    (n : Nat) (h : I n s) : codeAny (model P w) A (.compLoop (.SetComp elt gs scope cp) j it acc env) R s := by
  refine codeAny_loop rfl I (fun n s hI => ?_) n h
  show wpAny _ A ((compTurn (.SetComp elt gs scope cp) j it acc env).onRaise (fun x => do noteFrame x env; theTreesLotGoes x)) _ _ s
  refine wpAny_noted ?_
  rw [hturn]
  unfold turnOf
  refine wpAny_bind (wpAny_standAt (wpAny_bind (thnF (turn n s hI) fun r s1 h1 => ?_)))
  cases r with
  | none => exact wpAny_pure h1
  | some v =>
    refine wpAny_bind (thnF h1 fun _ s2 h2 => ?_)
    refine wpAny_bind (thnF h2 fun _ s3 h3 => wpAny_bind (thnF h3 fun ok s4 h4 => ?_))
    cases ok with
    | false => exact wpAny_pure ⟨rfl, h4⟩
    | true => exact wpAny_bind (thnF h4 fun _ s5 h5 => wpAny_pure ⟨rfl, h5⟩)
end
abbrev TB := L2.St → Hp → (Hp → Prop) → Prop
/-- what is done with an element, in a block -/
structure PB (Y : Cx) (body : Sem Unit) (vs : List Nat) (tb : TB) : Prop where
  run : ∀ (pins : List (Addr × Obj)) (s : Shared) (σ : L2.St) (H : Hp) (Q : Hp → Prop), Inv Y pins σ H s → tb σ H Q → wpAny (model Y.prog Y.w) Y.A body (fun _ s' => ∃ H', Inv Y pins (wipe σ vs) H' s' ∧ Q H') NoE s
def tElt (P : Program) (w : World) (te : TE) (D : Addr) : TB := fun σ H Q => te σ H fun y H1 => ∃ (l : List Str) (k : Str), y = .str k ∧ H1 D = some (SetX P w D l) ∧ l.length + 1 < scanBound ∧ Q (upd H1 D (SetX P w D (put l k)))
def tNest (wi : TI) (g : TG) (tt : TT) (tb : TB) (vs : List Nat) : TB := fun σ H Q => wi σ H fun J H1 => ∃ W : Nat → Nat → Hp → Prop, (∃ m, W 0 m H1) ∧ ∀ i m H, W i m H →
  (J.stop i H ∧ Q H) ∨ (J.go i H ∧ ∃ Nx : Hp → Prop, (∀ H', Nx H' → ∃ m', m' < m ∧ W (i + 1) m' H') ∧ ∀ x H', J.yld i H x H' → g x (wipe σ vs) H' fun σ2 H2 => wipe σ2 vs = wipe σ vs ∧ tt σ2 H2 fun b H3 => if b = true then tb σ2 H3 Nx else Nx H3)
section
variable {Y : Cx} {elt tg iter ee : Expr} {gs : List Comprehension} {scope : Scope} {cp : Pos} {ifs : List Expr} {te : TE} {D : Addr} {wi : TI} {g : TG} {tt : TT} {tb : TB} {vs vs' : List Nat} {j : Nat} {acc : Value} {body : Sem Unit}
theorem pb_elt (hx : Y.xe = NoE) (he : PE Y elt te) : PB Y (do let v ← eval elt Y.env; standAt elt.pos; let _ ← call (.builtin "set.add") [.ref D, v]) [] (tElt Y.prog Y.w te D) := by
  refine ⟨fun pins s σ H Q I h => ?_⟩
  have z := he.run pins s σ H _ I h
  rw [hx] at z
  refine wpAny_bind (thnF z fun u s1 ⟨y, H1, I1, r, l, k, e, hD, room, q⟩ => wpAny_bind (wpAny_standAt ?_))
  subst e
  obtain ⟨t, rfl⟩ := r
  exact wpAny_bind (addX_ok I1 hD room fun s2 I2 => wpAny_pure ⟨_, I2, q⟩)
/-- a further clause's start -/
def StartOk (c : Expr) (j : Nat) (acc : Value) (env : Env) : Prop := ∀ (P : Program) (w : World) (A : Around) (R : Result → Shared → Prop) (s : Shared) (it : Value), codeAny (model P w) A (.compLoop c j it acc env) R s →
  (∀ E, wpAny (model P w) A (pyIter it) (fun it' s' => codeAny (model P w) A (.compLoop c j it' acc env) R s') E s) → codeAny (model P w) A (.compStart c j it acc env) R s
theorem pb_nest (sub : ∀ i ∈ vs', i ∈ vs) (hc : Y.calm = true) (hx : Y.xe = NoE) (hi : PI Y tg iter wi) (hg : PG Y tg g) (ht : PTs Y ifs tt) (hb : PB Y body vs' tb) (hs : ∀ x, foldedSetIterable iter Y.env x = pure x)
    (hturn : ∀ it, compTurn (.SetComp ee gs scope cp) j (.ref it) acc Y.env = turnOf tg iter.pos ifs body (.SetComp ee gs scope cp) j (.ref it) acc Y.env) (hst : StartOk (.SetComp ee gs scope cp) j acc Y.env) :
    PB Y (do let x ← eval iter Y.env; standAt iter.pos; let x ← foldedSetIterable iter Y.env x; let _ ← runOwn (.compStart (.SetComp ee gs scope cp) j (← holding [x] (pyIter x)) acc Y.env) Y.env) vs (tNest wi g tt tb vs) := by
  refine ⟨fun pins s σ H Q I h => ?_⟩
  have z := hi.run pins s σ H _ I h
  rw [hx] at z
  refine wpAny_bind (thnF z fun xv s1 hv => ?_)
  refine wpAny_bind (wpAny_standAt (wpAny_bind (wpAny_of_eq (hs xv) (wpAny_bind (wpAny_holding (thnF hv fun itv s2 h2 => ?_))))))
  obtain ⟨it, fp, tn, J, H1, e, I1, T, st, fo, W, ⟨m0, w0⟩, turn⟩ := h2
  subst e
  refine wpAny_bind (wpAny_runOwn ?_)
  rw [Around.mark_none]
  have stat : ∀ {H' : Hp}, (∀ b ∈ fp, H' b = none) → ∀ b ∈ fp, FpOk Y pins H' b := fun hn b hb => ⟨hn b hb, (fo b hb).2⟩
  have loop : codeAny (model Y.prog Y.w) Y.A (.compLoop (.SetComp ee gs scope cp) j (.ref it) acc Y.env) (fun r s' => match r with
      | .ok _ => ∃ H', Inv Y pins (wipe σ vs) H' s' ∧ Q H'
      | .error _ => False) s2 := by
    refine loop_gen (hturn it) (fun k s' => ∃ i H', Inv Y pins (wipe σ vs) H' s' ∧ tn i s'.heap ∧ (∀ b ∈ fp, H' b = none) ∧ W i k H') ?_ m0 ⟨0, H1, I1.weak (wipe_length _ _) (fun j v e => (wipe_some e).1), st, fun b hb => (fo b hb).1, w0⟩
    rintro k s3 ⟨i, H3, I3, st3, n3, w3⟩
    rcases turn i k H3 w3 with ⟨stop, q⟩ | ⟨go, Nx, hNx, step⟩
    · refine thnF (T.done Y rfl rfl rfl hc i _ s3 (wipe σ vs) H3 NoE I3 (stat n3) st3 stop) fun r s4 ⟨hr, I4⟩ => ?_
      subst hr
      exact ⟨H3, I4, q⟩
    · refine thnF (T.item Y rfl rfl rfl hc i _ s3 (wipe σ vs) H3 NoE I3 (stat n3) st3 go) fun r s4 ⟨u, hr, h4⟩ => ?_
      subst hr
      refine thnF h4 fun _ s5 ⟨x, H5, I5, r5, y5, st5, n5⟩ => ?_
      have I5' := I5.pinned (stat n5) (T.obj _ _ st5)
      have z6 := hg.run _ s5 (wipe σ vs) H5 x u _ I5' r5 (step x H5 y5)
      rw [hx] at z6
      refine thnF z6 fun _ s6 ⟨σ6, H6, I6, hw, q6⟩ => ?_
      have z7 := ht.run _ s6 σ6 H6 _ I6 q6
      rw [hx] at z7
      refine thnF z7 fun b s7 ⟨H7, I7, q7⟩ => ?_
      have fin : ∀ {vs1 : List Nat} {s' : Shared} {H' : Hp}, (∀ i ∈ vs1, i ∈ vs) → Inv Y (pins ++ pinsAt fp s5.heap) (wipe σ6 vs1) H' s' → Nx H' → ∃ m, m < k ∧ ∃ i H', Inv Y pins (wipe σ vs) H' s' ∧ tn i s'.heap ∧ (∀ b ∈ fp, H' b = none) ∧ W i m H' := fun {vs1 s' H'} hv I' nx => by
        obtain ⟨m', hm, w'⟩ := hNx H' nx
        have pin' : ∀ b ∈ fp, ∀ o, s5.heap.get? b = some o → s'.heap.get? b = some o ∧ H' b = none := fun b hb o e =>
          let z := I'.pin (b, o) (List.mem_append_right _ (List.mem_append_right _ (mem_pinsAt hb e)))
          ⟨z.1, z.2.1⟩
        refine ⟨m', hm, i + 1, H', I'.unpinned.weak (by rw [← hw, wipe_length, wipe_length]) (fun j v e => ?_), T.keep _ _ _ st5 fun b hb o e => (pin' b hb o e).1, fun b hb => ?_, w'⟩
        · rw [← hw] at e
          obtain ⟨e1, e2⟩ := wipe_some e
          rw [wipe_out fun z => e2 (hv j z)]
          exact e1
        · obtain ⟨o, e, _⟩ := T.obj _ _ st5 b hb
          exact (pin' b hb o e).2
      cases b with
      | false =>
        simp only [Bool.false_eq_true, if_false] at q7 ⊢
        exact fin (vs1 := []) (fun i z => nomatch z) I7 q7
      | true =>
        simp only [if_true] at q7 ⊢
        exact thnF (hb.run _ s7 σ6 H7 _ I7 q7) fun _ s8 ⟨H8, I8, q8⟩ => fin sub I8 q8
  refine codeAny_mono (hst _ _ _ _ _ _ loop fun E => T.self Y.A 0 _ _ _ st loop) fun r s' hr => ?_
  cases r with
  | ok f =>
    first
      | exact wpAny_pure hr
      | exact wpAny_bind (wpAny_pure (wpAny_pure hr))
  | error e => exact hr.elim
end
end Kx
namespace Kx
open PySem L2 PySem.Spec PyProof.Rows PpSet
def tScN (P : Program) (w : World) (wi : TI) (g : TG) (tt : TT) (tb : Addr → TB) (vs : List Nat) : TE := fun σ H Q => wi σ H fun J H1 => ∀ D, H1 D = none → ∃ W : Nat → Nat → Hp → Prop, (∃ m, W 0 m (upd H1 D (SetX P w D []))) ∧ ∀ i m H, W i m H →
  (J.stop i H ∧ Q (.ref D) H) ∨ (J.go i H ∧ ∃ Nx : Hp → Prop, (∀ H', Nx H' → ∃ m', m' < m ∧ W (i + 1) m' H') ∧ ∀ x H', J.yld i H x H' → g x (wipe σ vs) H' fun σ2 H2 => wipe σ2 vs = wipe σ vs ∧ tt σ2 H2 fun b H3 => if b = true then tb D σ2 H3 Nx else Nx H3)
section
variable {X : Cx} {elt tg iter : Expr} {ifs : List Expr} {gs : List Comprehension} {scope : Scope} {own : List (PySem.Str × Nat)} {cp : Pos} {wi : TI} {g : TG} {tt : TT} {tb : Addr → TB} {body : Addr → Env → Sem Unit} {vs' : List Nat}
theorem pe_scN (hc : X.calm = true) (hN : X.N.Nodup) (hi : PI X tg iter wi) (ok : BlkOk X.N X.env.scope scope own) (sub : ∀ i ∈ vs', i ∈ own.map (·.2))
    (hg : ∀ (s : Shared) (H : Hp) (C : Addr) (cl : List (PySem.Str × Addr)) (fp : List Addr), PG (X.blk s H scope (compEnvC scope cl C X.env) fp) tg g)
    (ht : ∀ (s : Shared) (H : Hp) (C : Addr) (cl : List (PySem.Str × Addr)) (fp : List Addr), PTs (X.blk s H scope (compEnvC scope cl C X.env) fp) ifs tt)
    (hb : ∀ (s : Shared) (H : Hp) (C : Addr) (cl : List (PySem.Str × Addr)) (fp : List Addr) (D : Addr), PB (X.blk s H scope (compEnvC scope cl C X.env) fp) (body D (compEnvC scope cl C X.env)) vs' (tb D))
    (hturn : ∀ it D env, compTurn (.SetComp elt (⟨tg, iter, ifs, 0⟩ :: gs) scope cp) 0 (.ref it) (.ref D) env = turnOf tg iter.pos ifs (body D env) (.SetComp elt (⟨tg, iter, ifs, 0⟩ :: gs) scope cp) 0 (.ref it) (.ref D) env)
    (hs : ∀ x, foldedSetIterable iter X.env x = pure x := by intro _; rfl) : PE X (.SetComp elt (⟨tg, iter, ifs, 0⟩ :: gs) scope cp) (tScN X.prog X.w wi g tt tb (own.map (·.2))) := by
  refine ⟨fun pins s σ H Q I h => ?_⟩
  rw [eval_SetComp]
  have fr : ∀ y ∈ scope.names, y.2 = .free → ∃ c, X.env.cells.lookup y.1 = some c := fun y hy e => I.ok.has _ (ok.free y hy e)
  refine wpAny_comprehension_free (use := none) rfl hs (closure_ok fr) ok.kind (fun y hy e => by rw [ok.uniq y hy, e]) (thn (hi.run pins s σ H _ I h) fun xv sa hx => thn hx fun itv sb hb' => ?_)
  obtain ⟨it, fp, tn, J, Hb, e, Ib, T, stb, fb, q⟩ := hb'
  subst e
  refine newSet_ok (newEnv_comp ?_)
  obtain ⟨D, hD⟩ : ∃ D, sb.heap.objs.size = D := ⟨_, rfl⟩
  have hDn : Hb D = none := Ib.hok.fresh (Nat.le_of_eq hD)
  obtain ⟨W, ⟨m0, w0⟩, turn⟩ := q D hDn
  obtain ⟨sc, hsc⟩ : ∃ sc : Shared, ({ sb with heap := sb.heap.push { cls := .type "set", dict := none, data := .set #[] 0 (.fresh 0 0 (!X.w.params.followText "set-order")) } } : Shared) = sc := ⟨_, rfl⟩
  have hch : sc.heap = sb.heap.push { cls := .type "set", dict := none, data := .set #[] 0 (.fresh 0 0 (!X.w.params.followText "set-order")) } := by rw [← hsc]
  have Ic : Inv X pins σ (upd Hb D (SetX X.prog X.w D [])) sc := by
    rw [← hsc]
    refine Ib.laid (t' := sb.toks) (fun b o z => Heap.get?_push_of_some _ z) (Nat.le_of_eq hD) ?_
    rw [← hD]
    exact setX_new txAt_new
  have lt : ∀ b ∈ fp, b < sb.heap.objs.size := fun b hb => let ⟨o, z, _⟩ := T.obj _ _ stb b hb; Heap.lt_size z
  have fc : ∀ b ∈ fp, FpOk X pins (upd Hb D (SetX X.prog X.w D [])) b ∧ b < sc.heap.objs.size := fun b hb =>
    ⟨⟨by rw [upd_ne (by rw [← hD]; exact Nat.ne_of_lt (lt b hb))]; exact (fb b hb).1, (fb b hb).2⟩, by rw [hch, Heap.size_push]; exact Nat.lt_succ_of_lt (lt b hb)⟩
  have stc : tn 0 sc.heap := T.keep _ _ _ stb fun b _ o z => by rw [hch]; exact Heap.get?_push_of_some _ z
  have Id0 := block_start Ic ok hN fc
  rw [hD]
  have pg := hg sc (upd Hb D (SetX X.prog X.w D [])) sc.heap.objs.size (cellsFrom (sc.heap.objs.size + 1) scope.names (cloFrom X.env.cells scope.names [])) fp
  have pt := ht sc (upd Hb D (SetX X.prog X.w D [])) sc.heap.objs.size (cellsFrom (sc.heap.objs.size + 1) scope.names (cloFrom X.env.cells scope.names [])) fp
  have pb := hb sc (upd Hb D (SetX X.prog X.w D [])) sc.heap.objs.size (cellsFrom (sc.heap.objs.size + 1) scope.names (cloFrom X.env.cells scope.names [])) fp D
  rw [show ({ sb with heap := sb.heap.push { cls := .type "set", dict := none, data := .set #[] 0 (.fresh 0 0 (!X.w.params.followText "set-order")) } } : Shared) = sc from hsc]
  obtain ⟨ce, hce⟩ : ∃ ce, compEnvC scope (cellsFrom (sc.heap.objs.size + 1) scope.names (cloFrom X.env.cells scope.names [])) sc.heap.objs.size X.env = ce := ⟨_, rfl⟩
  have cL : ce.locals = sc.heap.objs.size := by rw [← hce] <;> rfl
  obtain ⟨Hc, hHc⟩ : ∃ Hc, upd Hb D (SetX X.prog X.w D []) = Hc := ⟨_, rfl⟩
  obtain ⟨sd, hsd⟩ : ∃ sd : Shared, ({ sc with heap := pushCells (sc.heap.push { cls := .type "dict", data := .dict #[] }) scope.names } : Shared) = sd := ⟨_, rfl⟩
  have kd : ∀ b o, sc.heap.get? b = some o → sd.heap.get? b = some o := fun b o z => by rw [← hsd]; exact pushCells_keeps _ _ _ _ (Heap.get?_push_of_some _ z)
  rw [hce] at Id0 pg pt pb
  rw [hHc] at Id0 pg pt pb w0 Ic fc
  rw [hsd] at Id0
  have std : tn 0 sd.heap := T.keep _ _ _ stc fun b _ o z => kd b o z
  have stat : ∀ {σ' : L2.St} {H' : Hp} {s' : Shared}, Inv (X.blk sc Hc scope ce fp) [] σ' H' s' → (∀ b ∈ fp, H' b = none) → ∀ b ∈ fp, FpOk (X.blk sc Hc scope ce fp) [] H' b := fun {σ' H' s'} I' hn b hb =>
    ⟨hn b hb, (I'.ok.exf b hb).1, I'.ok.exfs b hb, .inl hb, fun x c z => (I'.ok.exf b hb).2 x c z, fun p hp => absurd (show p ∈ ([] : List (Addr × Obj)) ++ [] from hp) (by simp)⟩
  have loop : codeAny (model X.prog X.w) X.A (.compLoop (.SetComp elt (⟨tg, iter, ifs, 0⟩ :: gs) scope cp) 0 (.ref it) (.ref D) ce) (compPost (model X.prog X.w) X.A X.xe none (EP X pins σ Q) (.ref D) sc.heap.objs.size) sd := by
    refine loop_gen (hturn it D ce) (fun n s' => ∃ i H', Inv (X.blk sc Hc scope ce fp) [] (wipe σ (own.map (·.2))) H' s' ∧ tn i s'.heap ∧ (∀ b ∈ fp, H' b = none) ∧ W i n H') ?_ m0 ⟨0, Hc, Id0, std, fun b hb => (fc b hb).1.1, w0⟩
    rintro n s5 ⟨i, H5, I5, st5, n5, w5⟩
    rcases turn i n H5 w5 with ⟨stop, qq⟩ | ⟨go, Nx, hNx, step⟩
    · refine thnF (T.done (X.blk sc Hc scope ce fp) rfl rfl rfl hc i [] s5 _ H5 NoE I5 (stat I5 n5) st5 stop) fun r s6 ⟨hr, I6⟩ => ?_
      subst hr
      have I7 : Inv X pins σ H5 s6 := Ic.call' (ch := fp) I6.os I6.base I6.hok I6.bare fun b hb => ⟨(fc b hb).1.2.2.2.1, (fc b hb).1.2.1, (fc b hb).1.2.2.2.2.1, (fc b hb).1.2.2.2.2.2⟩
      have nC : H5 sc.heap.objs.size = none := by
        have z : H5 ce.locals = none := I6.free
        rw [cL] at z
        exact z
      obtain ⟨m, hn, _⟩ := I6.loc
      have hn : s6.heap.Ns ce.locals m := hn
      rw [cL] at hn
      obtain ⟨f0, f1, f2, f3, f4, f5⟩ := Ic.fpOk (Nat.le_refl _) nC
      exact ⟨m, hn, fun h'' sb' => ⟨.ref D, H5, I7.turned (t' := s6.toks) (fun b o hb z => (sb'.2 b hb).trans z) f0 f1 f3 f4 f5, rfl, qq⟩⟩
    · refine thnF (T.item (X.blk sc Hc scope ce fp) rfl rfl rfl hc i [] s5 _ H5 NoE I5 (stat I5 n5) st5 go) fun r s6 ⟨u, hr, h6⟩ => ?_
      subst hr
      refine thnF h6 fun _ s7 ⟨x, H7, I7, r7, y7, st7, n7⟩ => ?_
      have J7 := I7.pinned (stat I7 n7) (T.obj _ _ st7)
      refine thnF (pg.run _ s7 _ H7 x u _ J7 r7 (step x H7 y7)) fun _ s8 ⟨σ8, H8, I8, hw8, q8⟩ => ?_
      refine thnF (pt.run _ s8 σ8 H8 _ I8 q8) fun b s9 ⟨H9, I9, q9⟩ => ?_
      have fin : ∀ {vs1 : List Nat} {s' : Shared} {H' : Hp}, (∀ i ∈ vs1, i ∈ own.map (·.2)) → Inv (X.blk sc Hc scope ce fp) ([] ++ pinsAt fp s7.heap) (wipe σ8 vs1) H' s' → Nx H' → ∃ m, m < n ∧ ∃ i H', Inv (X.blk sc Hc scope ce fp) [] (wipe σ (own.map (·.2))) H' s' ∧ tn i s'.heap ∧ (∀ b ∈ fp, H' b = none) ∧ W i m H' := fun {vs1 s' H'} hv I' nx => by
        obtain ⟨m', hm, w'⟩ := hNx H' nx
        have pin' : ∀ b ∈ fp, ∀ o, s7.heap.get? b = some o → s'.heap.get? b = some o ∧ H' b = none := fun b hb o z =>
          let k := I'.pin (b, o) (List.mem_append_right _ (List.mem_append_right _ (mem_pinsAt hb z)))
          ⟨k.1, k.2.1⟩
        refine ⟨m', hm, i + 1, H', (I'.unpinned (pins := [])).weak (by rw [← hw8, wipe_length, wipe_length]) (fun j v z => ?_), T.keep _ _ _ st7 fun b hb o z => (pin' b hb o z).1, fun b hb => ?_, w'⟩
        · rw [← hw8] at z
          obtain ⟨e1, e2⟩ := wipe_some z
          rw [wipe_out fun k => e2 (hv j k)]
          exact e1
        · obtain ⟨o, z, _⟩ := T.obj _ _ st7 b hb
          exact (pin' b hb o z).2
      cases b with
      | false =>
        simp only [Bool.false_eq_true, if_false] at q9 ⊢
        exact fin (vs1 := []) (fun i z => nomatch z) I9 q9
      | true =>
        simp only [if_true] at q9 ⊢
        exact thnF (pb.run _ s9 σ8 H9 _ I9 q9) fun _ s10 ⟨H10, I10, q10⟩ => fin sub I10 q10
  rw [← hce] at loop
  rw [← hsd] at loop
  exact codeAny_compStart_set loop (T.self X.A 0 _ _ _ (by rw [hsd]; exact std) loop)
end
/-! three clauses -/
section
variable {elt t0 i0 t1 i1 t2 i2 : Expr} {f0 f1 f2 : List Expr} {scope : Scope} {cp : Pos}
theorem start1 (acc : Value) (env : Env) : StartOk (.SetComp elt [⟨t0, i0, f0, 0⟩, ⟨t1, i1, f1, 0⟩, ⟨t2, i2, f2, 0⟩] scope cp) 1 acc env := by
  intro P w A R s it h0 h
  refine codeAny_of_tree ?_
  show wpAny _ _ ((compStart (.SetComp elt [⟨t0, i0, f0, 0⟩, ⟨t1, i1, f1, 0⟩, ⟨t2, i2, f2, 0⟩] scope cp) 1 it acc env).onRaise (fun x => do noteFrame x env; standAt theWindowsPlace)) _ _ s
  refine wpAny_notedAt ?_
  unfold compStart
  show wpAny _ _ (ask >>= _) _ _ s
  refine wpAny_bind (wpAny_askSetting (wpAny_ite ?_))
  split
  · first
      | exact wpAny_bind (wpAny_pure (wpAny_pure (And.intro rfl h0)))
      | exact wpAny_pure (And.intro rfl h0)
  · refine wpAny_bind (wpAny_rule ?_)
    show wpAny _ _ (standAt i1.pos >>= _) _ _ s
    exact wpAny_bind (wpAny_standAt (wpAny_bind (thn (h _) fun it' s' h' => wpAny_pure (And.intro rfl h'))))
theorem start2 (acc : Value) (env : Env) : StartOk (.SetComp elt [⟨t0, i0, f0, 0⟩, ⟨t1, i1, f1, 0⟩, ⟨t2, i2, f2, 0⟩] scope cp) 2 acc env := by
  intro P w A R s it h0 h
  refine codeAny_of_tree ?_
  show wpAny _ _ ((compStart (.SetComp elt [⟨t0, i0, f0, 0⟩, ⟨t1, i1, f1, 0⟩, ⟨t2, i2, f2, 0⟩] scope cp) 2 it acc env).onRaise (fun x => do noteFrame x env; standAt theWindowsPlace)) _ _ s
  refine wpAny_notedAt ?_
  unfold compStart
  show wpAny _ _ (ask >>= _) _ _ s
  refine wpAny_bind (wpAny_askSetting (wpAny_ite ?_))
  split
  · first
      | exact wpAny_bind (wpAny_pure (wpAny_pure (And.intro rfl h0)))
      | exact wpAny_pure (And.intro rfl h0)
  · refine wpAny_bind (wpAny_rule ?_)
    show wpAny _ _ (standAt i2.pos >>= _) _ _ s
    exact wpAny_bind (wpAny_standAt (wpAny_bind (thn (h _) fun it' s' h' => wpAny_pure (And.intro rfl h'))))
abbrev c3 (elt t0 i0 t1 i1 t2 i2 : Expr) (f0 f1 f2 : List Expr) (scope : Scope) (cp : Pos) : Expr := .SetComp elt [⟨t0, i0, f0, 0⟩, ⟨t1, i1, f1, 0⟩, ⟨t2, i2, f2, 0⟩] scope cp
abbrev bElt (elt : Expr) (D : Addr) (env : Env) : Sem Unit := do let v ← eval elt env; standAt elt.pos; let _ ← call (.builtin "set.add") [.ref D, v]
abbrev bNest (c : Expr) (j : Nat) (iter : Expr) (D : Addr) (env : Env) : Sem Unit := do let x ← eval iter env; standAt iter.pos; let x ← foldedSetIterable iter env x; let _ ← runOwn (.compStart c j (← holding [x] (pyIter x)) (.ref D) env) env
theorem turn3_0 (it D : Addr) (env : Env) : compTurn (c3 elt t0 i0 t1 i1 t2 i2 f0 f1 f2 scope cp) 0 (.ref it) (.ref D) env = turnOf t0 i0.pos f0 (bNest (c3 elt t0 i0 t1 i1 t2 i2 f0 f1 f2 scope cp) 1 i1 D env) (c3 elt t0 i0 t1 i1 t2 i2 f0 f1 f2 scope cp) 0 (.ref it) (.ref D) env := by
  have e : compTurn (c3 elt t0 i0 t1 i1 t2 i2 f0 f1 f2 scope cp) 0 (.ref it) (.ref D) env = (do
      standAt i0.pos
      match ← pyNext (.ref it) with
      | none => pure (.done .next)
      | some v =>
        letOwnedTupleGo t0 (.ref it) v
        assign t0 env v
        let mut ok := true
        for c in f0 do
          if ok then ok ← isTrue c env (eval c env)
        if ok then
          let x ← eval i1 env
          standAt i1.pos
          let x ← foldedSetIterable i1 env x
          let _ ← runOwn (.compStart (c3 elt t0 i0 t1 i1 t2 i2 f0 f1 f2 scope cp) 1 (← holding [x] (pyIter x)) (.ref D) env) env
        again (.compLoop (c3 elt t0 i0 t1 i1 t2 i2 f0 f1 f2 scope cp) 0 (.ref it) (.ref D) env)) := by rfl
  rw [e]
  unfold turnOf
  simp only [bind_assoc, pure_bind]
  all_goals rfl
theorem turn3_1 (it D : Addr) (env : Env) : compTurn (c3 elt t0 i0 t1 i1 t2 i2 f0 f1 f2 scope cp) 1 (.ref it) (.ref D) env = turnOf t1 i1.pos f1 (bNest (c3 elt t0 i0 t1 i1 t2 i2 f0 f1 f2 scope cp) 2 i2 D env) (c3 elt t0 i0 t1 i1 t2 i2 f0 f1 f2 scope cp) 1 (.ref it) (.ref D) env := by
  have e : compTurn (c3 elt t0 i0 t1 i1 t2 i2 f0 f1 f2 scope cp) 1 (.ref it) (.ref D) env = (do
      standAt i1.pos
      match ← pyNext (.ref it) with
      | none => pure (.done .next)
      | some v =>
        letOwnedTupleGo t1 (.ref it) v
        assign t1 env v
        let mut ok := true
        for c in f1 do
          if ok then ok ← isTrue c env (eval c env)
        if ok then
          let x ← eval i2 env
          standAt i2.pos
          let x ← foldedSetIterable i2 env x
          let _ ← runOwn (.compStart (c3 elt t0 i0 t1 i1 t2 i2 f0 f1 f2 scope cp) 2 (← holding [x] (pyIter x)) (.ref D) env) env
        again (.compLoop (c3 elt t0 i0 t1 i1 t2 i2 f0 f1 f2 scope cp) 1 (.ref it) (.ref D) env)) := by rfl
  rw [e]
  unfold turnOf
  simp only [bind_assoc, pure_bind]
  all_goals rfl
theorem turn3_2 (it D : Addr) (env : Env) : compTurn (c3 elt t0 i0 t1 i1 t2 i2 f0 f1 f2 scope cp) 2 (.ref it) (.ref D) env = turnOf t2 i2.pos f2 (bElt elt D env) (c3 elt t0 i0 t1 i1 t2 i2 f0 f1 f2 scope cp) 2 (.ref it) (.ref D) env := by rfl
end
section
variable {X : Cx} {elt t0 i0 t1 i1 t2 i2 : Expr} {f0 f1 f2 : List Expr} {scope : Scope} {own : List (PySem.Str × Nat)} {cp : Pos} {w0 w1 w2 : TI} {g0 g1 g2 : TG} {tt0 tt1 tt2 : TT} {te : TE} {vs1 vs2 : List Nat}
theorem pe_sc3 (hc : X.calm = true) (hN : X.N.Nodup) (hi : PI X t0 i0 w0) (ok : BlkOk X.N X.env.scope scope own) (h1 : ∀ i ∈ vs1, i ∈ own.map (·.2)) (h2 : ∀ i ∈ vs2, i ∈ vs1)
    (hg0 : ∀ (s : Shared) (H : Hp) (C : Addr) (cl : List (PySem.Str × Addr)) (fp : List Addr), PG (X.blk s H scope (compEnvC scope cl C X.env) fp) t0 g0)
    (ht0 : ∀ (s : Shared) (H : Hp) (C : Addr) (cl : List (PySem.Str × Addr)) (fp : List Addr), PTs (X.blk s H scope (compEnvC scope cl C X.env) fp) f0 tt0)
    (hi1 : ∀ (s : Shared) (H : Hp) (C : Addr) (cl : List (PySem.Str × Addr)) (fp : List Addr), PI (X.blk s H scope (compEnvC scope cl C X.env) fp) t1 i1 w1)
    (hg1 : ∀ (s : Shared) (H : Hp) (C : Addr) (cl : List (PySem.Str × Addr)) (fp : List Addr), PG (X.blk s H scope (compEnvC scope cl C X.env) fp) t1 g1)
    (ht1 : ∀ (s : Shared) (H : Hp) (C : Addr) (cl : List (PySem.Str × Addr)) (fp : List Addr), PTs (X.blk s H scope (compEnvC scope cl C X.env) fp) f1 tt1)
    (hi2 : ∀ (s : Shared) (H : Hp) (C : Addr) (cl : List (PySem.Str × Addr)) (fp : List Addr), PI (X.blk s H scope (compEnvC scope cl C X.env) fp) t2 i2 w2)
    (hg2 : ∀ (s : Shared) (H : Hp) (C : Addr) (cl : List (PySem.Str × Addr)) (fp : List Addr), PG (X.blk s H scope (compEnvC scope cl C X.env) fp) t2 g2)
    (ht2 : ∀ (s : Shared) (H : Hp) (C : Addr) (cl : List (PySem.Str × Addr)) (fp : List Addr), PTs (X.blk s H scope (compEnvC scope cl C X.env) fp) f2 tt2)
    (he : ∀ (s : Shared) (H : Hp) (C : Addr) (cl : List (PySem.Str × Addr)) (fp : List Addr), PE (X.blk s H scope (compEnvC scope cl C X.env) fp) elt te)
    (hs : ∀ x, foldedSetIterable i0 X.env x = pure x := by intro _; rfl) (hs1 : ∀ env x, foldedSetIterable i1 env x = pure x := by intro _ _; rfl) (hs2 : ∀ env x, foldedSetIterable i2 env x = pure x := by intro _ _; rfl) :
    PE X (c3 elt t0 i0 t1 i1 t2 i2 f0 f1 f2 scope cp) (tScN X.prog X.w w0 g0 tt0 (fun D => tNest w1 g1 tt1 (tNest w2 g2 tt2 (tElt X.prog X.w te D) vs2) vs1) (own.map (·.2))) :=
  pe_scN (gs := [⟨t1, i1, f1, 0⟩, ⟨t2, i2, f2, 0⟩]) (body := fun D env => bNest (c3 elt t0 i0 t1 i1 t2 i2 f0 f1 f2 scope cp) 1 i1 D env) hc hN hi ok h1 hg0 ht0
    (fun s H C cl fp D => pb_nest (ee := elt) (gs := [⟨t0, i0, f0, 0⟩, ⟨t1, i1, f1, 0⟩, ⟨t2, i2, f2, 0⟩]) (scope := scope) (cp := cp) (Y := X.blk s H scope (compEnvC scope cl C X.env) fp) h2 hc rfl (hi1 s H C cl fp) (hg1 s H C cl fp) (ht1 s H C cl fp)
      (pb_nest (ee := elt) (gs := [⟨t0, i0, f0, 0⟩, ⟨t1, i1, f1, 0⟩, ⟨t2, i2, f2, 0⟩]) (scope := scope) (cp := cp) (Y := X.blk s H scope (compEnvC scope cl C X.env) fp) (vs' := []) (fun i z => nomatch z) hc rfl (hi2 s H C cl fp) (hg2 s H C cl fp) (ht2 s H C cl fp)
        (pb_elt (Y := X.blk s H scope (compEnvC scope cl C X.env) fp) rfl (he s H C cl fp)) (hs2 _) (fun it => turn3_2 it D _) (start2 _ _))
      (hs1 _) (fun it => turn3_1 it D _) (start1 _ _))
    (fun it D env => turn3_0 it D env) hs
end
end Kx
/-! enumerate over a tuple -/
namespace PySem
open Sem (wp)
open AutoSeq1 (wpAny_loadPart')
theorem new_enumT (t : Addr) (its : Array Value) (n : Nat) (dd : Option Addr) (sl : Array (Option Value)) : Meets (Builtin.«enumerate.__new__» ⟨[.type "enumerate", .ref t], []⟩)
    (fun _ R s => s.heap.get? t = some { cls := .type "tuple", dict := dd, data := .seq its n, slots := sl } ∧ R (.ok (.ret (.ref (s.heap.push { cls := .type "tuple_iterator", data := .fields #[.ref t, .int 0 0] }).objs.size)))
      { s with heap := (s.heap.push { cls := .type "tuple_iterator", data := .fields #[.ref t, .int 0 0] }).push { cls := .type "enumerate", data := .fields #[.none, .bool false, .ref s.heap.objs.size, rawInt 0, .none, .none] } }) :=
  .of_wp fun P w A R s h => by
    obtain ⟨hp, g, d, k, os⟩ := s
    obtain ⟨ht, h⟩ := h
    have hs := sub_enumerate
    have hT : Heap.IsTuple (Shared.heap ⟨hp, g, d, k, os⟩) t its := ⟨_, ht, rfl, n, rfl⟩
    wp_walk using wpAny_loadPart' ht
    refine wpAny_stack_any fun st => wpAny_pure ?_
    split
    · rename_i c _ _ _ _ _
      cases (c == Value.type "enumerate") <;>
        (wp_walk using wpAny_loadPart' ht, wpAny_pyIter_tuple hT; exact ⟨_, rfl, h⟩)
    · wp_walk using wpAny_loadPart' ht, wpAny_pyIter_tuple hT
      exact ⟨_, rfl, h⟩
section
variable {P : Program} {w : World} {A : Around} {E : Value → Shared → Prop} {s : Shared}
theorem call_enumT {t : Addr} {its : Array Value} {Q : Value → Shared → Prop} (hT : s.heap.IsTuple t its)
    (h : ∀ h' : Heap, IsEnum h' (s.heap.objs.size + 1) s.heap.objs.size 0 .none → h'.IsTupleIter s.heap.objs.size t 0 → h'.objs.size = s.heap.objs.size + 2 → (∀ b o, s.heap.get? b = some o → h'.get? b = some o) → Q (.ref (s.heap.objs.size + 1)) { s with heap := h' }) :
    wpAny (model P w) A (call (.type "enumerate") [.ref t]) Q E s := by
  obtain ⟨⟨c, dd, dt, sl⟩, ht, hc, n, hd⟩ := hT
  have hc' : c = .type "tuple" := hc
  have hd' : dt = .seq its n := hd
  subst hc' hd'
  refine callType_new F.called_enumerate (by decide) (F.typeCall_enumerate_1 _) (F.newCall_enumerate_1 _) (fun obj => F.args_object_init_2 obj _) F.entry_enumerate_new (new_enumT t its n dd sl) ⟨ht, ?_⟩
  obtain ⟨h1, e1⟩ : ∃ h1, s.heap.push { cls := .type "tuple_iterator", data := .fields #[.ref t, .int 0 0] } = h1 := ⟨_, rfl⟩
  have z1 : h1.objs.size = s.heap.objs.size + 1 := by rw [← e1]; exact Heap.size_push ..
  have i1 : h1.get? s.heap.objs.size = some { cls := .type "tuple_iterator", data := .fields #[.ref t, .int 0 0] } := by rw [← e1]; exact Heap.get?_push_size _ rfl
  have k1 : ∀ b o, s.heap.get? b = some o → h1.get? b = some o := fun b o z => by rw [← e1]; exact Heap.get?_push_of_some _ z
  rw [e1]
  have g2 := Heap.get?_push_size h1 (o := { cls := .type "enumerate", data := .fields #[.none, .bool false, .ref s.heap.objs.size, rawInt 0, .none, .none] }) rfl
  rw [z1] at g2
  show _ ∧ _
  rw [z1]
  exact ⟨⟨_, g2, rfl⟩, h _ g2 ⟨_, Heap.get?_push_of_some _ i1, rfl, rfl⟩ (by rw [Heap.size_push, z1]) fun b o z => Heap.get?_push_of_some _ (k1 b o z)⟩
end
end PySem
namespace Kx
open PySem L2 PySem.Spec PyProof.Rows
/-- the tuple at a, each item in a new pair with its number -/
def IteT (K : PySem.W.Frag) (a : Addr) : It :=
  ⟨fun i H => ∃ (xs : List V) (x : V), SqT K H a xs ∧ xs[i]? = some x, fun i H v H' => ∃ T x, v = .ref T ∧ H T = none ∧ H' = upd H T (.tup [.int (i : Nat), x]) ∧ ∀ xs, SqT K H a xs → xs[i]? = some x, fun i H => ∃ xs : List V, SqT K H a xs ∧ xs.length ≤ i⟩
theorem turn_enumT {P : Program} {w : World} {K : PySem.W.Frag} {elts : List Expr} {kk : Nat} {tpos : Pos} (a e it : Addr) :
    Turn P w K (.Tuple elts kk tpos) (IteT K a) [e, it] e (fun i h => (∃ old, IsEnum h e it ((i : Nat) : Int) old) ∧ h.IsTupleIter it a i ∧ e ≠ it ∧ a ≠ it ∧ a ≠ e) where
  mem := by simp
  obj := fun i h st b hb => by
    obtain ⟨⟨old, he⟩, ⟨o, ho, hc, hd⟩, _⟩ := st
    rcases (show b = e ∨ b = it by simpa using hb) with z | z
    · rw [z]; exact ⟨_, he, fun v q => nomatch q⟩
    · rw [z]; exact ⟨o, ho, fun v q => by rw [hd] at q; cases q⟩
  keep := fun i h h' st k => let ⟨⟨old, he⟩, hi, hn⟩ := st; ⟨⟨old, k e (by simp) _ he⟩, hi.at fun o q => k it (by simp) o q, hn⟩
  item := by
    intro X hP hw hK hc i pins s σ H E I hf st hg
    subst hP hw hK
    obtain ⟨⟨old, he⟩, hit, hne, n1, n2⟩ := st
    obtain ⟨xs, x, hq, hx⟩ := hg
    obtain ⟨its, rv, p, hz⟩ := I.tuple hq
    obtain ⟨u, hu, ru⟩ := rv.get hx
    have hT : s.heap.IsTuple a its.toArray := p
    have hu' : its.toArray[i]? = some u := by simpa using hu
    have hlt : i < its.toArray.size := (Array.getElem?_eq_some_iff.mp hu').1
    have hel : e < s.heap.objs.size := Heap.lt_size he
    have hil : it < s.heap.objs.size := by obtain ⟨_, q, _⟩ := hit; exact Heap.lt_size q
    have ni : it ≠ a := fun z => n1 z.symm
    refine wpAny_pyNext_enum_itemD (Draws.tuple (A := X.A.in1) (I.ok.hd hc) it a n1 its.toArray) he ⟨hit, hT⟩ hlt hne (by simp [hne, Ne.symm n2]) fun y h' tk hy ho hit' hTn hsz hk => ?_
    have ey : y = u := Option.some.inj ((show its.toArray[i]? = some y from hy).symm.trans hu')
    subst ey
    refine ⟨_, rfl, wpAny_letOwnedTupleGo_enum (s := { s with heap := h', toks := tk + 1 }) ho fun h2 he2 sb => ?_⟩
    have hT2 : h2.get? s.heap.objs.size = some { cls := .type "tuple", data := .seq #[.int i tk, y] } := (sb.2 _ (Nat.ne_of_gt hel)).trans hTn
    have new : ObjOk X.prog X.w (upd H s.heap.objs.size (.tup [.int (i : Nat), x])) h2 s.heap.objs.size (.tup [.int (i : Nat), x]) :=
      ⟨by show 2 ≤ sizeLine; decide, [.int i tk, y], .cons ⟨_, rfl⟩ (.cons ru .nil), ⟨_, hT2, rfl, _, rfl⟩⟩
    have I1 : Inv X pins σ (upd H s.heap.objs.size (.tup [.int (i : Nat), x])) { s with heap := h2, toks := tk + 1 } :=
      I.turnedNew (ch := [e, it]) (fun b ob hb q => (sb.2 b (fun z => hb (by simp [z]))).trans (hk b ob (fun z => hb (by simp [z])) (fun z => hb (by simp [z])) q)) hf (Nat.le_refl _) new
    have lt2 : ∀ b ∈ [e, it], b < s.heap.objs.size := fun b hb => by
      rcases (show b = e ∨ b = it by simpa using hb) with z | z
      · rw [z]; exact hel
      · rw [z]; exact hil
    refine ⟨.ref s.heap.objs.size, _, I1, rfl, ⟨_, x, rfl, I.hok.fresh (Nat.le_refl _), rfl, fun ys hy' => by rw [I.tuple_inj hy' hq]; exact hx⟩, ⟨⟨y, ?_⟩, hit'.1.at fun o q => (sb.2 it (Ne.symm hne)).trans q, hne, n1, n2⟩, fun b hb => ?_⟩
    · rw [show ((i + 1 : Nat) : Int) = (i : Int) + 1 from by omega]
      exact he2
    · rw [upd_ne (Nat.ne_of_lt (lt2 b hb))]
      exact (hf b hb).1
  done := by
    intro X hP hw hK hc i pins s σ H E I hf st hg
    subst hP hw hK
    obtain ⟨⟨old, he⟩, hit, hne, n1, n2⟩ := st
    obtain ⟨xs, hq, hx⟩ := hg
    obtain ⟨its, rv, p, hz⟩ := I.tuple hq
    obtain ⟨f0, f1, f2, f3, f4, f5⟩ := hf it (by simp)
    have hl := rv.length
    have hT : s.heap.IsTuple a its.toArray := p
    unfold pyNext
    have hTy : s.TypeIs (.ref e) "enumerate" := ⟨_, he, rfl⟩
    refine wpAny_bind (wpAny_attempt (wpAny_callSpecial?_slot (name := Str.ofString "__next__") hTy F.slot_enumerate_next
      (wpAny_call_entry F.slot_enumerate_next hTy F.entry_enumerate_next ?_ (F.args_enumerate_next_1 _))))
    show wpAny _ _ (field (.ref e) 2 >>= fun r => Builtin.SmallTypes.nextOf r >>= _) _ _ _
    refine wpAny_bind (wpAny_field he rfl (x := .ref it) rfl ?_)
    refine wpAny_bind (wpAny_nextOf_tuple_end (I.ok.hd hc) hit hT (Array.getElem?_eq_none (by simp; omega)) fun h' x e1 e2 => ?_)
    obtain ⟨o, ho, hco⟩ := e2
    refine wpAny_bind (wpAny_isInstance (T := "StopIteration") (b := true) ⟨o, ho, hco⟩ isSubtype_stop ?_)
    exact wpAny_pure ⟨rfl, I.turned (t' := s.toks) (fun b o hb q => e1 b o hb q) f0 f1 f3 f4 f5⟩
  self := fun A i s Q E st h => let ⟨⟨_, he⟩, _⟩ := st; wpAny_pyIter_enum he h
def iEnumT (K : PySem.W.Frag) (ta : TA) : TI := fun σ H R => ta σ H fun vs H1 => ∃ a xs, vs = [.ref a] ∧ SqT K H1 a xs ∧ R (IteT K a) H1
theorem pi_enumT {X : Cx} {e : Expr} {ta : TA} {p pos tpos : Pos} {elts : List Expr} {kk : Nat} (hg : Gl X "enumerate") (hm : X.mg "enumerate" = none) (ha : PA X [e] ta) (hs : starEach [e] X.env = [(false, eval e X.env)] := by rfl) :
    PI X (.Tuple elts kk tpos) (.Call (.Name "enumerate" p) [e] [] pos) (iEnumT X.K ta) := by
  refine ⟨fun pins s σ H R I h => ?_⟩
  refine Call_ (ld_blt I hg hm boot_enumerate (PyProof.Rows.callWith_type1 (thn (ha.run pos pins s σ H _ I h) fun us s1 ⟨vs, H1, I1, r1, a, xs, ex, hq, q⟩ => ?_) hs rfl))
  subst ex
  cases r1 with
  | cons r rr =>
    cases rr
    cases r
    obtain ⟨its, rv, p', hz⟩ := I1.tuple hq
    have hT : s1.heap.IsTuple a its.toArray := p'
    have hlt : a < s1.heap.objs.size := by obtain ⟨_, z, _⟩ := hT; exact Heap.lt_size z
    refine call_enumT hT fun h' he hit hsz hk => wpAny_pyIter_enum he ?_
    have I2 : Inv X pins σ H1 { s1 with heap := h' } := I1.kept (t' := s1.toks) hk
    refine ⟨s1.heap.objs.size + 1, [s1.heap.objs.size + 1, s1.heap.objs.size], _, _, H1, rfl, I2, turn_enumT a (s1.heap.objs.size + 1) s1.heap.objs.size, ⟨⟨.none, he⟩, hit, Nat.succ_ne_self _, Nat.ne_of_lt hlt, Nat.ne_of_lt (Nat.lt_succ_of_lt hlt)⟩, fun b hb => ?_, q⟩
    have hle : s1.heap.objs.size ≤ b := by
      rcases (show b = s1.heap.objs.size + 1 ∨ b = s1.heap.objs.size by simpa using hb) with z | z
      · rw [z]; exact Nat.le_add_right _ _
      · rw [z]; exact Nat.le_refl _
    exact I1.fpOk hle (I1.hok.fresh hle)
/-- over a tuple that the body leaves as it is -/
theorem for_enumT {K : PySem.W.Frag} {a : Addr} {xs : List V} {g : TG} {tb : TS} {D : Ends} {σ : L2.St} {H : Hp} (Pv : Nat → L2.St → Hp → Prop) (h0 : Pv 0 σ H) (hl : ∀ i σ H, i ≤ xs.length → Pv i σ H → SqT K H a xs)
    (hs : ∀ i x σ H T, xs[i]? = some x → Pv i σ H → H T = none → g (.ref T) σ (upd H T (.tup [.int (i : Nat), x])) fun σ2 H2 => tb { D with nx := Pv (i + 1), ct := Pv (i + 1), bk := D.nx } σ2 H2) (hd : ∀ σ H, Pv xs.length σ H → D.nx σ H) :
    ∃ W : Nat → Nat → L2.St → Hp → Prop, (∃ m, W 0 m σ H) ∧ ∀ i m σ H, W i m σ H →
      ((IteT K a).stop i H ∧ D.nx σ H) ∨ ((IteT K a).go i H ∧ ∃ N : L2.St → Hp → Prop, (∀ σ' H', N σ' H' → ∃ m', m' < m ∧ W (i + 1) m' σ' H') ∧ ∀ x H', (IteT K a).yld i H x H' → g x σ H' fun σ2 H2 => tb { D with nx := N, ct := N, bk := D.nx } σ2 H2) := by
  refine ⟨fun i m σ H => m = xs.length - i ∧ i ≤ xs.length ∧ Pv i σ H, ⟨xs.length, by simp, Nat.zero_le _, h0⟩, ?_⟩
  rintro i m σ H ⟨rfl, hi, p⟩
  have q := hl i σ H hi p
  rcases Nat.lt_or_eq_of_le hi with hlt | e
  · refine .inr ⟨⟨xs, xs[i], q, by simp [hlt]⟩, Pv (i + 1), fun σ' H' p' => ⟨xs.length - (i + 1), by omega, rfl, hlt, p'⟩, fun v H' ⟨T, x, ev, hT, eH, hx⟩ => ?_⟩
    subst ev eH
    exact hs i x σ H T (hx xs q) p hT
  · subst e
    exact .inl ⟨⟨xs, q, Nat.le_refl _⟩, hd σ H p⟩
end Kx
set_option linter.all false
namespace Kx
open PySem L2 PySem.Spec PyProof.Rows
def top (i : Nat) : Stmt := PySem.Challenge.pw_contractheirs_k08_clauses_negated_and_re.main.body.getD i (.Pass ⟨0, 0, 0, 0⟩)
abbrev sIsInt : Stmt := top 5
abbrev sIsLit : Stmt := top 6
abbrev sIsCl : Stmt := top 7
structure Bx (mg : Str → Option Value) : Prop where
  isi : mg "isinstance" = none
  int : mg "int" = none
  bool : mg "bool" = none
  str : mg "str" = none
  tuple : mg "tuple" = none
  list : mg "list" = none
  len : mg "len" = none
  all : mg "all" = none
  enum : mg "enumerate" = none
structure Short (t : Str) : Prop where
  l : t.length ≤ 1000
  n : (Txt.split t ".").length ≤ 1000
  e : ∀ x ∈ Txt.split t ".", x.length ≤ 1000
structure Fs (K : PySem.W.Frag) (mg : Str → Option Value) (x : Str) (st : Stmt) (ps : List Str) (f : Addr) (fd : FuncData) : Prop where
  F : Fun K x x st f fd
  b : Binds K fd ps []
  m : mg x = some (.ref f)
theorem yes_of {σ : L2.St} {H : Hp} {A B : Hp → Prop} (h : A H) : tYes σ H fun b H3 => if b = true then A H3 else B H3 := by
  show (if true = true then A H else B H)
  rw [if_pos rfl]
  exact h
theorem new_same {H : Hp} {D : Addr} {o : HO} (hD : H D = none) : Same H (upd H D o) := fun b u e => by
  have hb : b ≠ D := fun z => by
    rw [z, hD] at e
    cases e
  rw [upd_ne hb]
  exact e
theorem same_upd {H H2 : Hp} {D : Addr} {o : HO} (hD : H D = none) (s2 : Same H H2) : Same H (upd H2 D o) := fun b u e => by
  have hb : b ≠ D := fun z => by
    rw [z, hD] at e
    cases e
  rw [upd_ne hb]
  exact s2 b u e
theorem tyT {K : PySem.W.Frag} {H : Hp} {a : Addr} {xs : List V} (h : SqT K H a xs) : TyX K H (.ref a) (.type "tuple") := by
  rcases h with (h | ⟨o, h⟩) | ⟨o, its, n, hk, hc, _⟩
  · exact .base (.tup h)
  · exact .fTuple h
  · exact .kTuple hk hc
theorem SqT.same {K : PySem.W.Frag} {H H' : Hp} {a : Addr} {xs : List V} (s : Same H H') (h : SqT K H a xs) : SqT K H' a xs := by
  rcases h with (h | ⟨o, h⟩) | h
  · exact .inl (.inl (s _ _ h))
  · exact .inl (.inr ⟨o, s _ _ h⟩)
  · exact .inr h
abbrev Lit := Str × Str × Int
def IsLit (K : PySem.W.Frag) (H : Hp) (x : V) (l : Lit) : Prop := ∃ a, x = .ref a ∧ SqT K H a [.str l.1, .str l.2.1, .int l.2.2]
theorem IsLit.same {K : PySem.W.Frag} {H H' : Hp} {x : V} {l : Lit} (s : Same H H') (h : IsLit K H x l) : IsLit K H' x l := let ⟨a, e, q⟩ := h; ⟨a, e, SqT.same s q⟩
section
variable {P : Program} {w : World} {K : PySem.W.Frag} {mg : Str → Option Value} {base : Heap}
theorem scInt : FnScope ["thing"] ["thing"] (defScope sIsInt) := ⟨rfl, rfl, rfl, by decide +kernel, rfl, by decide +kernel, by decide +kernel⟩
theorem scLit : FnScope ["thing", "left", "right", "number"] ["thing"] (defScope sIsLit) := ⟨rfl, rfl, rfl, by decide +kernel, rfl, by decide +kernel, by decide +kernel⟩
theorem scCl : FnScope ["thing", "most", "literal"] ["thing", "most"] (defScope sIsCl) := ⟨rfl, rfl, rfl, by decide +kernel, rfl, by decide +kernel, by decide +kernel⟩
end
structure Cl (K : PySem.W.Frag) (H : Hp) (a : Addr) (xs : List V) (c : List Lit) : Prop where
  sq : SqT K H a xs
  p : Paired (IsLit K H) xs c
  l1 : 1 ≤ c.length
  l2 : c.length ≤ 1000
theorem paired_same {K : PySem.W.Frag} {H H' : Hp} (s : Same H H') {xs : List V} {c : List Lit} (h : Paired (IsLit K H) xs c) : Paired (IsLit K H') xs c := L2.Paired.mapP h fun _ _ z => IsLit.same s z
theorem Cl.same {K : PySem.W.Frag} {H H' : Hp} {a : Addr} {xs : List V} {c : List Lit} (s : Same H H') (h : Cl K H a xs c) : Cl K H' a xs c := ⟨SqT.same s h.sq, paired_same s h.p, h.l1, h.l2⟩
theorem Cl.len {K : PySem.W.Frag} {H : Hp} {a : Addr} {xs : List V} {c : List Lit} (h : Cl K H a xs c) : xs.length = c.length := Paired.length h.p
def IsC (K : PySem.W.Frag) (H : Hp) (x : V) (c : List Lit) : Prop := ∃ a ys, x = .ref a ∧ Cl K H a ys c
theorem IsC.same {K : PySem.W.Frag} {H H' : Hp} {x : V} {c : List Lit} (s : Same H H') (h : IsC K H x c) : IsC K H' x c := let ⟨a, ys, e, q⟩ := h; ⟨a, ys, e, Cl.same s q⟩
inductive Sh where
  | oth | bl | int (i : Int) | str (s : Str) | tup (l : List Sh)
mutual
inductive Is (K : PySem.W.Frag) (H : Hp) : V → Sh → Prop where
  | non : Is K H .non .oth
  | lst {a : Addr} (h : ∃ xs, SqL K H a xs) : Is K H (.ref a) .oth
  | dic {a : Addr} (h : ∃ kvs, H a = some (.dK kvs)) : Is K H (.ref a) .oth
  | bl (b : Bool) : Is K H (.bl b) .bl
  | int (i : Int) : Is K H (.int i) (.int i)
  | str (s : Str) (h : Short s) : Is K H (.str s) (.str s)
  | tup {a : Addr} {xs : List V} {l : List Sh} (h : SqT K H a xs) (p : IsAll K H xs l) (n : l.length ≤ 1000) : Is K H (.ref a) (.tup l)
inductive IsAll (K : PySem.W.Frag) (H : Hp) : List V → List Sh → Prop where
  | nil : IsAll K H [] []
  | cons {x : V} {d : Sh} {xs : List V} {l : List Sh} (h : Is K H x d) (t : IsAll K H xs l) : IsAll K H (x :: xs) (d :: l)
end
theorem IsAll.length {K : PySem.W.Frag} {H : Hp} : ∀ {xs : List V} {l : List Sh}, IsAll K H xs l → xs.length = l.length
  | _, _, .nil => rfl
  | _, _, .cons _ t => congrArg (· + 1) t.length
theorem IsAll.get {K : PySem.W.Frag} {H : Hp} : ∀ {xs : List V} {l : List Sh} {i : Nat} {x : V}, IsAll K H xs l → xs[i]? = some x → ∃ d, l[i]? = some d ∧ Is K H x d
  | _, _, _, _, .nil, h => by simp at h
  | _, _, 0, _, .cons a _, h => by simp at h; subst h; exact ⟨_, rfl, a⟩
  | _, _, i + 1, _, .cons _ t, h => by
    obtain ⟨d, h1, h2⟩ := IsAll.get (i := i) t (by simpa using h)
    exact ⟨d, by simpa using h1, h2⟩
theorem SqL.same {K : PySem.W.Frag} {H H' : Hp} {a : Addr} {xs : List V} (s : Same H H') (h : SqL K H a xs) : SqL K H' a xs := by
  rcases h with (h | ⟨o, h⟩) | h
  · exact .inl (.inl (s _ _ h))
  · exact .inl (.inr ⟨o, s _ _ h⟩)
  · exact .inr h
mutual
theorem Is.same {K : PySem.W.Frag} {H H' : Hp} (s : Same H H') : ∀ {v : V} {d : Sh}, Is K H v d → Is K H' v d
  | _, _, .non => .non
  | _, _, .lst h => .lst (let ⟨xs, z⟩ := h; ⟨xs, SqL.same s z⟩)
  | _, _, .dic h => .dic (let ⟨kvs, z⟩ := h; ⟨kvs, s _ _ z⟩)
  | _, _, .bl b => .bl b
  | _, _, .int i => .int i
  | _, _, .str x h => .str x h
  | _, _, .tup h p n => .tup (SqT.same s h) (IsAll.same s p) n
theorem IsAll.same {K : PySem.W.Frag} {H H' : Hp} (s : Same H H') : ∀ {xs : List V} {l : List Sh}, IsAll K H xs l → IsAll K H' xs l
  | _, _, .nil => .nil
  | _, _, .cons h t => .cons (Is.same s h) (IsAll.same s t)
end
def isTupS : Sh → Bool | .tup _ => true | _ => false
def isStrS : Sh → Bool | .str _ => true | _ => false
def isBlS : Sh → Bool | .bl => true | _ => false
def isIntS : Sh → Bool | .int _ => true | _ => false
def isLitS : Sh → Bool | .tup [a, b, c] => isStrS a && (isStrS b && isIntS c) | _ => false
def isClS (m : Int) : Sh → Bool | .tup l => decide (1 ≤ l.length ∧ (l.length : Int) ≤ m) && l.all isLitS | _ => false
theorem tyL {K : PySem.W.Frag} {H : Hp} {a : Addr} {xs : List V} (h : SqL K H a xs) : TyX K H (.ref a) (.type "list") := by
  rcases h with (h | ⟨o, h⟩) | ⟨o, its, n, hk, hc, _⟩
  · exact .base (.lst h)
  · exact .base (.frz h)
  · exact .kList hk hc
theorem Is.ty {K : PySem.W.Frag} {H : Hp} {v : V} {d : Sh} (h : Is K H v d) : ∃ T : String, TyX K H v (.type T) ∧ kitB T "tuple" = some (isTupS d) ∧ kitB T "str" = some (isStrS d) ∧ kitB T "bool" = some (isBlS d) ∧ kitB T "int" = some (isIntS d || isBlS d) := by
  cases h with
  | non => exact ⟨"NoneType", .base .non, by decide +kernel, by decide +kernel, by decide +kernel, by decide +kernel⟩
  | lst h => obtain ⟨xs, h⟩ := h; exact ⟨"list", tyL h, by decide +kernel, by decide +kernel, by decide +kernel, by decide +kernel⟩
  | dic h => obtain ⟨xs, h⟩ := h; exact ⟨"dict", .base (.dK h), by decide +kernel, by decide +kernel, by decide +kernel, by decide +kernel⟩
  | bl b => exact ⟨"bool", .base (.bl b), by decide +kernel, by decide +kernel, by decide +kernel, by decide +kernel⟩
  | int i => exact ⟨"int", .base (.int i), (by show kitB "int" "tuple" = some false; decide +kernel), (by show kitB "int" "str" = some false; decide +kernel), (by show kitB "int" "bool" = some false; decide +kernel), (by show kitB "int" "int" = some true; decide +kernel)⟩
  | str s h => exact ⟨"str", .base (.str s), (by show kitB "str" "tuple" = some false; decide +kernel), (by show kitB "str" "str" = some true; decide +kernel), (by show kitB "str" "bool" = some false; decide +kernel), (by show kitB "str" "int" = some false; decide +kernel)⟩
  | tup h p n => exact ⟨"tuple", tyT h, (by show kitB "tuple" "tuple" = some true; decide +kernel), (by show kitB "tuple" "str" = some false; decide +kernel), (by show kitB "tuple" "bool" = some false; decide +kernel), (by show kitB "tuple" "int" = some false; decide +kernel)⟩
def spG (K : PySem.W.Frag) (f : Sh → Bool) : Sp := fun vs H Q _ => ∃ (v : V) (d : Sh), vs = [v] ∧ Is K H v d ∧ ∀ H', Same H H' → Q (.bl (f d)) H'
section
variable {P : Program} {w : World} {K : PySem.W.Frag} {mg : Str → Option Value} {base : Heap}
theorem spG_len {f : Sh → Bool} {vs : List V} {H : Hp} {Q : VK} {E : XK} (h : spG K f vs H Q E) : vs.length = 1 := by
  obtain ⟨v, d, rfl, _⟩ := h
  rfl
theorem g_isint {f : Addr} {fd : FuncData} (F : Fs K mg "is_integer" sIsInt ["thing"] f fd) (T : Bx mg) : FnOk P w K mg base CX0 1 f fd ["thing"] (spG K isIntS) := by
  refine F.F.ok scInt (fun vs H Q E h => spG_len h) (fun cdv A outer s H vs Q E hr h => ?_)
  obtain ⟨v, d, rfl, hv, q⟩ := h
  obtain ⟨t, ty, t1, t2, t3, t4⟩ := hv.ty
  have q := q H fun _ _ z => z
  refine ⟨_, pss_one (ps_ret (pe_and (pe_callB call_isi (by rfl) T.isi boot_isinstance (pa_cons (pv 0) (pa_cons (pe_bltn (v := .ty "int") (by rfl) T.int (by decide +kernel) rfl) pa_nil)))
    (pe_one (pe_not (pe_callB call_isi (by rfl) T.isi boot_isinstance (pa_cons (pv 0) (pa_cons (pe_bltn (v := .ty "bool") (by rfl) T.bool (by decide +kernel) rfl) pa_nil))))))), ?_⟩
  refine ⟨_, rfl, v, .ty "int", _, _, _, rfl, .ty _, ty, kit_ty t4, _, rfl, ?_⟩
  cases d with
  | int i => exact iteT ⟨_, rfl, v, .ty "bool", _, _, _, rfl, .ty _, ty, kit_ty t3, _, rfl, q⟩
  | bl => exact iteT ⟨_, rfl, v, .ty "bool", _, _, _, rfl, .ty _, ty, kit_ty t3, _, rfl, q⟩
  | oth => exact iteF q
  | str s => exact iteF q
  | tup l => exact iteF q
theorem g_islit {f g : Addr} {fd fdI : FuncData} (F : Fs K mg "is_literal" sIsLit ["thing"] f fd) (W : Fs K mg "is_integer" sIsInt ["thing"] g fdI) (T : Bx mg) : FnOk P w K mg base CX0 2 f fd ["thing"] (spG K isLitS) := by
  have GI : FnOk P w K mg base CX0 1 g fdI ["thing"] (spG K isIntS) := g_isint W T
  refine F.F.ok scLit (fun vs H Q E h => spG_len h) (fun cdv A outer s H vs Q E hr h => ?_)
  obtain ⟨v, d, rfl, hv, q⟩ := h
  obtain ⟨ty, tyx, t1, t2, t3, t4⟩ := hv.ty
  have q0 := q H fun _ _ z => z
  refine ⟨_, pss_cons (ps_if (PW.pt (pw_or (pt_not (pt_val (pe_callB call_isi (by rfl) T.isi boot_isinstance (pa_cons (pv 0) (pa_cons (pe_bltn (v := .ty "tuple") (by rfl) T.tuple (by decide +kernel) rfl) pa_nil)))))
        (pw_or1 (pt_cmpR op_ne (pe_callB call_len_seq (by rfl) T.len PySem.boot_len (pa_cons (pv 0) pa_nil)) pe_int (nomark _))))) (pss_one (ps_ret pe_bl)) pss_nil)
      (pss_cons (ps_asg (pv 0) (pg_tup rfl (pgs_cons (pg_name (i := 1) scLit.nd rfl (Or.inl rfl)) (pgs_cons (pg_name (i := 2) scLit.nd rfl (Or.inl rfl)) (pgs_cons (pg_name (i := 3) scLit.nd rfl (Or.inl rfl)) pgs_nil)))))
      (pss_one (ps_ret (pe_and (pe_callB call_isi (by rfl) T.isi boot_isinstance (pa_cons (pv 1) (pa_cons (pe_bltn (v := .ty "str") (by rfl) T.str (by decide +kernel) rfl) pa_nil)))
        (pe_and (pe_callB call_isi (by rfl) T.isi boot_isinstance (pa_cons (pv 2) (pa_cons (pe_bltn (v := .ty "str") (by rfl) T.str (by decide +kernel) rfl) pa_nil)))
        (pe_one (pe_call GI hr rfl W.m W.F.kp W.b .nil pass0 (pa_cons (pv 3) pa_nil)))))))), ?_⟩
  refine ⟨_, rfl, v, .ty "tuple", _, _, _, rfl, .ty _, tyx, kit_ty t1, _, rfl, ?_⟩
  have no : isTupS d = false → isLitS d = false := by cases d <;> first | exact fun _ => rfl | exact fun z => nomatch z
  cases hs : isTupS d with
  | false =>
    rw [no hs] at q0
    exact iteT (iteT q0)
  | true =>
  refine iteF ?_
  cases hv with
  | tup ha p n =>
    rename_i a xs l
    have hl := p.length
    refine ⟨_, rfl, a, _, rfl, .inr ha, rfl, _, rfl, ?_⟩
    by_cases h3 : xs.length = 3
    case neg =>
      rw [show (!decide (V.int (xs.length : Int) = V.int 3)) = true from by rw [decide_eq_false fun z => h3 (by have := V.int.inj z; omega)]; rfl]
      have e : isLitS (.tup l) = false := by
        rw [hl] at h3
        match l, h3 with
        | [], _ => rfl
        | [_], _ => rfl
        | [_, _], _ => rfl
        | [_, _, _], h => exact absurd rfl h
        | _ :: _ :: _ :: _ :: _, _ => rfl
      rw [e] at q0
      exact iteT q0
    case pos =>
    rw [show (!decide (V.int (xs.length : Int) = V.int 3)) = false from by rw [h3]; rfl]
    refine iteF ?_
    cases p with
    | nil => cases h3
    | cons p1 p =>
    cases p with
    | nil => cases h3
    | cons p2 p =>
    cases p with
    | nil => cases h3
    | cons p3 p =>
    cases p with
    | cons _ _ => exact absurd h3 (by simp)
    | nil =>
    rename_i x1 d1 x2 d2 x3 d3
    obtain ⟨ta, tax, _, ta2, _, _⟩ := p1.ty
    obtain ⟨tb, tbx, _, tb2, _, _⟩ := p2.ty
    refine ⟨_, rfl, a, _, rfl, ha, rfl, _, _, rfl, _, _, rfl, _, _, rfl, rfl, ?_⟩
    refine ⟨_, rfl, x1, .ty "str", _, _, _, rfl, .ty _, tax, kit_ty ta2, _, rfl, ?_⟩
    have q : ∀ H', Same H H' → Q (.bl (isStrS d1 && (isStrS d2 && isIntS d3))) H' := q
    cases e1 : isStrS d1 with
    | false =>
      rw [e1] at q
      exact iteF (q H fun _ _ z => z)
    | true =>
    rw [e1] at q
    refine iteT ⟨_, rfl, x2, .ty "str", _, _, _, rfl, .ty _, tbx, kit_ty tb2, _, rfl, ?_⟩
    cases e2 : isStrS d2 with
    | false =>
      rw [e2] at q
      exact iteF (q H fun _ _ z => z)
    | true =>
    rw [e2] at q
    exact iteT ⟨_, rfl, x3, d3, rfl, p3, q⟩
  | non => cases hs
  | lst h => cases hs
  | dic h => cases hs
  | bl b => cases hs
  | int i => cases hs
  | str x h => cases hs
theorem lit3 {d : Sh} (h : isLitS d = true) : ∃ x y i, d = .tup [.str x, .str y, .int i] := by
  match d, h with
  | .tup [a, b, c], h =>
    have h : (isStrS a && (isStrS b && isIntS c)) = true := h
    rw [Bool.and_eq_true, Bool.and_eq_true] at h
    obtain ⟨h1, h2, h3⟩ := h
    cases a <;> first | (cases h1; done) | skip
    cases b <;> first | (cases h2; done) | skip
    cases c <;> first | (cases h3; done) | skip
    exact ⟨_, _, _, rfl⟩
def spIsClG (K : PySem.W.Frag) : Sp := fun vs H Q _ => ∃ (v : V) (d : Sh) (m : Int), vs = [v, .int m] ∧ Is K H v d ∧ ∀ H', Same H H' → Q (.bl (isClS m d)) H'
theorem g_iscl {f g i : Addr} {fd fdL fdI : FuncData} (F : Fs K mg "is_clause" sIsCl ["thing", "most"] f fd) (L : Fs K mg "is_literal" sIsLit ["thing"] g fdL) (I : Fs K mg "is_integer" sIsInt ["thing"] i fdI) (T : Bx mg) :
    FnOk P w K mg base CX0 3 f fd ["thing", "most"] (spIsClG K) := by
  have GL : FnOk P w K mg base CX0 2 g fdL ["thing"] (spG K isLitS) := g_islit L I T
  refine F.F.ok scCl (fun vs H Q E h => ?_) (fun cdv A outer s H vs Q E hr h => ?_)
  · obtain ⟨v, d, m, rfl, _⟩ := h
    rfl
  · obtain ⟨v, d, m, rfl, hv, q⟩ := h
    obtain ⟨ty, tyx, t1, t2, t3, t4⟩ := hv.ty
    refine ⟨_, pss_cons (ps_if (PW.pt (pw_or (pt_not (pt_val (pe_callB call_isi (by rfl) T.isi boot_isinstance (pa_cons (pv 0) (pa_cons (pe_bltn (v := .ty "tuple") (by rfl) T.tuple (by decide +kernel) rfl) pa_nil)))))
        (pw_or1 (pt_not (pt_chain op_le op_le pe_int (pe_callB call_len_seq (by rfl) T.len PySem.boot_len (pa_cons (pv 0) pa_nil)) (pv 1)))))) (pss_one (ps_ret pe_bl)) pss_nil)
      (pss_one (ps_ret (pe_callB (cr_all rfl) (by rfl) T.all (by decide +kernel) (pa_cons
        (pe_lc (own := [("literal", 2)]) (g := gName 2) (tt := tYes) rfl scCl.nd (pi_tup (pv 0)) (blkOk_by (N := ["thing", "most", "literal"]) (sc := defScope sIsCl) (by decide +kernel))
          (fun _ _ _ _ _ => pg_name (i := 2) scCl.nd rfl (Or.inl rfl)) (fun _ _ _ _ _ => pts_nil)
          (fun _ _ _ _ _ => pe_call GL hr rfl L.m L.F.kp L.b .nil pass0 (pa_cons (pv 2) pa_nil))) pa_nil)))), ?_⟩
    refine ⟨_, rfl, v, .ty "tuple", _, _, _, rfl, .ty _, tyx, kit_ty t1, _, rfl, ?_⟩
    have no : isTupS d = false → isClS m d = false := by cases d <;> first | exact fun _ => rfl | exact fun z => nomatch z
    have q0 := q H fun _ _ z => z
    cases hs : isTupS d with
    | false =>
      rw [no hs] at q0
      exact iteT (iteT q0)
    | true =>
    refine iteF ?_
    cases hv with
    | tup ha p n =>
      rename_i a xs l
      have hl := p.length
      have ecl : isClS m (.tup l) = (decide (1 ≤ l.length ∧ (l.length : Int) ≤ m) && l.all isLitS) := rfl
      rw [ecl] at q q0
      refine ⟨_, rfl, a, xs, rfl, .inr ha, _, _, rfl, rfl, _, rfl, ?_⟩
      rw [hl]
      by_cases h1 : (1 : Int) ≤ (l.length : Int)
      case neg =>
        rw [decide_eq_false h1]
        rw [decide_eq_false (by omega), Bool.false_and] at q0
        exact iteF ⟨_, rfl, iteT q0⟩
      case pos =>
      rw [decide_eq_true h1]
      refine iteT ⟨_, rfl, _, _, rfl, rfl, _, rfl, ?_⟩
      by_cases h2 : (l.length : Int) ≤ m
      case neg =>
        rw [decide_eq_false h2]
        rw [decide_eq_false (by omega), Bool.false_and] at q0
        exact iteT q0
      case pos =>
      rw [decide_eq_true h2]
      rw [decide_eq_true (by omega), Bool.true_and] at q
      refine iteF ⟨_, rfl, a, rfl, ⟨_, ha⟩, fun D hD => ?_⟩
      refine lc_it (walk_tup (xs := xs)) (fun i H2 => Same H H2 ∧ H2 D = some (.lst ((l.take i).map fun d => .bl (isLitS d)))) ⟨new_same hD, upd_same⟩ (fun i H2 _ h => SqT.same h.1 ha) ?_ ?_
      · rintro i x H2 H3 hi ⟨s2, gD⟩ ⟨rfl, hx⟩
        obtain ⟨d', hcl, hx'⟩ := IsAll.get p hx
        refine ⟨rfl, yes_of ⟨_, rfl, x, d', rfl, Is.same s2 hx', fun H4 s4 => ⟨_, s4 _ _ gD, small1000 (by rw [List.length_map, List.length_take]; omega), same_upd hD (fun b u e => s4 _ _ (s2 _ _ e)), ?_⟩⟩⟩
        rw [upd_same, List.take_add_one, hcl, List.map_append]
        rfl
      · rintro H2 ⟨s2, gD⟩
        refine ⟨D, l.map isLitS, rfl, SqL.of ?_, ?_⟩
        · rw [gD, hl, List.take_of_length_le (Nat.le_refl _), List.map_map]
          rfl
        · have e : l.all isLitS = (l.map isLitS).all id := by
            rw [List.all_map]
            rfl
          rw [← e]
          exact q H2 s2
    | non => cases hs
    | lst h => cases hs
    | dic h => cases hs
    | bl b => cases hs
    | int i => cases hs
    | str x h => cases hs
end
end Kx
namespace Kx
open PySem L2 PySem.Spec PyProof.Rows

/-! the classes of errors: what the walk asks of each -/
abbrev veL : List Value := [.type "ValueError", .type "Exception", .type "BaseException", .type "object"]
theorem ve_ok (B : Addr) : PySem.HandSPX.refsVE (.ref B :: veL) = true := by
  show PySem.HandSPX.refsVE veL = true
  decide +kernel
structure Ct (K : PySem.W.Frag) (B C : Addr) : Prop where
  cls : ∃ nm q N bs sn sub ab col dd k0 k1 k2 k3 k5, K.lookup C = some (excClassObj nm q C N bs (.ref B :: veL) true sn sub ab col dd k0 k1 k2 k3 k5 "ValueError.__new__")
  sa : PySem.W.findIn K (.ref C) "__setattr__" = some (some (.builtin "object.__setattr__"))
  ga : PySem.W.findIn K (.ref C) "__getattribute__" = some (some (.builtin "BaseException.__getattribute__"))
  gg : PySem.W.findIn K (.ref C) "__getattr__" = some none
  tyC : PySem.W.typeIn K (.ref C) = some (.type "type")
  kC : PySem.W.keepIn K (.ref C) = true
  hdC : PySem.W.hasDictIn K C = true
  ha : PySem.W.findIn K (.ref C) "__class__" = some (some (.builtin "object.__class__"))
structure Gt (K : PySem.W.Frag) (B : Addr) : Prop where
  hn : PySem.W.specialIn K (.builtin "object.__class__") "__get__" = some (some (.builtin "getset_descriptor.__get__"))
  ht : PySem.W.takesIn K (.builtin "object.__class__") = some true
  isB : (PySem.W.clsIn K B).isSome = true
  tyB : PySem.W.typeIn K (.ref B) = some (.type "type")
  bsB : PySem.W.subIn K (.ref B) (.type "BaseException") = some true
  hdB : PySem.W.hasDictIn K B = true
section
variable {K : PySem.W.Frag} {B C D : Addr}
theorem Ct.cd (T : Ct K B C) : ∃ cd, PySem.W.clsIn K C = some cd ∧ cd.mro = .ref C :: .ref B :: veL := by
  obtain ⟨nm, q, N, bs, sn, sub, ab, col, dd, k0, k1, k2, k3, k5, h⟩ := T.cls
  exact ⟨_, by unfold PySem.W.clsIn; rw [h] <;> rfl, rfl⟩
theorem Ct.mro (T : Ct K B C) (v : Value) : PySem.W.mroIn K C v = some ((.ref C :: .ref B :: veL : List Value).contains v) := by
  obtain ⟨cd, h, e⟩ := T.cd
  unfold PySem.W.mroIn
  rw [h, Option.bind_some, e] <;> rfl
theorem Ct.base (T : Ct K B C) : PySem.W.subIn K (.ref C) (.type "BaseException") = some true := by
  show PySem.W.mroIn K C _ = _
  rw [T.mro]
  rfl
theorem Ct.isC (T : Ct K B C) : (PySem.W.clsIn K C).isSome = true := by
  obtain ⟨cd, h, _⟩ := T.cd
  rw [h]; rfl
theorem Ct.oex (T : Ct K B C) : OexC K C := by
  obtain ⟨nm, q, N, bs, sn, sub, ab, col, dd, k0, k1, k2, k3, k5, h⟩ := T.cls
  exact ⟨⟨nm, q, N, bs, _, sn, sub, ab, col, dd, k0, k1, k2, k3, k5, h, ve_ok B⟩, T.sa, T.base, T.tyC, T.kC⟩
theorem Ct.xf (T : Ct K B C) : XfC K C := ⟨T.ga, T.gg, T.base, T.hdC⟩
theorem kit_ref (T : Ct K B C) {b : Bool} (hD : (PySem.W.clsIn K D).isSome = true) (tD : PySem.W.typeIn K (.ref D) = some (.type "type")) (hb : (.ref C :: .ref B :: veL : List Value).contains (.ref D) = b) : PySem.W.kitOne K (.ref C) (.ref D) = some b := by
  unfold PySem.W.kitOne
  by_cases h : ((Value.ref C == Value.ref D) = true)
  · rw [if_pos h]
    have e : Value.ref C = Value.ref D := beq_iff_eq.mp h
    rw [← hb, ← e]
    simp
  · rw [if_neg h]
    show (if ((PySem.W.clsIn K D).isSome && PySem.W.typeIn K (.ref D) == some (.type "type")) = true then PySem.W.subIn K (.ref C) (.ref D) else none) = _
    rw [hD, tD, if_pos (by rfl)]
    show PySem.W.mroIn K C _ = _
    rw [T.mro, hb]
theorem kit_yes (T : Ct K B C) : PySem.W.kitOne K (.ref C) (.ref C) = some true := kit_ref T T.isC T.tyC (by simp)
theorem kit_no (T : Ct K B C) (S : Ct K B D) (h1 : D ≠ C) (h2 : D ≠ B) : PySem.W.kitOne K (.ref C) (.ref D) = some false := kit_ref T S.isC S.tyC (by simp [h1, h2])
theorem kit_b (T : Ct K B C) (G : Gt K B) : PySem.W.kitOne K (.ref C) (.ref B) = some true := kit_ref T G.isB G.tyB (by simp)
theorem kit_ve (T : Ct K B C) : PySem.W.kitOne K (.ref C) (.type "ValueError") = some true := by
  unfold PySem.W.kitOne
  rw [if_neg (by simp)]
  show (if PySem.W.kitMeta "ValueError" = true then PySem.W.subIn K (.ref C) (.type "ValueError") else none) = _
  rw [if_pos (by decide +kernel)]
  show PySem.W.mroIn K C _ = _
  rw [T.mro]
  rfl
end

/-! an error of a class as it stands: with its fields, or without any -/
def HasF (H : Hp) (a C : Addr) (fs : List (Str × V)) : Prop := ∃ d, d ≠ a ∧ H a = some (exo a C (some d)) ∧ H d = some (exd d fs)
def Bare (H : Hp) (a C : Addr) : Prop := H a = some (ExO (.ref C) a)
def ErrAt (H : Hp) (a C : Addr) : Prop := (∃ fs, HasF H a C fs) ∨ Bare H a C

section
variable {X : Cx} {pins : List (Addr × Obj)} {σ : L2.St} {H : Hp} {s : Shared} {a B C : Addr}
theorem err_inst (I : Inv X pins σ H s) (h : ErrAt H a C) : ∃ ox od, PySem.W.InstAt s.heap a ox C od := by
  rcases h with ⟨fs, d, _, h1, h2⟩ | h
  · obtain ⟨t1, e1⟩ := exo_at I.hok h1
    obtain ⟨mA, hn, _⟩ := exd_at I.hok h2
    obtain ⟨od, e2, _⟩ := lookIn_ns hn
    exact ⟨_, some od, ⟨e1, rfl, rfl, e2⟩⟩
  · obtain ⟨⟨oe, vs, e1, hz, hd, _⟩, _, _⟩ := I.hok a _ h
    obtain ⟨oc, odd, oda, osl⟩ := oe
    obtain ⟨z1, z2⟩ := hz
    dsimp only at z1 z2 hd
    subst z1 z2 hd
    exact ⟨_, none, ⟨e1, rfl, rfl, trivial⟩⟩
/-- isinstance(e, c), e an error that stands -/
def rIsErr (K : PySem.W.Frag) (B : Addr) : List V → Hp → VK → Prop := fun xs H Q => ∃ (a C : Addr) (c : V) (u : Value) (b : Bool), xs = [.ref a, c] ∧ ErrAt H a C ∧ Ct K B C ∧ ClsV c u ∧ PySem.W.kitOne K (.ref C) u = some b ∧ Q (.bl b) H
theorem call_isErr (G : Gt X.K B) : CallR X (.builtin "isinstance") (rIsErr X.K B) := by
  intro pins s σ H xs us Q I r h
  obtain ⟨a, C, c, u, b, rfl, he, T, k, e, q⟩ := h
  obtain ⟨u1, u2, rfl, r1, r2⟩ := vals2 r
  have z1 : u1 = Value.ref a := r1
  subst z1
  have e2 := k.eq r2
  subst e2
  obtain ⟨ox, od, J⟩ := err_inst I he
  exact PySem.W.kia_one (PySem.W.kitx_exc T.isC T.ga T.gg T.base T.ha G.hn G.ht (by rw [T.mro]; rfl)) I.kIn J e (fun z => nomatch z) fun tk => ⟨.bl b, H, I.tok tk, rfl, q⟩
/-- e.f, e an error that stands -/
theorem pe_errF {e : Expr} {te : TE} {pos : Pos} {n : Str} (he : PE X e te) (hb : attributeBase e n X.env (eval e X.env) = eval e X.env := by rfl) :
    PE X (.Attribute e n pos) (fun σ H Q => te σ H fun x H1 => ∃ (a B C : Addr) (fs : List (Str × V)) (v : V), x = .ref a ∧ Ct X.K B C ∧ PySem.W.findIn X.K (.ref C) n = some none ∧ HasF H1 a C fs ∧ fs.lookup n = some v ∧ Q v H1) := by
  refine ⟨fun pins s σ H Q I h => ?_⟩
  refine attr_of hb (thn (he.run pins s σ H _ I h) fun u s1 hh => ?_)
  obtain ⟨x, H1, I1, rx, a, B, C, fs, v, ex, T, hno, ⟨d, _, h1, h2⟩, l, q⟩ := hh
  subst ex
  obtain rfl : u = Value.ref a := rx
  obtain ⟨t1, e1⟩ := exo_at I1.hok h1
  obtain ⟨mA, hns, hr⟩ := exd_at I1.hok h2
  obtain ⟨od, ho, hl⟩ := lookIn_ns hns
  obtain ⟨u, hu, ru⟩ := RelO.some_of (v := v) (o := mA n) (by rw [← l]; exact hr n)
  have J : PySem.W.InstAt s1.heap a _ C (some od) := ⟨e1, rfl, rfl, ho⟩
  exact HandSPX.exc_get I1.kIn J T.ga T.gg T.base (PySem.W.findObj_own T.hdC hno rfl (by rw [hl, hu])) (handed_of ru) ⟨v, H1, I1.tok _, ru, q⟩
end

/-! how an error is made: its __init__ stores each argument under its own name -/
def spI (K : PySem.W.Frag) (ns : List Str) : Sp := fun vs H Q _ => ∃ (a B C : Addr) (ws : List V), vs = .ref a :: ws ∧ ws.length = ns.length ∧ Ct K B C ∧ (∀ f ∈ ns, PySem.W.findIn K (.ref C) f = some none) ∧ H a = some (exo a C none) ∧
  ∀ dx H', H dx = none → dx ≠ a → H' a = some (exo a C (some dx)) → H' dx = some (exd dx (ns.zip ws).reverse) → (∀ b, b ≠ a → b ≠ dx → H' b = H b) → Q .non H'
section
variable {X : Cx} {e : Expr} {es : List Expr} {ta : TA} {p pos : Pos}
/-- C(e, ..) as a value: a new error with its fields -/
theorem pe_err {CX : CXT} {x : Str} {B C fI : Addr} {k : Nat} {fd : FuncData} {ps : List Str} {ns : List Str} (T : Ct X.K B C) (hno : ∀ f ∈ ns, PySem.W.findIn X.K (.ref C) f = some none) (iC : PySem.W.findIn X.K (.ref C) "__init__" = some (some (.ref fI))) (tI : PySem.W.typeIn X.K (.ref fI) = some (.type "function"))
    (F1 : FnOk X.prog X.w X.K X.mg X.base CX k fI fd ps (spI X.K ns)) (hr : Room (k + 1) X.A) (hb : Binds X.K fd ps []) (hx : Passes CX X (fun _ _ _ => False)) (hm : X.mg x = some (.ref C)) (ha : PA X (e :: es) ta) (hg : Gl X x := by rfl)
    (hdb : (x == ("__debug__" : Str)) = false := by decide) (he : starEach (e :: es) X.env = (false, eval e X.env) :: starEach es X.env := by rfl) (hpl : (backTo pos (starEach es X.env)).any (·.1) = false := by rfl) :
    PE X (.Call (.Name x p) (e :: es) [] pos) (fun σ H Q => ta σ H fun vs H1 => vs.length = ns.length ∧ ns.length ≤ 100 ∧ ∀ a H2, H1 a = none → HasF H2 a C (ns.zip vs).reverse → Same H1 H2 → Q (.ref a) H2) := by
  refine ⟨fun pins s σ H Q I h => ?_⟩
  obtain ⟨nm, q, N, bs, sn, sub, ab, col, dd, k0, k1, k2, k3, k5, hC⟩ := T.cls
  refine wpAny_Call_Name_kw (ld_glob I hg hm ?_ hdb)
  refine PySem.W.callWith_K (h₀ := X.base) I.ok.mod.kin T.kC (thn (ha.run pos pins s σ H _ I h) fun us s1 ⟨vs, H1, I1, r1, hz, hz2, q1⟩ => ⟨I1.kIn, ?_⟩) he hpl
  show wpAny _ _ (call (.ref C) us) _ _ _
  obtain ⟨hp, g, dr, tk, os⟩ := s1
  have hsz : hp.objs.size ≤ hp.objs.size + 1 := Nat.le_succ _
  have hn : H1 (hp.objs.size + 1) = none := I1.hok.fresh hsz
  have kk : ∀ b o, hp.get? b = some o → ((hp.push (PySem.W.kdv_tup us)).push (PySem.HandSPX.excO C hp.objs.size)).get? b = some o := fun b o z => Heap.get?_push_of_some _ (Heap.get?_push_of_some _ z)
  have hget : ((hp.push (PySem.W.kdv_tup us)).push (PySem.HandSPX.excO C hp.objs.size)).get? (hp.objs.size + 1) = some (PySem.HandSPX.excO C hp.objs.size) := by heap_get
  have I2 := I1.laid (t' := tk) (a := hp.objs.size + 1) (o := exo (hp.objs.size + 1) C none) (h' := (hp.push (PySem.W.kdv_tup us)).push (PySem.HandSPX.excO C hp.objs.size)) kk hsz (exo_ok hget)
  have r2 : Vals (V.ref (hp.objs.size + 1) :: vs) (Value.ref (hp.objs.size + 1) :: us) := .cons rfl r1
  have hq : spI X.K ns (V.ref (hp.objs.size + 1) :: vs) (upd H1 (hp.objs.size + 1) (exo (hp.objs.size + 1) C none)) (fun v H2 => v = .non ∧ Q (.ref (hp.objs.size + 1)) H2) (fun _ _ _ => False) := by
    refine ⟨_, B, C, vs, rfl, hz, T, hno, upd_same, fun dx H' n1 n2 e1 e2 e3 => ⟨rfl, q1 _ H' hn ⟨dx, n2, e1, e2⟩ fun b o z => ?_⟩⟩
    have nb : b ≠ hp.objs.size + 1 := ne_of_none z hn
    have n3 : H1 dx = none := by rw [← upd_ne (H := H1) (o := exo (hp.objs.size + 1) C none) n2]; exact n1
    rw [e3 b nb (ne_of_none z n3), upd_ne nb]
    exact z
  have hl : (Value.ref (hp.objs.size + 1) :: us).length = ps.length := by
    have z := r2.length
    rw [F1.len _ _ _ _ hq] at z
    exact z.symm
  have hus : us.length ≤ sizeLine := by
    rw [← Paired.length r1, sizeLine_eq]
    omega
  have hbs := hb ⟨(hp.push (PySem.W.kdv_tup us)).push (PySem.HandSPX.excO C hp.objs.size), g, dr, tk, os⟩ (Value.ref (hp.objs.size + 1) :: us) I2.kIn (by rw [List.append_nil]; exact hl)
  rw [List.append_nil] at hbs
  refine wpAny_call (PySem.HandSPX.call_own F.excBase_ValueError (fun Y => PySem.HandSPX.refsVE_contains Y _ (ve_ok B)) (I1.kIn _ _ hC) (PySem.W.looks_findIn I1.kIn iC) (fun self => PySem.W.bind_fn I1.kIn self tI) hus
    (codeAny_mono (F1.run _ X.stack _ _ ⟨Value.ref (hp.objs.size + 1) :: us, []⟩ (Value.ref (hp.objs.size + 1) :: us) _ _ (fun _ _ _ => False) (hr.make C us []) (I2.env0.make C us []) hbs r2 hq) fun r s' hq' => ?_))
  cases r with
  | error er => exact hx pins σ _ _ er s' I2 hq'
  | ok fl =>
    cases fl with
    | ret u =>
      obtain ⟨v, H2, os2, bare2, un2, hok2, rv, ev, q2⟩ := hq'
      subst ev
      exact ⟨rv, .ref (hp.objs.size + 1), H2, I2.call' (ch := []) os2 un2 hok2 bare2 (fun b z => absurd z (by simp)), rfl, q2⟩
    | next => exact False.elim hq'
    | brk => exact False.elim hq'
    | cont => exact False.elim hq'
end
end Kx
set_option linter.all false
namespace Kx
open PySem L2 PySem.Spec PyProof.Rows
theorem takesN0 {X : Cx} : L2N.Takes X (fun _ _ _ _ => False) := fun _ _ x => by
  obtain ⟨_, _, _, _, _, _, _, _, _, _, _, _, _, _, _, _, z⟩ := x
  exact z.elim
section
variable {X : Cx} {e : Expr} {te : TE}
theorem pmkN_err {K : PySem.W.Frag} {H0 : Hp} (hK : X.K = K) (hH : X.H_0 = H0) (hx : X.ex = []) (he : PE X e te) : L2N.PMk X e (fun σ H Q => te σ H fun x H1 => ∃ a B C d : Addr, x = .ref a ∧ Ct K B C ∧ H1 a = some (exo a C (some d)) ∧ Fr0 H0 a ∧ Q (.ref C) (some d) (delH H1 a)) := by
  subst hK hH
  intro pins s σ H Q I h
  refine thn (he.run pins s σ H _ I h) fun u s1 ⟨v, H1, I1, r1, a, B, C, d, ev, T, ha, h0, q⟩ => ?_
  subst ev
  obtain rfl : u = Value.ref a := r1
  obtain ⟨t1, ho⟩ := exo_at I1.hok ha
  obtain ⟨G, gs, ga, J⟩ := I1.untrack (show H1 a = some (.ext _) from ha) h0 hx
  exact ⟨a, _, _, { s1 with heap := G }, delH H1 a, .ref C, some d, rfl, J, gs, ga, ho, ⟨rfl, rfl, fun vs z => by cases z; rfl⟩, rfl, rfl, delH_same, rfl, I1.bare, raises_own T.base T.tyC, q⟩
end
theorem del_keep {H H1 : Hp} {a : Addr} (s : Same H H1) (n : H a = none) : Same H (delH H1 a) := fun b o e => by
  rw [delH_ne (ne_of_none e n)]
  exact s b o e
/-- what is told of a refusal: its class and where -/
def refusal (CB : Addr) (E : XK) : Hp → Int → Prop := fun H1 i => ∀ d H', Same H1 H' → H' d = some (exd d [("at", .int i)]) → E (.ref CB) (some d) H'
structure Bad (K : PySem.W.Frag) (mg : Str → Option Value) (B CB fB : Addr) (fdB : FuncData) : Prop where
  T : Ct K B CB
  no : ∀ x ∈ ([("at" : PySem.Str)] : List PySem.Str), PySem.W.findIn K (.ref CB) x = some none
  iC : PySem.W.findIn K (.ref CB) "__init__" = some (some (.ref fB))
  tI : PySem.W.typeIn K (.ref fB) = some (.type "function")
  F : Fun K "__init__" "NoClauses.__init__" (inClass (top 3) 0) fB fdB
  b : Binds K fdB ["self", "at"] []
  gm : mg "NoClauses" = some (.ref CB)
/-- one of two readings of what is gone through -/
theorem pi_or {X : Cx} {tg it : Expr} {w1 w2 : TI} (h1 : PI X tg it w1) (h2 : PI X tg it w2) : PI X tg it (fun σ H R => w1 σ H R ∨ w2 σ H R) := ⟨fun pins s σ H R I h => h.elim (h1.run pins s σ H R I) (h2.run pins s σ H R I)⟩
theorem walk_enumT {K : PySem.W.Frag} {a : Addr} {xs : List V} : Walk (IteT K a) xs.length (fun H => SqT K H a xs) (YPair (fun i => some (.int (i : Nat))) (fun i => xs[i]?)) := by
  refine ⟨fun i _ hi q => ⟨xs, xs[i], q, by simp [hi]⟩, fun _ q => ⟨xs, q, Nat.le_refl _⟩, fun i H v H' _ q y => ?_⟩
  obtain ⟨T, x, h1, h2, h3, h4⟩ := y
  exact ⟨T, .int (i : Nat), x, h1, h2, h3, rfl, h4 xs q⟩
/-! _check_clauses -/
abbrev sChk : Stmt := top 27
theorem le_sz {n : Nat} (h : n ≤ 100) : n ≤ sizeLine := by rw [sizeLine_eq]; omega
def firstBad : List Sh → Option Nat
  | [] => none
  | d :: r => if isClS 6 d = true then (firstBad r).map (· + 1) else some 0
theorem fb_some : ∀ {ds : List Sh} {i : Nat} {d : Sh}, (∀ e ∈ ds.take i, isClS 6 e = true) → ds[i]? = some d → isClS 6 d = false → firstBad ds = some i
  | [], i, d, _, h, _ => by simp at h
  | x :: xs, 0, d, _, h, hd => by
    simp at h
    subst h
    unfold firstBad
    rw [hd]
    rfl
  | x :: xs, i + 1, d, ha, h, hd => by
    unfold firstBad
    rw [if_pos (ha x (by simp)), fb_some (ds := xs) (i := i) (fun e he => ha e (by simp [he])) (by simpa using h) hd]
    rfl
theorem fb_none : ∀ {ds : List Sh}, (∀ e ∈ ds, isClS 6 e = true) → firstBad ds = none
  | [], _ => rfl
  | x :: xs, ha => by
    unfold firstBad
    rw [if_pos (ha x (by simp)), fb_none (ds := xs) fun e he => ha e (by simp [he])]
    rfl
def Seq (K : PySem.W.Frag) (H : Hp) (v : V) (xs : List V) : Prop := ∃ a, v = .ref a ∧ (SqL K H a xs ∨ SqT K H a xs)
theorem Seq.same {K : PySem.W.Frag} {H H' : Hp} {v : V} {xs : List V} (s : Same H H') (h : Seq K H v xs) : Seq K H' v xs := let ⟨a, e, q⟩ := h; ⟨a, e, q.imp (SqL.same s) (SqT.same s)⟩
/-- no list and no tuple -/
def NoSeq (K : PySem.W.Frag) (H : Hp) (v : V) : Prop := ∃ T : String, (∀ H', Same H H' → TyX K H' v (.type T)) ∧ kitB T "list" = some false ∧ kitB T "tuple" = some false
def spChk (K : PySem.W.Frag) (CB : Addr) : Sp := fun vs H Q E => ∃ v : V, vs = [v] ∧ ((NoSeq K H v ∧ ∀ H', Same H H' → refusal CB E H' (-1)) ∨ (∃ xs, Seq K H v xs ∧ 20000 < xs.length ∧ xs.length ≤ 30000 ∧ ∀ H', Same H H' → refusal CB E H' (-1)) ∨
  ∃ (xs : List V) (ds : List Sh), Seq K H v xs ∧ IsAll K H xs ds ∧ xs.length ≤ 20000 ∧ (∀ i : Nat, firstBad ds = some i → ∀ H', Same H H' → refusal CB E H' i) ∧ (firstBad ds = none → ∀ H', Same H H' → Q .non H'))
theorem kit_lt {K : PySem.W.Frag} {T : String} {a b : Bool} (h1 : kitB T "list" = some a) (h2 : kitB T "tuple" = some b) : PySem.W.kitAny K (.type T) [.type "list", .type "tuple"] = some (a || b) := by
  unfold PySem.W.kitAny
  rw [kit_ty h1]
  cases a
  · unfold PySem.W.kitAny
    rw [kit_ty h2]
    cases b <;> rfl
  · rfl
section
variable {P : Program} {w : World} {K : PySem.W.Frag} {mg : Str → Option Value} {base : Heap} {B CB fB : Addr} {fdB : FuncData}
theorem sc_NoCl : FnScope ["self", "at"] ["self", "at"] (defScope (inClass (top 3) 0)) := ⟨rfl, rfl, rfl, by decide +kernel, rfl, by decide +kernel, by decide +kernel⟩
theorem ok_NoCl {f : Addr} {fd : FuncData} (F : Fun K "__init__" "NoClauses.__init__" (inClass (top 3) 0) f fd) : FnOk P w K mg base CX0 1 f fd ["self", "at"] (spI K ["at"]) := by
  refine F.ok sc_NoCl (fun vs H Q E h => ?_) (fun cdv A outer s H vs Q E hr h => ?_)
  · obtain ⟨a, B, C, ws, rfl, hl, _⟩ := h
    show ws.length + 1 = 2
    rw [hl] <;> rfl
  · obtain ⟨a, B, C, ws, rfl, hl, T, hno, ha, k⟩ := h
    obtain ⟨v0, rfl⟩ : ∃ v0, ws = [v0] := match ws, hl with | [v0], _ => ⟨v0, rfl⟩
    refine ⟨_, pss_one (ps_ost (pv 0) (pv 1)), ?_⟩
    refine ⟨_, rfl, _, rfl, a, C, rfl, T.oex, hno _ (by simp), .inl ⟨ha, fun dx n1 n2 => ?_⟩⟩
    exact k dx _ n1 n2 upd_same (by rw [upd_ne n2, upd_same]; rfl) (fun b h1 h2 => by rw [upd_ne h1, upd_ne h2])
abbrev nChk : List Str := ["clauses", "at", "clause"]
theorem scChk : FnScope nChk ["clauses"] (defScope sChk) := ⟨rfl, rfl, rfl, by decide +kernel, rfl, by decide +kernel, by decide +kernel⟩
structure Fm (K : PySem.W.Frag) (mg : Str → Option Value) : Prop where
  T : Bx mg
  mC : ∃ k, mg "MOST_CLAUSES" = some (.int 20000 k)
  mL : ∃ k, mg "MOST_LITERALS" = some (.int 6 k)
  int : ∃ f fd, Fs K mg "is_integer" sIsInt ["thing"] f fd
  lit : ∃ f fd, Fs K mg "is_literal" sIsLit ["thing"] f fd
  cl : ∃ f fd, Fs K mg "is_clause" sIsCl ["thing", "most"] f fd
theorem ok_chk {f : Addr} {fd : FuncData} (F : Fs K mg "_check_clauses" sChk ["clauses"] f fd) (M : Fm K mg) (W : Bad K mg B CB fB fdB) : FnOk P w K mg base (L2N.CX P w) 4 f fd ["clauses"] (spChk K CB) := by
  obtain ⟨t1, hM⟩ := M.mC
  obtain ⟨t2, hL⟩ := M.mL
  obtain ⟨_, _, dI⟩ := M.int
  obtain ⟨_, _, dL⟩ := M.lit
  obtain ⟨_, _, dC⟩ := M.cl
  have T := M.T
  have GC : FnOk P w K mg base CX0 3 _ _ ["thing", "most"] (spIsClG K) := g_iscl dC dL dI T
  obtain ⟨oc, od, kV, doc, pm, an, cdv, ct, osl, rfl, lk, hcd⟩ := F.F.ex
  refine fn_of lk hcd scChk (fun vs H Q E h => ?_) fun A outer s H vs Q E hr h => ?_
  · obtain ⟨v, rfl, _⟩ := h
    rfl
  · obtain ⟨v, rfl, hv⟩ := h
    have tk : L2N.Takes (cxOf (L2N.CX P w) P w K mg base nChk "_check_clauses" (defScope sChk) f cdv A outer s H E) (fun cls d _ H => E cls d H) := L2N.takes_of rfl rfl rfl rfl
    have hr1 : Room 2 (A.deeper (envOfC "_check_clauses" (defScope sChk) s.heap.objs.size f cdv)) := hr.mono (by decide)
    refine ⟨_, pss_cons (ps_if (PW.pt (pw_or (pt_not (pt_val (pe_callB call_isiT (by rfl) T.isi boot_isinstance (pa_cons (pv 0) (pa_cons (pe_tup (pa_cons (pe_bltn (v := .ty "list") (by rfl) T.list (by decide +kernel) rfl) (pa_cons (pe_bltn (v := .ty "tuple") (by rfl) T.tuple (by decide +kernel) rfl) pa_nil))) pa_nil)))))
          (pw_or1 (pt_cmpR op_gt (pe_callB call_len_seq (by rfl) T.len PySem.boot_len (pa_cons (pv 0) pa_nil)) (pe_glob (v := .int 20000) (by rfl) hM ⟨_, rfl⟩) (nomark _)))))
        (pss_one (L2N.ps_raise rfl tk (by exact (pmkN_err (X := cxOf (L2N.CX P w) P w K mg base nChk "_check_clauses" (defScope sChk) f cdv A outer s H E) (K := K) (H0 := H) rfl rfl rfl
          (pe_err (ns := ["at"]) (X := cxOf (L2N.CX P w) P w K mg base nChk "_check_clauses" (defScope sChk) f cdv A outer s H E) W.T W.no W.iC W.tI (ok_NoCl W.F) hr1 W.b pass0 W.gm (pa_cons (pe_un un_neg pe_int) pa_nil)))))) pss_nil)
      (pss_one (ps_for (passes_of rfl) rfl (pi_or (pi_enum (by rfl) T.enum (pa_cons (pv 0) pa_nil)) (pi_enumT (by rfl) T.enum (pa_cons (pv 0) pa_nil))) (pg_tup rfl (pgs_cons (pg_name (i := 1) scChk.nd rfl (Or.inl rfl)) (pgs_cons (pg_name (i := 2) scChk.nd rfl (Or.inl rfl)) pgs_nil)))
        (pss_one (ps_if (pt_not (pt_val (pe_call GC hr (by rfl) dC.m dC.F.kp dC.b .nil pass0 (pa_cons (pv 2) (pa_cons (pe_glob (v := .int 6) (by rfl) hL ⟨_, rfl⟩) pa_nil)))))
          (pss_one (L2N.ps_raise rfl tk (by exact (pmkN_err (X := cxOf (L2N.CX P w) P w K mg base nChk "_check_clauses" (defScope sChk) f cdv A outer s H E) (K := K) (H0 := H) rfl rfl rfl
          (pe_err (ns := ["at"]) (X := cxOf (L2N.CX P w) P w K mg base nChk "_check_clauses" (defScope sChk) f cdv A outer s H E) W.T W.no W.iC W.tI (ok_NoCl W.F) hr1 W.b pass0 W.gm (pa_cons (pv 1) pa_nil)))))) pss_nil)))), ?_⟩
    refine ⟨_, rfl, le_sz (Nat.le_of_ble_eq_true rfl), fun tp htp => ?_⟩
    have s1 := new_same (o := .tup [V.ty "list", .ty "tuple"]) htp
    have pc : Paired ClsV [V.ty "list", .ty "tuple"] [.type "list", .type "tuple"] := .cons (.ty _) (.cons (.ty _) .nil)
    have g1 : (upd H tp (.tup [V.ty "list", .ty "tuple"])) tp = some (.tup [V.ty "list", .ty "tuple"]) := upd_same
    obtain ⟨H1, eH1⟩ : ∃ H1, upd H tp (.tup [V.ty "list", .ty "tuple"]) = H1 := ⟨_, rfl⟩
    rw [eH1] at s1 g1 ⊢
    rcases hv with ⟨⟨T0, hty, k1, k2⟩, q⟩ | ⟨xs, hs, hl, hl2, q⟩ | ⟨xs, ds, hs, hd, hl, qf, qn⟩
    · refine ⟨v, tp, _, _, _, _, rfl, g1, pc, hty H1 s1, kit_lt k1 k2, _, rfl, iteT (iteT ?_)⟩
      refine ⟨_, rfl, rfl, (by show 1 ≤ 100; decide), fun e H2 n2 h2 s2 => ?_⟩
      obtain ⟨d, hne, h2a, h2d⟩ := h2
      exact ⟨e, B, CB, d, rfl, W.T, h2a, fr0_none (s1.free n2), q H1 s1 d _ (del_keep s2 n2) ((delH_ne hne).trans h2d)⟩
    · obtain ⟨a, rfl, ha⟩ := hs.same s1
      have ty : ∃ T0 : String, TyX K H1 (.ref a) (.type T0) ∧ PySem.W.kitAny K (.type T0) [.type "list", .type "tuple"] = some true := by
        rcases ha with ha | ha
        · exact ⟨"list", tyL ha, kit_lt (a := true) (b := false) (by decide +kernel) (by decide +kernel)⟩
        · exact ⟨"tuple", tyT ha, kit_lt (a := false) (b := true) (by decide +kernel) (by decide +kernel)⟩
      obtain ⟨T0, ty1, ty2⟩ := ty
      refine ⟨.ref a, tp, _, _, _, true, rfl, g1, pc, ty1, ty2, _, rfl, iteF ?_⟩
      refine ⟨_, rfl, a, xs, rfl, ha, _, _, rfl, rfl, _, rfl, ?_⟩
      rw [decide_eq_true (by omega)]
      refine iteT ⟨_, rfl, rfl, (by show 1 ≤ 100; decide), fun e H2 n2 h2 s2 => ?_⟩
      obtain ⟨d, hne, h2a, h2d⟩ := h2
      exact ⟨e, B, CB, d, rfl, W.T, h2a, fr0_none (s1.free n2), q H1 s1 d _ (del_keep s2 n2) ((delH_ne hne).trans h2d)⟩
    · obtain ⟨a, rfl, ha⟩ := hs.same s1
      have ty : ∃ T0 : String, TyX K H1 (.ref a) (.type T0) ∧ PySem.W.kitAny K (.type T0) [.type "list", .type "tuple"] = some true := by
        rcases ha with ha | ha
        · exact ⟨"list", tyL ha, kit_lt (a := true) (b := false) (by decide +kernel) (by decide +kernel)⟩
        · exact ⟨"tuple", tyT ha, kit_lt (a := false) (b := true) (by decide +kernel) (by decide +kernel)⟩
      obtain ⟨T0, ty1, ty2⟩ := ty
      refine ⟨.ref a, tp, _, _, _, true, rfl, g1, pc, ty1, ty2, _, rfl, iteF ?_⟩
      refine ⟨_, rfl, a, xs, rfl, ha, _, _, rfl, rfl, _, rfl, ?_⟩
      rw [decide_eq_false (by omega)]
      refine iteF ?_
      have hlen := hd.length
      rcases ha with ha | ha
      · refine .inl ⟨_, rfl, a, xs, rfl, ha, ?_⟩
        refine for_it walk_enum (fun i σ H3 => (∃ o1 o2 : Option V, σ = [some (.ref a), o1, o2]) ∧ Same H1 H3 ∧ ∀ d ∈ ds.take i, isClS 6 d = true) ⟨⟨_, _, rfl⟩, fun _ _ z => z, fun d h => by simp at h⟩ (fun i σ H3 _ h => SqL.same h.2.1 ha) ?_ ?_
        · rintro i x σ H3 H4 hi ⟨⟨o1, o2, rfl⟩, s3, hok⟩ ⟨t, y1, y, rfl, ht, rfl, e1, hy⟩
          injection e1 with e1
          subst e1
          obtain ⟨d, hdi, hyd⟩ := IsAll.get hd hy
          have s4 : Same H1 (upd H3 t (.tup [.int (i : Nat), y])) := same_upd (Same.free s3 ht) s3
          refine ⟨t, _, rfl, SqT.of upd_same, rfl, _, _, rfl, _, _, rfl, rfl, ?_⟩
          refine ⟨_, rfl, y, d, 6, rfl, Is.same s4 (Is.same s1 hyd), fun H5 s5 => ⟨_, rfl, ?_⟩⟩
          cases hc : isClS 6 d with
          | true =>
            refine iteF ⟨⟨_, _, rfl⟩, s4.trans s5, fun e he => ?_⟩
            rw [List.take_add_one, hdi] at he
            rcases List.mem_append.mp he with he | he
            · exact hok e he
            · rw [List.mem_singleton.mp (show e ∈ [d] from he)]
              exact hc
          | false =>
            have s15 : Same H H5 := s1.trans (s4.trans s5)
            refine iteT ⟨_, rfl, rfl, (by show 1 ≤ 100; decide), fun e H2 n2 h2 s2 => ?_⟩
            obtain ⟨d', hne, h2a, h2d⟩ := h2
            exact ⟨e, B, CB, d', rfl, W.T, h2a, fr0_none (s15.free n2), qf i (fb_some hok hdi hc) H5 s15 d' _ (del_keep s2 n2) ((delH_ne hne).trans h2d)⟩
        · rintro σ H3 ⟨⟨o1, o2, rfl⟩, s3, hok⟩
          rw [hlen, List.take_of_length_le (Nat.le_refl _)] at hok
          exact qn (fb_none hok) H3 (s1.trans s3)
      · refine .inr ⟨_, rfl, a, xs, rfl, ha, ?_⟩
        refine for_it walk_enumT (fun i σ H3 => (∃ o1 o2 : Option V, σ = [some (.ref a), o1, o2]) ∧ Same H1 H3 ∧ ∀ d ∈ ds.take i, isClS 6 d = true) ⟨⟨_, _, rfl⟩, fun _ _ z => z, fun d h => by simp at h⟩ (fun i σ H3 _ h => SqT.same h.2.1 ha) ?_ ?_
        · rintro i x σ H3 H4 hi ⟨⟨o1, o2, rfl⟩, s3, hok⟩ ⟨t, y1, y, rfl, ht, rfl, e1, hy⟩
          injection e1 with e1
          subst e1
          obtain ⟨d, hdi, hyd⟩ := IsAll.get hd hy
          have s4 : Same H1 (upd H3 t (.tup [.int (i : Nat), y])) := same_upd (Same.free s3 ht) s3
          refine ⟨t, _, rfl, SqT.of upd_same, rfl, _, _, rfl, _, _, rfl, rfl, ?_⟩
          refine ⟨_, rfl, y, d, 6, rfl, Is.same s4 (Is.same s1 hyd), fun H5 s5 => ⟨_, rfl, ?_⟩⟩
          cases hc : isClS 6 d with
          | true =>
            refine iteF ⟨⟨_, _, rfl⟩, s4.trans s5, fun e he => ?_⟩
            rw [List.take_add_one, hdi] at he
            rcases List.mem_append.mp he with he | he
            · exact hok e he
            · rw [List.mem_singleton.mp (show e ∈ [d] from he)]
              exact hc
          | false =>
            have s15 : Same H H5 := s1.trans (s4.trans s5)
            refine iteT ⟨_, rfl, rfl, (by show 1 ≤ 100; decide), fun e H2 n2 h2 s2 => ?_⟩
            obtain ⟨d', hne, h2a, h2d⟩ := h2
            exact ⟨e, B, CB, d', rfl, W.T, h2a, fr0_none (s15.free n2), qf i (fb_some hok hdi hc) H5 s15 d' _ (del_keep s2 n2) ((delH_ne hne).trans h2d)⟩
        · rintro σ H3 ⟨⟨o1, o2, rfl⟩, s3, hok⟩
          rw [hlen, List.take_of_length_le (Nat.le_refl _)] at hok
          exact qn (fb_none hok) H3 (s1.trans s3)
end
end Kx
set_option linter.all false
namespace Kx
open PySem L2 PySem.Spec PyProof.Rows
theorem SqT.lst {K : PySem.W.Frag} {H : Hp} {a b : Addr} {ms : List V} {u : HO} {xs : List V} (ha : H a = some (.lst ms)) (h : SqT K H b xs) : SqT K (upd H a u) b xs := by
  rcases h with (h | ⟨o, h⟩) | h
  · exact .inl (.inl (by rw [upd_ne (fun e => by rw [e, ha] at h; cases h)]; exact h))
  · exact .inl (.inr ⟨o, by rw [upd_ne (fun e => by rw [e, ha] at h; cases h)]; exact h⟩)
  · exact .inr h
theorem IsC.lst {K : PySem.W.Frag} {H : Hp} {a : Addr} {ms : List V} {u : HO} {x : V} {c : List Lit} (ha : H a = some (.lst ms)) (h : IsC K H x c) : IsC K (upd H a u) x c := by
  obtain ⟨b, ys, e, q⟩ := h
  exact ⟨b, ys, e, SqT.lst ha q.sq, L2.Paired.mapP q.p fun _ _ ⟨d, z, r⟩ => ⟨d, z, SqT.lst ha r⟩, q.l1, q.l2⟩
theorem paired_app {α β : Type} {R : α → β → Prop} : ∀ {xs : List α} {ys : List β} {xs' : List α} {ys' : List β}, Paired R xs ys → Paired R xs' ys' → Paired R (xs ++ xs') (ys ++ ys')
  | _, _, _, _, .nil, h => h
  | _, _, _, _, .cons a t, h => .cons a (paired_app t h)
/-! negated, closes -/
abbrev sNeg : Stmt := top 29
abbrev sClo : Stmt := top 30
abbrev nNeg : List Str := ["clause", "left", "right", "number"]
abbrev neg (l : Lit) : Lit := (l.2.1, l.1, -l.2.2 - 1)
abbrev litS (l : Lit) : Sh := .tup [.str l.1, .str l.2.1, .int l.2.2]
abbrev clS (c : List Lit) : Sh := .tup (c.map litS)
section
variable {K : PySem.W.Frag} {H : Hp}
theorem lits_is : ∀ {xs : List V} {c : List Lit}, Paired (IsLit K H) xs c → (∀ l ∈ c, Short l.1 ∧ Short l.2.1) → IsAll K H xs (c.map litS)
  | _, _, .nil, _ => .nil
  | _, _, .cons (b := l) h q, hs => by
    obtain ⟨a, rfl, z⟩ := h
    obtain ⟨s1, s2⟩ := hs l List.mem_cons_self
    exact .cons (.tup z (.cons (.str _ s1) (.cons (.str _ s2) (.cons (.int _) .nil))) (by show 3 ≤ 1000; decide)) (lits_is q fun l hl => hs l (List.mem_cons_of_mem _ hl))
theorem cl_is {x : V} {c : List Lit} (h : IsC K H x c) (hs : ∀ l ∈ c, Short l.1 ∧ Short l.2.1) : Is K H x (clS c) := by
  obtain ⟨a, ys, rfl, q⟩ := h
  exact .tup q.sq (lits_is q.p hs) (by rw [List.length_map]; exact q.l2)
theorem clS_ok {c : List Lit} (h1 : 1 ≤ c.length) (h6 : c.length ≤ 6) : isClS 6 (clS c) = true := by
  show (decide (1 ≤ (c.map litS).length ∧ ((c.map litS).length : Int) ≤ 6) && (c.map litS).all isLitS) = true
  rw [List.length_map, decide_eq_true ⟨h1, by omega⟩, Bool.true_and, List.all_map]
  exact List.all_eq_true.mpr fun l _ => rfl
end
def Refd (K : PySem.W.Frag) (H : Hp) (v : V) (at_ : Int) : Prop := (NoSeq K H v ∧ at_ = -1) ∨ (∃ xs, Seq K H v xs ∧ 20000 < xs.length ∧ xs.length ≤ 30000 ∧ at_ = -1) ∨ ∃ (xs : List V) (ds : List Sh) (i : Nat), Seq K H v xs ∧ IsAll K H xs ds ∧ xs.length ≤ 20000 ∧ firstBad ds = some i ∧ at_ = (i : Int)
theorem refd_chk {K : PySem.W.Frag} {H : Hp} {v : V} {i : Int} {CB : Addr} {G : Hp → Prop} {E : XK} (h : Refd K H v i) (q : ∀ H', Same H H' → refusal CB E H' i) : ∃ v' : V, [v] = [v'] ∧ ((NoSeq K H v' ∧ ∀ H', Same H H' → refusal CB E H' (-1)) ∨ (∃ xs, Seq K H v' xs ∧ 20000 < xs.length ∧ xs.length ≤ 30000 ∧ ∀ H', Same H H' → refusal CB E H' (-1)) ∨
  ∃ (xs : List V) (ds : List Sh), Seq K H v' xs ∧ IsAll K H xs ds ∧ xs.length ≤ 20000 ∧ (∀ i : Nat, firstBad ds = some i → ∀ H', Same H H' → refusal CB E H' i) ∧ (firstBad ds = none → ∀ H', Same H H' → G H')) := by
  rcases h with ⟨h, rfl⟩ | ⟨xs, h1, h2, h3, rfl⟩ | ⟨xs, ds, j, h1, h2, h3, h4, rfl⟩
  · exact ⟨v, rfl, .inl ⟨h, q⟩⟩
  · exact ⟨v, rfl, .inr (.inl ⟨xs, h1, h2, h3, q⟩)⟩
  · refine ⟨v, rfl, .inr (.inr ⟨xs, ds, h1, h2, h3, fun k e => ?_, fun e => ?_⟩)⟩
    · rw [h4] at e
      cases e
      exact q
    · rw [h4] at e
      cases e
theorem ps_dead {X : Cx} {st : Stmt} : PS X st (fun _ _ _ => False) := ⟨fun _ _ _ _ _ _ h => h.elim⟩
theorem pe_dead {X : Cx} {e : Expr} : PE X e (fun _ _ _ => False) := ⟨fun _ _ _ _ _ _ h => h.elim⟩
def spNeg (K : PySem.W.Frag) (CB : Addr) : Sp := fun vs H Q E => ∃ v : V, vs = [v] ∧ ((∃ d, Is K H v d ∧ isClS 6 d = false ∧ ∀ H', Same H H' → refusal CB E H' 0) ∨
  ∃ c : List Lit, IsC K H v c ∧ c.length ≤ 6 ∧ (∀ l ∈ c, Short l.1 ∧ Short l.2.1) ∧ ∀ r zs H', SqT K H' r zs → Paired (fun z l => IsC K H' z [neg l]) zs c → Same H H' → Q (.ref r) H')
def spClo (K : PySem.W.Frag) (CB : Addr) : Sp := fun vs H _ E => ∃ (v t : V) (i : Int), vs = [v, t] ∧ Refd K H v i ∧ ∀ H', Same H H' → refusal CB E H' i
section
variable {P : Program} {w : World} {K : PySem.W.Frag} {mg : Str → Option Value} {base : Heap} {B CB fB : Addr} {fdB : FuncData}
theorem scNeg : FnScope nNeg ["clause"] (defScope sNeg) := ⟨rfl, rfl, rfl, by decide +kernel, rfl, by decide +kernel, by decide +kernel⟩
theorem ok_neg {f fK : Addr} {fd fdK : FuncData} (F : Fs K mg "negated" sNeg ["clause"] f fd) (dK : Fs K mg "_check_clauses" sChk ["clauses"] fK fdK) (M : Fm K mg) (W : Bad K mg B CB fB fdB) : FnOk P w K mg base (L2N.CX P w) 5 f fd ["clause"] (spNeg K CB) := by
  have T := M.T
  have GK : FnOk P w K mg base (L2N.CX P w) 4 fK fdK ["clauses"] (spChk K CB) := ok_chk dK M W
  obtain ⟨oc, od, kV, doc, pm, an, cdv, ct, osl, rfl, lk, hcd⟩ := F.F.ex
  refine fn_of lk hcd scNeg (fun vs H Q E h => ?_) fun A outer s H vs Q E hr h => ?_
  · obtain ⟨v, rfl, _⟩ := h
    rfl
  · obtain ⟨v, rfl, hv⟩ := h
    have tk : L2N.Takes (cxOf (L2N.CX P w) P w K mg base nNeg "negated" (defScope sNeg) f cdv A outer s H E) (fun cls d _ H => E cls d H) := L2N.takes_of rfl rfl rfl rfl
    have hx : Passes (L2N.CX P w) (cxOf (L2N.CX P w) P w K mg base nNeg "negated" (defScope sNeg) f cdv A outer s H E) E := L2N.passes_call tk (fun _ _ _ _ z => z)
    refine ⟨_, pss_cons (ps_expr (pe_call GK hr (by rfl) dK.m dK.F.kp dK.b .nil hx (pa_cons (pe_lst (pa_cons (pv 0) pa_nil)) pa_nil)))
      (pss_one (ps_ret (pe_tupleOf (by rfl) T.tuple (pe_lc (own := [("left", 1), ("right", 2), ("number", 3)]) (g := gTup K 3 (gCons (gName 1) (gCons (gName 2) (gCons (gName 3) gNil)))) (tt := tYes) rfl scNeg.nd (pi_tup (pv 0)) (blkOk_by (N := nNeg) (sc := defScope sNeg) (by decide +kernel))
        (fun _ _ _ _ _ => pg_tup rfl (pgs_cons (pg_name (i := 1) scNeg.nd rfl (Or.inl rfl)) (pgs_cons (pg_name (i := 2) scNeg.nd rfl (Or.inl rfl)) (pgs_cons (pg_name (i := 3) scNeg.nd rfl (Or.inl rfl)) pgs_nil)))) (fun _ _ _ _ _ => pts_nil)
        (fun _ _ _ _ _ => pe_tup (pa_cons (pe_tup (pa_cons (pv 2) (pa_cons (pv 1) (pa_cons (pe_op op_sub (pe_un un_neg (pv 3)) pe_int) pa_nil)))) pa_nil)))))), ?_⟩
    refine ⟨_, rfl, le_sz (Nat.le_of_ble_eq_true rfl), fun l hl => ?_⟩
    have s1 := new_same (o := .lst [v]) hl
    have g1 : (upd H l (.lst [v])) l = some (.lst [v]) := upd_same
    obtain ⟨H1, eH1⟩ : ∃ H1, upd H l (.lst [v]) = H1 := ⟨_, rfl⟩
    rw [eH1] at s1 g1 ⊢
    rcases hv with ⟨d, hd, hb, q⟩ | ⟨c, hc, h6, hs, q⟩
    · exact refd_chk (i := 0) (.inr (.inr ⟨[v], [d], 0, ⟨l, rfl, .inl (SqL.of g1)⟩, .cons (hd.same s1) .nil, by show 1 ≤ 20000; decide, by unfold firstBad; rw [hb]; rfl, rfl⟩)) fun H' s' => q H' (s1.trans s')
    · have hc1 := IsC.same s1 hc
      obtain ⟨a, ys, rfl, hcl⟩ := id hc1
      have hok : isClS 6 (clS c) = true := clS_ok hcl.l1 h6
      refine ⟨.ref l, rfl, .inr (.inr ⟨[.ref a], [clS c], ⟨l, rfl, .inl (SqL.of g1)⟩, .cons (cl_is hc1 hs) .nil, by show 1 ≤ 20000; decide, fun i e => ?_, fun _ H2 s2 => ?_⟩)⟩
      · rw [fb_none fun e he => by rw [List.mem_singleton.mp he]; exact hok] at e
        cases e
      have hc2 := Cl.same s2 hcl
      have hyl := hc2.len
      refine ⟨_, rfl, a, rfl, ⟨_, hc2.sq⟩, fun D hD => ?_⟩
      refine lc_it (walk_tup (xs := ys)) (fun i H3 => Same H2 H3 ∧ ∃ zs, H3 D = some (.lst zs) ∧ Paired (fun z l => IsC K H3 z [neg l]) zs (c.take i)) ⟨new_same hD, [], upd_same, .nil⟩ (fun i H3 _ h => SqT.same h.1 hc2.sq) ?_ ?_
      · rintro i x H3 H4 hi ⟨s3, zs, gD, hp⟩ ⟨rfl, hx'⟩
        obtain ⟨lt, hcl', hx2⟩ := paired_get hc2.p hx'
        obtain ⟨b, rfl, hb⟩ := IsLit.same s3 hx2
        refine ⟨b, _, rfl, hb, rfl, _, _, rfl, _, _, rfl, _, _, rfl, rfl, ?_⟩
        refine ⟨rfl, yes_of ?_⟩
        refine ⟨_, rfl, _, rfl, _, rfl, _, rfl, _, _, rfl, rfl, le_sz (Nat.le_of_ble_eq_true rfl), fun t1 h1 => ⟨le_sz (Nat.le_of_ble_eq_true rfl), fun t2 h2 => ?_⟩⟩
        have sA := new_same (o := .tup [V.str lt.2.1, .str lt.1, .int (-lt.2.2 - 1)]) h1
        have sB := sA.trans (new_same (o := .tup [V.ref t1]) h2)
        have iC : IsC K (upd (upd H4 t1 (.tup [V.str lt.2.1, .str lt.1, .int (-lt.2.2 - 1)])) t2 (.tup [V.ref t1])) (.ref t2) [neg lt] := ⟨t2, [.ref t1], rfl, SqT.of upd_same, .cons ⟨t1, rfl, SqT.same (new_same h2) (SqT.of upd_same)⟩ .nil, by show 1 ≤ 1; decide, by show 1 ≤ 1000; decide⟩
        have hzl : zs.length = (c.take i).length := Paired.length hp
        have gD2 := sB _ _ gD
        refine ⟨zs, gD2, small1000 (by rw [hzl, List.length_take]; omega), same_upd hD (s3.trans sB), zs ++ [.ref t2], upd_same, ?_⟩
        rw [List.take_add_one, hcl']
        exact paired_app (L2.Paired.mapP hp fun _ _ z => IsC.lst gD2 (IsC.same sB z)) (.cons (IsC.lst gD2 iC) .nil)
      · rintro H3 ⟨s3, zs, gD, hp⟩
        rw [hyl, List.take_of_length_le (Nat.le_refl _)] at hp
        have hzl : zs.length = c.length := Paired.length hp
        refine .inl ⟨D, zs, rfl, SqL.of gD, fun r hr' => ?_⟩
        have s4 := new_same (o := .tup zs) hr'
        exact q r zs _ (SqT.of upd_same) (L2.Paired.mapP hp fun _ _ z => IsC.same s4 z) (((s1.trans s2).trans s3).trans s4)
abbrev nClo : List Str := ["clauses", "tree", "chosen", "rows", "index", "literal", "part", "below"]
theorem scClo : FnScope nClo ["clauses", "tree"] (defScope sClo) := ⟨rfl, rfl, rfl, by decide +kernel, rfl, by decide +kernel, by decide +kernel⟩
theorem ok_clo {f fK : Addr} {fd fdK : FuncData} (F : Fs K mg "closes" sClo ["clauses", "tree"] f fd) (dK : Fs K mg "_check_clauses" sChk ["clauses"] fK fdK) (M : Fm K mg) (W : Bad K mg B CB fB fdB) : FnOk P w K mg base (L2N.CX P w) 5 f fd ["clauses", "tree"] (spClo K CB) := by
  have GK : FnOk P w K mg base (L2N.CX P w) 4 fK fdK ["clauses"] (spChk K CB) := ok_chk dK M W
  obtain ⟨oc, od, kV, doc, pm, an, cdv, ct, osl, rfl, lk, hcd⟩ := F.F.ex
  refine fn_of lk hcd scClo (fun vs H Q E h => ?_) fun A outer s H vs Q E hr h => ?_
  · obtain ⟨v, t, i, rfl, _⟩ := h
    rfl
  · obtain ⟨v, t, i, rfl, hv, q⟩ := h
    have tk : L2N.Takes (cxOf (L2N.CX P w) P w K mg base nClo "closes" (defScope sClo) f cdv A outer s H E) (fun cls d _ H => E cls d H) := L2N.takes_of rfl rfl rfl rfl
    have hx : Passes (L2N.CX P w) (cxOf (L2N.CX P w) P w K mg base nClo "closes" (defScope sClo) f cdv A outer s H E) E := L2N.passes_call tk (fun _ _ _ _ z => z)
    refine ⟨_, pss_cons (ps_expr (pe_call GK hr (by rfl) dK.m dK.F.kp dK.b .nil hx (pa_cons (pv 0) pa_nil))) (pss_cons ps_dead (pss_cons ps_dead (pss_cons ps_dead (pss_cons ps_dead (pss_one ps_dead))))), ?_⟩
    exact ⟨_, rfl, refd_chk hv q⟩
end
end Kx
namespace Kx
open PySem L2
abbrev sWell : Stmt := top 36
abbrev sDraw : Stmt := top 37
abbrev sOne : Stmt := top 38

/-- a source of draws as it stands: three whole numbers, the last one small -/
def WellAt (H : Hp) (p : Addr) (n : Int) : Prop := ∃ a b c : Int, H p = some (.lst [.int a, .int b, .int c]) ∧ 0 ≤ b ∧ b < 4294967296 ∧ 0 ≤ c ∧ c ≤ n
def spWell : Sp := fun vs H Q _ => ∃ c : Int, vs = [.int c] ∧ ∀ p H', H p = none → Same H H' → WellAt H' p 0 → Q (.ref p) H'
def spDraw : Sp := fun vs H Q _ => ∃ (p : Addr) (m n : Int), vs = [.ref p, .int m] ∧ WellAt H p n ∧ n ≤ 1000000 ∧ 0 < m ∧ m < 1000000 ∧
  ∀ (r : Int) (xs : List V), 0 ≤ r → r < m → WellAt (upd H p (.lst xs)) p (n + 1) → Q (.int r) (upd H p (.lst xs))
def spOne (K : PySem.W.Frag) : Sp := fun vs H Q _ => ∃ (p q : Addr) (n : Int) (ys : List V), vs = [.ref p, .ref q] ∧ WellAt H p n ∧ n ≤ 1000000 ∧ p ≠ q ∧ SqL K H q ys ∧ 0 < ys.length ∧ ys.length < 1000000 ∧
  ∀ (r : Nat) (v : V) (xs : List V), ys[r]? = some v → WellAt (upd H p (.lst xs)) p (n + 1) → Q v (upd H p (.lst xs))

structure Bl (mg : Str → Option Value) : Prop where
  int : mg "int" = none
  len : mg "len" = none

section
variable {P : Program} {w : World} {K : PySem.W.Frag} {mg : Str → Option Value} {base : Heap}
theorem scW : FnScope ["_law_cell"] ["_law_cell"] (defScope sWell) := ⟨rfl, rfl, rfl, by decide +kernel, rfl, by decide +kernel, by decide +kernel⟩
theorem ok_well {f : Addr} {fd : FuncData} (F : Fun K "_law_well" "_law_well" sWell f fd) (T : Bl mg) : FnOk P w K mg base CX0 1 f fd ["_law_cell"] spWell := by
  refine F.ok scW (fun vs H Q E h => ?_) (fun cdv A outer s H vs Q E hr h => ?_)
  · obtain ⟨c, rfl, _⟩ := h
    rfl
  · obtain ⟨c, rfl, k⟩ := h
    have hu := hu_of hr
    refine ⟨_, pss_one (ps_ret (pe_lst (pa_cons (pe_op op_mul (pv 0) (pe_callTy call_int1 (by rfl) T.int (by decide +kernel) (pa_cons (pe_cmpR op_ge (pv 0) (pe_op op_pow pe_int pe_int) (nomark _)) pa_nil)))
      (pa_cons (pe_op op_mod (pe_callTy call_int1 (by rfl) T.int (by decide +kernel) (pa_cons (pv 0) pa_nil)) pe_int) (pa_cons pe_int pa_nil))))), ?_⟩
    refine ⟨_, rfl, _, rfl, _, _, rfl, rfl, ⟨by decide, by decide, by decide⟩, _, _, rfl, rfl, .inr ⟨_, rfl, _, _, rfl, rfl, .inr ?_, _, rfl, .inl ⟨_, rfl, _, _, rfl, rfl, (by show (0 : Int) < 2147483629; decide), (by show 3 ≤ sizeLine; decide), fun p hp => ?_⟩⟩⟩
    · split <;> omega
    · refine k p _ hp (fun b o e => ?_) ⟨_, _, 0, upd_same, Int.emod_nonneg _ (by decide), ?_, Int.le_refl _, Int.le_refl _⟩
      · rw [upd_ne (ne_of_none e hp)]
        exact e
      · have := Int.emod_lt_of_pos c (show (0 : Int) < 2147483629 by decide)
        omega
theorem ml (x : Int) : -(2 ^ 64) < x % 2147483647 ∧ x % 2147483647 < 2 ^ 64 := by omega
theorem scD : FnScope ["_law_well_here", "_law_base", "_law_digit", "_law_number"] ["_law_well_here", "_law_base"] (defScope sDraw) := ⟨rfl, rfl, rfl, by decide +kernel, rfl, by decide +kernel, by decide +kernel⟩
theorem ok_draw {f : Addr} {fd : FuncData} (F : Fun K "_law_draw" "_law_draw" sDraw f fd) (T : Bl mg) : FnOk P w K mg base CX0 1 f fd ["_law_well_here", "_law_base"] spDraw := by
  refine F.ok scD (fun vs H Q E h => ?_) (fun cdv A outer s H vs Q E hr h => ?_)
  · obtain ⟨p, m, n, rfl, _⟩ := h
    rfl
  · obtain ⟨p, m, n, rfl, ⟨a, b, c, hp, hb0, hb1, hc0, hcn⟩, hn, hm0, hm1, k⟩ := h
    have hu := hu_of hr
    refine ⟨_, pss_cons (ps_if (pt_cmpR op_gt (pe_ix ix_list (pv 0) pe_int (fun _ _ => rfl)) pe_int (nomark _))
        (pss_cons (ps_set (i := 2) scD.nd rfl (Or.inl rfl) (pe_op op_mod (pe_callTy call_int1 (by rfl) T.int (by decide +kernel) (pa_cons (pe_ix ix_list (pv 0) pe_int (fun _ _ => rfl)) pa_nil)) (pv 1)))
        (pss_cons (ps_asg (pe_op op_fdivW (pe_ix ix_list (pv 0) pe_int (fun _ _ => rfl)) (pv 1)) (pg_sub (pv 0) pe_int set_list))
        (pss_one (ps_ret (pv 2))))) pss_nil)
      (pss_cons (ps_asg (pe_op op_add (pe_ix ix_list (pv 0) pe_int (fun _ _ => rfl)) pe_int) (pg_sub (pv 0) pe_int set_list))
      (pss_cons (ps_set (i := 3) scD.nd rfl (Or.inl rfl) (pe_op op_mod (pe_callTy call_int1 (by rfl) T.int (by decide +kernel) (pa_cons (pe_op op_mul (pe_callTy call_int1 (by rfl) T.int (by decide +kernel) (pa_cons
          (pe_op op_add (pe_op op_add (pe_ix ix_list (pv 0) pe_int (fun _ _ => rfl)) (pe_op op_mul pe_int (pe_ix ix_list (pv 0) pe_int (fun _ _ => rfl)))) pe_int) pa_nil)) pe_int) pa_nil)) pe_int))
      (pss_cons (ps_set (i := 3) scD.nd rfl (Or.inl rfl) (pe_op op_mod (pe_callTy call_int1 (by rfl) T.int (by decide +kernel) (pa_cons (pe_op op_mul (pv 3) (pe_op op_add (pe_op op_fdiv (pv 3) pe_int) pe_int)) pa_nil)) pe_int))
      (pss_one (ps_ret (pe_op op_mod (pe_callTy call_int1 (by rfl) T.int (by decide +kernel) (pa_cons (pe_op op_mod (pe_callTy call_int1 (by rfl) T.int (by decide +kernel) (pa_cons (pe_op op_mul (pv 3) (pe_op op_add (pe_op op_fdiv (pv 3) pe_int) pe_int)) pa_nil)) pe_int) pa_nil)) (pv 1))))))), ?_⟩
    have g0 : ∀ (x y z : V), atI [x, y, z] 0 = some x := fun _ _ _ => rfl
    have g1 : ∀ (x y z : V), atI [x, y, z] 1 = some y := fun _ _ _ => rfl
    have g2 : ∀ (x y z : V), atI [x, y, z] 2 = some z := fun _ _ _ => rfl
    have hc1 : c + 1 ≤ n + 1 := by omega
    refine ⟨_, rfl, p, _, _, _, rfl, rfl, SqL.of hp, g0 _ _ _, _, _, rfl, rfl, _, rfl, ?_⟩
    refine ite2 (fun _ => ?_) (fun _ => ?_)
    · refine ⟨_, rfl, p, _, _, _, rfl, rfl, SqL.of hp, g0 _ _ _, .inl ⟨_, rfl, _, rfl, _, _, rfl, rfl, hm0, ?_⟩⟩
      refine ⟨_, rfl, p, _, _, _, rfl, rfl, SqL.of hp, g0 _ _ _, _, rfl, _, _, rfl, rfl, wide_div (b := 20) hm0 (by omega) (by decide) (by decide), _, rfl, p, _, _, 0, rfl, rfl, hp, rfl, _, rfl, ?_⟩
      exact k _ _ (Int.emod_nonneg _ (by omega)) (Int.emod_lt_of_pos _ hm0) ⟨_, b, c, upd_same, hb0, hb1, hc0, by omega⟩
    · refine ⟨_, rfl, p, _, _, _, rfl, rfl, SqL.of hp, g2 _ _ _, _, _, rfl, rfl, _, rfl, p, _, _, 2, rfl, rfl, hp, rfl, ?_⟩
      have e2 : (upd H p (.lst [.int a, .int b, .int (c + 1)])) p = some (.lst [.int a, .int b, .int (c + 1)]) := upd_same
      refine ⟨_, rfl, p, _, _, _, rfl, rfl, SqL.of e2, g1 _ _ _, _, rfl, p, _, _, _, rfl, rfl, SqL.of e2, g2 _ _ _, _, _, rfl, rfl, .inl ⟨by decide, by decide⟩, _, _, rfl, rfl, _, _, rfl, rfl,
        .inl ⟨_, rfl, _, _, rfl, rfl, .inr ⟨by decide, by decide⟩, .inl ⟨_, rfl, _, _, rfl, rfl, (by show (0 : Int) < 2147483647; decide), ?_⟩⟩⟩
      refine ⟨_, rfl, _, rfl, _, _, rfl, rfl, ⟨by decide, by decide⟩, _, _, rfl, rfl, _, _, rfl, rfl, .inl (ml _), .inl ⟨_, rfl, _, _, rfl, rfl, (by show (0 : Int) < 2147483647; decide), ?_⟩⟩
      refine ⟨_, rfl, _, rfl, _, _, rfl, rfl, ⟨by decide, by decide⟩, _, _, rfl, rfl, _, _, rfl, rfl, .inl (ml _), .inl ⟨_, rfl, _, _, rfl, rfl, (by show (0 : Int) < 2147483399; decide), .inl ⟨_, rfl, _, rfl, _, _, rfl, rfl, hm0, ?_⟩⟩⟩
      exact k _ _ (Int.emod_nonneg _ (by omega)) (Int.emod_lt_of_pos _ hm0) ⟨a, b, c + 1, upd_same, hb0, hb1, by omega, by omega⟩
theorem scO : FnScope ["_law_well_here", "_law_some"] ["_law_well_here", "_law_some"] (defScope sOne) := ⟨rfl, rfl, rfl, by decide +kernel, rfl, by decide +kernel, by decide +kernel⟩
theorem ok_one {f g : Addr} {fd fdD : FuncData} (F : Fun K "_law_one" "_law_one" sOne f fd) (T : Bl mg) (FD : Fun K "_law_draw" "_law_draw" sDraw g fdD) (bD : Binds K fdD ["_law_well_here", "_law_base"] []) (mD : mg "_law_draw" = some (.ref g)) : FnOk P w K mg base CX0 2 f fd ["_law_well_here", "_law_some"] (spOne K) := by
  have GD : FnOk P w K mg base CX0 1 g fdD ["_law_well_here", "_law_base"] spDraw := ok_draw FD T
  refine F.ok scO (fun vs H Q E h => ?_) (fun cdv A outer s H vs Q E hr h => ?_)
  · obtain ⟨p, q, n, ys, rfl, _⟩ := h
    rfl
  · obtain ⟨p, q, n, ys, rfl, hW, hn, hne, hq, h0, h1, k⟩ := h
    refine ⟨_, pss_one (ps_ret (pe_ix ix_list (pv 1) (pe_call GD hr rfl mD FD.kp bD .nil pass0 (pa_cons (pv 0) (pa_cons (pe_callB call_len_seq (by rfl) T.len PySem.boot_len (pa_cons (pv 1) pa_nil)) pa_nil))) (fun _ _ => rfl))), ?_⟩
    refine ⟨_, rfl, _, rfl, _, rfl, q, ys, rfl, .inl hq, p, _, n, rfl, hW, hn, by omega, by omega, fun r xs r0 r1 hW' => ?_⟩
    have hr2 : r.toNat < ys.length := by omega
    have e1 : ys[r.toNat]? = some ys[r.toNat] := by simp [hr2]
    refine ⟨q, ys, r, _, rfl, rfl, ?_, at_of (j := r.toNat) (by omega) e1, k r.toNat _ xs e1 hW'⟩
    rcases hq with (z | ⟨o, z⟩) | z
    · exact .inl (.inl (by rw [upd_ne (fun e => hne e.symm)]; exact z))
    · exact .inl (.inr ⟨o, by rw [upd_ne (fun e => hne e.symm)]; exact z⟩)
    · exact .inr z
end
end Kx
set_option linter.all false
namespace Kx
open PySem L2 PySem.Spec PyProof.Rows
/-! draws among things that are told by OD -/
def KeepB (p : Addr) (H H' : Hp) : Prop := ∀ b u, b ≠ p → H b = some u → H' b = some u
theorem KeepB.trans {p : Addr} {H1 H2 H3 : Hp} (a : KeepB p H1 H2) (b : KeepB p H2 H3) : KeepB p H1 H3 := fun x u n z => b x u n (a x u n z)
theorem KeepB.of {p : Addr} {H1 H2 : Hp} (a : Same H1 H2) : KeepB p H1 H2 := fun x u _ z => a x u z
theorem KeepB.at {p : Addr} {H : Hp} {o : HO} : KeepB p H (upd H p o) := fun x u n z => by rw [upd_ne n]; exact z
theorem WellAt.mono {H : Hp} {p : Addr} {n m : Int} (h : WellAt H p n) (l : n ≤ m) : WellAt H p m := let ⟨a, b, c, e, h0, h1, h2, h3⟩ := h; ⟨a, b, c, e, h0, h1, h2, by omega⟩
theorem WellAt.same {H H' : Hp} {p : Addr} {n : Int} (h : WellAt H p n) (s : Same H H') : WellAt H' p n := let ⟨a, b, c, e, r⟩ := h; ⟨a, b, c, s _ _ e, r⟩
theorem WellAt.lst {H : Hp} {p : Addr} {n : Int} (h : WellAt H p n) : ∃ ms, H p = some (.lst ms) := let ⟨_, _, _, e, _⟩ := h; ⟨_, e⟩
theorem WellAt.ne {H : Hp} {p q : Addr} {n : Int} (h : WellAt H p n) (e : H q = none) : q ≠ p := fun z => by
  obtain ⟨_, g⟩ := h.lst
  rw [z, g] at e
  cases e
structure Drw (K : PySem.W.Frag) (mg : PySem.Str → Option Value) : Prop where
  T : Bl mg
  well : ∃ f fd, Fs K mg "_law_well" sWell ["_law_cell"] f fd
  draw : ∃ f fd, Fs K mg "_law_draw" sDraw ["_law_well_here", "_law_base"] f fd
  one : ∃ f fd, Fs K mg "_law_one" sOne ["_law_well_here", "_law_some"] f fd
mutual
/-- no list within -/
def noL : OD → Prop
  | .fl _ => True
  | .tup xs => noLs xs
  | .lst _ => False
  | .obj _ xs => noLs xs
def noLs : List OD → Prop
  | [] => True
  | x :: xs => noL x ∧ noLs xs
end
theorem noL_lst : ∀ {d : OD}, noL d → noLst d
  | .fl _, _ => trivial
  | .tup _, _ => trivial
  | .obj _ _, _ => trivial
  | .lst _, h => h
theorem SqT.keepB {K : PySem.W.Frag} {H H' : Hp} {p a : Addr} {ms xs : List V} (hp : H p = some (.lst ms)) (k : KeepB p H H') (h : SqT K H a xs) : SqT K H' a xs := by
  rcases h with (h | ⟨o, h⟩) | h
  · exact .inl (.inl (k _ _ (fun z => by rw [z, hp] at h; cases h) h))
  · exact .inl (.inr ⟨o, k _ _ (fun z => by rw [z, hp] at h; cases h) h⟩)
  · exact .inr h
section
variable {K : PySem.W.Frag} {cl : Nat → OCls} {S : Nat → List OD → Prop}
mutual
theorem Oh.keepB {H H' : Hp} {p : Addr} {ms : List V} (hp : H p = some (.lst ms)) (k : KeepB p H H') : ∀ (d : OD) (v : V), noL d → Oh K cl H d v → Oh K cl H' d v
  | .fl _, _, _, h => h
  | .tup ds, _, n, ⟨a, xs, e, h, q⟩ => ⟨a, xs, e, SqT.keepB hp k h, OhAll.keepB hp k ds xs n q⟩
  | .lst ds, _, n, _ => n.elim
  | .obj _ ds, _, n, ⟨a, dx, fs, xs, e, h, l, q⟩ => ⟨a, dx, fs, xs, e, k _ _ (fun z => by rw [z, hp] at h; cases h) h, l, OhAll.keepB hp k ds xs n q⟩
theorem OhAll.keepB {H H' : Hp} {p : Addr} {ms : List V} (hp : H p = some (.lst ms)) (k : KeepB p H H') : ∀ (ds : List OD) (xs : List V), noLs ds → OhAll K cl H ds xs → OhAll K cl H' ds xs
  | [], _, _, h => h
  | d :: ds, _, n, ⟨v, ys, e, h, q⟩ => ⟨v, ys, e, Oh.keepB hp k d v n.1 h, OhAll.keepB hp k ds ys n.2 q⟩
end
theorem ext_of {H H' : Hp} (s : Same H H') : Ext H H' := fun a o h => s a o h
theorem Oh.same {H H' : Hp} (s : Same H H') {d : OD} {v : V} (h : Oh K cl H d v) : Oh K cl H' d v := Oh.ext (ext_of s) d v h
theorem OhAll.same {H H' : Hp} (s : Same H H') {d : List OD} {v : List V} (h : OhAll K cl H d v) : OhAll K cl H' d v := OhAll.ext (ext_of s) d v h
theorem noLs_get : ∀ {ds : List OD}, noLs ds → ∀ {i : Nat} {d : OD}, ds[i]? = some d → noL d
  | [], _, i, d, h => by simp at h
  | x :: xs, n, 0, d, h => by simp at h; subst h; exact n.1
  | x :: xs, n, i + 1, d, h => noLs_get n.2 (i := i) (by simpa using h)
theorem one_od {H : Hp} {p q : Addr} {n : Int} {ys : List V} {ds : List OD} {Q : VK} {E : XK}
    (W : WellAt H p n) (hn : n ≤ 1000000) (hq : H q = none) (ha : OhAll K cl H ds ys) (nl : noLs ds) (h0 : 0 < ys.length) (h1 : ys.length < 1000000) (k : ∀ d v H', d ∈ ds → noL d → Oh K cl H' d v → KeepB p H H' → WellAt H' p (n + 1) → Q v H') : spOne K [.ref p, .ref q] (upd H q (.lst ys)) Q E := by
  refine ⟨p, q, n, ys, rfl, W.same (new_same hq), hn, (W.ne hq).symm, SqL.of upd_same, h0, h1, fun r v xs hv W2 => ?_⟩
  have k2 : KeepB p H (upd (upd H q (.lst ys)) p (.lst xs)) := (KeepB.of (new_same hq)).trans KeepB.at
  obtain ⟨d, hd, od⟩ := ohAll_get ds ys r v ha hv
  obtain ⟨ms, hp⟩ := W.lst
  exact k d v _ (List.mem_of_getElem? hd) (noLs_get nl hd) (Oh.keepB hp k2 d v (noLs_get nl hd) od) k2 W2
theorem oh_str {H : Hp} (z : Str) : Oh K cl H (.fl (.str z)) (.str z) := ⟨rfl, rfl⟩
theorem oh_int {H : Hp} (z : Int) : Oh K cl H (.fl (.int z)) (.int z) := ⟨rfl, rfl⟩
theorem oh_non {H : Hp} : Oh K cl H (.fl .non) .non := ⟨rfl, rfl⟩
theorem oh_tup {H : Hp} {a : Addr} {xs : List V} {ds : List OD} (h : SqT K H a xs) (q : OhAll K cl H ds xs) : Oh K cl H (.tup ds) (.ref a) := ⟨a, xs, rfl, h, q⟩
theorem oh_nil {H : Hp} : OhAll K cl H [] [] := rfl
theorem oh_cons {H : Hp} {d : OD} {v : V} {ds : List OD} {vs : List V} (h : Oh K cl H d v) (q : OhAll K cl H ds vs) : OhAll K cl H (d :: ds) (v :: vs) := ⟨v, vs, rfl, h, q⟩
end
/-! what the own == of a class promises -/
def spOwn (K : PySem.W.Frag) (cl : Nat → OCls) (S : Nat → List OD → Prop) (k : Nat) : Sp := fun vs H Q _ => ∃ (a : Addr) (ds : List OD) (e : OD) (y : V), vs = [.ref a, y] ∧ Oh K cl H (.obj k ds) (.ref a) ∧ Oh K cl H e y ∧ S k ds ∧ okAll S ds ∧ okO S e ∧ ∀ H', Ext H H' → Q (.bl (eqo (.obj k ds) e)) H'
theorem own_run {X : Cx} {cl : Nat → OCls} {S : Nat → List OD → Prop} {CX : CXT} {E : XK} {fd : FuncData} {ps : List Str} {k : Nat} (F : FnOk X.prog X.w X.K X.mg X.base CX (cl k).lv (cl k).f fd ps (spOwn X.K cl S k)) (hb : L2.Binds X.K fd ps []) (hx : Passes CX X E)
    {ds : List OD} (hk : S k ds) {A : Around} {pins : List (Addr × Obj)} {s : Shared} {σ : L2.St} {H : Hp} {a : Addr} {e : OD} {y : V} {v : Value} (sb : Sub X (cl k).lv A) (I : L2.Inv X pins σ H s) (ry : RelV y v) (h : Oh X.K cl H (.obj k ds) (.ref a)) (he : Oh X.K cl H e y) (oD : okAll S ds) (oE : okO S e) :
    wpAny (model X.prog X.w) A (call (.ref (cl k).f) [.ref a, v]) (fun r s' => r = .bool (eqo (.obj k ds) e) ∧ ∃ H', L2.Inv X pins σ H' s' ∧ Ext H H') X.xe s := by
  have hsp : spOwn X.K cl S k [.ref a, y] H (fun v H' => v = .bl (eqo (.obj k ds) e) ∧ Ext H H') E := ⟨a, ds, e, y, rfl, h, he, hk, oD, oE, fun H' e => ⟨rfl, e⟩⟩
  have e0 : Env0 X.prog X.w X.K X.mg X.base A X.stack s H := by
    have e := I.env0
    exact ⟨by rw [sb.fr]; exact e.frames, e.mod, e.bs, e.bsz, e.funs, e.frf, e.hok, e.bare⟩
  have hl := F.len _ _ _ _ hsp
  have r2 : Vals [V.ref a, y] [Value.ref a, v] := .cons rfl (.cons ry .nil)
  refine wpAny_call (codeAny_mono (F.run A X.stack s H ⟨[.ref a, v], []⟩ [.ref a, v] [.ref a, y] _ E sb.room e0 (by
    have := hb s [.ref a, v] I.kIn (by simpa using hl)
    simpa using this) r2 hsp) fun r s' hq => ?_)
  cases r with
  | error e => exact hx pins σ H s e s' I hq
  | ok fl =>
    cases fl with
    | ret w =>
      obtain ⟨z, H', I', rz, ez, ex⟩ := I.after hq
      subst ez
      cases rz
      exact ⟨rfl, H', I', ex⟩
    | next => exact False.elim hq
    | brk => exact False.elim hq
    | cont => exact False.elim hq
/-! isinstance of what OD tells -/
structure Kits (K : PySem.W.Frag) (cl : Nat → OCls) (n : Nat) : Prop where
  kc : ∀ k, k < n → ∃ cd, PySem.W.clsIn K (cl k).C = some cd
  kt : ∀ k, k < n → PySem.W.typeIn K (.ref (cl k).C) = some (.type "type")
  ty : ∀ k, k < n → ∀ (H : Hp) (a dx : Addr) (fs : List (Str × V)), H a = some (.ins (cl k).C dx fs) → TyX K H (.ref a) (.ref (cl k).C)
theorem kitN {K : PySem.W.Frag} {C : Addr} {t : Value} {cd : ClassData} (kc : PySem.W.clsIn K C = some cd) (kt : PySem.W.typeIn K (.ref C) = some (.type "type")) (ks : PySem.W.subIn K t (.ref C) = some false) (hn : (t == .ref C) = false) : PySem.W.kitOne K t (.ref C) = some false := by
  unfold PySem.W.kitOne
  rw [if_neg (by rw [hn]; exact Bool.false_ne_true)]
  unfold PySem.W.kitCls
  dsimp only
  rw [kc, kt, ks]
  simp
theorem kitY {K : PySem.W.Frag} {C : Addr} {t : Value} {cd : ClassData} (kc : PySem.W.clsIn K C = some cd) (kt : PySem.W.typeIn K (.ref C) = some (.type "type")) (ks : PySem.W.subIn K t (.ref C) = some true) : PySem.W.kitOne K t (.ref C) = some true := by
  unfold PySem.W.kitOne
  split
  · rfl
  · unfold PySem.W.kitCls
    dsimp only
    rw [kc, kt, ks]
    simp
theorem kitS {K : PySem.W.Frag} {C : Addr} : PySem.W.kitOne K (.ref C) (.ref C) = some true := by
  unfold PySem.W.kitOne
  rw [if_pos (beq_self_eq_true _)]
end Kx
set_option linter.all false
namespace Kx
open PySem L2 PySem.Spec PyProof.Rows
/-! a drawn clause -/
abbrev sClD : Stmt := top 39
abbrev nClD : List Str := ["_law_well_here", "_law_found", "_law_k", "_law_left", "_law_right"]
theorem IsLit.keepB {K : PySem.W.Frag} {H H' : Hp} {p : Addr} {ms : List V} {x : V} {l : Lit} (hp : H p = some (.lst ms)) (k : KeepB p H H') (h : IsLit K H x l) : IsLit K H' x l := let ⟨a, e, q⟩ := h; ⟨a, e, SqT.keepB hp k q⟩
theorem Cl.keepB {K : PySem.W.Frag} {H H' : Hp} {p a : Addr} {ms xs : List V} {c : List Lit} (hp : H p = some (.lst ms)) (k : KeepB p H H') (h : Cl K H a xs c) : Cl K H' a xs c := ⟨SqT.keepB hp k h.sq, L2.Paired.mapP h.p fun _ _ z => IsLit.keepB hp k z, h.l1, h.l2⟩
theorem IsC.keepB {K : PySem.W.Frag} {H H' : Hp} {p : Addr} {ms : List V} {x : V} {c : List Lit} (hp : H p = some (.lst ms)) (k : KeepB p H H') (h : IsC K H x c) : IsC K H' x c := let ⟨a, ys, e, q⟩ := h; ⟨a, ys, e, Cl.keepB hp k q⟩
theorem KeepB.updN {p D : Addr} {H H' : Hp} {o : HO} (k : KeepB p H H') (hD : H D = none) : KeepB p H (upd H' D o) := fun b u n z => by
  have : b ≠ D := fun e => by rw [e, hD] at z; cases z
  rw [upd_ne this]
  exact k b u n z
theorem WellAt.updN {p D : Addr} {H : Hp} {n : Int} {o : HO} (h : WellAt H p n) (hD : D ≠ p) : WellAt (upd H D o) p n := let ⟨a, b, c, e, r⟩ := h; ⟨a, b, c, by rw [upd_ne (Ne.symm hD)]; exact e, r⟩
def shortC1 (c : List Lit) : Prop := ∀ l ∈ c, Short l.1 ∧ Short l.2.1
def spClD (K : PySem.W.Frag) : Sp := fun vs H Q _ => ∃ (p : Addr) (n : Int), vs = [.ref p] ∧ WellAt H p n ∧ n + 50 ≤ 1000000 ∧ ∀ t c H', IsC K H' (.ref t) c → c.length ≤ 6 → shortC1 c → KeepB p H H' → WellAt H' p (n + 50) → Q (.ref t) H'
theorem sh_of {z : Str} (h : z ∈ ([("" : Str), "x", "A", "0:x", "a b.c", ".", "self.f"] : List Str)) : Short z := by
  simp only [List.mem_cons, List.not_mem_nil, or_false] at h
  rcases h with rfl | rfl | rfl | rfl | rfl | rfl | rfl <;> exact ⟨by decide +kernel, by decide +kernel, by decide +kernel⟩
section
variable {P : Program} {w : World} {K : PySem.W.Frag} {mg : PySem.Str → Option Value} {base : Heap}
theorem scClD : FnScope nClD ["_law_well_here"] (defScope sClD) := ⟨rfl, rfl, rfl, by decide +kernel, rfl, by decide +kernel, by decide +kernel⟩
theorem ok_clD {f : Addr} {fd : FuncData} (F : Fs K mg "_law_clause" sClD ["_law_well_here"] f fd) (D : Drw K mg) (T : Bx mg) (rng : mg "range" = none) : FnOk P w K mg base CX0 3 f fd ["_law_well_here"] (spClD K) := by
  obtain ⟨_, _, dD⟩ := D.draw
  obtain ⟨_, _, dO⟩ := D.one
  have GD : FnOk P w K mg base CX0 1 _ _ ["_law_well_here", "_law_base"] spDraw := ok_draw dD.F D.T
  have GO : FnOk P w K mg base CX0 2 _ _ ["_law_well_here", "_law_some"] (spOne K) := ok_one dO.F D.T dD.F dD.b dD.m
  refine F.F.ok scClD (fun vs H Q E h => ?_) (fun cdv A outer s H vs Q E hr h => ?_)
  · obtain ⟨p, n, rfl, _⟩ := h
    rfl
  · obtain ⟨p, n, rfl, hW, hn, k⟩ := h
    have hr1 : Room 1 (A.deeper (envOfC "_law_clause" (defScope sClD) s.heap.objs.size f cdv)) := hr.mono (by decide)
    refine ⟨_, pss_cons (ps_set (i := 1) scClD.nd rfl (Or.inl rfl) (pe_lst pa_nil))
      (pss_cons (ps_for PassesOwn.never rfl (pi_range1 rfl rng (pa_cons (pe_op op_add pe_int (pe_call GD hr1 (by rfl) dD.m dD.F.kp dD.b .nil pass0 (pa_cons (pv 0) (pa_cons pe_int pa_nil)))) pa_nil)) (pg_name (i := 2) scClD.nd rfl (Or.inl rfl))
        (pss_cons (ps_par (i := 3) (j := 4) rfl scClD.nd rfl rfl (by decide) rfl rfl (pa_cons (pe_call GO hr (by rfl) dO.m dO.F.kp dO.b .nil pass0 (pa_cons (pv 0) (pa_cons (pe_lst (pa_cons pe_str (pa_cons pe_str (pa_cons pe_str (pa_cons pe_str (pa_cons pe_str pa_nil)))))) pa_nil)))
            (pa_cons (pe_call GO hr (by rfl) dO.m dO.F.kp dO.b .nil pass0 (pa_cons (pv 0) (pa_cons (pe_lst (pa_cons pe_str (pa_cons pe_str (pa_cons pe_str (pa_cons pe_str pa_nil))))) pa_nil))) pa_nil)) (by rfl))
        (pss_one (ps_expr (pe_bm PySem.F.plainAttrs_list PySem.F.slot_list_append PySem.F.type_list_append mt_append (pv 1) (pa_cons (pe_tup (pa_cons (pv 3) (pa_cons (pv 4) (pa_cons (pe_call GO hr (by rfl) dO.m dO.F.kp dO.b .nil pass0 (pa_cons (pv 0) (pa_cons (pe_lst (pa_cons pe_int (pa_cons (pe_un un_neg pe_int) (pa_cons pe_int (pa_cons (pe_op op_pow pe_int pe_int)
            (pa_cons (pe_op op_sub (pe_un un_neg (pe_op op_pow pe_int pe_int)) (pe_call GD hr1 (by rfl) dD.m dD.F.kp dD.b .nil pass0 (pa_cons (pv 0) (pa_cons pe_int pa_nil)))) (pa_cons pe_int pa_nil))))))) pa_nil))) pa_nil)))) pa_nil))))))
      (pss_one (ps_ret (pe_tupleOf (by rfl) T.tuple (pv 1))))), ?_⟩
    refine ⟨by show 0 ≤ sizeLine; decide, fun D hD => ⟨_, rfl, p, 6, n, rfl, hW.same (new_same hD), by omega, by decide, by decide, fun r xs2 hr0 hr1 W3 => ⟨_, _, rfl, rfl, ?_⟩⟩⟩
    have nDp : D ≠ p := hW.ne hD
    refine ⟨_, rfl, by omega, by omega, ?_⟩
    have k03 : KeepB p H (upd (upd H D (.lst [])) p (.lst xs2)) := (KeepB.of (new_same hD)).trans KeepB.at
    have gD3 : (upd (upd H D (.lst [])) p (.lst xs2)) D = some (.lst []) := by rw [upd_ne nDp]; exact upd_same
    obtain ⟨H3, eH3⟩ : ∃ G, upd (upd H D (.lst [])) p (.lst xs2) = G := ⟨_, rfl⟩
    rw [eH3] at W3 k03 gD3 ⊢
    refine for_range (lo := 0) (n := (1 + r).toNat) (fun i σ H4 => (∃ o2 o3 o4, σ = [some (.ref p), some (.ref D), o2, o3, o4]) ∧ KeepB p H H4 ∧ WellAt H4 p (n + 1 + 4 * i) ∧ ∃ ms c, H4 D = some (.lst ms) ∧ Paired (IsLit K H4) ms c ∧ c.length = i ∧ shortC1 c)
      ⟨⟨none, none, none, rfl⟩, k03, W3.mono (by omega), [], [], gD3, .nil, rfl, fun c hc => nomatch hc⟩ ?_ ?_
    · rintro i σ H4 hi ⟨⟨o2, o3, o4, rfl⟩, k4, W4, ms, c, gD, hms, hcl, hgc⟩
      refine ⟨_, rfl, le_sz (Nat.le_of_ble_eq_true rfl), fun q5 hq5 => ?_⟩
      refine ⟨p, q5, _, _, rfl, W4.same (new_same hq5), by omega, (W4.ne hq5).symm, SqL.of upd_same, Nat.le_of_ble_eq_true rfl, Nat.le_of_ble_eq_true rfl, fun r5 v5 x5 hv5 W5 => ?_⟩
      obtain ⟨a, rfl, ga⟩ : ∃ z : Str, v5 = .str z ∧ Short z := by
        have := List.mem_of_getElem? hv5
        simp only [List.mem_cons, List.not_mem_nil, or_false] at this
        rcases this with h | h | h | h | h <;> exact ⟨_, h, sh_of (by simp)⟩
      have k5 : KeepB p H4 (upd (upd H4 q5 (.lst [V.str "", .str "x", .str "A", .str "0:x", .str "a b.c"])) p (.lst x5)) := (KeepB.of (new_same hq5)).trans KeepB.at
      obtain ⟨H5, eH5⟩ : ∃ G, upd (upd H4 q5 (.lst [V.str "", .str "x", .str "A", .str "0:x", .str "a b.c"])) p (.lst x5) = G := ⟨_, rfl⟩
      rw [eH5] at W5 k5 ⊢
      refine ⟨_, rfl, le_sz (Nat.le_of_ble_eq_true rfl), fun q6 hq6 => ?_⟩
      refine ⟨p, q6, _, _, rfl, W5.same (new_same hq6), by omega, (W5.ne hq6).symm, SqL.of upd_same, Nat.le_of_ble_eq_true rfl, Nat.le_of_ble_eq_true rfl, fun r6 v6 x6 hv6 W6 => ⟨_, _, rfl, ?_⟩⟩
      obtain ⟨b, rfl, gb⟩ : ∃ z : Str, v6 = .str z ∧ Short z := by
        have := List.mem_of_getElem? hv6
        simp only [List.mem_cons, List.not_mem_nil, or_false] at this
        rcases this with h | h | h | h <;> exact ⟨_, h, sh_of (by simp)⟩
      have k6 : KeepB p H4 (upd (upd H5 q6 (.lst [V.str "", .str "x", .str ".", .str "self.f"])) p (.lst x6)) := k5.trans ((KeepB.of (new_same hq6)).trans KeepB.at)
      obtain ⟨H6, eH6⟩ : ∃ G, upd (upd H5 q6 (.lst [V.str "", .str "x", .str ".", .str "self.f"])) p (.lst x6) = G := ⟨_, rfl⟩
      rw [eH6] at W6 k6 ⊢
      refine ⟨_, rfl, .inl ⟨rfl, _, SqL.of (k6 _ _ nDp gD)⟩, _, rfl, _, rfl, _, rfl, _, rfl, _, _, rfl, rfl, ⟨by decide, by decide, by decide⟩, _, _, rfl, rfl, ⟨by decide, by decide, by decide⟩, _, rfl, _, rfl, p, 9, _, rfl, W6, by omega, by decide, by decide, fun r7 x7 h70 h71 W7 => ⟨_, _, rfl, rfl, le_sz (Nat.le_of_ble_eq_true rfl), fun z hz => ?_⟩⟩
      have k7 : KeepB p H4 (upd H6 p (.lst x7)) := k6.trans KeepB.at
      obtain ⟨H7, eH7⟩ : ∃ G, upd H6 p (.lst x7) = G := ⟨_, rfl⟩
      rw [eH7] at W7 k7 hz ⊢
      generalize hys : ([_, _, _, _, _, _] : List V) = ys
      have hyl : ys.length = 6 := by rw [← hys]; rfl
      have hin : ∀ v ∈ ys, ∃ i, v = V.int i := by
        rw [← hys]
        intro v hv
        simp only [List.mem_cons, List.not_mem_nil, or_false] at hv
        rcases hv with h | h | h | h | h | h <;> exact ⟨_, h⟩
      refine ⟨p, z, _, ys, rfl, W7.same (new_same hz), by omega, (W7.ne hz).symm, SqL.of upd_same, by omega, by omega, fun r8 v8 x8 hv8 W8 => ?_⟩
      obtain ⟨num, rfl⟩ : ∃ z : Int, v8 = .int z := hin _ (List.mem_of_getElem? hv8)
      have k8 : KeepB p H4 (upd (upd H7 z (.lst ys)) p (.lst x8)) := k7.trans ((KeepB.of (new_same hz)).trans KeepB.at)
      obtain ⟨H8, eH8⟩ : ∃ G, upd (upd H7 z (.lst ys)) p (.lst x8) = G := ⟨_, rfl⟩
      rw [eH8] at W8 k8 ⊢
      refine ⟨le_sz (Nat.le_of_ble_eq_true rfl), fun t ht => ?_⟩
      have gD8 := k8 _ _ nDp gD
      have nDt : D ≠ t := fun z => by rw [← z, gD8] at ht; cases ht
      have hml : ms.length = c.length := Paired.length hms
      obtain ⟨ms4, hp4⟩ := W4.lst
      have gDt : (upd H8 t (.tup [.str a, .str b, .int num])) D = some (.lst ms) := by rw [upd_ne nDt]; exact gD8
      refine ⟨D, ms, _, rfl, rfl, gDt, small1000 (by omega), ⟨_, _, _, rfl⟩, ((k4.trans k8).trans (KeepB.of (new_same ht))).updN hD, ((W8.same (new_same ht)).updN nDp).mono (by omega), _, c ++ [(a, b, num)], upd_same, ?_, by rw [List.length_append, hcl]; rfl, fun l hl => ?_⟩
      · exact paired_app (L2.Paired.mapP hms fun _ _ y => IsLit.keepB gDt KeepB.at (IsLit.same (new_same ht) (IsLit.keepB hp4 k8 y))) (.cons (IsLit.keepB gDt KeepB.at ⟨t, rfl, SqT.of upd_same⟩) .nil)
      · rcases List.mem_append.mp hl with z | z
        · exact hgc l z
        · rw [List.mem_singleton.mp z]
          exact ⟨ga, gb⟩
    · rintro σ H4 ⟨⟨o2, o3, o4, rfl⟩, k4, W4, ms, c, gD, hms, hcl, hgc⟩
      refine ⟨_, rfl, .inl ⟨D, ms, rfl, SqL.of gD, fun t ht => ?_⟩⟩
      have s := new_same (o := .tup ms) ht
      exact k t c _ ⟨t, ms, rfl, SqT.of upd_same, L2.Paired.mapP hms fun _ _ y => IsLit.same s y, by omega, by omega⟩ (by omega) hgc (k4.trans (KeepB.of s)) ((W4.same s).mono (by omega))
end
end Kx
set_option linter.all false
namespace Kx
open PySem L2 PySem.Spec PyProof.Rows
/-! a short tuple, many times -/
def rRepM (K : PySem.W.Frag) : R2 := fun x y H Q => ∃ l k xs, x = .ref l ∧ y = .int k ∧ SqT K H l xs ∧ xs ≠ [] ∧ 2 ≤ k ∧ k ≤ 30000 ∧ xs.length ≤ 9 ∧ ∀ p, H p = none → Q (.ref p) (upd H p (.tup (List.replicate k.toNat xs).flatten))
theorem op_repM {X : Cx} : OpR X (binaryOp .Mult) (rRepM X.K) := by
  rintro pins s σ H x y v u Q I rx ry ⟨l, k, xs, rfl, rfl, hT, hne, h1, h2, h9, q⟩
  cases rx
  obtain ⟨t, rfl⟩ := ry
  obtain ⟨its, r, ⟨⟨cls, dd, data, sl⟩, ho, hc, n, hd⟩, hs⟩ := I.tuple hT
  simp only at hc hd
  subst hc hd
  have hle : its.length = xs.length := r.length.symm
  have hn : its ≠ [] := fun e => hne (List.eq_nil_of_length_eq_zero (by rw [← hle, e]; rfl))
  have hi : its.toArray.isEmpty = false := by cases its <;> first | exact absurd rfl hn | rfl
  have sz : its.toArray.size = xs.length := by rw [List.size_toArray, hle]
  have big : ((its.toArray.size : Nat) : Int) * k ≤ 270000 := by
    rw [sz]
    have : ((xs.length : Nat) : Int) * k ≤ 9 * k := Int.mul_le_mul_of_nonneg_right (by omega) (by omega)
    omega
  have fl : (List.replicate k.toNat its).flatten.length ≤ sizeLine := by
    rw [PyProof.Rows.lm_len_rep_flat, hle, sizeLine_eq]
    have : k.toNat * xs.length ≤ 30000 * 9 := Nat.mul_le_mul (by omega) h9
    omega
  have c0 : (decide (k < -(2 ^ 63)) || decide (k ≥ 2 ^ 63)) = false := by rw [decide_eq_false (by omega), decide_eq_false (by omega)] <;> rfl
  have c1 : (its.toArray.isEmpty || k == 1) = false := by rw [hi, Bool.false_or]; exact beq_eq_false_iff_ne.mpr (by omega)
  have c2 : (decide (k ≤ 0) || its.toArray.isEmpty) = false := by rw [hi, Bool.or_false]; exact decide_eq_false (by omega)
  have c4 : Builtin.Tuple.tupleTooMany (((its.toArray.size : Nat) : Int) * k) = false := by
    unfold Builtin.Tuple.tupleTooMany
    rw [sizeLine_eq]
    exact decide_eq_false (by omega)
  refine wpAny_binaryOp_repeat_ref (T := "tuple") (U := "int") (by decide) ⟨_, ho, rfl⟩ (fun s' => typeIs_int s' k t) noFill_tuple_mul F.fills_int_mul F.slot_int_rmul repeat_tuple F.slot_int_index.lookup
    (call_meets F.slot_int_rmul (typeIs_int s k t) F.entry_int_rmul (F.args_int_rmul_2 _ _) (int_rmul_tuple k t l its.toArray n dd sl)
      ⟨ho, rfl, ⟨_, ho, rfl⟩, call_meets F.slot_tuple_mul ⟨_, ho, rfl⟩ F.entry_tuple_mul (F.args_tuple_mul_2 _ _) (tuple_mulW l its.toArray n dd sl k t c0 c1 c2 (by omega) c4 (by rw [size_rep, List.size_toArray]; exact fl)) ⟨ho, ?_⟩⟩)
  rw [size_rep]
  have sz2 : (List.replicate k.toNat xs).flatten.length ≤ sizeLine := by
    rw [PyProof.Rows.lm_len_rep_flat, sizeLine_eq]
    have : k.toNat * xs.length ≤ 30000 * 9 := Nat.mul_le_mul (by omega) h9
    omega
  exact ⟨.ref s.heap.objs.size, _, I.laid (t' := s.toks) (o := .tup (List.replicate k.toNat xs).flatten) (fun b ob q => Heap.get?_push_of_some _ q) (Nat.le_refl _) ⟨sz2, _, r.rep k.toNat, IsTup.new _ _⟩, rfl, q _ (I.hok.fresh (Nat.le_refl _))⟩
/-! something that is no clause -/
abbrev sOdd : Stmt := top 40
abbrev nOdd : List Str := ["_law_well_here", "_law_clause_here", "_law_left", "_law_right", "_law_number", "_law_some"]
theorem SqL.keepL {K : PySem.W.Frag} {H H' : Hp} {p a : Addr} {ms ms' : List V} (hp : H p = some (.lst ms)) (hp' : H' p = some (.lst ms')) (k : KeepB p H H') (h : ∃ xs, SqL K H a xs) : ∃ xs, SqL K H' a xs := by
  obtain ⟨xs, h⟩ := h
  by_cases e : a = p
  · subst e
    exact ⟨ms', SqL.of hp'⟩
  · rcases h with (h | ⟨o, h⟩) | h
    · exact ⟨xs, .inl (.inl (k _ _ e h))⟩
    · exact ⟨xs, .inl (.inr ⟨o, k _ _ e h⟩)⟩
    · exact ⟨xs, .inr h⟩
mutual
theorem Is.keepL {K : PySem.W.Frag} {H H' : Hp} {p : Addr} {ms ms' : List V} (hp : H p = some (.lst ms)) (hp' : H' p = some (.lst ms')) (k : KeepB p H H') : ∀ {v : V} {d : Sh}, Is K H v d → Is K H' v d
  | _, _, .non => .non
  | _, _, .lst h => .lst (SqL.keepL hp hp' k h)
  | _, _, .dic h => .dic (let ⟨kvs, z⟩ := h; ⟨kvs, k _ _ (fun e => by rw [e, hp] at z; cases z) z⟩)
  | _, _, .bl b => .bl b
  | _, _, .int i => .int i
  | _, _, .str x h => .str x h
  | _, _, .tup h q n => .tup (SqT.keepB hp k h) (IsAll.keepL hp hp' k q) n
theorem IsAll.keepL {K : PySem.W.Frag} {H H' : Hp} {p : Addr} {ms ms' : List V} (hp : H p = some (.lst ms)) (hp' : H' p = some (.lst ms')) (k : KeepB p H H') : ∀ {xs : List V} {l : List Sh}, IsAll K H xs l → IsAll K H' xs l
  | _, _, .nil => .nil
  | _, _, .cons h t => .cons (Is.keepL hp hp' k h) (IsAll.keepL hp hp' k t)
end
theorem at0 {x : V} {r : List V} : atI (x :: r) 0 = some x := by
  unfold atI ixN
  rw [if_pos (by decide), if_pos (by rw [List.length_cons]; omega)]
  rfl
theorem cl7 {l : List Sh} (h : 7 ≤ l.length) : isClS 6 (.tup l) = false := by
  show (decide (1 ≤ l.length ∧ (l.length : Int) ≤ 6) && l.all isLitS) = false
  rw [decide_eq_false (by omega)]
  rfl
theorem is_nil {K : PySem.W.Frag} {H : Hp} {u : Addr} : Is K (upd H u (.tup [])) (.ref u) (.tup []) := .tup (SqT.of upd_same) .nil (Nat.zero_le _)
theorem is_new {K : PySem.W.Frag} {H : Hp} {u : Addr} {xs : List V} {l : List Sh} (hu : H u = none) (h : IsAll K H xs l) (hl : l.length ≤ 1000) : Is K (upd H u (.tup xs)) (.ref u) (.tup l) := .tup (SqT.of upd_same) (IsAll.same (new_same hu) h) hl
theorem IsAll.app {K : PySem.W.Frag} {H : Hp} {ys : List V} {m : List Sh} : ∀ {xs : List V} {l : List Sh}, IsAll K H xs l → IsAll K H ys m → IsAll K H (xs ++ ys) (l ++ m)
  | _, _, .nil, h => h
  | _, _, .cons a t, h => .cons a (IsAll.app t h)
theorem isAll_pick {K : PySem.W.Frag} {H1 : Hp} {p q : Addr} {n m : Int} {r : Nat} {v : V} {xs zs : List V} {ds : List Sh} (W : WellAt H1 p n) (hq : H1 q = none) (ha : IsAll K H1 xs ds) (hv : xs[r]? = some v) (W2 : WellAt (upd (upd H1 q (.lst xs)) p (.lst zs)) p m) :
    KeepB p H1 (upd (upd H1 q (.lst xs)) p (.lst zs)) ∧ ∃ d, d ∈ ds ∧ Is K (upd (upd H1 q (.lst xs)) p (.lst zs)) v d := by
  obtain ⟨d, hd, hi⟩ := IsAll.get ha hv
  obtain ⟨ms, hp⟩ := W.lst
  have k : KeepB p H1 (upd (upd H1 q (.lst xs)) p (.lst zs)) := (KeepB.of (new_same hq)).trans KeepB.at
  exact ⟨k, d, List.mem_of_getElem? hd, Is.keepL hp upd_same k hi⟩
def spOdd (K : PySem.W.Frag) : Sp := fun vs H Q _ => ∃ (p : Addr) (n : Int) (v : V) (c : List Lit), vs = [.ref p, v] ∧ WellAt H p n ∧ n + 10 ≤ 1000000 ∧ IsC K H v c ∧ c.length ≤ 6 ∧ shortC1 c ∧ ∀ u d H', Is K H' u d → isClS 6 d = false → KeepB p H H' → WellAt H' p (n + 10) → Q u H'
section
variable {P : Program} {w : World} {K : PySem.W.Frag} {mg : PySem.Str → Option Value} {base : Heap}
theorem scOdd : FnScope nOdd ["_law_well_here", "_law_clause_here"] (defScope sOdd) := ⟨rfl, rfl, rfl, by decide +kernel, rfl, by decide +kernel, by decide +kernel⟩
theorem ok_odd {f : Addr} {fd : FuncData} (F : Fs K mg "_law_odd" sOdd ["_law_well_here", "_law_clause_here"] f fd) (D : Drw K mg) (T : Bx mg) : FnOk P w K mg base CX0 3 f fd ["_law_well_here", "_law_clause_here"] (spOdd K) := by
  obtain ⟨_, _, dD⟩ := D.draw
  obtain ⟨_, _, dO⟩ := D.one
  have GO : FnOk P w K mg base CX0 2 _ _ ["_law_well_here", "_law_some"] (spOne K) := ok_one dO.F D.T dD.F dD.b dD.m
  refine F.F.ok scOdd (fun vs H Q E h => ?_) (fun cdv A outer s H vs Q E hr h => ?_)
  · obtain ⟨p, n, v, c, rfl, _⟩ := h
    rfl
  · obtain ⟨p, n, v, c, rfl, hW, hn, hc, h6, hsh, k⟩ := h
    refine ⟨_, pss_cons (ps_asg (pe_ix ix_tup (pv 1) pe_int (fun _ _ => rfl)) (pg_tup rfl (pgs_cons (pg_name (i := 2) scOdd.nd rfl (Or.inl rfl)) (pgs_cons (pg_name (i := 3) scOdd.nd rfl (Or.inl rfl)) (pgs_cons (pg_name (i := 4) scOdd.nd rfl (Or.inl rfl)) pgs_nil))))) (pss_cons (ps_set (i := 5) scOdd.nd rfl (Or.inl rfl) (pe_lst (pa_cons (pe_tup pa_nil) (pa_cons (pe_op op_catA (pv 1) (pe_op op_repM (pe_tup (pa_cons (pe_tup (pa_cons (pv 2) (pa_cons (pv 3) (pa_cons pe_int pa_nil)))) pa_nil)) pe_int)) (pa_cons (pe_callTy call_list_of (by rfl) T.list (by decide +kernel) (pa_cons (pv 1) pa_nil)) (pa_cons pe_non (pa_cons pe_str (pa_cons pe_int (pa_cons pe_dnewK (pa_cons (pe_tup (pa_cons (pe_tup (pa_cons (pv 2) (pa_cons (pv 3) pa_nil))) pa_nil)) pa_nil)))))))))) (pss_cons (ps_expr (pe_bm PySem.F.plainAttrs_list PySem.F.slot_list_append PySem.F.type_list_append mt_append (pv 5) (pa_cons (pe_tup (pa_cons (pe_tup (pa_cons (pv 2) (pa_cons (pv 3) (pa_cons (pe_cmpR op_eq pe_int pe_int (nomark _)) pa_nil)))) pa_nil)) pa_nil))) (pss_cons (ps_set (i := 5) scOdd.nd rfl (Or.inl rfl) (pe_op op_cat (pv 5) (pe_lst (pa_cons (pe_tup (pa_cons (pe_tup (pa_cons pe_non (pa_cons (pv 3) (pa_cons (pv 4) pa_nil)))) pa_nil)) (pa_cons (pe_tup (pa_cons (pe_tup (pa_cons (pv 2) (pa_cons pe_int (pa_cons (pv 4) pa_nil)))) pa_nil)) (pa_cons (pe_tup (pa_cons (pe_tup (pa_cons (pv 2) (pa_cons (pv 3) (pa_cons pe_non pa_nil)))) pa_nil)) (pa_cons (pe_tup (pa_cons (pe_lst (pa_cons (pv 2) (pa_cons (pv 3) (pa_cons (pv 4) pa_nil)))) pa_nil)) pa_nil))))))) (pss_one (ps_ret (pe_call GO hr (by rfl) dO.m dO.F.kp dO.b .nil pass0 (pa_cons (pv 0) (pa_cons (pe_op op_cat (pv 5) (pe_lst (pa_cons (pe_tup (pa_cons (pe_tup (pa_cons (pv 2) (pa_cons (pv 3) (pa_cons (pv 4) (pa_cons pe_int pa_nil))))) pa_nil)) (pa_cons (pe_ix ix_tup (pv 1) pe_int (fun _ _ => rfl)) (pa_cons (pe_tup (pa_cons (pe_tup (pa_cons (pv 2) (pa_cons (pv 3) (pa_cons pe_str pa_nil)))) pa_nil)) (pa_cons (pe_tup (pa_cons (pe_tup (pa_cons (pe_tup (pa_cons pe_str pa_nil)) (pa_cons (pv 3) (pa_cons pe_int pa_nil)))) pa_nil)) pa_nil)))))) pa_nil)))))))), ?_⟩
    obtain ⟨a, ys, rfl, hcl⟩ := id hc
    obtain ⟨l0, cr, rfl⟩ : ∃ l0 cr, c = l0 :: cr := by
      cases c with
      | nil => exact absurd hcl.l1 (by decide)
      | cons x y => exact ⟨x, y, rfl⟩
    obtain ⟨y0, yr, rfl⟩ : ∃ y0 yr, ys = y0 :: yr := by
      have := hcl.len
      cases ys with
      | nil => cases this
      | cons x y => exact ⟨x, y, rfl⟩
    have il0 : IsLit K H y0 l0 := by
      cases hcl.p with
      | cons h _ => exact h
    obtain ⟨b0, rfl, hb0⟩ := il0
    obtain ⟨sl, sr⟩ := hsh l0 List.mem_cons_self
    obtain ⟨tl, tr, tn⟩ := l0
    have sl : Short tl := sl
    have sr : Short tr := sr
    refine ⟨_, rfl, a, _, 0, .ref b0, rfl, rfl, hcl.sq, at0, b0, _, rfl, hb0, rfl, _, _, rfl, _, _, rfl, _, _, rfl, rfl, ?_⟩
    have sh0 : ∀ z : Str, z ∈ ([("" : Str), "1"] : List Str) → Short z := fun z h => by
      simp only [List.mem_cons, List.not_mem_nil, or_false] at h
      rcases h with rfl | rfl <;> exact ⟨by decide +kernel, by decide +kernel, by decide +kernel⟩
    refine ⟨le_sz (Nat.le_of_ble_eq_true rfl), fun u1 hu1 => ?_⟩
    have s1 := new_same (o := .tup []) hu1
    have i1 : Is K (upd H u1 (.tup [])) (.ref u1) (.tup []) := is_nil
    obtain ⟨G1, eG1⟩ : ∃ G, upd H u1 (.tup []) = G := ⟨_, rfl⟩
    rw [eG1] at s1 i1 ⊢
    -- clause + ..
    refine ⟨_, rfl, _, rfl, _, rfl, le_sz (Nat.le_of_ble_eq_true rfl), fun u2 hu2 => ?_⟩
    have s2 := new_same (o := .tup [V.str tl, V.str tr, V.int 0]) hu2
    have i2 : Is K (upd G1 u2 (.tup [V.str tl, V.str tr, V.int 0])) (.ref u2) (.tup [.str tl, .str tr, .int 0]) := is_new hu2 (.cons (.str tl sl) (.cons (.str tr sr) (.cons (.int _) .nil))) (Nat.le_of_ble_eq_true rfl)
    obtain ⟨G2, eG2⟩ : ∃ G, upd G1 u2 (.tup [V.str tl, V.str tr, V.int 0]) = G := ⟨_, rfl⟩
    rw [eG2] at s2 i2 ⊢
    refine ⟨le_sz (Nat.le_of_ble_eq_true rfl), fun u3 hu3 => ?_⟩
    have s3 := new_same (o := .tup [V.ref u2]) hu3
    have i3 : Is K (upd G2 u3 (.tup [V.ref u2])) (.ref u3) (.tup [.tup [.str tl, .str tr, .int 0]]) := is_new hu3 (.cons i2 .nil) (Nat.le_of_ble_eq_true rfl)
    obtain ⟨G3, eG3⟩ : ∃ G, upd G2 u3 (.tup [V.ref u2]) = G := ⟨_, rfl⟩
    rw [eG3] at s3 i3 ⊢
    have q3 : SqT K G3 u3 [V.ref u2] := by rw [← eG3]; exact SqT.of upd_same
    refine ⟨u3, 6, [.ref u2], rfl, rfl, q3, (by simp), by decide, by decide, (by show 1 ≤ 9; decide), fun u4 hu4 => ?_⟩
    have s4 := new_same (o := .tup [V.ref u2, V.ref u2, V.ref u2, V.ref u2, V.ref u2, V.ref u2]) hu4
    have q4 : SqT K (upd G3 u4 (.tup [V.ref u2, V.ref u2, V.ref u2, V.ref u2, V.ref u2, V.ref u2])) u4 [V.ref u2, V.ref u2, V.ref u2, V.ref u2, V.ref u2, V.ref u2] := SqT.of upd_same
    obtain ⟨G4, eG4⟩ : ∃ G, upd G3 u4 (.tup (List.replicate (Int.toNat 6) [V.ref u2]).flatten) = G := ⟨_, rfl⟩
    have eG4' : upd G3 u4 (.tup [V.ref u2, V.ref u2, V.ref u2, V.ref u2, V.ref u2, V.ref u2]) = G4 := eG4
    rw [eG4]
    rw [eG4'] at s4 q4
    have hcq := SqT.same (((s1.trans s2).trans s3).trans s4) hcl.sq
    have icl : IsAll K G4 (.ref b0 :: yr) (((tl, tr, tn) :: cr).map litS) := IsAll.same (((s1.trans s2).trans s3).trans s4) (lits_is hcl.p hsh)
    have hyl : (V.ref b0 :: yr).length = cr.length + 1 := hcl.len
    have h6' : cr.length + 1 ≤ 6 := h6
    refine ⟨a, u4, _, _, rfl, rfl, hcq, q4, le_sz (by rw [hyl]; show cr.length + 1 + 6 ≤ 100; omega), (fun e => by cases e), (fun _ e => by cases e), fun _ _ u5 hu5 => ?_⟩
    have s5 := new_same (o := .tup ((.ref b0 :: yr) ++ [V.ref u2, V.ref u2, V.ref u2, V.ref u2, V.ref u2, V.ref u2])) hu5
    have i5 : Is K (upd G4 u5 (.tup ((.ref b0 :: yr) ++ [V.ref u2, V.ref u2, V.ref u2, V.ref u2, V.ref u2, V.ref u2]))) (.ref u5) (.tup (((tl, tr, tn) :: cr).map litS ++ [.tup [.str tl, .str tr, .int 0], .tup [.str tl, .str tr, .int 0], .tup [.str tl, .str tr, .int 0], .tup [.str tl, .str tr, .int 0], .tup [.str tl, .str tr, .int 0], .tup [.str tl, .str tr, .int 0]])) := is_new hu5 (icl.app (.cons (Is.same (s3.trans s4) i2) (.cons (Is.same (s3.trans s4) i2) (.cons (Is.same (s3.trans s4) i2) (.cons (Is.same (s3.trans s4) i2) (.cons (Is.same (s3.trans s4) i2) (.cons (Is.same (s3.trans s4) i2) .nil))))))) (by rw [List.length_append, List.length_map]; show cr.length + 1 + 6 ≤ 1000; omega)
    obtain ⟨G5, eG5⟩ : ∃ G, upd G4 u5 (.tup ((.ref b0 :: yr) ++ [V.ref u2, V.ref u2, V.ref u2, V.ref u2, V.ref u2, V.ref u2])) = G := ⟨_, rfl⟩
    rw [eG5] at s5 i5 ⊢
    refine ⟨_, rfl, a, _, rfl, .inr (SqT.same ((((s1.trans s2).trans s3).trans s4).trans s5) hcl.sq), fun u6 hu6 => ?_⟩
    have s6 := new_same (o := .lst (.ref b0 :: yr)) hu6
    have i6 : Is K (upd G5 u6 (.lst (.ref b0 :: yr))) (.ref u6) .oth := .lst ⟨_, SqL.of upd_same⟩
    obtain ⟨G6, eG6⟩ : ∃ G, upd G5 u6 (.lst (.ref b0 :: yr)) = G := ⟨_, rfl⟩
    rw [eG6] at s6 i6 ⊢
    refine fun u7 hu7 => ?_
    have s7 := new_same (o := .dK []) hu7
    have i7 : Is K (upd G6 u7 (.dK [])) (.ref u7) .oth := .dic ⟨_, upd_same⟩
    obtain ⟨G7, eG7⟩ : ∃ G, upd G6 u7 (.dK []) = G := ⟨_, rfl⟩
    rw [eG7] at s7 i7 ⊢
    refine ⟨_, rfl, _, rfl, le_sz (Nat.le_of_ble_eq_true rfl), fun u8 hu8 => ?_⟩
    have s8 := new_same (o := .tup [V.str tl, V.str tr]) hu8
    have i8 : Is K (upd G7 u8 (.tup [V.str tl, V.str tr])) (.ref u8) (.tup [.str tl, .str tr]) := is_new hu8 (.cons (.str tl sl) (.cons (.str tr sr) .nil)) (Nat.le_of_ble_eq_true rfl)
    obtain ⟨G8, eG8⟩ : ∃ G, upd G7 u8 (.tup [V.str tl, V.str tr]) = G := ⟨_, rfl⟩
    rw [eG8] at s8 i8 ⊢
    refine ⟨le_sz (Nat.le_of_ble_eq_true rfl), fun u9 hu9 => ?_⟩
    have s9 := new_same (o := .tup [V.ref u8]) hu9
    have i9 : Is K (upd G8 u9 (.tup [V.ref u8])) (.ref u9) (.tup [.tup [.str tl, .str tr]]) := is_new hu9 (.cons i8 .nil) (Nat.le_of_ble_eq_true rfl)
    obtain ⟨G9, eG9⟩ : ∃ G, upd G8 u9 (.tup [V.ref u8]) = G := ⟨_, rfl⟩
    rw [eG9] at s9 i9 ⊢
    refine ⟨le_sz (Nat.le_of_ble_eq_true rfl), fun u10 hu10 => ?_⟩
    have s10 := new_same (o := .lst [V.ref u1, V.ref u5, V.ref u6, V.non, V.str "", V.int 5, V.ref u7, V.ref u9]) hu10
    have g10 : (upd G9 u10 (.lst [V.ref u1, V.ref u5, V.ref u6, V.non, V.str "", V.int 5, V.ref u7, V.ref u9])) u10 = some (.lst [V.ref u1, V.ref u5, V.ref u6, V.non, V.str "", V.int 5, V.ref u7, V.ref u9]) := upd_same
    obtain ⟨G10, eG10⟩ : ∃ G, upd G9 u10 (.lst [V.ref u1, V.ref u5, V.ref u6, V.non, V.str "", V.int 5, V.ref u7, V.ref u9]) = G := ⟨_, rfl⟩
    rw [eG10] at s10 g10 ⊢
    refine ⟨_, rfl, .inl ⟨rfl, _, SqL.of g10⟩, ?_⟩
    refine ⟨_, rfl, _, rfl, rfl, le_sz (Nat.le_of_ble_eq_true rfl), fun u11 hu11 => ?_⟩
    have s11 := new_same (o := .tup [V.str tl, V.str tr, V.bl (decide (V.int 1 = V.int 1))]) hu11
    have i11 : Is K (upd G10 u11 (.tup [V.str tl, V.str tr, V.bl (decide (V.int 1 = V.int 1))])) (.ref u11) (.tup [.str tl, .str tr, .bl]) := is_new hu11 (.cons (.str tl sl) (.cons (.str tr sr) (.cons (.bl _) .nil))) (Nat.le_of_ble_eq_true rfl)
    obtain ⟨G11, eG11⟩ : ∃ G, upd G10 u11 (.tup [V.str tl, V.str tr, V.bl (decide (V.int 1 = V.int 1))]) = G := ⟨_, rfl⟩
    rw [eG11] at s11 i11 ⊢
    refine ⟨le_sz (Nat.le_of_ble_eq_true rfl), fun u12 hu12 => ?_⟩
    have s12 := new_same (o := .tup [V.ref u11]) hu12
    have i12 : Is K (upd G11 u12 (.tup [V.ref u11])) (.ref u12) (.tup [.tup [.str tl, .str tr, .bl]]) := is_new hu12 (.cons i11 .nil) (Nat.le_of_ble_eq_true rfl)
    obtain ⟨G12, eG12⟩ : ∃ G, upd G11 u12 (.tup [V.ref u11]) = G := ⟨_, rfl⟩
    rw [eG12] at s12 i12 ⊢
    have gl := ((s11.trans s12) _ _ g10)
    refine ⟨u10, _, _, rfl, rfl, gl, small1000 (Nat.le_of_ble_eq_true rfl), ?_⟩
    have kl : KeepB u10 G12 (upd G12 u10 (.lst ([V.ref u1, V.ref u5, V.ref u6, V.non, V.str "", V.int 5, V.ref u7, V.ref u9] ++ [V.ref u12]))) := KeepB.at
    have gl2 : (upd G12 u10 (.lst ([V.ref u1, V.ref u5, V.ref u6, V.non, V.str "", V.int 5, V.ref u7, V.ref u9] ++ [V.ref u12]))) u10 = some (.lst [V.ref u1, V.ref u5, V.ref u6, V.non, V.str "", V.int 5, V.ref u7, V.ref u9, V.ref u12]) := upd_same
    obtain ⟨GL, eGL⟩ : ∃ G, upd G12 u10 (.lst ([V.ref u1, V.ref u5, V.ref u6, V.non, V.str "", V.int 5, V.ref u7, V.ref u9] ++ [V.ref u12])) = G := ⟨_, rfl⟩
    rw [eGL] at kl gl2 ⊢
    refine ⟨_, rfl, _, rfl, _, rfl, le_sz (Nat.le_of_ble_eq_true rfl), fun u13 hu13 => ?_⟩
    have s13 := new_same (o := .tup [V.non, V.str tr, V.int tn]) hu13
    have i13 : Is K (upd GL u13 (.tup [V.non, V.str tr, V.int tn])) (.ref u13) (.tup [.oth, .str tr, .int tn]) := is_new hu13 (.cons .non (.cons (.str tr sr) (.cons (.int tn) .nil))) (Nat.le_of_ble_eq_true rfl)
    obtain ⟨G13, eG13⟩ : ∃ G, upd GL u13 (.tup [V.non, V.str tr, V.int tn]) = G := ⟨_, rfl⟩
    rw [eG13] at s13 i13 ⊢
    refine ⟨le_sz (Nat.le_of_ble_eq_true rfl), fun u14 hu14 => ?_⟩
    have s14 := new_same (o := .tup [V.ref u13]) hu14
    have i14 : Is K (upd G13 u14 (.tup [V.ref u13])) (.ref u14) (.tup [.tup [.oth, .str tr, .int tn]]) := is_new hu14 (.cons i13 .nil) (Nat.le_of_ble_eq_true rfl)
    obtain ⟨G14, eG14⟩ : ∃ G, upd G13 u14 (.tup [V.ref u13]) = G := ⟨_, rfl⟩
    rw [eG14] at s14 i14 ⊢
    refine ⟨_, rfl, _, rfl, le_sz (Nat.le_of_ble_eq_true rfl), fun u15 hu15 => ?_⟩
    have s15 := new_same (o := .tup [V.str tl, V.int 0, V.int tn]) hu15
    have i15 : Is K (upd G14 u15 (.tup [V.str tl, V.int 0, V.int tn])) (.ref u15) (.tup [.str tl, .int 0, .int tn]) := is_new hu15 (.cons (.str tl sl) (.cons (.int _) (.cons (.int tn) .nil))) (Nat.le_of_ble_eq_true rfl)
    obtain ⟨G15, eG15⟩ : ∃ G, upd G14 u15 (.tup [V.str tl, V.int 0, V.int tn]) = G := ⟨_, rfl⟩
    rw [eG15] at s15 i15 ⊢
    refine ⟨le_sz (Nat.le_of_ble_eq_true rfl), fun u16 hu16 => ?_⟩
    have s16 := new_same (o := .tup [V.ref u15]) hu16
    have i16 : Is K (upd G15 u16 (.tup [V.ref u15])) (.ref u16) (.tup [.tup [.str tl, .int 0, .int tn]]) := is_new hu16 (.cons i15 .nil) (Nat.le_of_ble_eq_true rfl)
    obtain ⟨G16, eG16⟩ : ∃ G, upd G15 u16 (.tup [V.ref u15]) = G := ⟨_, rfl⟩
    rw [eG16] at s16 i16 ⊢
    refine ⟨_, rfl, _, rfl, le_sz (Nat.le_of_ble_eq_true rfl), fun u17 hu17 => ?_⟩
    have s17 := new_same (o := .tup [V.str tl, V.str tr, V.non]) hu17
    have i17 : Is K (upd G16 u17 (.tup [V.str tl, V.str tr, V.non])) (.ref u17) (.tup [.str tl, .str tr, .oth]) := is_new hu17 (.cons (.str tl sl) (.cons (.str tr sr) (.cons .non .nil))) (Nat.le_of_ble_eq_true rfl)
    obtain ⟨G17, eG17⟩ : ∃ G, upd G16 u17 (.tup [V.str tl, V.str tr, V.non]) = G := ⟨_, rfl⟩
    rw [eG17] at s17 i17 ⊢
    refine ⟨le_sz (Nat.le_of_ble_eq_true rfl), fun u18 hu18 => ?_⟩
    have s18 := new_same (o := .tup [V.ref u17]) hu18
    have i18 : Is K (upd G17 u18 (.tup [V.ref u17])) (.ref u18) (.tup [.tup [.str tl, .str tr, .oth]]) := is_new hu18 (.cons i17 .nil) (Nat.le_of_ble_eq_true rfl)
    obtain ⟨G18, eG18⟩ : ∃ G, upd G17 u18 (.tup [V.ref u17]) = G := ⟨_, rfl⟩
    rw [eG18] at s18 i18 ⊢
    refine ⟨_, rfl, _, rfl, _, rfl, le_sz (Nat.le_of_ble_eq_true rfl), fun u19 hu19 => ?_⟩
    have s19 := new_same (o := .lst [V.str tl, V.str tr, V.int tn]) hu19
    have i19 : Is K (upd G18 u19 (.lst [V.str tl, V.str tr, V.int tn])) (.ref u19) .oth := .lst ⟨_, SqL.of upd_same⟩
    have g19 : (upd G18 u19 (.lst [V.str tl, V.str tr, V.int tn])) u19 = some (.lst [V.str tl, V.str tr, V.int tn]) := upd_same
    obtain ⟨G19, eG19⟩ : ∃ G, upd G18 u19 (.lst [V.str tl, V.str tr, V.int tn]) = G := ⟨_, rfl⟩
    rw [eG19] at s19 i19 g19 ⊢
    refine ⟨le_sz (Nat.le_of_ble_eq_true rfl), fun u20 hu20 => ?_⟩
    have s20 := new_same (o := .tup [V.ref u19]) hu20
    have i20 : Is K (upd G19 u20 (.tup [V.ref u19])) (.ref u20) (.tup [.oth]) := is_new hu20 (.cons i19 .nil) (Nat.le_of_ble_eq_true rfl)
    obtain ⟨G20, eG20⟩ : ∃ G, upd G19 u20 (.tup [V.ref u19]) = G := ⟨_, rfl⟩
    rw [eG20] at s20 i20 ⊢
    refine ⟨le_sz (Nat.le_of_ble_eq_true rfl), fun u21 hu21 => ?_⟩
    have s21 := new_same (o := .lst [V.ref u14, V.ref u16, V.ref u18, V.ref u20]) hu21
    have g21 : (upd G20 u21 (.lst [V.ref u14, V.ref u16, V.ref u18, V.ref u20])) u21 = some (.lst [V.ref u14, V.ref u16, V.ref u18, V.ref u20]) := upd_same
    obtain ⟨G21, eG21⟩ : ∃ G, upd G20 u21 (.lst [V.ref u14, V.ref u16, V.ref u18, V.ref u20]) = G := ⟨_, rfl⟩
    rw [eG21] at s21 g21 ⊢
    refine ⟨u10, u21, _, _, rfl, rfl, (((((((((s13.trans s14).trans s15).trans s16).trans s17).trans s18).trans s19).trans s20).trans s21) _ _ gl2), g21, le_sz (Nat.le_of_ble_eq_true rfl), fun u22 hu22 => ?_⟩
    have s22 := new_same (o := .lst ([V.ref u1, V.ref u5, V.ref u6, V.non, V.str "", V.int 5, V.ref u7, V.ref u9, V.ref u12] ++ [V.ref u14, V.ref u16, V.ref u18, V.ref u20])) hu22
    have g22 : (upd G21 u22 (.lst ([V.ref u1, V.ref u5, V.ref u6, V.non, V.str "", V.int 5, V.ref u7, V.ref u9, V.ref u12] ++ [V.ref u14, V.ref u16, V.ref u18, V.ref u20]))) u22 = some (.lst [V.ref u1, V.ref u5, V.ref u6, V.non, V.str "", V.int 5, V.ref u7, V.ref u9, V.ref u12, V.ref u14, V.ref u16, V.ref u18, V.ref u20]) := upd_same
    obtain ⟨G22, eG22⟩ : ∃ G, upd G21 u22 (.lst ([V.ref u1, V.ref u5, V.ref u6, V.non, V.str "", V.int 5, V.ref u7, V.ref u9, V.ref u12] ++ [V.ref u14, V.ref u16, V.ref u18, V.ref u20])) = G := ⟨_, rfl⟩
    rw [eG22] at s22 g22 ⊢
    have n0 : H u10 = none := Same.free ((((((((s1.trans s2).trans s3).trans s4).trans s5).trans s6).trans s7).trans s8).trans s9) hu10
    have sF0 : Same H GL := fun b u e => kl b u (fun z => by rw [z, n0] at e; cases e) ((((((((((((s1.trans s2).trans s3).trans s4).trans s5).trans s6).trans s7).trans s8).trans s9).trans s10).trans s11).trans s12) _ _ e)
    refine ⟨_, rfl, _, rfl, _, rfl, _, rfl, _, rfl, le_sz (Nat.le_of_ble_eq_true rfl), fun u23 hu23 => ?_⟩
    have s23 := new_same (o := .tup [V.str tl, V.str tr, V.int tn, V.int 0]) hu23
    have i23 : Is K (upd G22 u23 (.tup [V.str tl, V.str tr, V.int tn, V.int 0])) (.ref u23) (.tup [.str tl, .str tr, .int tn, .int 0]) := is_new hu23 (.cons (.str tl sl) (.cons (.str tr sr) (.cons (.int tn) (.cons (.int _) .nil)))) (Nat.le_of_ble_eq_true rfl)
    obtain ⟨G23, eG23⟩ : ∃ G, upd G22 u23 (.tup [V.str tl, V.str tr, V.int tn, V.int 0]) = G := ⟨_, rfl⟩
    rw [eG23] at s23 i23 ⊢
    refine ⟨le_sz (Nat.le_of_ble_eq_true rfl), fun u24 hu24 => ?_⟩
    have s24 := new_same (o := .tup [V.ref u23]) hu24
    have i24 : Is K (upd G23 u24 (.tup [V.ref u23])) (.ref u24) (.tup [.tup [.str tl, .str tr, .int tn, .int 0]]) := is_new hu24 (.cons i23 .nil) (Nat.le_of_ble_eq_true rfl)
    obtain ⟨G24, eG24⟩ : ∃ G, upd G23 u24 (.tup [V.ref u23]) = G := ⟨_, rfl⟩
    rw [eG24] at s24 i24 ⊢
    have sF1 : Same H G24 := sF0.trans (((((((((((s13.trans s14).trans s15).trans s16).trans s17).trans s18).trans s19).trans s20).trans s21).trans s22).trans s23).trans s24)
    have hcq2 := SqT.same sF1 hcl.sq
    have ib0 : Is K G24 (.ref b0) (litS (tl, tr, tn)) := Is.same sF1 (.tup hb0 (.cons (.str _ sl) (.cons (.str _ sr) (.cons (.int _) .nil))) (Nat.le_of_ble_eq_true rfl))
    refine ⟨_, rfl, a, _, 0, .ref b0, rfl, rfl, hcq2, at0, _, rfl, _, rfl, le_sz (Nat.le_of_ble_eq_true rfl), fun u25 hu25 => ?_⟩
    have s25 := new_same (o := .tup [V.str tl, V.str tr, V.str "1"]) hu25
    have i25 : Is K (upd G24 u25 (.tup [V.str tl, V.str tr, V.str "1"])) (.ref u25) (.tup [.str tl, .str tr, .str "1"]) := is_new hu25 (.cons (.str tl sl) (.cons (.str tr sr) (.cons (.str _ (sh0 _ (by decide))) .nil))) (Nat.le_of_ble_eq_true rfl)
    obtain ⟨G25, eG25⟩ : ∃ G, upd G24 u25 (.tup [V.str tl, V.str tr, V.str "1"]) = G := ⟨_, rfl⟩
    rw [eG25] at s25 i25 ⊢
    refine ⟨le_sz (Nat.le_of_ble_eq_true rfl), fun u26 hu26 => ?_⟩
    have s26 := new_same (o := .tup [V.ref u25]) hu26
    have i26 : Is K (upd G25 u26 (.tup [V.ref u25])) (.ref u26) (.tup [.tup [.str tl, .str tr, .str "1"]]) := is_new hu26 (.cons i25 .nil) (Nat.le_of_ble_eq_true rfl)
    obtain ⟨G26, eG26⟩ : ∃ G, upd G25 u26 (.tup [V.ref u25]) = G := ⟨_, rfl⟩
    rw [eG26] at s26 i26 ⊢
    refine ⟨le_sz (Nat.le_of_ble_eq_true rfl), fun u27 hu27 => ?_⟩
    have s27 := new_same (o := .tup [V.str ""]) hu27
    have i27 : Is K (upd G26 u27 (.tup [V.str ""])) (.ref u27) (.tup [.str ""]) := is_new hu27 (.cons (.str _ (sh0 _ (by decide))) .nil) (Nat.le_of_ble_eq_true rfl)
    obtain ⟨G27, eG27⟩ : ∃ G, upd G26 u27 (.tup [V.str ""]) = G := ⟨_, rfl⟩
    rw [eG27] at s27 i27 ⊢
    refine ⟨_, rfl, le_sz (Nat.le_of_ble_eq_true rfl), fun u28 hu28 => ?_⟩
    have s28 := new_same (o := .tup [V.ref u27, V.str tr, V.int 0]) hu28
    have i28 : Is K (upd G27 u28 (.tup [V.ref u27, V.str tr, V.int 0])) (.ref u28) (.tup [.tup [.str ""], .str tr, .int 0]) := is_new hu28 (.cons i27 (.cons (.str tr sr) (.cons (.int _) .nil))) (Nat.le_of_ble_eq_true rfl)
    obtain ⟨G28, eG28⟩ : ∃ G, upd G27 u28 (.tup [V.ref u27, V.str tr, V.int 0]) = G := ⟨_, rfl⟩
    rw [eG28] at s28 i28 ⊢
    refine ⟨le_sz (Nat.le_of_ble_eq_true rfl), fun u29 hu29 => ?_⟩
    have s29 := new_same (o := .tup [V.ref u28]) hu29
    have i29 : Is K (upd G28 u29 (.tup [V.ref u28])) (.ref u29) (.tup [.tup [.tup [.str ""], .str tr, .int 0]]) := is_new hu29 (.cons i28 .nil) (Nat.le_of_ble_eq_true rfl)
    obtain ⟨G29, eG29⟩ : ∃ G, upd G28 u29 (.tup [V.ref u28]) = G := ⟨_, rfl⟩
    rw [eG29] at s29 i29 ⊢
    refine ⟨le_sz (Nat.le_of_ble_eq_true rfl), fun u30 hu30 => ?_⟩
    have s30 := new_same (o := .lst [V.ref u24, V.ref b0, V.ref u26, V.ref u29]) hu30
    have g30 : (upd G29 u30 (.lst [V.ref u24, V.ref b0, V.ref u26, V.ref u29])) u30 = some (.lst [V.ref u24, V.ref b0, V.ref u26, V.ref u29]) := upd_same
    obtain ⟨G30, eG30⟩ : ∃ G, upd G29 u30 (.lst [V.ref u24, V.ref b0, V.ref u26, V.ref u29]) = G := ⟨_, rfl⟩
    rw [eG30] at s30 g30 ⊢
    have sF : Same H G30 := sF0.trans (((((((((((((((((s13.trans s14).trans s15).trans s16).trans s17).trans s18).trans s19).trans s20).trans s21).trans s22).trans s23).trans s24).trans s25).trans s26).trans s27).trans s28).trans s29).trans s30)
    have WW := hW.same sF
    refine ⟨u22, u30, _, _, rfl, rfl, ((((((((s23.trans s24).trans s25).trans s26).trans s27).trans s28).trans s29).trans s30) _ _ g22), g30, le_sz (Nat.le_of_ble_eq_true rfl), fun q hq => ?_⟩
    refine ⟨p, q, n, [V.ref u1, V.ref u5, V.ref u6, V.non, V.str "", V.int 5, V.ref u7, V.ref u9, V.ref u12, V.ref u14, V.ref u16, V.ref u18, V.ref u20, V.ref u24, V.ref b0, V.ref u26, V.ref u29], rfl, WW.same (new_same hq), by omega, (WW.ne hq).symm, SqL.of upd_same, Nat.le_of_ble_eq_true rfl, Nat.le_of_ble_eq_true rfl, fun r v x hv W2 => ?_⟩
    obtain ⟨kp, d, hd, hi⟩ := isAll_pick (xs := [V.ref u1, V.ref u5, V.ref u6, V.non, V.str "", V.int 5, V.ref u7, V.ref u9, V.ref u12, V.ref u14, V.ref u16, V.ref u18, V.ref u20, V.ref u24, V.ref b0, V.ref u26, V.ref u29]) (ds := [.tup [], .tup (((tl, tr, tn) :: cr).map litS ++ [.tup [.str tl, .str tr, .int 0], .tup [.str tl, .str tr, .int 0], .tup [.str tl, .str tr, .int 0], .tup [.str tl, .str tr, .int 0], .tup [.str tl, .str tr, .int 0], .tup [.str tl, .str tr, .int 0]]), .oth, .oth, .str "", .int 5, .oth, .tup [.tup [.str tl, .str tr]], .tup [.tup [.str tl, .str tr, .bl]], .tup [.tup [.oth, .str tr, .int tn]], .tup [.tup [.str tl, .int 0, .int tn]], .tup [.tup [.str tl, .str tr, .oth]], .tup [.oth], .tup [.tup [.str tl, .str tr, .int tn, .int 0]], litS (tl, tr, tn), .tup [.tup [.str tl, .str tr, .str "1"]], .tup [.tup [.tup [.str ""], .str tr, .int 0]]]) WW hq (.cons (Is.same (((((((((((((((((s13.trans s14).trans s15).trans s16).trans s17).trans s18).trans s19).trans s20).trans s21).trans s22).trans s23).trans s24).trans s25).trans s26).trans s27).trans s28).trans s29).trans s30) (Is.keepL gl gl2 kl (Is.same ((((((((((s2.trans s3).trans s4).trans s5).trans s6).trans s7).trans s8).trans s9).trans s10).trans s11).trans s12) i1))) (.cons (Is.same (((((((((((((((((s13.trans s14).trans s15).trans s16).trans s17).trans s18).trans s19).trans s20).trans s21).trans s22).trans s23).trans s24).trans s25).trans s26).trans s27).trans s28).trans s29).trans s30) (Is.keepL gl gl2 kl (Is.same ((((((s6.trans s7).trans s8).trans s9).trans s10).trans s11).trans s12) i5))) (.cons (Is.same (((((((((((((((((s13.trans s14).trans s15).trans s16).trans s17).trans s18).trans s19).trans s20).trans s21).trans s22).trans s23).trans s24).trans s25).trans s26).trans s27).trans s28).trans s29).trans s30) (Is.keepL gl gl2 kl (Is.same (((((s7.trans s8).trans s9).trans s10).trans s11).trans s12) i6))) (.cons .non (.cons (.str _ (sh0 _ (by decide))) (.cons (.int _) (.cons (Is.same (((((((((((((((((s13.trans s14).trans s15).trans s16).trans s17).trans s18).trans s19).trans s20).trans s21).trans s22).trans s23).trans s24).trans s25).trans s26).trans s27).trans s28).trans s29).trans s30) (Is.keepL gl gl2 kl (Is.same ((((s8.trans s9).trans s10).trans s11).trans s12) i7))) (.cons (Is.same (((((((((((((((((s13.trans s14).trans s15).trans s16).trans s17).trans s18).trans s19).trans s20).trans s21).trans s22).trans s23).trans s24).trans s25).trans s26).trans s27).trans s28).trans s29).trans s30) (Is.keepL gl gl2 kl (Is.same ((s10.trans s11).trans s12) i9))) (.cons (Is.same (((((((((((((((((s13.trans s14).trans s15).trans s16).trans s17).trans s18).trans s19).trans s20).trans s21).trans s22).trans s23).trans s24).trans s25).trans s26).trans s27).trans s28).trans s29).trans s30) (Is.keepL gl gl2 kl i12)) (.cons (Is.same (((((((((((((((s15.trans s16).trans s17).trans s18).trans s19).trans s20).trans s21).trans s22).trans s23).trans s24).trans s25).trans s26).trans s27).trans s28).trans s29).trans s30) i14) (.cons (Is.same (((((((((((((s17.trans s18).trans s19).trans s20).trans s21).trans s22).trans s23).trans s24).trans s25).trans s26).trans s27).trans s28).trans s29).trans s30) i16) (.cons (Is.same (((((((((((s19.trans s20).trans s21).trans s22).trans s23).trans s24).trans s25).trans s26).trans s27).trans s28).trans s29).trans s30) i18) (.cons (Is.same (((((((((s21.trans s22).trans s23).trans s24).trans s25).trans s26).trans s27).trans s28).trans s29).trans s30) i20) (.cons (Is.same (((((s25.trans s26).trans s27).trans s28).trans s29).trans s30) i24) (.cons (Is.same (((((s25.trans s26).trans s27).trans s28).trans s29).trans s30) ib0) (.cons (Is.same (((s27.trans s28).trans s29).trans s30) i26) (.cons (Is.same s30 i29) .nil))))))))))))))))) hv W2
    refine k v d _ hi ?_ ((KeepB.of sF).trans kp) (W2.mono (by omega))
    simp only [List.mem_cons, List.not_mem_nil, or_false] at hd
    rcases hd with rfl | rfl | rfl | rfl | rfl | rfl | rfl | rfl | rfl | rfl | rfl | rfl | rfl | rfl | rfl | rfl | rfl
    · rfl
    · exact cl7 (by rw [List.length_append, List.length_map]; show 7 ≤ cr.length + 1 + 6; omega)
    · rfl
    · rfl
    · rfl
    · rfl
    · rfl
    · rfl
    · rfl
    · rfl
    · rfl
    · rfl
    · rfl
    · rfl
    · rfl
    · rfl
    · rfl
end
end Kx
set_option linter.all false
namespace Kx
open PySem L2 PySem.Spec PyProof.Rows
section
variable {X : Cx}
theorem pe_xfE {a C : Addr} {oe : Obj} {cls : Value} {d : Option Addr} {pn : List (Addr × Obj)} {e : Expr} {te : TE} {pos : Pos} {n : PySem.Str} (T : XfC X.K C) (hno : PySem.W.findIn X.K (.ref C) n = some none) (hz : Zc cls d oe) (hf : ∃ vs, oe.data = .fields vs)
    (he : PE (X.suite a ((a, oe) :: pn)) e te) (hb : attributeBase e n X.env (eval e X.env) = eval e X.env := by rfl) : PE (X.suite a ((a, oe) :: pn)) (.Attribute e n pos)
      (fun σ H Q => te σ H fun x H1 => x = .ref a ∧ cls = .ref C ∧ ∃ (dd : Addr) (fs : List (PySem.Str × V)) (v : V), d = some dd ∧ H1 dd = some (exd dd fs) ∧ fs.lookup n = some v ∧ Q v H1) := by
  refine ⟨fun pins s σ H Q I h => attr_of hb (thn (he.run pins s σ H _ I h) fun u s1 hh => ?_)⟩
  obtain ⟨x, H1, I1, rx, rfl, rfl, dd, fs, v, rfl, ea, l, q⟩ := hh
  obtain rfl : u = Value.ref a := rx
  obtain ⟨ha, _⟩ := I1.pin (a, oe) (List.mem_append_left _ List.mem_cons_self)
  obtain ⟨vs, hd⟩ := hf
  obtain ⟨mA, hns, hr⟩ := exd_at I1.hok ea
  obtain ⟨od, ho, hl⟩ := lookIn_ns hns
  obtain ⟨u, hu, ru⟩ := RelO.some_of (v := v) (o := mA n) (by rw [← l]; exact hr n)
  have J : PySem.W.InstAt s1.heap a oe C (some od) := ⟨ha, hz.1, by unfold PySem.W.notCls; rw [hd] <;> rfl, by rw [hz.2]; exact ho⟩
  exact HandSPX.exc_get I1.kIn J T.ga T.gg T.exC (PySem.W.findObj_own T.hdC hno rfl (by rw [hl, hu])) (handed_of ru) ⟨v, H1, I1.tok _, ru, q⟩
end
def PinIs (p : Addr × Obj) (C : Addr) (H : Hp) : Prop := ∃ vs d, p.2.data = .fields vs ∧ Zc (.ref C) d p.2 ∧ (d = none ∨ ∃ dd fs, d = some dd ∧ H dd = some (exd dd fs))
theorem PinIs.same {p : Addr × Obj} {C : Addr} {H H' : Hp} (h : PinIs p C H) (s : Same H H') : PinIs p C H' := by
  obtain ⟨vs, d, h1, h2, h3⟩ := h
  exact ⟨vs, d, h1, h2, h3.imp id fun ⟨dd, fs, e, z⟩ => ⟨dd, fs, e, s _ _ z⟩⟩
section
variable {X : Cx} {B : Addr}
def rIsPin (K : PySem.W.Frag) (p : Addr × Obj) (B : Addr) : List V → Hp → VK → Prop := fun xs H Q => ∃ (C : Addr) (c : V) (u : Value) (b : Bool), xs = [.ref p.1, c] ∧ PinIs p C H ∧ Ct K B C ∧ ClsV c u ∧ PySem.W.kitOne K (.ref C) u = some b ∧ Q (.bl b) H
theorem call_isPin {p : Addr × Obj} (G : Gt X.K B) (hp : p ∈ X.pn) : CallR X (.builtin "isinstance") (rIsPin X.K p B) := by
  intro pins s σ H xs us Q I r h
  obtain ⟨C, c, u, b, rfl, ⟨vs, d, hd, hz, hdd⟩, T, k, e, q⟩ := h
  obtain ⟨u1, u2, rfl, r1, r2⟩ := vals2 r
  have z1 : u1 = Value.ref p.1 := r1
  subst z1
  have e2 := k.eq r2
  subst e2
  obtain ⟨a, oc, odd, oda, osl⟩ := p
  obtain ⟨g, _⟩ := I.pin _ (List.mem_append_left pins hp)
  obtain ⟨y1, y2⟩ := hz
  dsimp only at g hd y1 y2
  subst y1 y2 hd
  have J : ∃ od, PySem.W.InstAt s.heap a ⟨.ref C, odd, .fields vs, osl⟩ C od := by
    rcases hdd with rfl | ⟨dd, fs, rfl, hx⟩
    · exact ⟨none, g, rfl, rfl, trivial⟩
    · obtain ⟨mA, hn, _⟩ := exd_at I.hok hx
      obtain ⟨od, e2, _⟩ := lookIn_ns hn
      exact ⟨some od, g, rfl, rfl, e2⟩
  obtain ⟨od, J⟩ := J
  exact PySem.W.kia_one (PySem.W.kitx_exc T.isC T.ga T.gg T.base T.ha G.hn G.ht (by rw [T.mro]; rfl)) I.kIn J e (fun z => nomatch z) fun tk => ⟨.bl b, H, I.tok tk, rfl, q⟩
def rIsCls (K : PySem.W.Frag) (B a : Addr) (cls : Value) (d : Option Addr) : List V → Hp → VK → Prop := fun xs H Q => ∃ (C : Addr) (c : V) (u : Value) (b : Bool), xs = [.ref a, c] ∧ cls = .ref C ∧ (d = none ∨ ∃ dd fs, d = some dd ∧ H dd = some (exd dd fs)) ∧ Ct K B C ∧ ClsV c u ∧ PySem.W.kitOne K (.ref C) u = some b ∧ Q (.bl b) H
theorem call_isCls {a : Addr} {oe : Obj} {cls : Value} {d : Option Addr} {pn : List (Addr × Obj)} (G : Gt X.K B) (hz : Zc cls d oe) (hf : ∃ vs, oe.data = .fields vs) : CallR (X.suite a ((a, oe) :: pn)) (.builtin "isinstance") (rIsCls X.K B a cls d) := by
  intro pins s σ H xs us Q I r h
  obtain ⟨C, c, u, b, rfl, rfl, hd, T, k, e, q⟩ := h
  obtain ⟨vs, hv⟩ := hf
  exact call_isPin (X := X.suite a ((a, oe) :: pn)) (p := (a, oe)) G List.mem_cons_self pins s σ H _ us Q I r ⟨C, c, u, b, rfl, ⟨vs, d, hv, hz, hd⟩, T, k, e, q⟩
end
theorem cx_n {P : Program} {w : World} {outer : List Env} {H : Hp} {s s' : Shared} {E : XK} {u : Value} (c : L2N.CX P w outer H s E u s') : L2.CX P w outer H s E u s' := by
  obtain ⟨a, B, H', cls, d, e, ⟨f1, f2, f3, oe, vs, T, oT, ts, g1, g2, g3⟩, r⟩ := c
  exact ⟨a, B, H', cls, d, e, ⟨f1, f2, f3, oe, vs, T, oT, ts, g1, g2.zc, g3⟩, r⟩
theorem lam_pass {X : Cx} {A : Around} {outer : List Env} {s : Shared} {H : Hp} {E : XK} {scope : Scope} {f c' : Addr} : Passes (L2N.CX X.prog X.w) (LamX.lamCx X A outer s H E scope f c') E := fun pins σ H1 s1 e s2 I h =>
  L2.passes_call (X := LamX.lamCx X A outer s H E scope f c') (W := fun cls d _ H => E cls d H) (L2.takes_of rfl rfl rfl rfl) (fun _ _ _ _ z => z) pins σ H1 s1 e s2 I (cx_n h)
theorem pe_len {X : Cx} {e : Expr} {t : TE} (h : PE X e t) : PE X e (fun σ H Q => σ.length = X.N.length → t σ H Q) := ⟨fun pins s σ H Q I q => h.run pins s σ H Q I (q I.len)⟩
theorem passN {X : Cx} : Passes (L2N.CX X.prog X.w) X E0 := fun _ _ _ _ _ _ _ h => by
  obtain ⟨_, _, _, _, _, _, _, _, _, _, _, _, z⟩ := h
  exact z.elim
abbrev sSaid : Stmt := top 41
abbrev nSd : List PySem.Str := ["_law_ask", "e"]
theorem scSd : FnScope nSd ["_law_ask"] (defScope sSaid) := ⟨rfl, rfl, rfl, by decide +kernel, rfl, by decide +kernel, by decide +kernel⟩
/-- refused: where, as a text; or "told" -/
def TSaid (CB : Addr) : (XK → Hp → VK → Prop) → Hp → VK → Prop := fun tl H Q =>
  tl (fun cls d H' => cls = .ref CB ∧ ∃ (dd : Addr) (i : Int), d = some dd ∧ H' dd = some (exd dd [("at", .int i)]) ∧ i.natAbs.log2 < 1920 ∧ Q (.str (toString i)) H') H (fun _ H' => Q (.str "told") H')
theorem said_gives {X : Cx} {q : Str} {g B CB fB : Addr} {fdB : FuncData} {cdg : Value} (W0 : Bad X.K X.mg B CB fB fdB) (G : Gt X.K B) (gB : X.mg "ContractError" = some (.ref B)) (isi : X.mg "isinstance" = none) (rp : X.mg "repr" = none) : LamX.GivesTo X nSd "_law_said" (defScope sSaid) g cdg (defBody sSaid) "_law_ask" q (TSaid CB) := by
  intro f c' s H Q tl act hc h
  refine ⟨_, pss_one (L2.ps_try_as (X := (cxOf C8.CX0 X.prog X.w X.K X.mg X.base nSd "_law_said" (defScope sSaid) g cdg X.A X.stack s H C8.E0).nox) (i := 1) (c := .ref B) (Wout := fun _ _ _ _ => False)
      (tb := fun W D σ H1 => ∃ E1 : XK, (∀ cls d σ' H', E1 cls d H' → W cls d σ' H') ∧ σ[0]? = some (some (.ref f)) ∧ H1 c' = some (LamX.CodeO c' q) ∧ tl E1 H1 (fun _ H2 => D.rt (.str "told") H2))
      (ts := fun a cls d => tRet (fun σ H Q => σ.length = 2 → (tIf (tB (tCB (rIsCls X.K B a cls d) (tCons (tVar 1) (tCons (tC (.ref CB)) tNil)))) (tCB (fun xs H Q => ∃ i, xs = [.int i] ∧ i.natAbs.log2 < 1920 ∧ Q (.str (toString i)) H) (tCons (fun σ H Q => tVar 1 σ H fun x H1 => x = .ref a ∧ cls = .ref CB ∧ ∃ (dd : Addr) (fs : List (PySem.Str × V)) (v : V), d = some dd ∧ H1 dd = some (exd dd fs) ∧ fs.lookup ("at" : PySem.Str) = some v ∧ Q v H1) tNil)) (tC (.str "other"))) σ H Q))
      rfl rfl scSd.nd rfl rfl ⟨by rfl, by decide, .inl gB⟩ LamX.takes0 (fun W pn xe tk _ => ?_)
      (fun a oe cls d pn hz hf => pss_one (ps_ret (pe_len (pe_ifExp (pt_val (pe_callB (call_isCls G hz hf) (by rfl) isi boot_isinstance (pa_cons (pv 1) (pa_cons (pe_glob (v := .ref CB) (by rfl) W0.gm rfl) pa_nil))))
        (pe_callB SkE.call_repr_int (by rfl) rp (by decide +kernel) (pa_cons (pe_xfE (X := (cxOf C8.CX0 X.prog X.w X.K X.mg X.base nSd "_law_said" (defScope sSaid) g cdg X.A X.stack s H C8.E0).nox) (n := "at") (C := CB) W0.T.xf (W0.no _ (by simp)) hz hf (pv 1)) pa_nil)) pe_str))))), ?_⟩
  · refine ⟨fun pins s' σ H' D I h' => ?_⟩
    obtain ⟨E1, hW, h1, h2, h3⟩ := h'
    exact (pss_cons (ps_expr (act W pn xe E1 _ _ tk hW)) (pss_one (ps_ret pe_str))).run pins s' σ H' D I ⟨h1, h2, h3⟩
  · refine ⟨_, fun cls d σ' H' z => ?_, rfl, hc, h⟩
    obtain ⟨rfl, dd, i, rfl, g2, hi, q2⟩ := z
    refine ⟨true, PySem.W.exm_ref G.bsB G.hdB G.tyB (by show PySem.W.mroIn X.K CB _ = _; rw [W0.T.mro]; simp), fun _ a na => ?_, fun z => nomatch z⟩
    intro hl
    have h1 : (σ'.set 1 (some (V.ref a)))[1]? = some (some (V.ref a)) := by
      rw [List.length_set] at hl
      rw [List.getElem?_set_self (by omega)]
    exact ⟨_, h1, CB, .ref CB, _, true, rfl, rfl, .inr ⟨dd, _, rfl, g2⟩, W0.T, .own CB, kit_yes W0.T, true, rfl, iteT ⟨_, h1, rfl, rfl, dd, _, .int i, rfl, g2, by simp [List.lookup], i, rfl, hi, q2⟩⟩
end Kx
set_option linter.all false
/-! d.values() and list of it, where the keys are tuples -/
namespace TVl
open PySem PySem.Spec PyProof.Rows L2
section
variable {prog : Program} {w : World} {A : Around} {E : Value → Shared → Prop} {s : Shared}
theorem meets_vals (d : Addr) (hd : (d == sysModules) = false) :
    MeetsIn prog w (Builtin.«dict.values» ⟨[.ref d], []⟩) (fun _ R s => s.TypeIs (.ref d) "dict" ∧ R (.ok (.ret (.ref s.heap.objs.size))) { s with heap := s.heap.push (DSub.viewOb "dict_values" d) }) :=
  .of_wp fun A R s ⟨hT, h⟩ => by
    refine wpAny_bind ?_
    unfold Builtin.Dict.noArgs
    refine wpAny_bind (wpAny_notOrdered_dict hT ?_)
    show wpAny _ _ (pure d) _ _ s
    refine wpAny_pure ?_
    show wpAny _ _ (Builtin.Dict.showsAll d >>= _) _ _ s
    unfold Builtin.Dict.showsAll
    rw [if_neg (by rw [hd]; exact Bool.false_ne_true)]
    refine wpAny_bind (wpAny_pure ?_)
    exact wpAny_bind (wpAny_newObj_type (wpAny_pure ⟨_, rfl, h⟩))
def Ent (es : Array DictEntry) (i : Nat) (v : Value) : Prop := ∃ e, es[i]? = some e ∧ v = e.val
theorem src {r d : Addr} {ob : Obj} {es : Array DictEntry} {ep : Nat} (hdd : ob.data = .dict es ep) :
    PySem.W.KdlSrc prog w "dict_values" r d es.size (Ent es) (fun h => h.get? r = some (DSub.viewOb "dict_values" d) ∧ h.get? d = some ob) where
  type := fun _ hm => ⟨_, hm.1, rfl⟩
  there := fun _ hm => ⟨Heap.lt_size hm.1, Heap.lt_size hm.2⟩
  keep := fun _ _ hm hk => ⟨hk r (.inl rfl) _ hm.1, hk d (.inr rfl) _ hm.2⟩
  notList := by decide
  notTuple := by decide
  hint := fun _ _ _ _ hm hq => PySem.W.kdl_hint_values ⟨_, hm.1, rfl⟩ hq
  iter := fun _ s hh hm => ⟨_, _, (fun _ _ hq => DSub.iter_vals hm.1 hm.2 hdd hq), DSub.walksVal (a := d) hh (Nat.ne_of_lt (Heap.lt_size hm.2)) hdd (fun i e he => ⟨e, he, rfl⟩), ⟨Heap.get?_push_size _ rfl, Heap.get?_push_of_some _ hm.2⟩⟩
end
section
variable {X : Cx}
def rValues : V → List V → Hp → VK → Prop := fun x xs H Q => ∃ (a : Addr) (kvs : List (List L2.Key × V)), x = .ref a ∧ xs = [] ∧ H a = some (.dT kvs) ∧ ∀ p, H p = none → Q (.ref p) (upd H p (viewO "dict_values" p a))
theorem mt_values : MtR X "dict.values" rValues := by
  intro pins s σ H x xs v us Q I rx rxs h
  obtain ⟨a, kvs, rfl, rfl, ha, q⟩ := h
  cases rx
  cases rxs
  obtain ⟨z, hd, xs', rel, dd⟩ := dt_of I.hok ha
  refine call_meetsIn PySem.F.slot_dict_values dd.typeIs PySem.F.entry_dict_values (PySem.F.args_dict_values_1 _) (meets_vals a hd) ⟨dd.typeIs, ?_⟩
  exact ⟨.ref s.heap.objs.size, upd H s.heap.objs.size (viewO "dict_values" s.heap.objs.size a), I.laid (t' := s.toks) (fun b u e => Heap.get?_push_of_some _ e) (Nat.le_refl _) (viewO_ok (Heap.get?_push_size _ rfl)), rfl, q _ (I.hok.fresh (Nat.le_refl _))⟩
theorem vals_of {H : Hp} : ∀ {kvs : List (List L2.Key × V)} {xs : List (List L2.Key × Addr × Value)}, KT H kvs xs → Vals (kvs.map (·.2)) (xs.map fun x => x.2.2)
  | _, _, .nil => .nil
  | _, _, .cons h t => .cons h.2.2 (vals_of t)
def rListVals : List V → Hp → VK → Prop := fun xs H Q => ∃ (p a : Addr) (kvs : List (List L2.Key × V)), xs = [.ref p] ∧ H p = some (viewO "dict_values" p a) ∧ H a = some (.dT kvs) ∧ ∀ q, H q = none → Q (.ref q) (upd H q (.lst (kvs.map (·.2))))
theorem call_listVals (hc : X.calm = true) : CallR X (.type "list") rListVals := by
  intro pins s σ H xs us Q I r h
  obtain ⟨p, a, kvs, rfl, hp, ha, q⟩ := h
  obtain ⟨u, rfl, rx⟩ := vals1 r
  cases rx
  have hv : s.heap.get? p = some (DSub.viewOb "dict_values" a) := (I.hok _ _ hp).1
  obtain ⟨z, hd, xs', rel, o, es, ep, ho, hx, hdat, hes, _⟩ := dt_of I.hok ha
  have hsz : es.size = xs'.length := size_of_entries hes
  refine PySem.W.kdl_call (src (r := p) (d := a) hdat) (I.ok.hd hc) ⟨hv, ho⟩ (by rw [hsz, ← Paired.length rel]; exact z) fun h' tk acc c kp hS hacc => ?_
  have hv2 : acc.toList = xs'.map fun x => x.2.2 := by
    refine List.ext_getElem? fun j => ?_
    rw [Array.getElem?_toList, List.getElem?_map]
    have e1 := entry_at hes j
    cases hj : acc[j]? with
    | none =>
      have : acc.size ≤ j := by
        rcases Nat.lt_or_ge j acc.size with h1 | h1
        · rw [Array.getElem?_eq_getElem h1] at hj; cases hj
        · exact h1
      rw [List.getElem?_eq_none (by rw [← hsz, ← hacc.1]; exact this)]
      rfl
    | some v =>
      obtain ⟨e, he, rfl⟩ := hacc.2 j v hj
      rw [he] at e1
      cases hx' : xs'[j]? with
      | none => rw [hx'] at e1; cases e1
      | some y =>
        rw [hx'] at e1
        cases e1
        rfl
  exact ⟨.ref s.heap.objs.size, _, I.laid (t' := tk) (o := .lst (kvs.map (·.2))) kp (Nat.le_refl _) ⟨by rw [List.length_map]; exact z, acc.toList, c, by rw [hv2]; exact vals_of rel, by rw [Array.toArray_toList]; exact hS⟩, rfl, q _ (I.hok.fresh (Nat.le_refl _))⟩
end
end TVl
set_option linter.all false
namespace Kx
open PySem L2 PySem.Spec PyProof.Rows
/-! twenty thousand times x <= x + 0: the problem -/
abbrev sEdge : Stmt := inClass (top 22) 1
abbrev sPut : Stmt := inClass (top 22) 2
abbrev sPin : Stmt := inClass (top 22) 0
abbrev fs3 (L Nn Ch : Addr) : List (Str × V) := putF "choices" (.ref Ch) (putF "nodes" (.ref Nn) (putF "clauses" (.ref L) []))
structure Pst (K : PySem.W.Frag) (H : Hp) (n : Nat) (a C dx L Nn S Ch c t : Addr) (kn : List (Key × V)) (ks : List (List Key × V)) : Prop where
  ha : H a = some (.ins C dx (fs3 L Nn Ch))
  hL : H L = some (.lst (List.replicate n (.ref c)))
  hN : H Nn = some (.dK kn)
  hS : H S = some (.dT ks)
  hC : H Ch = some (.lst [])
  hc : SqT K H c [.ref t]
  ht : SqT K H t [.str "x", .str "x", .int 0]
theorem SqT.updO {K : PySem.W.Frag} {H : Hp} {p b : Addr} {o o' : HO} {xs : List V} (hp : H p = some o) (h1 : ∀ ys, o ≠ .tup ys) (h2 : ∀ ob ys, o ≠ .frz ob ys) (h : SqT K H b xs) : SqT K (upd H p o') b xs := by
  rcases h with (h | ⟨ob, h⟩) | h
  · exact .inl (.inl (by rw [upd_ne (fun e => by rw [e, hp] at h; exact h1 _ (Option.some.inj h))]; exact h))
  · exact .inl (.inr ⟨ob, by rw [upd_ne (fun e => by rw [e, hp] at h; exact h2 _ _ (Option.some.inj h))]; exact h⟩)
  · exact .inr h
section
variable {K : PySem.W.Frag} {H : Hp} {n : Nat} {a C dx L Nn S Ch c t : Addr} {kn kn' : List (Key × V)} {ks ks' : List (List Key × V)}
theorem Pst.same {H' : Hp} (s : Same H H') (h : Pst K H n a C dx L Nn S Ch c t kn ks) : Pst K H' n a C dx L Nn S Ch c t kn ks := ⟨s _ _ h.ha, s _ _ h.hL, s _ _ h.hN, s _ _ h.hS, s _ _ h.hC, SqT.same s h.hc, SqT.same s h.ht⟩
theorem Pst.setN (h : Pst K H n a C dx L Nn S Ch c t kn ks) : Pst K (upd H Nn (.dK kn')) n a C dx L Nn S Ch c t kn' ks := by
  have e1 : a ≠ Nn := fun z => by have := h.ha; rw [z, h.hN] at this; cases this
  have e2 : L ≠ Nn := fun z => by have := h.hL; rw [z, h.hN] at this; cases this
  have e3 : S ≠ Nn := fun z => by have := h.hS; rw [z, h.hN] at this; cases this
  have e4 : Ch ≠ Nn := fun z => by have := h.hC; rw [z, h.hN] at this; cases this
  have hN := h.hN
  exact ⟨(upd_ne e1).trans h.ha, (upd_ne e2).trans h.hL, upd_same, (upd_ne e3).trans h.hS, (upd_ne e4).trans h.hC, SqT.updO hN (fun _ e => by cases e) (fun _ _ e => by cases e) h.hc, SqT.updO hN (fun _ e => by cases e) (fun _ _ e => by cases e) h.ht⟩
theorem Pst.setS (h : Pst K H n a C dx L Nn S Ch c t kn ks) : Pst K (upd H S (.dT ks')) n a C dx L Nn S Ch c t kn ks' := by
  have e1 : a ≠ S := fun z => by have := h.ha; rw [z, h.hS] at this; cases this
  have e2 : L ≠ S := fun z => by have := h.hL; rw [z, h.hS] at this; cases this
  have e3 : Nn ≠ S := fun z => by have := h.hN; rw [z, h.hS] at this; cases this
  have e4 : Ch ≠ S := fun z => by have := h.hC; rw [z, h.hS] at this; cases this
  have hS := h.hS
  exact ⟨(upd_ne e1).trans h.ha, (upd_ne e2).trans h.hL, (upd_ne e3).trans h.hN, upd_same, (upd_ne e4).trans h.hC, SqT.updO hS (fun _ e => by cases e) (fun _ _ e => by cases e) h.hc, SqT.updO hS (fun _ e => by cases e) (fun _ _ e => by cases e) h.ht⟩
end
abbrev nx0 : List (Key × V) := [(.inr "x", .int 0)]
structure Pb (K : PySem.W.Frag) (C : Addr) : Prop where
  cls : Cls K C
  no : ∀ x ∈ ([("clauses" : Str), "nodes", "choices", "into"] : List Str), NoAttr K C x
theorem at_rep {n i : Nat} {x : V} (h : i < n) : atI (List.replicate n x) ((i : Nat) : Int) = some x := by
  unfold atI ixN
  rw [List.length_replicate, if_pos (by omega), if_pos (by omega)]
  show (List.replicate n x)[((i : Nat) : Int).toNat]? = _
  rw [Int.toNat_natCast, List.getElem?_replicate, if_pos h]
def spEdge (K : PySem.W.Frag) (C : Addr) : Sp := fun vs H Q _ => ∃ (a dx L Nn S Ch c t : Addr) (ks : List (List Key × V)) (n i : Nat), vs = [.ref a, .int (i : Nat), .int 0] ∧ i < n ∧ Pst K H n a C dx L Nn S Ch c t nx0 ks ∧ ∀ e p H', H' e = some (.tup [.int 0, .int 0, .int 0, .ref p]) → Same H H' → Q (.ref e) H'
def spPut (K : PySem.W.Frag) : Sp := fun vs H Q _ => ∃ (a I e : Addr) (p : V), vs = [.ref a, .ref I, .ref e] ∧ SqT K H e [.int 0, .int 0, .int 0, p] ∧ Q .non H
section
variable {P : Program} {w : World} {K : PySem.W.Frag} {mg : PySem.Str → Option Value} {base : Heap} {C : Addr}
theorem scEdge : FnScope ["self", "index", "j", "left", "right", "number"] ["self", "index", "j"] (defScope sEdge) := ⟨rfl, rfl, rfl, by decide +kernel, rfl, by decide +kernel, by decide +kernel⟩
theorem ok_edge {f : Addr} {fd : FuncData} (F : Fun K "_edge" "Problem._edge" sEdge f fd) (M : Pb K C) : FnOk P w K mg base CX0 2 f fd ["self", "index", "j"] (spEdge K C) := by
  refine F.ok scEdge (fun vs H Q E h => ?_) (fun cdv A outer s H vs Q E hr h => ?_)
  · obtain ⟨a, dx, L, Nn, S, Ch, c, t, ks, n, i, rfl, _⟩ := h
    rfl
  · obtain ⟨a, dx, L, Nn, S, Ch, c, t, ks, n, i, rfl, hi, h, go⟩ := h
    have hu : (cxOf CX0 P w K mg base ["self", "index", "j", "left", "right", "number"] "Problem._edge" (defScope sEdge) f cdv A outer s H E).nox.A.units + 1 < cLine := hu_of hr
    refine ⟨_, pss_cons (ps_asg (pe_ix ix_tup (pe_ix ix_list (pe_fld (pv 0) (by rfl)) (pv 1) (fun _ _ => rfl)) (pv 2) (fun _ _ => rfl)) (pg_tup rfl (pgs_cons (pg_name (i := 3) scEdge.nd rfl (Or.inl rfl)) (pgs_cons (pg_name (i := 4) scEdge.nd rfl (Or.inl rfl)) (pgs_cons (pg_name (i := 5) scEdge.nd rfl (Or.inl rfl)) pgs_nil)))))
      (pss_one (ps_ret (pe_tup (pa_cons (pe_dget hu (pe_fld (pv 0) (by rfl)) (pv 3) (fun _ _ => rfl)) (pa_cons (pe_dget hu (pe_fld (pv 0) (by rfl)) (pv 4) (fun _ _ => rfl)) (pa_cons (pv 5) (pa_cons (pe_tup (pa_cons (pv 1) (pa_cons (pv 2) pa_nil))) pa_nil))))))), ?_⟩
    have n1 := M.no "clauses" (by simp)
    have n2 := M.no "nodes" (by simp)
    have dg : DGet H Nn (.str "x") (some (.int 0)) := DGet.k (k := .inr "x") h.hN
    refine ⟨_, rfl, a, C, dx, _, .ref L, rfl, h.ha, M.cls, n1, rfl, _, rfl, L, _, (i : Nat), .ref c, rfl, rfl, SqL.of h.hL, at_rep hi, _, rfl, c, _, 0, .ref t, rfl, rfl, h.hc, rfl, t, _, rfl, h.ht, rfl, _, _, rfl, _, _, rfl, _, _, rfl, rfl, ?_⟩
    refine ⟨_, rfl, a, C, dx, _, .ref Nn, rfl, h.ha, M.cls, n2, rfl, _, rfl, Nn, .int 0, rfl, dg, _, rfl, a, C, dx, _, .ref Nn, rfl, h.ha, M.cls, n2, rfl, _, rfl, Nn, .int 0, rfl, dg, _, rfl, _, rfl, _, rfl, le_sz (Nat.le_of_ble_eq_true rfl), fun p hp => ⟨le_sz (Nat.le_of_ble_eq_true rfl), fun e he => ?_⟩⟩
    exact go e p _ upd_same ((new_same hp).trans (new_same he))
theorem scPut : FnScope ["self", "into", "edge"] ["self", "into", "edge"] (defScope sPut) := ⟨rfl, rfl, rfl, by decide +kernel, rfl, by decide +kernel, by decide +kernel⟩
theorem ok_put {f : Addr} {fd : FuncData} (F : Fun K "_put" "Problem._put" sPut f fd) : FnOk P w K mg base CX0 1 f fd ["self", "into", "edge"] (spPut K) := by
  refine F.ok scPut (fun vs H Q E h => ?_) (fun cdv A outer s H vs Q E hr h => ?_)
  · obtain ⟨a, I, e, p, rfl, _⟩ := h
    rfl
  · obtain ⟨a, I, e, p, rfl, he, q⟩ := h
    refine ⟨_, pss_one (ps_if (PW.pt (pw_or (pt_cmpR op_ne (pe_ix ix_tup (pv 2) pe_int (fun _ _ => rfl)) (pe_ix ix_tup (pv 2) pe_int (fun _ _ => rfl)) (nomark _)) (pw_or1 (pt_cmpR op_lt (pe_ix ix_tup (pv 2) pe_int (fun _ _ => rfl)) pe_int (nomark _))))) (pss_one ps_dead) pss_nil), ?_⟩
    refine ⟨_, rfl, e, _, 0, .int 0, rfl, rfl, he, rfl, _, rfl, e, _, 1, .int 0, rfl, rfl, he, rfl, rfl, _, rfl, ?_⟩
    rw [show (!decide (V.int 0 = V.int 0)) = false from by decide]
    refine iteF ⟨_, rfl, e, _, 2, .int 0, rfl, rfl, he, rfl, _, _, rfl, rfl, _, rfl, ?_⟩
    rw [show decide ((0 : Int) < 0) = false from by decide]
    exact iteF q
end
end Kx
set_option linter.all false
namespace Kx
open PySem L2 PySem.Spec PyProof.Rows
abbrev nPin : List Str := ["self", "clauses", "shortest", "index", "clause", "left", "right", "_", "edge"]
abbrev kk0 : List Key := [.inl 0, .inl 0]
abbrev fs4 (L Nn Ch I : Addr) : List (Str × V) := putF "into" (.ref I) (fs3 L Nn Ch)
/-- the problem once it is made -/
structure Pok (K : PySem.W.Frag) (H : Hp) (n : Nat) (a C dx L Nn Ch I J : Addr) : Prop where
  ha : H a = some (.ins C dx (fs4 L Nn Ch I))
  hN : H Nn = some (.dK nx0)
  hC : H Ch = some (.lst [])
  hI : H I = some (.lst [.ref J])
  hJ : H J = some (.lst [])
def spPin (K : PySem.W.Frag) (C : Addr) : Sp := fun vs H Q _ => ∃ (a dx L c t : Addr) (n : Nat), vs = [.ref a, .ref L] ∧ 0 < n ∧ n ≤ 20000 ∧ H a = some (.ins C dx []) ∧ H L = some (.lst (List.replicate n (.ref c))) ∧ SqT K H c [.ref t] ∧ SqT K H t [.str "x", .str "x", .int 0] ∧
  ∀ H' Nn Ch I J, Pok K H' n a C dx L Nn Ch I J → Q .non H'
/-- what the two dicts hold after i clauses -/
def Two (H : Hp) (i : Nat) (kn : List (Key × V)) (ks : List (List Key × V)) : Prop := (i = 0 ∧ kn = [] ∧ ks = []) ∨ (0 < i ∧ kn = nx0 ∧ ∃ e p : Addr, ks = [(kk0, .ref e)] ∧ H e = some (.tup [.int 0, .int 0, .int 0, .ref p]))
def Tk (H H' : Hp) : Prop := ∀ b u, H b = some (.tup u) → H' b = some (.tup u)
theorem Tk.of {H H' : Hp} (s : Same H H') : Tk H H' := fun b u e => s _ _ e
theorem Tk.tr {H H' H2 : Hp} (s : Tk H H') (r : Tk H' H2) : Tk H H2 := fun b u e => r _ _ (s _ _ e)
theorem Tk.dK {H : Hp} {p : Addr} {k : List (Key × V)} {o : HO} (h : H p = some (.dK k)) : Tk H (upd H p o) := fun b u e => by
  have : b ≠ p := fun z => by rw [z, h] at e; cases e
  rw [upd_ne this]
  exact e
theorem Tk.dT {H : Hp} {p : Addr} {k : List (List Key × V)} {o : HO} (h : H p = some (.dT k)) : Tk H (upd H p o) := fun b u e => by
  have : b ≠ p := fun z => by rw [z, h] at e; cases e
  rw [upd_ne this]
  exact e
theorem SqT.same3 {K : PySem.W.Frag} {H : Hp} {a C dx b : Addr} {fs fs' : List (Str × V)} {xs : List V} (h : H a = some (.ins C dx fs)) (q : SqT K H b xs) : SqT K (upd H a (.ins C dx fs')) b xs := SqT.updO h (fun _ e => by cases e) (fun _ _ e => by cases e) q
structure PbM (K : PySem.W.Frag) (C fE fP : Addr) (fdE fdP : FuncData) : Prop where
  P : Pb K C
  mE : Meth K C "_edge" fE
  E : Fun K "_edge" "Problem._edge" sEdge fE fdE
  bE : Binds K fdE ["self", "index", "j"] []
  mP : Meth K C "_put" fP
  Pt : Fun K "_put" "Problem._put" sPut fP fdP
  bP : Binds K fdP ["self", "into", "edge"] []
section
variable {P : Program} {w : World} {K : PySem.W.Frag} {mg : PySem.Str → Option Value} {base : Heap} {C fE fP : Addr} {fdE fdP : FuncData}
theorem scPin : FnScope nPin ["self", "clauses"] (defScope sPin) := ⟨rfl, rfl, rfl, by decide +kernel, rfl, by decide +kernel, by decide +kernel⟩
theorem ok_pin {f : Addr} {fd : FuncData} (F : Fun K "__init__" "Problem.__init__" sPin f fd) (M : PbM K C fE fP fdE fdP) (T : Bx mg) : FnOk P w K mg base CX0 3 f fd ["self", "clauses"] (spPin K C) := by
  have GE : FnOk P w K mg base CX0 2 fE fdE ["self", "index", "j"] (spEdge K C) := ok_edge M.E M.P
  have GP : FnOk P w K mg base CX0 1 fP fdP ["self", "into", "edge"] (spPut K) := ok_put M.Pt
  refine F.ok scPin (fun vs H Q E h => ?_) (fun cdv A outer s H vs Q E hr h => ?_)
  · obtain ⟨a, dx, L, c, t, n, rfl, _⟩ := h
    rfl
  · obtain ⟨a, dx, L, c, t, n, rfl, n0, nL, ha, hL, hc, ht, go⟩ := h
    have hu : (cxOf CX0 P w K mg base nPin "Problem.__init__" (defScope sPin) f cdv A outer s H E).nox.A.units + 1 < cLine := hu_of hr
    have hr1 : Room 1 (A.deeper (envOfC "Problem.__init__" (defScope sPin) s.heap.objs.size f cdv)) := hr.mono (by decide)
    have cls := M.P.cls
    have nc := M.P.no "clauses" (by simp)
    have nn := M.P.no "nodes" (by simp)
    have nch := M.P.no "choices" (by simp)
    have ni := M.P.no "into" (by simp)
    refine ⟨_, (pss_cons (ps_fld (pv 0) (pv 1) (by rfl)) (pss_cons (ps_fld (pv 0) pe_dnewK (by rfl)) (pss_cons (ps_fld (pv 0) (pe_lst pa_nil) (by rfl)) (pss_cons (ps_set (i := 2) scPin.nd rfl (Or.inl rfl) pe_dnewT) (pss_cons (ps_for PassesOwn.never rfl (pi_enum (by rfl) T.enum (pa_cons (pv 1) pa_nil)) (pg_tup rfl (pgs_cons (pg_name (i := 3) scPin.nd rfl (Or.inl rfl)) (pgs_cons (pg_name (i := 4) scPin.nd rfl (Or.inl rfl)) pgs_nil))) (pss_cons (ps_for PassesOwn.never rfl (pi_tup (pv 4)) (pg_tup rfl (pgs_cons (pg_name (i := 5) scPin.nd rfl (Or.inl rfl)) (pgs_cons (pg_name (i := 6) scPin.nd rfl (Or.inl rfl)) (pgs_cons (pg_name (i := 7) scPin.nd rfl (Or.inl rfl)) pgs_nil)))) (pss_cons (ps_expr (pe_dsetd (pe_fld (pv 0) (by rfl)) (pv 5) (pe_callB call_lenD (by rfl) T.len PySem.boot_len (pa_cons (pe_fld (pv 0) (by rfl)) pa_nil)) ⟨by rfl, by rfl, by rfl, by rfl⟩)) (pss_one (ps_expr (pe_dsetd (pe_fld (pv 0) (by rfl)) (pv 6) (pe_callB call_lenD (by rfl) T.len PySem.boot_len (pa_cons (pe_fld (pv 0) (by rfl)) pa_nil)) ⟨by rfl, by rfl, by rfl, by rfl⟩))))) (pss_one (ps_if (pt_cmpR op_eq (pe_callB call_len_seq (by rfl) T.len PySem.boot_len (pa_cons (pv 4) pa_nil)) pe_int (nomark _)) (pss_cons (ps_set (i := 8) scPin.nd rfl (Or.inl rfl) (pe_meth (pv 0) cls M.mE GE hr M.bE .nil pass0 (pa_cons (pv 3) (pa_cons pe_int pa_nil)))) (pss_one (ps_if (PW.pt (pw_or (pt_cmp (pc_dnotin hu (pe_slice sl_tupA (pv 8) po_none (po_some pe_int)) (pv 2)) (by with_unfolding_all rfl)) (pw_or1 (pt_cmpR op_lt (pe_ix ix_tup (pv 8) pe_int (fun _ _ => rfl)) (pe_ix ix_tup (pe_dget hu (pv 2) (pe_slice sl_tupA (pv 8) po_none (po_some pe_int)) (fun _ _ => rfl)) pe_int (fun _ _ => rfl)) (nomark _))))) (pss_one (ps_asg (pv 8) (pg_sub (pv 2) (pe_slice sl_tupA (pv 8) po_none (po_some pe_int)) (set_dict hu)))) pss_nil))) (pss_one ps_dead))))) (pss_cons (ps_fld (pv 0) (pe_lock (pe_lc (own := [("_", 7)]) (g := gName 7) (tt := tYes) rfl scPin.nd (pi_keys (pe_fld (pv 0) (by rfl))) (blkOk_by (N := nPin) (sc := defScope sPin) (by decide +kernel)) (fun _ _ _ _ _ => pg_name (i := 7) scPin.nd rfl (Or.inl rfl)) (fun _ _ _ _ _ => pts_nil) (fun _ _ _ _ _ => pe_lst pa_nil))) (by rfl)) (pss_one (ps_for PassesOwn.never rfl (pi_list (pe_callTy (TVl.call_listVals (by rfl)) (by rfl) T.list (by decide +kernel) (pa_cons (pe_bm0 PySem.F.plainAttrs_dict PySem.F.slot_dict_values PySem.F.type_dict_values TVl.mt_values (pv 2)) pa_nil))) (pg_name (i := 8) scPin.nd rfl (Or.inl rfl)) (pss_one (ps_expr (pe_meth (pv 0) cls M.mP GP hr1 M.bP .nil pass0 (pa_cons (pe_fld (pv 0) (by rfl)) (pa_cons (pv 8) pa_nil))))))))))))), ?_⟩
    refine ⟨_, rfl, _, rfl, a, C, dx, _, rfl, ha, cls, nc, (by show 0 < 1000; decide), ?_⟩
    have i1 : (upd H a (.ins C dx (putF "clauses" (.ref L) []))) a = some (.ins C dx (putF "clauses" (.ref L) [])) := upd_same
    have nLa : L ≠ a := fun z => by rw [z, ha] at hL; cases hL
    have g1 : (upd H a (.ins C dx (putF "clauses" (.ref L) []))) L = some (.lst (List.replicate n (.ref c))) := (upd_ne nLa).trans hL
    have c1 := SqT.same3 (fs' := putF "clauses" (.ref L) []) ha hc
    have t1 := SqT.same3 (fs' := putF "clauses" (.ref L) []) ha ht
    obtain ⟨H1, eH1⟩ : ∃ J, upd H a (.ins C dx (putF "clauses" (.ref L) [])) = J := ⟨_, rfl⟩
    rw [eH1] at i1 g1 c1 t1 ⊢
    refine fun Nn hNn => ⟨_, rfl, a, C, dx, _, rfl, new_same hNn _ _ i1, cls, nn, (by show 1 < 1000; decide), ?_⟩
    have s2 := new_same (o := .dK []) hNn
    have nNa : Nn ≠ a := fun z => by rw [z, i1] at hNn; cases hNn
    have i2 : (upd (upd H1 Nn (.dK [])) a (.ins C dx (putF "nodes" (.ref Nn) (putF "clauses" (.ref L) [])))) a = some (.ins C dx (putF "nodes" (.ref Nn) (putF "clauses" (.ref L) []))) := upd_same
    have gN2 : (upd (upd H1 Nn (.dK [])) a (.ins C dx (putF "nodes" (.ref Nn) (putF "clauses" (.ref L) [])))) Nn = some (.dK []) := (upd_ne nNa).trans upd_same
    have g2 : (upd (upd H1 Nn (.dK [])) a (.ins C dx (putF "nodes" (.ref Nn) (putF "clauses" (.ref L) [])))) L = some (.lst (List.replicate n (.ref c))) := (upd_ne nLa).trans (s2 _ _ g1)
    have c2 := SqT.same3 (fs' := putF "nodes" (.ref Nn) (putF "clauses" (.ref L) [])) (s2 _ _ i1) (SqT.same s2 c1)
    have t2 := SqT.same3 (fs' := putF "nodes" (.ref Nn) (putF "clauses" (.ref L) [])) (s2 _ _ i1) (SqT.same s2 t1)
    obtain ⟨H2, eH2⟩ : ∃ J, upd (upd H1 Nn (.dK [])) a (.ins C dx (putF "nodes" (.ref Nn) (putF "clauses" (.ref L) []))) = J := ⟨_, rfl⟩
    rw [eH2] at i2 gN2 g2 c2 t2 ⊢
    refine ⟨le_sz (Nat.le_of_ble_eq_true rfl), fun Ch hCh => ⟨_, rfl, a, C, dx, _, rfl, new_same hCh _ _ i2, cls, nch, (by show 2 < 1000; decide), ?_⟩⟩
    have s3 := new_same (o := .lst []) hCh
    have nCa : Ch ≠ a := fun z => by rw [z, i2] at hCh; cases hCh
    have i3 : (upd (upd H2 Ch (.lst [])) a (.ins C dx (fs3 L Nn Ch))) a = some (.ins C dx (fs3 L Nn Ch)) := upd_same
    have gC3 : (upd (upd H2 Ch (.lst [])) a (.ins C dx (fs3 L Nn Ch))) Ch = some (.lst []) := (upd_ne nCa).trans upd_same
    have gN3 : (upd (upd H2 Ch (.lst [])) a (.ins C dx (fs3 L Nn Ch))) Nn = some (.dK []) := (upd_ne nNa).trans (s3 _ _ gN2)
    have g3 : (upd (upd H2 Ch (.lst [])) a (.ins C dx (fs3 L Nn Ch))) L = some (.lst (List.replicate n (.ref c))) := (upd_ne nLa).trans (s3 _ _ g2)
    have c3 := SqT.same3 (fs' := fs3 L Nn Ch) (s3 _ _ i2) (SqT.same s3 c2)
    have t3 := SqT.same3 (fs' := fs3 L Nn Ch) (s3 _ _ i2) (SqT.same s3 t2)
    obtain ⟨H3, eH3⟩ : ∃ J, upd (upd H2 Ch (.lst [])) a (.ins C dx (fs3 L Nn Ch)) = J := ⟨_, rfl⟩
    rw [eH3] at i3 gC3 gN3 g3 c3 t3 ⊢
    refine fun S hS => ?_
    have s4 := new_same (o := .dT []) hS
    have P0 : Pst K (upd H3 S (.dT [])) n a C dx L Nn S Ch c t [] [] := ⟨s4 _ _ i3, s4 _ _ g3, s4 _ _ gN3, upd_same, s4 _ _ gC3, SqT.same s4 c3, SqT.same s4 t3⟩
    obtain ⟨H4, eH4⟩ : ∃ J, upd H3 S (.dT []) = J := ⟨_, rfl⟩
    rw [eH4] at P0 ⊢
    refine ⟨_, rfl, L, _, rfl, SqL.of P0.hL, ?_⟩
    refine for_it (walk_enum (K := K) (a := L) (xs := List.replicate n (.ref c))) (fun i σ H5 => (∃ o3 o4 o5 o6 o7 o8 : Option V, σ = [some (.ref a), some (.ref L), some (.ref S), o3, o4, o5, o6, o7, o8]) ∧ ∃ kn ks, Pst K H5 n a C dx L Nn S Ch c t kn ks ∧ Two H5 i kn ks)
      ⟨⟨_, _, _, _, _, _, rfl⟩, [], [], P0, .inl ⟨rfl, rfl, rfl⟩⟩ (fun i σ H5 _ ⟨_, _, _, h, _⟩ => SqL.of h.hL) ?_ ?_
    · rintro i x σ H5 H6 hi ⟨⟨o3, o4, o5, o6, o7, o8, rfl⟩, kn, ks, P5, two⟩ ⟨t', y1, y, rfl, ht', rfl, e1, hy⟩
      injection e1 with e1
      subst e1
      rw [List.length_replicate] at hi
      have hy : (List.replicate n (V.ref c))[i]? = some y := hy
      rw [List.getElem?_replicate, if_pos hi] at hy
      injection hy with hy
      subst hy
      have sT := new_same (o := .tup [.int (i : Nat), .ref c]) ht'
      have P6 := P5.same sT
      have g6 : SqT K (upd H5 t' (.tup [.int (i : Nat), .ref c])) t' [.int (i : Nat), .ref c] := SqT.of upd_same
      obtain ⟨H6, eH6⟩ : ∃ J, upd H5 t' (.tup [.int (i : Nat), .ref c]) = J := ⟨_, rfl⟩
      rw [eH6] at sT P6 g6 ⊢
      refine ⟨t', _, rfl, g6, rfl, _, _, rfl, _, _, rfl, rfl, ?_⟩
      refine ⟨_, rfl, c, rfl, ⟨_, P6.hc⟩, ?_⟩
      refine for_tup (xs := [V.ref t]) (fun j σ H7 => (∃ o5 o6 o7 : Option V, σ = [some (.ref a), some (.ref L), some (.ref S), some (.int (i : Nat)), some (.ref c), o5, o6, o7, o8]) ∧ Tk H6 H7 ∧ ∃ kn', Pst K H7 n a C dx L Nn S Ch c t kn' ks ∧ (kn' = [] ∨ kn' = nx0) ∧ (0 < j → kn' = nx0))
        ⟨⟨_, _, _, rfl⟩, fun _ _ z => z, kn, P6, (two.imp (fun z => z.2.1) fun z => z.2.1), fun z => absurd z (by decide)⟩ (fun j σ H7 _ ⟨_, _, _, h, _⟩ => h.hc) ?_ ?_
      · rintro j x σ H7 hj ⟨⟨o5, o6, o7, rfl⟩, tk7, kn', P7, hkn, _⟩
        have ej : x = .ref t := by
          match j, hj with
          | 0, hj => exact (Option.some.inj hj).symm
          | j + 1, hj => cases hj
        subst ej
        refine ⟨t, _, rfl, P7.ht, rfl, _, _, rfl, _, _, rfl, _, _, rfl, rfl, ?_⟩
        rcases hkn with rfl | rfl
        · refine ⟨_, rfl, a, C, dx, _, .ref Nn, rfl, P7.ha, cls, nn, rfl, Nn, rfl, .inl ⟨_, .inl P7.hN⟩, _, rfl, _, rfl, a, C, dx, _, .ref Nn, rfl, P7.ha, cls, nn, rfl, Nn, _, rfl, P7.hN, [], .inr "x", P7.hN, rfl, (by rw [sizeLine_eq]; show 0 < 16777216; decide), fun v hv => ?_, fun hv => ?_⟩
          · cases hv
          · have P8 : Pst K (upd H7 Nn (.dK nx0)) n a C dx L Nn S Ch c t nx0 ks := P7.setN
            have tk8 : Tk H6 (upd H7 Nn (.dK nx0)) := tk7.tr (Tk.dK P7.hN)
            show _
            refine ⟨_, rfl, a, C, dx, _, .ref Nn, rfl, P8.ha, cls, nn, rfl, Nn, rfl, .inl ⟨_, .inl P8.hN⟩, _, rfl, _, rfl, a, C, dx, _, .ref Nn, rfl, P8.ha, cls, nn, rfl, Nn, _, rfl, P8.hN, nx0, .inr "x", P8.hN, rfl, (by rw [sizeLine_eq]; show _ < 16777216; decide), fun v hv => ?_, fun hv => ?_⟩
            · exact ⟨⟨_, _, _, rfl⟩, tk8, nx0, P8, .inr rfl, fun _ => rfl⟩
            · exact absurd hv (by decide)
        · refine ⟨_, rfl, a, C, dx, _, .ref Nn, rfl, P7.ha, cls, nn, rfl, Nn, rfl, .inl ⟨_, .inl P7.hN⟩, _, rfl, _, rfl, a, C, dx, _, .ref Nn, rfl, P7.ha, cls, nn, rfl, Nn, _, rfl, P7.hN, nx0, .inr "x", P7.hN, rfl, (by rw [sizeLine_eq]; show 1 < 16777216; decide), fun v hv => ?_, fun hv => ?_⟩
          · refine ⟨_, rfl, a, C, dx, _, .ref Nn, rfl, P7.ha, cls, nn, rfl, Nn, rfl, .inl ⟨_, .inl P7.hN⟩, _, rfl, _, rfl, a, C, dx, _, .ref Nn, rfl, P7.ha, cls, nn, rfl, Nn, _, rfl, P7.hN, nx0, .inr "x", P7.hN, rfl, (by rw [sizeLine_eq]; show _ < 16777216; decide), fun v hv => ?_, fun hv => ?_⟩
            · exact ⟨⟨_, _, _, rfl⟩, tk7, nx0, P7, .inr rfl, fun _ => rfl⟩
            · exact absurd hv (by decide)
          · exact absurd hv (by decide)
      · rintro σ H7 ⟨⟨o5, o6, o7, rfl⟩, tk7, kn', P7, _, hkn⟩
        have hkn := hkn (by show 0 < 1; decide)
        subst hkn
        refine ⟨_, rfl, c, _, rfl, .inr P7.hc, rfl, _, rfl, ?_⟩
        rw [show decide (V.int (([V.ref t].length : Nat) : Int) = V.int 1) = true from decide_eq_true rfl]
        refine iteT ⟨_, rfl, a, dx, _, rfl, P7.ha, rfl, _, rfl, a, dx, L, Nn, S, Ch, c, t, ks, n, i, rfl, hi, P7, fun e p H8 he s8 => ?_⟩
        have P8 := P7.same s8
        refine ⟨_, rfl, _, rfl, e, _, rfl, SqT.of he, (fun z => absurd z.2 (by show ¬ HT.sIx 4 4 (some 2) = 4; decide)), fun _ q1 hq1 => ?_⟩
        have sq1 := new_same (o := .tup [V.int 0, .int 0]) hq1
        have P9 : Pst K (upd H8 q1 (.tup [V.int 0, .int 0])) n a C dx L Nn S Ch c t nx0 ks := P8.same sq1
        have eb : (upd H8 q1 (.tup [V.int 0, .int 0])) q1 = some (.tup (kk0.map kV)) := upd_same
        have he9 : (upd H8 q1 (.tup [V.int 0, .int 0])) e = some (.tup [.int 0, .int 0, .int 0, .ref p]) := sq1 _ _ he
        refine ⟨_, rfl, S, _, rfl, DGet.t (k := kk0) P9.hS eb, _, rfl, ?_⟩
        rcases two with ⟨rfl, _, rfl⟩ | ⟨_, _, e0, p0, rfl, h0⟩
        · refine iteT ⟨_, rfl, _, rfl, _, rfl, _, rfl, e, _, rfl, SqT.of he9, (fun z => absurd z.2 (by show ¬ HT.sIx 4 4 (some 2) = 4; decide)), fun _ q2 hq2 => ?_⟩
          have sq2 := new_same (o := .tup [V.int 0, .int 0]) hq2
          have eb2 : (upd (upd H8 q1 (.tup [V.int 0, .int 0])) q2 (.tup [V.int 0, .int 0])) q2 = some (.tup (kk0.map kV)) := upd_same
          have P10 : Pst K (upd (upd H8 q1 (.tup [V.int 0, .int 0])) q2 (.tup [V.int 0, .int 0])) n a C dx L Nn S Ch c t nx0 [] := P9.same sq2
          refine ⟨S, _, rfl, DPut.t (k := kk0) P10.hS eb2 (by rw [sizeLine_eq]; decide), ?_⟩
          exact ⟨⟨_, _, _, _, _, _, rfl⟩, nx0, _, P10.setS, .inr ⟨by omega, rfl, e, p, rfl, (Tk.dT P10.hS) _ _ (sq2 _ _ he9)⟩⟩
        · have h9 : (upd H8 q1 (.tup [V.int 0, .int 0])) e0 = some (.tup [.int 0, .int 0, .int 0, .ref p0]) := sq1 _ _ (s8 _ _ (tk7 _ _ (sT _ _ h0)))
          refine iteF ⟨_, rfl, e, _, 2, .int 0, rfl, rfl, SqT.of he9, rfl, _, rfl, _, rfl, _, rfl, e, _, rfl, SqT.of he9, (fun z => absurd z.2 (by show ¬ HT.sIx 4 4 (some 2) = 4; decide)), fun _ q3 hq3 => ?_⟩
          have sq3 := new_same (o := .tup [V.int 0, .int 0]) hq3
          have eb3 : (upd (upd H8 q1 (.tup [V.int 0, .int 0])) q3 (.tup [V.int 0, .int 0])) q3 = some (.tup (kk0.map kV)) := upd_same
          have P10 : Pst K (upd (upd H8 q1 (.tup [V.int 0, .int 0])) q3 (.tup [V.int 0, .int 0])) n a C dx L Nn S Ch c t nx0 [(kk0, .ref e0)] := P9.same sq3
          have dg : DGet (upd (upd H8 q1 (.tup [V.int 0, .int 0])) q3 (.tup [V.int 0, .int 0])) S (.ref q3) (some (.ref e0)) := DGet.t (k := kk0) P10.hS eb3
          refine ⟨S, .ref e0, rfl, dg, e0, _, 2, .int 0, rfl, rfl, SqT.of (sq3 _ _ h9), rfl, _, _, rfl, rfl, _, rfl, ?_⟩
          rw [show decide ((0 : Int) < 0) = false from by decide]
          exact iteF ⟨⟨_, _, _, _, _, _, rfl⟩, nx0, _, P10, .inr ⟨by omega, rfl, e0, p0, rfl, sq3 _ _ h9⟩⟩
    · rintro σ H5 ⟨⟨o3, o4, o5, o6, o7, o8, rfl⟩, kn, ks, P5, two⟩
      rw [List.length_replicate] at two
      rcases two with ⟨z, _⟩ | ⟨_, rfl, e0, p0, rfl, h0⟩
      · exact absurd z (by omega)
      refine ⟨Nn, _, P5.hN, trivial, fun od => ?_⟩
      have naN : a ≠ Nn := fun z => by have := P5.ha; rw [z, P5.hN] at this; cases this
      have hN6 : (upd H5 Nn (.frz od (.dK nx0))) Nn = some (.frz od (.dK nx0)) := upd_same
      have ha6 : (upd H5 Nn (.frz od (.dK nx0))) a = some (.ins C dx (fs3 L Nn Ch)) := (upd_ne naN).trans P5.ha
      refine ⟨_, rfl, a, C, dx, _, .ref Nn, rfl, ha6, cls, nn, rfl, Nn, od, rfl, .inl ⟨_, hN6, fun D hD => ?_⟩⟩
      have oth : ∀ b u, b ≠ Nn → H5 b = some u → (upd H5 Nn (.frz od (.dK nx0))) b = some u := fun b u z e => (upd_ne z).trans e
      obtain ⟨H6, eH6⟩ : ∃ J, upd H5 Nn (.frz od (.dK nx0)) = J := ⟨_, rfl⟩
      rw [eH6] at hN6 ha6 hD oth ⊢
      refine lc_it (walk_keys (kvs := nx0) (d := Nn) (o := od)) (fun i H7 => Same H6 H7 ∧ ((i = 0 ∧ H7 D = some (.lst [])) ∨ (i = 1 ∧ ∃ J, H7 D = some (.lst [.ref J]) ∧ H7 J = some (.lst []) ∧ J ≠ D ∧ H6 J = none))) ⟨new_same hD, .inl ⟨rfl, upd_same⟩⟩ (fun i H7 _ h => h.1 _ _ hN6) ?_ ?_
      · rintro i x H7 H8 hi ⟨s7, h7⟩ ⟨rfl, k, v, hk, rfl⟩
        have i0 : i = 0 := by
          have : i < 1 := hi
          omega
        subst i0
        rcases h7 with ⟨_, gD⟩ | ⟨z, _⟩
        · refine ⟨rfl, yes_of ⟨le_sz (Nat.le_of_ble_eq_true rfl), fun J hJ => ?_⟩⟩
          have nJD : J ≠ D := fun z => by rw [z, gD] at hJ; cases hJ
          refine ⟨_, new_same hJ _ _ gD, small1000 (Nat.le_of_ble_eq_true rfl), same_upd hD (s7.trans (new_same hJ)), .inr ⟨rfl, J, upd_same, (upd_ne nJD).trans upd_same, nJD, Same.free s7 hJ⟩⟩
        · cases z
      · rintro H7 ⟨s7, h7⟩
        rcases h7 with ⟨z, _⟩ | ⟨_, J, gD, gJ, nJD, fJ⟩
        · cases z
        refine ⟨s7 _ _ hN6, ?_⟩
        have nNa : Nn ≠ a := fun z => naN z.symm
        have ne : ∀ {b : Addr} {u : HO}, H5 b = some u → b ≠ Nn → (upd H7 Nn (.dK nx0)) b = some u := fun {b u} e z => (upd_ne z).trans (s7 _ _ (oth _ _ z e))
        have nCh : Ch ≠ Nn := fun z => by have := P5.hC; rw [z, P5.hN] at this; cases this
        have nS : S ≠ Nn := fun z => by have := P5.hS; rw [z, P5.hN] at this; cases this
        have ne0 : e0 ≠ Nn := fun z => by rw [z, P5.hN] at h0; cases h0
        have nDN : D ≠ Nn := fun z => by rw [z, hN6] at hD; cases hD
        have nJN : J ≠ Nn := fun z => by rw [z, hN6] at fJ; cases fJ
        refine ⟨_, rfl, a, C, dx, _, rfl, ne P5.ha naN, cls, ni, (by show 3 < 1000; decide), ?_⟩
        have nDa : D ≠ a := fun z => by rw [z, ha6] at hD; cases hD
        have nJa : J ≠ a := fun z => by rw [z, ha6] at fJ; cases fJ
        have nCa2 : Ch ≠ a := fun z => by have := P5.hC; rw [z, P5.ha] at this; cases this
        have nSa : S ≠ a := fun z => by have := P5.hS; rw [z, P5.ha] at this; cases this
        have nea : e0 ≠ a := fun z => by rw [z, P5.ha] at h0; cases h0
        have pok : Pok K (upd (upd H7 Nn (.dK nx0)) a (.ins C dx (fs4 L Nn Ch D))) n a C dx L Nn Ch D J := ⟨upd_same, (upd_ne nNa).trans upd_same, (upd_ne nCa2).trans (ne P5.hC nCh), (upd_ne nDa).trans ((upd_ne nDN).trans gD), (upd_ne nJa).trans ((upd_ne nJN).trans gJ)⟩
        have hS9 : (upd (upd H7 Nn (.dK nx0)) a (.ins C dx (fs4 L Nn Ch D))) S = some (.dT [(kk0, .ref e0)]) := (upd_ne nSa).trans (ne P5.hS nS)
        have he9 : (upd (upd H7 Nn (.dK nx0)) a (.ins C dx (fs4 L Nn Ch D))) e0 = some (.tup [.int 0, .int 0, .int 0, .ref p0]) := (upd_ne nea).trans (ne h0 ne0)
        obtain ⟨H9, eH9⟩ : ∃ J, upd (upd H7 Nn (.dK nx0)) a (.ins C dx (fs4 L Nn Ch D)) = J := ⟨_, rfl⟩
        rw [eH9] at pok hS9 he9 ⊢
        refine ⟨_, rfl, .inr (.inr (.inl ⟨rfl, .inr ⟨_, hS9⟩⟩)), S, _, rfl, rfl, hS9, fun q hq => ⟨q, S, _, rfl, upd_same, new_same hq _ _ hS9, fun l hl => ?_⟩⟩
        have s10 := (new_same (o := viewO "dict_values" q S) hq).trans (new_same (o := .lst [V.ref e0]) hl)
        have gl : (upd (upd H9 q (viewO "dict_values" q S)) l (.lst [V.ref e0])) l = some (.lst [V.ref e0]) := upd_same
        refine ⟨l, rfl, ⟨_, SqL.of gl⟩, ?_⟩
        refine for_list (K := K) (a := l) (xs := [V.ref e0]) (fun i σ H11 => (∃ o3 o4 o5 o6 o7 o8 : Option V, σ = [some (.ref a), some (.ref L), some (.ref S), o3, o4, o5, o6, o7, o8]) ∧ Same (upd (upd H9 q (viewO "dict_values" q S)) l (.lst [V.ref e0])) H11) ⟨⟨_, _, _, _, _, _, rfl⟩, fun _ _ z => z⟩ (fun i σ H11 _ h => SqL.of (h.2 _ _ gl)) ?_ ?_
        · rintro i x σ H11 hx ⟨⟨o3, o4, o5, o6, o7, o8, rfl⟩, s11⟩
          have ex : x = .ref e0 := by
            match i, hx with
            | 0, hx => exact (Option.some.inj hx).symm
            | i + 1, hx => cases hx
          subst ex
          refine ⟨_, rfl, a, dx, _, rfl, s11 _ _ (s10 _ _ pok.ha), rfl, _, rfl, a, C, dx, _, .ref D, rfl, s11 _ _ (s10 _ _ pok.ha), cls, ni, rfl, _, rfl, a, D, e0, .ref p0, rfl, SqT.of (s11 _ _ (s10 _ _ he9)), ?_⟩
          exact ⟨⟨_, _, _, _, _, _, rfl⟩, s11⟩
        · rintro σ H11 ⟨_, s11⟩
          have sA := s10.trans s11
          exact go H11 Nn Ch D J ⟨sA _ _ pok.ha, sA _ _ pok.hN, sA _ _ pok.hC, sA _ _ pok.hI, sA _ _ pok.hJ⟩
end
end Kx
set_option linter.all false
namespace Kx
open PySem L2 PySem.Spec PyProof.Rows
/-! one node, no edge: the settler -/
abbrev sSin : Stmt := inClass (top 20) 0
abbrev sSet : Stmt := inClass (top 20) 1
abbrev sWait : Stmt := inClass (top 20) 2
abbrev sScan : Stmt := inClass (top 20) 3
abbrev fs9 (I Hh e d f b W La Hu : Addr) : List (Str × V) := putF "hubs" (.ref Hu) (putF "later" (.ref La) (putF "waits" (.ref W) (putF "before" (.ref b) (putF "after" (.ref f) (putF "depths" (.ref d) (putF "edges" (.ref e) (putF "heights" (.ref Hh) (putF "into" (.ref I) []))))))))
structure Sb (K : PySem.W.Frag) (C : Addr) : Prop where
  cls : Cls K C
  no : ∀ x ∈ ([("into" : Str), "heights", "edges", "depths", "after", "before", "waits", "later", "hubs"] : List Str), NoAttr K C x
def spWait (K : PySem.W.Frag) (C : Addr) : Sp := fun vs H Q _ => ∃ (a dx I J Hh e d f b W La Hu : Addr), vs = [.ref a, .int 0] ∧ H a = some (.ins C dx (fs9 I Hh e d f b W La Hu)) ∧ H W = some (.lst [.bl false]) ∧ H La = some (.lst []) ∧ H I = some (.lst [.ref J]) ∧ H J = some (.lst []) ∧ Q .non (upd (upd H W (.lst [.bl true])) La (.lst [.int 0]))
def spScan (K : PySem.W.Frag) (C : Addr) : Sp := fun vs H Q _ => ∃ (a dx I J Hh e d f b W La Hu : Addr), vs = [.ref a, .int 0] ∧ H a = some (.ins C dx (fs9 I Hh e d f b W La Hu)) ∧ H W = some (.lst [.bl true]) ∧ H Hh = some (.lst [.int 0]) ∧ H I = some (.lst [.ref J]) ∧ H J = some (.lst []) ∧ W ≠ I ∧ W ≠ J ∧ W ≠ Hh ∧ Q .non (upd H W (.lst [.bl false]))
section
variable {P : Program} {w : World} {K : PySem.W.Frag} {mg : PySem.Str → Option Value} {base : Heap} {C : Addr}
theorem scWait : FnScope ["self", "node", "row"] ["self", "node"] (defScope sWait) := ⟨rfl, rfl, rfl, by decide +kernel, rfl, by decide +kernel, by decide +kernel⟩
theorem scScan : FnScope ["self", "node", "height", "edge", "left"] ["self", "node"] (defScope sScan) := ⟨rfl, rfl, rfl, by decide +kernel, rfl, by decide +kernel, by decide +kernel⟩
theorem ok_wait {fw : Addr} {fd : FuncData} (F : Fun K "_wait" "Settler._wait" sWait fw fd) (M : Sb K C) (T : Bx mg) (hub : ∃ k, mg "HUB" = some (.int 100 k)) : FnOk P w K mg base CX0 1 fw fd ["self", "node"] (spWait K C) := by
  obtain ⟨tk, hub⟩ := hub
  refine F.ok scWait (fun vs H Q E h => ?_) (fun cdv A outer s H vs Q E hr h => ?_)
  · obtain ⟨a, dx, I, J, Hh, e, d, f, b, W, La, Hu, rfl, _⟩ := h
    rfl
  · obtain ⟨a, dx, I, J, Hh, e, d, f, b, W, La, Hu, rfl, ha, hW, hLa, hI, hJ, q⟩ := h
    have cls := M.cls
    have nI := M.no "into" (by simp)
    have nW := M.no "waits" (by simp)
    have nL := M.no "later" (by simp)
    refine ⟨_, pss_one (ps_if (pt_not (pt_val (pe_ix ix_list (pe_fld (pv 0) (by rfl)) (pv 1) (fun _ _ => rfl)))) (pss_cons (ps_asg pe_bl (pg_sub (pe_fld (pv 0) (by rfl)) (pv 1) set_list))
      (pss_cons (ps_set (i := 2) scWait.nd rfl (Or.inl rfl) (pe_ifExp (pt_cmpR op_gt (pe_callB call_len_seq (by rfl) T.len PySem.boot_len (pa_cons (pe_ix ix_list (pe_fld (pv 0) (by rfl)) (pv 1) (fun _ _ => rfl)) pa_nil)) (pe_glob (v := .int 100) (by rfl) hub ⟨_, rfl⟩) (nomark _)) (pe_fld (pv 0) (by rfl)) (pe_fld (pv 0) (by rfl))))
      (pss_one (ps_expr (pe_bm PySem.F.plainAttrs_list PySem.F.slot_list_append PySem.F.type_list_append mt_append (pv 2) (pa_cons (pv 1) pa_nil)))))) pss_nil), ?_⟩
    have eW : La ≠ W := fun z => by rw [z, hW] at hLa; cases hLa
    have aW : a ≠ W := fun z => by rw [z, hW] at ha; cases ha
    have IW : I ≠ W := fun z => by rw [z, hW] at hI; cases hI
    have JW : J ≠ W := fun z => by rw [z, hW] at hJ; cases hJ
    refine ⟨_, rfl, a, C, dx, _, .ref W, rfl, ha, cls, nW, rfl, _, rfl, W, _, 0, .bl false, rfl, rfl, SqL.of hW, rfl, _, rfl, iteT ?_⟩
    refine ⟨_, rfl, a, C, dx, _, .ref W, rfl, ha, cls, nW, rfl, _, rfl, W, _, 0, 0, rfl, rfl, hW, rfl, ?_⟩
    have ha1 : (upd H W (.lst [.bl true])) a = some (.ins C dx (fs9 I Hh e d f b W La Hu)) := (upd_ne aW).trans ha
    have hI1 : (upd H W (.lst [.bl true])) I = some (.lst [.ref J]) := (upd_ne IW).trans hI
    have hJ1 : (upd H W (.lst [.bl true])) J = some (.lst []) := (upd_ne JW).trans hJ
    have hL1 : (upd H W (.lst [.bl true])) La = some (.lst []) := (upd_ne eW).trans hLa
    refine ⟨_, rfl, a, C, dx, _, .ref I, rfl, ha1, cls, nI, rfl, _, rfl, I, _, 0, .ref J, rfl, rfl, SqL.of hI1, rfl, J, [], rfl, .inl (SqL.of hJ1), _, _, rfl, rfl, _, rfl, ?_⟩
    rw [show decide ((100 : Int) < (([] : List V).length : Nat)) = false from by decide]
    refine iteF ⟨_, rfl, a, C, dx, _, .ref La, rfl, ha1, cls, nL, rfl, ?_⟩
    refine ⟨_, rfl, .inl ⟨rfl, _, SqL.of hL1⟩, _, rfl, La, _, _, rfl, rfl, hL1, small1000 (Nat.le_of_ble_eq_true rfl), ?_⟩
    exact q
theorem ok_scan {fw : Addr} {fd : FuncData} (F : Fun K "_scan" "Settler._scan" sScan fw fd) (M : Sb K C) : FnOk P w K mg base CX0 1 fw fd ["self", "node"] (spScan K C) := by
  refine F.ok scScan (fun vs H Q E h => ?_) (fun cdv A outer s H vs Q E hr h => ?_)
  · obtain ⟨a, dx, I, J, Hh, e, d, f, b, W, La, Hu, rfl, _⟩ := h
    rfl
  · obtain ⟨a, dx, I, J, Hh, e, d, f, b, W, La, Hu, rfl, ha, hW, hH, hI, hJ, n1, n2, n3, q⟩ := h
    have cls := M.cls
    have nI := M.no "into" (by simp)
    have nW := M.no "waits" (by simp)
    have nH := M.no "heights" (by simp)
    refine ⟨_, pss_cons (ps_asg pe_bl (pg_sub (pe_fld (pv 0) (by rfl)) (pv 1) set_list)) (pss_cons (ps_set (i := 2) scScan.nd rfl (Or.inl rfl) (pe_ix ix_list (pe_fld (pv 0) (by rfl)) (pv 1) (fun _ _ => rfl)))
      (pss_cons (ps_for PassesOwn.never rfl (pi_list (pe_ix ix_list (pe_fld (pv 0) (by rfl)) (pv 1) (fun _ _ => rfl))) (pg_name (i := 3) scScan.nd rfl (Or.inl rfl)) (pss_cons ps_dead (pss_one ps_dead))) (pss_one (ps_ret pe_non)))), ?_⟩
    have aW : a ≠ W := fun z => by rw [z, hW] at ha; cases ha
    refine ⟨_, rfl, a, C, dx, _, .ref W, rfl, ha, cls, nW, rfl, _, rfl, W, _, 0, 0, rfl, rfl, hW, rfl, ?_⟩
    have ha1 : (upd H W (.lst [.bl false])) a = some (.ins C dx (fs9 I Hh e d f b W La Hu)) := (upd_ne aW).trans ha
    have hI1 : (upd H W (.lst [.bl false])) I = some (.lst [.ref J]) := (upd_ne (Ne.symm n1)).trans hI
    have hJ1 : (upd H W (.lst [.bl false])) J = some (.lst []) := (upd_ne (Ne.symm n2)).trans hJ
    have hH1 : (upd H W (.lst [.bl false])) Hh = some (.lst [.int 0]) := (upd_ne (Ne.symm n3)).trans hH
    refine ⟨_, rfl, a, C, dx, _, .ref Hh, rfl, ha1, cls, nH, rfl, _, rfl, Hh, _, 0, .int 0, rfl, rfl, SqL.of hH1, rfl, ?_⟩
    refine ⟨_, rfl, a, C, dx, _, .ref I, rfl, ha1, cls, nI, rfl, _, rfl, I, _, 0, .ref J, rfl, rfl, SqL.of hI1, rfl, J, rfl, ⟨_, SqL.of hJ1⟩, ?_⟩
    refine for_list (K := K) (a := J) (xs := []) (fun i σ H2 => H2 = upd H W (.lst [.bl false])) rfl (fun i σ H2 _ h => by rw [h]; exact SqL.of hJ1) ?_ ?_
    · rintro i x σ H2 hx _
      cases hx
    · rintro σ H2 rfl
      exact q
end
end Kx
set_option linter.all false
namespace Kx
open PySem L2 PySem.Spec PyProof.Rows
structure Sok (K : PySem.W.Frag) (H0 H : Hp) (a C dx I J Hh e d f b W La Hu : Addr) : Prop where
  ha : H a = some (.ins C dx (fs9 I Hh e d f b W La Hu))
  hH : H Hh = some (.lst [.int 0])
  hW : H W = some (.lst [.bl false])
  hL : H La = some (.lst [])
  hU : H Hu = some (.lst [])
  kp : KeepB a H0 H
  nH : H0 Hh = none
  nW : H0 W = none
  nL : H0 La = none
  nU : H0 Hu = none
  WH : W ≠ Hh
  LW : La ≠ W
  LH : La ≠ Hh
  UW : Hu ≠ W
  UL : Hu ≠ La
def spSin (K : PySem.W.Frag) (C : Addr) : Sp := fun vs H Q _ => ∃ (a dx I J Z : Addr), vs = [.ref a, .ref I, .ref Z] ∧ H a = some (.ins C dx []) ∧ H I = some (.lst [.ref J]) ∧ H Z = some (.lst [.int 0]) ∧ ∀ Hh e d f b W La Hu H', Sok K H H' a C dx I J Hh e d f b W La Hu → Q .non H'
theorem KeepB.free {p x : Addr} {H H' : Hp} (k : KeepB p H H') (hx : x ≠ p) (e : H' x = none) : H x = none := by
  cases z : H x with
  | none => rfl
  | some u =>
    rw [k x u hx z] at e
    cases e
section
variable {P : Program} {w : World} {K : PySem.W.Frag} {mg : PySem.Str → Option Value} {base : Heap} {C : Addr}
theorem scSin : FnScope ["self", "into", "heights", "many"] ["self", "into", "heights"] (defScope sSin) := ⟨rfl, rfl, rfl, by decide +kernel, rfl, by decide +kernel, by decide +kernel⟩
theorem ok_sin {fw : Addr} {fd : FuncData} (F : Fun K "__init__" "Settler.__init__" sSin fw fd) (M : Sb K C) (T : Bx mg) (rng : mg "range" = none) : FnOk P w K mg base CX0 1 fw fd ["self", "into", "heights"] (spSin K C) := by
  refine F.ok scSin (fun vs H Q E h => ?_) (fun cdv A outer s H vs Q E hr h => ?_)
  · obtain ⟨a, dx, I, J, Z, rfl, _⟩ := h
    rfl
  · obtain ⟨a, dx, I, J, Z, rfl, ha, hI, hZ, go⟩ := h
    have cls := M.cls
    have n_into := M.no "into" (by simp)
    have n_heights := M.no "heights" (by simp)
    have n_edges := M.no "edges" (by simp)
    have n_depths := M.no "depths" (by simp)
    have n_after := M.no "after" (by simp)
    have n_before := M.no "before" (by simp)
    have n_waits := M.no "waits" (by simp)
    have n_later := M.no "later" (by simp)
    have n_hubs := M.no "hubs" (by simp)
    refine ⟨_, (pss_cons (ps_set (i := 3) scSin.nd rfl (Or.inl rfl) (pe_callB call_len_seq (by rfl) T.len PySem.boot_len (pa_cons (pv 1) pa_nil))) (pss_cons (ps_fld (pv 0) (pv 1) (by rfl)) (pss_cons (ps_fld (pv 0) (pe_callTy call_list_of (by rfl) T.list (by decide +kernel) (pa_cons (pv 2) pa_nil)) (by rfl)) (pss_cons (ps_fld (pv 0) (pe_op op_rep (pe_lst (pa_cons pe_non pa_nil)) (pv 3)) (by rfl)) (pss_cons (ps_fld (pv 0) (pe_op op_cat (pe_op op_rep (pe_lst (pa_cons pe_int pa_nil)) (pv 3)) (pe_lst (pa_cons pe_int pa_nil))) (by rfl)) (pss_cons (ps_fld (pv 0) (pe_op op_cat (pe_listRg rfl (by rfl) T.list (prg_2 (by rfl) rng pe_int (pe_op op_add (pv 3) pe_int))) (pe_lst (pa_cons pe_int pa_nil))) (by rfl)) (pss_cons (ps_fld (pv 0) (pe_op op_cat (pe_lst (pa_cons (pv 3) pa_nil)) (pe_listRg rfl (by rfl) T.list (prg_1 (by rfl) rng (pv 3)))) (by rfl)) (pss_cons (ps_fld (pv 0) (pe_op op_rep (pe_lst (pa_cons pe_bl pa_nil)) (pv 3)) (by rfl)) (pss_cons (ps_fld (pv 0) (pe_lst pa_nil) (by rfl)) (pss_one (ps_fld (pv 0) (pe_lst pa_nil) (by rfl)))))))))))), ?_⟩
    refine ⟨_, rfl, I, _, rfl, .inl (SqL.of hI), ?_⟩
    refine ⟨_, rfl, _, rfl, a, C, dx, _, rfl, ha, cls, n_into, (by show 0 < 1000; decide), ?_⟩
    have kp_1 : KeepB a H (upd H a (.ins C dx (putF "into" (.ref I) []))) := KeepB.trans (fun _ _ _ z => z) KeepB.at
    have ha_1 : (upd H a (.ins C dx (putF "into" (.ref I) []))) a = some (.ins C dx (putF "into" (.ref I) [])) := upd_same
    have xI_1 : (upd H a (.ins C dx (putF "into" (.ref I) []))) I = some (.lst [.ref J]) := (upd_ne (fun z => by have q := hI; rw [z, ha] at q; cases q)).trans hI
    have xZ_1 : (upd H a (.ins C dx (putF "into" (.ref I) []))) Z = some (.lst [.int 0]) := (upd_ne (fun z => by have q := hZ; rw [z, ha] at q; cases q)).trans hZ
    obtain ⟨G1, eG1⟩ : ∃ G, upd H a (.ins C dx (putF "into" (.ref I) [])) = G := ⟨_, rfl⟩
    rw [eG1] at kp_1 ha_1 xI_1 xZ_1 ⊢
    refine ⟨_, rfl, Z, _, rfl, .inl (SqL.of xZ_1), fun Hh hHh => ?_⟩
    have s2 := new_same (o := .lst [.int 0]) hHh
    have xHh_2 : (upd G1 Hh (.lst [.int 0])) Hh = some (.lst [.int 0]) := upd_same
    have naHh : Hh ≠ a := fun z => by rw [z, ha_1] at hHh; cases hHh
    have ne_Hh_I : Hh ≠ I := fun z => by have q := xI_1; rw [← z, hHh] at q; cases q
    have ne_Hh_Z : Hh ≠ Z := fun z => by have q := xZ_1; rw [← z, hHh] at q; cases q
    have frHh : H Hh = none := KeepB.free kp_1 naHh hHh
    obtain ⟨G2, eG2⟩ : ∃ G, upd G1 Hh (.lst [.int 0]) = G := ⟨_, rfl⟩
    rw [eG2] at s2 xHh_2 ⊢
    have xI_2 := s2 _ _ xI_1
    have xZ_2 := s2 _ _ xZ_1
    have ha_2 := s2 _ _ ha_1
    have kp_2 : KeepB a H G2 := KeepB.trans kp_1 (KeepB.of s2)
    refine ⟨_, rfl, a, C, dx, _, rfl, ha_2, cls, n_heights, (by show 1 < 1000; decide), ?_⟩
    have kp_3 : KeepB a H (upd G2 a (.ins C dx (putF "heights" (.ref Hh) (putF "into" (.ref I) [])))) := KeepB.trans kp_2 KeepB.at
    have ha_3 : (upd G2 a (.ins C dx (putF "heights" (.ref Hh) (putF "into" (.ref I) [])))) a = some (.ins C dx (putF "heights" (.ref Hh) (putF "into" (.ref I) []))) := upd_same
    have xI_3 : (upd G2 a (.ins C dx (putF "heights" (.ref Hh) (putF "into" (.ref I) [])))) I = some (.lst [.ref J]) := (upd_ne (fun z => by have q := xI_2; rw [z, ha_2] at q; cases q)).trans xI_2
    have xZ_3 : (upd G2 a (.ins C dx (putF "heights" (.ref Hh) (putF "into" (.ref I) [])))) Z = some (.lst [.int 0]) := (upd_ne (fun z => by have q := xZ_2; rw [z, ha_2] at q; cases q)).trans xZ_2
    have xHh_3 : (upd G2 a (.ins C dx (putF "heights" (.ref Hh) (putF "into" (.ref I) [])))) Hh = some (.lst [.int 0]) := (upd_ne naHh).trans xHh_2
    obtain ⟨G3, eG3⟩ : ∃ G, upd G2 a (.ins C dx (putF "heights" (.ref Hh) (putF "into" (.ref I) []))) = G := ⟨_, rfl⟩
    rw [eG3] at kp_3 ha_3 xI_3 xZ_3 xHh_3 ⊢
    refine ⟨le_sz (Nat.le_of_ble_eq_true rfl), fun u1 hu1 => ?_⟩
    have s4 := new_same (o := .lst [.non]) hu1
    have xu1_4 : (upd G3 u1 (.lst [.non])) u1 = some (.lst [.non]) := upd_same
    have nau1 : u1 ≠ a := fun z => by rw [z, ha_3] at hu1; cases hu1
    have ne_u1_I : u1 ≠ I := fun z => by have q := xI_3; rw [← z, hu1] at q; cases q
    have ne_u1_Z : u1 ≠ Z := fun z => by have q := xZ_3; rw [← z, hu1] at q; cases q
    have ne_u1_Hh : u1 ≠ Hh := fun z => by have q := xHh_3; rw [← z, hu1] at q; cases q
    have fru1 : H u1 = none := KeepB.free kp_3 nau1 hu1
    obtain ⟨G4, eG4⟩ : ∃ G, upd G3 u1 (.lst [.non]) = G := ⟨_, rfl⟩
    rw [eG4] at s4 xu1_4 ⊢
    have xI_4 := s4 _ _ xI_3
    have xZ_4 := s4 _ _ xZ_3
    have xHh_4 := s4 _ _ xHh_3
    have ha_4 := s4 _ _ ha_3
    have kp_4 : KeepB a H G4 := KeepB.trans kp_3 (KeepB.of s4)
    refine ⟨_, rfl, u1, 1, [.non], rfl, rfl, xu1_4, by decide, by decide, (by rw [sizeLine_eq]; show 1 * 1 ≤ 16777216; decide), fun e he => ?_⟩
    have s5 := new_same (o := .lst (List.replicate (Int.toNat 1) [V.non]).flatten) he
    have xe_5 : (upd G4 e (.lst (List.replicate (Int.toNat 1) [V.non]).flatten)) e = some (.lst [.non]) := upd_same
    have nae : e ≠ a := fun z => by rw [z, ha_4] at he; cases he
    have ne_e_I : e ≠ I := fun z => by have q := xI_4; rw [← z, he] at q; cases q
    have ne_e_Z : e ≠ Z := fun z => by have q := xZ_4; rw [← z, he] at q; cases q
    have ne_e_Hh : e ≠ Hh := fun z => by have q := xHh_4; rw [← z, he] at q; cases q
    have ne_e_u1 : e ≠ u1 := fun z => by have q := xu1_4; rw [← z, he] at q; cases q
    have fre : H e = none := KeepB.free kp_4 nae he
    obtain ⟨G5, eG5⟩ : ∃ G, upd G4 e (.lst (List.replicate (Int.toNat 1) [V.non]).flatten) = G := ⟨_, rfl⟩
    rw [eG5] at s5 xe_5 ⊢
    have xI_5 := s5 _ _ xI_4
    have xZ_5 := s5 _ _ xZ_4
    have xHh_5 := s5 _ _ xHh_4
    have xu1_5 := s5 _ _ xu1_4
    have ha_5 := s5 _ _ ha_4
    have kp_5 : KeepB a H G5 := KeepB.trans kp_4 (KeepB.of s5)
    refine ⟨_, rfl, a, C, dx, _, rfl, ha_5, cls, n_edges, (by show 2 < 1000; decide), ?_⟩
    have kp_6 : KeepB a H (upd G5 a (.ins C dx (putF "edges" (.ref e) (putF "heights" (.ref Hh) (putF "into" (.ref I) []))))) := KeepB.trans kp_5 KeepB.at
    have ha_6 : (upd G5 a (.ins C dx (putF "edges" (.ref e) (putF "heights" (.ref Hh) (putF "into" (.ref I) []))))) a = some (.ins C dx (putF "edges" (.ref e) (putF "heights" (.ref Hh) (putF "into" (.ref I) [])))) := upd_same
    have xI_6 : (upd G5 a (.ins C dx (putF "edges" (.ref e) (putF "heights" (.ref Hh) (putF "into" (.ref I) []))))) I = some (.lst [.ref J]) := (upd_ne (fun z => by have q := xI_5; rw [z, ha_5] at q; cases q)).trans xI_5
    have xZ_6 : (upd G5 a (.ins C dx (putF "edges" (.ref e) (putF "heights" (.ref Hh) (putF "into" (.ref I) []))))) Z = some (.lst [.int 0]) := (upd_ne (fun z => by have q := xZ_5; rw [z, ha_5] at q; cases q)).trans xZ_5
    have xHh_6 : (upd G5 a (.ins C dx (putF "edges" (.ref e) (putF "heights" (.ref Hh) (putF "into" (.ref I) []))))) Hh = some (.lst [.int 0]) := (upd_ne naHh).trans xHh_5
    have xu1_6 : (upd G5 a (.ins C dx (putF "edges" (.ref e) (putF "heights" (.ref Hh) (putF "into" (.ref I) []))))) u1 = some (.lst [.non]) := (upd_ne nau1).trans xu1_5
    have xe_6 : (upd G5 a (.ins C dx (putF "edges" (.ref e) (putF "heights" (.ref Hh) (putF "into" (.ref I) []))))) e = some (.lst [.non]) := (upd_ne nae).trans xe_5
    obtain ⟨G6, eG6⟩ : ∃ G, upd G5 a (.ins C dx (putF "edges" (.ref e) (putF "heights" (.ref Hh) (putF "into" (.ref I) [])))) = G := ⟨_, rfl⟩
    rw [eG6] at kp_6 ha_6 xI_6 xZ_6 xHh_6 xu1_6 xe_6 ⊢
    refine ⟨le_sz (Nat.le_of_ble_eq_true rfl), fun u2 hu2 => ?_⟩
    have s7 := new_same (o := .lst [.int 1]) hu2
    have xu2_7 : (upd G6 u2 (.lst [.int 1])) u2 = some (.lst [.int 1]) := upd_same
    have nau2 : u2 ≠ a := fun z => by rw [z, ha_6] at hu2; cases hu2
    have ne_u2_I : u2 ≠ I := fun z => by have q := xI_6; rw [← z, hu2] at q; cases q
    have ne_u2_Z : u2 ≠ Z := fun z => by have q := xZ_6; rw [← z, hu2] at q; cases q
    have ne_u2_Hh : u2 ≠ Hh := fun z => by have q := xHh_6; rw [← z, hu2] at q; cases q
    have ne_u2_u1 : u2 ≠ u1 := fun z => by have q := xu1_6; rw [← z, hu2] at q; cases q
    have ne_u2_e : u2 ≠ e := fun z => by have q := xe_6; rw [← z, hu2] at q; cases q
    have fru2 : H u2 = none := KeepB.free kp_6 nau2 hu2
    obtain ⟨G7, eG7⟩ : ∃ G, upd G6 u2 (.lst [.int 1]) = G := ⟨_, rfl⟩
    rw [eG7] at s7 xu2_7 ⊢
    have xI_7 := s7 _ _ xI_6
    have xZ_7 := s7 _ _ xZ_6
    have xHh_7 := s7 _ _ xHh_6
    have xu1_7 := s7 _ _ xu1_6
    have xe_7 := s7 _ _ xe_6
    have ha_7 := s7 _ _ ha_6
    have kp_7 : KeepB a H G7 := KeepB.trans kp_6 (KeepB.of s7)
    refine ⟨_, rfl, u2, 1, [.int 1], rfl, rfl, xu2_7, by decide, by decide, (by rw [sizeLine_eq]; show 1 * 1 ≤ 16777216; decide), fun u3 hu3 => ?_⟩
    have s8 := new_same (o := .lst (List.replicate (Int.toNat 1) [V.int 1]).flatten) hu3
    have xu3_8 : (upd G7 u3 (.lst (List.replicate (Int.toNat 1) [V.int 1]).flatten)) u3 = some (.lst [.int 1]) := upd_same
    have nau3 : u3 ≠ a := fun z => by rw [z, ha_7] at hu3; cases hu3
    have ne_u3_I : u3 ≠ I := fun z => by have q := xI_7; rw [← z, hu3] at q; cases q
    have ne_u3_Z : u3 ≠ Z := fun z => by have q := xZ_7; rw [← z, hu3] at q; cases q
    have ne_u3_Hh : u3 ≠ Hh := fun z => by have q := xHh_7; rw [← z, hu3] at q; cases q
    have ne_u3_u1 : u3 ≠ u1 := fun z => by have q := xu1_7; rw [← z, hu3] at q; cases q
    have ne_u3_e : u3 ≠ e := fun z => by have q := xe_7; rw [← z, hu3] at q; cases q
    have ne_u3_u2 : u3 ≠ u2 := fun z => by have q := xu2_7; rw [← z, hu3] at q; cases q
    have fru3 : H u3 = none := KeepB.free kp_7 nau3 hu3
    obtain ⟨G8, eG8⟩ : ∃ G, upd G7 u3 (.lst (List.replicate (Int.toNat 1) [V.int 1]).flatten) = G := ⟨_, rfl⟩
    rw [eG8] at s8 xu3_8 ⊢
    have xI_8 := s8 _ _ xI_7
    have xZ_8 := s8 _ _ xZ_7
    have xHh_8 := s8 _ _ xHh_7
    have xu1_8 := s8 _ _ xu1_7
    have xe_8 := s8 _ _ xe_7
    have xu2_8 := s8 _ _ xu2_7
    have ha_8 := s8 _ _ ha_7
    have kp_8 : KeepB a H G8 := KeepB.trans kp_7 (KeepB.of s8)
    refine ⟨le_sz (Nat.le_of_ble_eq_true rfl), fun u4 hu4 => ?_⟩
    have s9 := new_same (o := .lst [.int 0]) hu4
    have xu4_9 : (upd G8 u4 (.lst [.int 0])) u4 = some (.lst [.int 0]) := upd_same
    have nau4 : u4 ≠ a := fun z => by rw [z, ha_8] at hu4; cases hu4
    have ne_u4_I : u4 ≠ I := fun z => by have q := xI_8; rw [← z, hu4] at q; cases q
    have ne_u4_Z : u4 ≠ Z := fun z => by have q := xZ_8; rw [← z, hu4] at q; cases q
    have ne_u4_Hh : u4 ≠ Hh := fun z => by have q := xHh_8; rw [← z, hu4] at q; cases q
    have ne_u4_u1 : u4 ≠ u1 := fun z => by have q := xu1_8; rw [← z, hu4] at q; cases q
    have ne_u4_e : u4 ≠ e := fun z => by have q := xe_8; rw [← z, hu4] at q; cases q
    have ne_u4_u2 : u4 ≠ u2 := fun z => by have q := xu2_8; rw [← z, hu4] at q; cases q
    have ne_u4_u3 : u4 ≠ u3 := fun z => by have q := xu3_8; rw [← z, hu4] at q; cases q
    have fru4 : H u4 = none := KeepB.free kp_8 nau4 hu4
    obtain ⟨G9, eG9⟩ : ∃ G, upd G8 u4 (.lst [.int 0]) = G := ⟨_, rfl⟩
    rw [eG9] at s9 xu4_9 ⊢
    have xI_9 := s9 _ _ xI_8
    have xZ_9 := s9 _ _ xZ_8
    have xHh_9 := s9 _ _ xHh_8
    have xu1_9 := s9 _ _ xu1_8
    have xe_9 := s9 _ _ xe_8
    have xu2_9 := s9 _ _ xu2_8
    have xu3_9 := s9 _ _ xu3_8
    have ha_9 := s9 _ _ ha_8
    have kp_9 : KeepB a H G9 := KeepB.trans kp_8 (KeepB.of s9)
    refine ⟨u3, u4, _, _, rfl, rfl, xu3_9, xu4_9, le_sz (Nat.le_of_ble_eq_true rfl), fun d hd => ?_⟩
    have s10 := new_same (o := .lst ([V.int 1] ++ [.int 0])) hd
    have xd_10 : (upd G9 d (.lst ([V.int 1] ++ [.int 0]))) d = some (.lst [.int 1, .int 0]) := upd_same
    have nad : d ≠ a := fun z => by rw [z, ha_9] at hd; cases hd
    have ne_d_I : d ≠ I := fun z => by have q := xI_9; rw [← z, hd] at q; cases q
    have ne_d_Z : d ≠ Z := fun z => by have q := xZ_9; rw [← z, hd] at q; cases q
    have ne_d_Hh : d ≠ Hh := fun z => by have q := xHh_9; rw [← z, hd] at q; cases q
    have ne_d_u1 : d ≠ u1 := fun z => by have q := xu1_9; rw [← z, hd] at q; cases q
    have ne_d_e : d ≠ e := fun z => by have q := xe_9; rw [← z, hd] at q; cases q
    have ne_d_u2 : d ≠ u2 := fun z => by have q := xu2_9; rw [← z, hd] at q; cases q
    have ne_d_u3 : d ≠ u3 := fun z => by have q := xu3_9; rw [← z, hd] at q; cases q
    have ne_d_u4 : d ≠ u4 := fun z => by have q := xu4_9; rw [← z, hd] at q; cases q
    have frd : H d = none := KeepB.free kp_9 nad hd
    obtain ⟨G10, eG10⟩ : ∃ G, upd G9 d (.lst ([V.int 1] ++ [.int 0])) = G := ⟨_, rfl⟩
    rw [eG10] at s10 xd_10 ⊢
    have xI_10 := s10 _ _ xI_9
    have xZ_10 := s10 _ _ xZ_9
    have xHh_10 := s10 _ _ xHh_9
    have xu1_10 := s10 _ _ xu1_9
    have xe_10 := s10 _ _ xe_9
    have xu2_10 := s10 _ _ xu2_9
    have xu3_10 := s10 _ _ xu3_9
    have xu4_10 := s10 _ _ xu4_9
    have ha_10 := s10 _ _ ha_9
    have kp_10 : KeepB a H G10 := KeepB.trans kp_9 (KeepB.of s10)
    refine ⟨_, rfl, a, C, dx, _, rfl, ha_10, cls, n_depths, (by show 3 < 1000; decide), ?_⟩
    have kp_11 : KeepB a H (upd G10 a (.ins C dx (putF "depths" (.ref d) (putF "edges" (.ref e) (putF "heights" (.ref Hh) (putF "into" (.ref I) [])))))) := KeepB.trans kp_10 KeepB.at
    have ha_11 : (upd G10 a (.ins C dx (putF "depths" (.ref d) (putF "edges" (.ref e) (putF "heights" (.ref Hh) (putF "into" (.ref I) [])))))) a = some (.ins C dx (putF "depths" (.ref d) (putF "edges" (.ref e) (putF "heights" (.ref Hh) (putF "into" (.ref I) []))))) := upd_same
    have xI_11 : (upd G10 a (.ins C dx (putF "depths" (.ref d) (putF "edges" (.ref e) (putF "heights" (.ref Hh) (putF "into" (.ref I) [])))))) I = some (.lst [.ref J]) := (upd_ne (fun z => by have q := xI_10; rw [z, ha_10] at q; cases q)).trans xI_10
    have xZ_11 : (upd G10 a (.ins C dx (putF "depths" (.ref d) (putF "edges" (.ref e) (putF "heights" (.ref Hh) (putF "into" (.ref I) [])))))) Z = some (.lst [.int 0]) := (upd_ne (fun z => by have q := xZ_10; rw [z, ha_10] at q; cases q)).trans xZ_10
    have xHh_11 : (upd G10 a (.ins C dx (putF "depths" (.ref d) (putF "edges" (.ref e) (putF "heights" (.ref Hh) (putF "into" (.ref I) [])))))) Hh = some (.lst [.int 0]) := (upd_ne naHh).trans xHh_10
    have xu1_11 : (upd G10 a (.ins C dx (putF "depths" (.ref d) (putF "edges" (.ref e) (putF "heights" (.ref Hh) (putF "into" (.ref I) [])))))) u1 = some (.lst [.non]) := (upd_ne nau1).trans xu1_10
    have xe_11 : (upd G10 a (.ins C dx (putF "depths" (.ref d) (putF "edges" (.ref e) (putF "heights" (.ref Hh) (putF "into" (.ref I) [])))))) e = some (.lst [.non]) := (upd_ne nae).trans xe_10
    have xu2_11 : (upd G10 a (.ins C dx (putF "depths" (.ref d) (putF "edges" (.ref e) (putF "heights" (.ref Hh) (putF "into" (.ref I) [])))))) u2 = some (.lst [.int 1]) := (upd_ne nau2).trans xu2_10
    have xu3_11 : (upd G10 a (.ins C dx (putF "depths" (.ref d) (putF "edges" (.ref e) (putF "heights" (.ref Hh) (putF "into" (.ref I) [])))))) u3 = some (.lst [.int 1]) := (upd_ne nau3).trans xu3_10
    have xu4_11 : (upd G10 a (.ins C dx (putF "depths" (.ref d) (putF "edges" (.ref e) (putF "heights" (.ref Hh) (putF "into" (.ref I) [])))))) u4 = some (.lst [.int 0]) := (upd_ne nau4).trans xu4_10
    have xd_11 : (upd G10 a (.ins C dx (putF "depths" (.ref d) (putF "edges" (.ref e) (putF "heights" (.ref Hh) (putF "into" (.ref I) [])))))) d = some (.lst [.int 1, .int 0]) := (upd_ne nad).trans xd_10
    obtain ⟨G11, eG11⟩ : ∃ G, upd G10 a (.ins C dx (putF "depths" (.ref d) (putF "edges" (.ref e) (putF "heights" (.ref Hh) (putF "into" (.ref I) []))))) = G := ⟨_, rfl⟩
    rw [eG11] at kp_11 ha_11 xI_11 xZ_11 xHh_11 xu1_11 xe_11 xu2_11 xu3_11 xu4_11 xd_11 ⊢
    refine ⟨_, rfl, _, _, rfl, rfl, 1, 2, rfl, rfl, RgOk.of_le (by decide) (by decide) (by decide) (by decide), fun u5 hu5 => ?_⟩
    have s12 := new_same (o := .lst (rgV 1 2)) hu5
    have xu5_12 : (upd G11 u5 (.lst (rgV 1 2))) u5 = some (.lst (rgV 1 2)) := upd_same
    have nau5 : u5 ≠ a := fun z => by rw [z, ha_11] at hu5; cases hu5
    have ne_u5_I : u5 ≠ I := fun z => by have q := xI_11; rw [← z, hu5] at q; cases q
    have ne_u5_Z : u5 ≠ Z := fun z => by have q := xZ_11; rw [← z, hu5] at q; cases q
    have ne_u5_Hh : u5 ≠ Hh := fun z => by have q := xHh_11; rw [← z, hu5] at q; cases q
    have ne_u5_u1 : u5 ≠ u1 := fun z => by have q := xu1_11; rw [← z, hu5] at q; cases q
    have ne_u5_e : u5 ≠ e := fun z => by have q := xe_11; rw [← z, hu5] at q; cases q
    have ne_u5_u2 : u5 ≠ u2 := fun z => by have q := xu2_11; rw [← z, hu5] at q; cases q
    have ne_u5_u3 : u5 ≠ u3 := fun z => by have q := xu3_11; rw [← z, hu5] at q; cases q
    have ne_u5_u4 : u5 ≠ u4 := fun z => by have q := xu4_11; rw [← z, hu5] at q; cases q
    have ne_u5_d : u5 ≠ d := fun z => by have q := xd_11; rw [← z, hu5] at q; cases q
    have fru5 : H u5 = none := KeepB.free kp_11 nau5 hu5
    obtain ⟨G12, eG12⟩ : ∃ G, upd G11 u5 (.lst (rgV 1 2)) = G := ⟨_, rfl⟩
    rw [eG12] at s12 xu5_12 ⊢
    have xI_12 := s12 _ _ xI_11
    have xZ_12 := s12 _ _ xZ_11
    have xHh_12 := s12 _ _ xHh_11
    have xu1_12 := s12 _ _ xu1_11
    have xe_12 := s12 _ _ xe_11
    have xu2_12 := s12 _ _ xu2_11
    have xu3_12 := s12 _ _ xu3_11
    have xu4_12 := s12 _ _ xu4_11
    have xd_12 := s12 _ _ xd_11
    have ha_12 := s12 _ _ ha_11
    have kp_12 : KeepB a H G12 := KeepB.trans kp_11 (KeepB.of s12)
    refine ⟨le_sz (Nat.le_of_ble_eq_true rfl), fun u6 hu6 => ?_⟩
    have s13 := new_same (o := .lst [.int 0]) hu6
    have xu6_13 : (upd G12 u6 (.lst [.int 0])) u6 = some (.lst [.int 0]) := upd_same
    have nau6 : u6 ≠ a := fun z => by rw [z, ha_12] at hu6; cases hu6
    have ne_u6_I : u6 ≠ I := fun z => by have q := xI_12; rw [← z, hu6] at q; cases q
    have ne_u6_Z : u6 ≠ Z := fun z => by have q := xZ_12; rw [← z, hu6] at q; cases q
    have ne_u6_Hh : u6 ≠ Hh := fun z => by have q := xHh_12; rw [← z, hu6] at q; cases q
    have ne_u6_u1 : u6 ≠ u1 := fun z => by have q := xu1_12; rw [← z, hu6] at q; cases q
    have ne_u6_e : u6 ≠ e := fun z => by have q := xe_12; rw [← z, hu6] at q; cases q
    have ne_u6_u2 : u6 ≠ u2 := fun z => by have q := xu2_12; rw [← z, hu6] at q; cases q
    have ne_u6_u3 : u6 ≠ u3 := fun z => by have q := xu3_12; rw [← z, hu6] at q; cases q
    have ne_u6_u4 : u6 ≠ u4 := fun z => by have q := xu4_12; rw [← z, hu6] at q; cases q
    have ne_u6_d : u6 ≠ d := fun z => by have q := xd_12; rw [← z, hu6] at q; cases q
    have ne_u6_u5 : u6 ≠ u5 := fun z => by have q := xu5_12; rw [← z, hu6] at q; cases q
    have fru6 : H u6 = none := KeepB.free kp_12 nau6 hu6
    obtain ⟨G13, eG13⟩ : ∃ G, upd G12 u6 (.lst [.int 0]) = G := ⟨_, rfl⟩
    rw [eG13] at s13 xu6_13 ⊢
    have xI_13 := s13 _ _ xI_12
    have xZ_13 := s13 _ _ xZ_12
    have xHh_13 := s13 _ _ xHh_12
    have xu1_13 := s13 _ _ xu1_12
    have xe_13 := s13 _ _ xe_12
    have xu2_13 := s13 _ _ xu2_12
    have xu3_13 := s13 _ _ xu3_12
    have xu4_13 := s13 _ _ xu4_12
    have xd_13 := s13 _ _ xd_12
    have xu5_13 := s13 _ _ xu5_12
    have ha_13 := s13 _ _ ha_12
    have kp_13 : KeepB a H G13 := KeepB.trans kp_12 (KeepB.of s13)
    refine ⟨u5, u6, _, _, rfl, rfl, xu5_13, xu6_13, le_sz (Nat.le_of_ble_eq_true rfl), fun f hf => ?_⟩
    have s14 := new_same (o := .lst ((rgV 1 2) ++ [.int 0])) hf
    have xf_14 : (upd G13 f (.lst ((rgV 1 2) ++ [.int 0]))) f = some (.lst ((rgV 1 2) ++ [.int 0])) := upd_same
    have naf : f ≠ a := fun z => by rw [z, ha_13] at hf; cases hf
    have ne_f_I : f ≠ I := fun z => by have q := xI_13; rw [← z, hf] at q; cases q
    have ne_f_Z : f ≠ Z := fun z => by have q := xZ_13; rw [← z, hf] at q; cases q
    have ne_f_Hh : f ≠ Hh := fun z => by have q := xHh_13; rw [← z, hf] at q; cases q
    have ne_f_u1 : f ≠ u1 := fun z => by have q := xu1_13; rw [← z, hf] at q; cases q
    have ne_f_e : f ≠ e := fun z => by have q := xe_13; rw [← z, hf] at q; cases q
    have ne_f_u2 : f ≠ u2 := fun z => by have q := xu2_13; rw [← z, hf] at q; cases q
    have ne_f_u3 : f ≠ u3 := fun z => by have q := xu3_13; rw [← z, hf] at q; cases q
    have ne_f_u4 : f ≠ u4 := fun z => by have q := xu4_13; rw [← z, hf] at q; cases q
    have ne_f_d : f ≠ d := fun z => by have q := xd_13; rw [← z, hf] at q; cases q
    have ne_f_u5 : f ≠ u5 := fun z => by have q := xu5_13; rw [← z, hf] at q; cases q
    have ne_f_u6 : f ≠ u6 := fun z => by have q := xu6_13; rw [← z, hf] at q; cases q
    have frf : H f = none := KeepB.free kp_13 naf hf
    obtain ⟨G14, eG14⟩ : ∃ G, upd G13 f (.lst ((rgV 1 2) ++ [.int 0])) = G := ⟨_, rfl⟩
    rw [eG14] at s14 xf_14 ⊢
    have xI_14 := s14 _ _ xI_13
    have xZ_14 := s14 _ _ xZ_13
    have xHh_14 := s14 _ _ xHh_13
    have xu1_14 := s14 _ _ xu1_13
    have xe_14 := s14 _ _ xe_13
    have xu2_14 := s14 _ _ xu2_13
    have xu3_14 := s14 _ _ xu3_13
    have xu4_14 := s14 _ _ xu4_13
    have xd_14 := s14 _ _ xd_13
    have xu5_14 := s14 _ _ xu5_13
    have xu6_14 := s14 _ _ xu6_13
    have ha_14 := s14 _ _ ha_13
    have kp_14 : KeepB a H G14 := KeepB.trans kp_13 (KeepB.of s14)
    refine ⟨_, rfl, a, C, dx, _, rfl, ha_14, cls, n_after, (by show 4 < 1000; decide), ?_⟩
    have kp_15 : KeepB a H (upd G14 a (.ins C dx (putF "after" (.ref f) (putF "depths" (.ref d) (putF "edges" (.ref e) (putF "heights" (.ref Hh) (putF "into" (.ref I) []))))))) := KeepB.trans kp_14 KeepB.at
    have ha_15 : (upd G14 a (.ins C dx (putF "after" (.ref f) (putF "depths" (.ref d) (putF "edges" (.ref e) (putF "heights" (.ref Hh) (putF "into" (.ref I) []))))))) a = some (.ins C dx (putF "after" (.ref f) (putF "depths" (.ref d) (putF "edges" (.ref e) (putF "heights" (.ref Hh) (putF "into" (.ref I) [])))))) := upd_same
    have xI_15 : (upd G14 a (.ins C dx (putF "after" (.ref f) (putF "depths" (.ref d) (putF "edges" (.ref e) (putF "heights" (.ref Hh) (putF "into" (.ref I) []))))))) I = some (.lst [.ref J]) := (upd_ne (fun z => by have q := xI_14; rw [z, ha_14] at q; cases q)).trans xI_14
    have xZ_15 : (upd G14 a (.ins C dx (putF "after" (.ref f) (putF "depths" (.ref d) (putF "edges" (.ref e) (putF "heights" (.ref Hh) (putF "into" (.ref I) []))))))) Z = some (.lst [.int 0]) := (upd_ne (fun z => by have q := xZ_14; rw [z, ha_14] at q; cases q)).trans xZ_14
    have xHh_15 : (upd G14 a (.ins C dx (putF "after" (.ref f) (putF "depths" (.ref d) (putF "edges" (.ref e) (putF "heights" (.ref Hh) (putF "into" (.ref I) []))))))) Hh = some (.lst [.int 0]) := (upd_ne naHh).trans xHh_14
    have xu1_15 : (upd G14 a (.ins C dx (putF "after" (.ref f) (putF "depths" (.ref d) (putF "edges" (.ref e) (putF "heights" (.ref Hh) (putF "into" (.ref I) []))))))) u1 = some (.lst [.non]) := (upd_ne nau1).trans xu1_14
    have xe_15 : (upd G14 a (.ins C dx (putF "after" (.ref f) (putF "depths" (.ref d) (putF "edges" (.ref e) (putF "heights" (.ref Hh) (putF "into" (.ref I) []))))))) e = some (.lst [.non]) := (upd_ne nae).trans xe_14
    have xu2_15 : (upd G14 a (.ins C dx (putF "after" (.ref f) (putF "depths" (.ref d) (putF "edges" (.ref e) (putF "heights" (.ref Hh) (putF "into" (.ref I) []))))))) u2 = some (.lst [.int 1]) := (upd_ne nau2).trans xu2_14
    have xu3_15 : (upd G14 a (.ins C dx (putF "after" (.ref f) (putF "depths" (.ref d) (putF "edges" (.ref e) (putF "heights" (.ref Hh) (putF "into" (.ref I) []))))))) u3 = some (.lst [.int 1]) := (upd_ne nau3).trans xu3_14
    have xu4_15 : (upd G14 a (.ins C dx (putF "after" (.ref f) (putF "depths" (.ref d) (putF "edges" (.ref e) (putF "heights" (.ref Hh) (putF "into" (.ref I) []))))))) u4 = some (.lst [.int 0]) := (upd_ne nau4).trans xu4_14
    have xd_15 : (upd G14 a (.ins C dx (putF "after" (.ref f) (putF "depths" (.ref d) (putF "edges" (.ref e) (putF "heights" (.ref Hh) (putF "into" (.ref I) []))))))) d = some (.lst [.int 1, .int 0]) := (upd_ne nad).trans xd_14
    have xu5_15 : (upd G14 a (.ins C dx (putF "after" (.ref f) (putF "depths" (.ref d) (putF "edges" (.ref e) (putF "heights" (.ref Hh) (putF "into" (.ref I) []))))))) u5 = some (.lst (rgV 1 2)) := (upd_ne nau5).trans xu5_14
    have xu6_15 : (upd G14 a (.ins C dx (putF "after" (.ref f) (putF "depths" (.ref d) (putF "edges" (.ref e) (putF "heights" (.ref Hh) (putF "into" (.ref I) []))))))) u6 = some (.lst [.int 0]) := (upd_ne nau6).trans xu6_14
    have xf_15 : (upd G14 a (.ins C dx (putF "after" (.ref f) (putF "depths" (.ref d) (putF "edges" (.ref e) (putF "heights" (.ref Hh) (putF "into" (.ref I) []))))))) f = some (.lst ((rgV 1 2) ++ [.int 0])) := (upd_ne naf).trans xf_14
    obtain ⟨G15, eG15⟩ : ∃ G, upd G14 a (.ins C dx (putF "after" (.ref f) (putF "depths" (.ref d) (putF "edges" (.ref e) (putF "heights" (.ref Hh) (putF "into" (.ref I) [])))))) = G := ⟨_, rfl⟩
    rw [eG15] at kp_15 ha_15 xI_15 xZ_15 xHh_15 xu1_15 xe_15 xu2_15 xu3_15 xu4_15 xd_15 xu5_15 xu6_15 xf_15 ⊢
    refine ⟨_, rfl, le_sz (Nat.le_of_ble_eq_true rfl), fun u7 hu7 => ?_⟩
    have s16 := new_same (o := .lst [V.int (([V.ref J].length : Nat) : Int)]) hu7
    have xu7_16 : (upd G15 u7 (.lst [V.int (([V.ref J].length : Nat) : Int)])) u7 = some (.lst [.int 1]) := upd_same
    have nau7 : u7 ≠ a := fun z => by rw [z, ha_15] at hu7; cases hu7
    have ne_u7_I : u7 ≠ I := fun z => by have q := xI_15; rw [← z, hu7] at q; cases q
    have ne_u7_Z : u7 ≠ Z := fun z => by have q := xZ_15; rw [← z, hu7] at q; cases q
    have ne_u7_Hh : u7 ≠ Hh := fun z => by have q := xHh_15; rw [← z, hu7] at q; cases q
    have ne_u7_u1 : u7 ≠ u1 := fun z => by have q := xu1_15; rw [← z, hu7] at q; cases q
    have ne_u7_e : u7 ≠ e := fun z => by have q := xe_15; rw [← z, hu7] at q; cases q
    have ne_u7_u2 : u7 ≠ u2 := fun z => by have q := xu2_15; rw [← z, hu7] at q; cases q
    have ne_u7_u3 : u7 ≠ u3 := fun z => by have q := xu3_15; rw [← z, hu7] at q; cases q
    have ne_u7_u4 : u7 ≠ u4 := fun z => by have q := xu4_15; rw [← z, hu7] at q; cases q
    have ne_u7_d : u7 ≠ d := fun z => by have q := xd_15; rw [← z, hu7] at q; cases q
    have ne_u7_u5 : u7 ≠ u5 := fun z => by have q := xu5_15; rw [← z, hu7] at q; cases q
    have ne_u7_u6 : u7 ≠ u6 := fun z => by have q := xu6_15; rw [← z, hu7] at q; cases q
    have ne_u7_f : u7 ≠ f := fun z => by have q := xf_15; rw [← z, hu7] at q; cases q
    have fru7 : H u7 = none := KeepB.free kp_15 nau7 hu7
    obtain ⟨G16, eG16⟩ : ∃ G, upd G15 u7 (.lst [V.int (([V.ref J].length : Nat) : Int)]) = G := ⟨_, rfl⟩
    rw [eG16] at s16 xu7_16 ⊢
    have xI_16 := s16 _ _ xI_15
    have xZ_16 := s16 _ _ xZ_15
    have xHh_16 := s16 _ _ xHh_15
    have xu1_16 := s16 _ _ xu1_15
    have xe_16 := s16 _ _ xe_15
    have xu2_16 := s16 _ _ xu2_15
    have xu3_16 := s16 _ _ xu3_15
    have xu4_16 := s16 _ _ xu4_15
    have xd_16 := s16 _ _ xd_15
    have xu5_16 := s16 _ _ xu5_15
    have xu6_16 := s16 _ _ xu6_15
    have xf_16 := s16 _ _ xf_15
    have ha_16 := s16 _ _ ha_15
    have kp_16 : KeepB a H G16 := KeepB.trans kp_15 (KeepB.of s16)
    refine ⟨_, rfl, 1, rfl, RgOk.of_le (by decide) (by decide) (by decide) (by decide), fun u8 hu8 => ?_⟩
    have s17 := new_same (o := .lst (rgV 0 1)) hu8
    have xu8_17 : (upd G16 u8 (.lst (rgV 0 1))) u8 = some (.lst (rgV 0 1)) := upd_same
    have nau8 : u8 ≠ a := fun z => by rw [z, ha_16] at hu8; cases hu8
    have ne_u8_I : u8 ≠ I := fun z => by have q := xI_16; rw [← z, hu8] at q; cases q
    have ne_u8_Z : u8 ≠ Z := fun z => by have q := xZ_16; rw [← z, hu8] at q; cases q
    have ne_u8_Hh : u8 ≠ Hh := fun z => by have q := xHh_16; rw [← z, hu8] at q; cases q
    have ne_u8_u1 : u8 ≠ u1 := fun z => by have q := xu1_16; rw [← z, hu8] at q; cases q
    have ne_u8_e : u8 ≠ e := fun z => by have q := xe_16; rw [← z, hu8] at q; cases q
    have ne_u8_u2 : u8 ≠ u2 := fun z => by have q := xu2_16; rw [← z, hu8] at q; cases q
    have ne_u8_u3 : u8 ≠ u3 := fun z => by have q := xu3_16; rw [← z, hu8] at q; cases q
    have ne_u8_u4 : u8 ≠ u4 := fun z => by have q := xu4_16; rw [← z, hu8] at q; cases q
    have ne_u8_d : u8 ≠ d := fun z => by have q := xd_16; rw [← z, hu8] at q; cases q
    have ne_u8_u5 : u8 ≠ u5 := fun z => by have q := xu5_16; rw [← z, hu8] at q; cases q
    have ne_u8_u6 : u8 ≠ u6 := fun z => by have q := xu6_16; rw [← z, hu8] at q; cases q
    have ne_u8_f : u8 ≠ f := fun z => by have q := xf_16; rw [← z, hu8] at q; cases q
    have ne_u8_u7 : u8 ≠ u7 := fun z => by have q := xu7_16; rw [← z, hu8] at q; cases q
    have fru8 : H u8 = none := KeepB.free kp_16 nau8 hu8
    obtain ⟨G17, eG17⟩ : ∃ G, upd G16 u8 (.lst (rgV 0 1)) = G := ⟨_, rfl⟩
    rw [eG17] at s17 xu8_17 ⊢
    have xI_17 := s17 _ _ xI_16
    have xZ_17 := s17 _ _ xZ_16
    have xHh_17 := s17 _ _ xHh_16
    have xu1_17 := s17 _ _ xu1_16
    have xe_17 := s17 _ _ xe_16
    have xu2_17 := s17 _ _ xu2_16
    have xu3_17 := s17 _ _ xu3_16
    have xu4_17 := s17 _ _ xu4_16
    have xd_17 := s17 _ _ xd_16
    have xu5_17 := s17 _ _ xu5_16
    have xu6_17 := s17 _ _ xu6_16
    have xf_17 := s17 _ _ xf_16
    have xu7_17 := s17 _ _ xu7_16
    have ha_17 := s17 _ _ ha_16
    have kp_17 : KeepB a H G17 := KeepB.trans kp_16 (KeepB.of s17)
    refine ⟨u7, u8, _, _, rfl, rfl, xu7_17, xu8_17, le_sz (Nat.le_of_ble_eq_true rfl), fun b hb => ?_⟩
    have s18 := new_same (o := .lst ([.int 1] ++ rgV 0 1)) hb
    have xb_18 : (upd G17 b (.lst ([.int 1] ++ rgV 0 1))) b = some (.lst ([.int 1] ++ rgV 0 1)) := upd_same
    have nab : b ≠ a := fun z => by rw [z, ha_17] at hb; cases hb
    have ne_b_I : b ≠ I := fun z => by have q := xI_17; rw [← z, hb] at q; cases q
    have ne_b_Z : b ≠ Z := fun z => by have q := xZ_17; rw [← z, hb] at q; cases q
    have ne_b_Hh : b ≠ Hh := fun z => by have q := xHh_17; rw [← z, hb] at q; cases q
    have ne_b_u1 : b ≠ u1 := fun z => by have q := xu1_17; rw [← z, hb] at q; cases q
    have ne_b_e : b ≠ e := fun z => by have q := xe_17; rw [← z, hb] at q; cases q
    have ne_b_u2 : b ≠ u2 := fun z => by have q := xu2_17; rw [← z, hb] at q; cases q
    have ne_b_u3 : b ≠ u3 := fun z => by have q := xu3_17; rw [← z, hb] at q; cases q
    have ne_b_u4 : b ≠ u4 := fun z => by have q := xu4_17; rw [← z, hb] at q; cases q
    have ne_b_d : b ≠ d := fun z => by have q := xd_17; rw [← z, hb] at q; cases q
    have ne_b_u5 : b ≠ u5 := fun z => by have q := xu5_17; rw [← z, hb] at q; cases q
    have ne_b_u6 : b ≠ u6 := fun z => by have q := xu6_17; rw [← z, hb] at q; cases q
    have ne_b_f : b ≠ f := fun z => by have q := xf_17; rw [← z, hb] at q; cases q
    have ne_b_u7 : b ≠ u7 := fun z => by have q := xu7_17; rw [← z, hb] at q; cases q
    have ne_b_u8 : b ≠ u8 := fun z => by have q := xu8_17; rw [← z, hb] at q; cases q
    have frb : H b = none := KeepB.free kp_17 nab hb
    obtain ⟨G18, eG18⟩ : ∃ G, upd G17 b (.lst ([.int 1] ++ rgV 0 1)) = G := ⟨_, rfl⟩
    rw [eG18] at s18 xb_18 ⊢
    have xI_18 := s18 _ _ xI_17
    have xZ_18 := s18 _ _ xZ_17
    have xHh_18 := s18 _ _ xHh_17
    have xu1_18 := s18 _ _ xu1_17
    have xe_18 := s18 _ _ xe_17
    have xu2_18 := s18 _ _ xu2_17
    have xu3_18 := s18 _ _ xu3_17
    have xu4_18 := s18 _ _ xu4_17
    have xd_18 := s18 _ _ xd_17
    have xu5_18 := s18 _ _ xu5_17
    have xu6_18 := s18 _ _ xu6_17
    have xf_18 := s18 _ _ xf_17
    have xu7_18 := s18 _ _ xu7_17
    have xu8_18 := s18 _ _ xu8_17
    have ha_18 := s18 _ _ ha_17
    have kp_18 : KeepB a H G18 := KeepB.trans kp_17 (KeepB.of s18)
    refine ⟨_, rfl, a, C, dx, _, rfl, ha_18, cls, n_before, (by show 5 < 1000; decide), ?_⟩
    have kp_19 : KeepB a H (upd G18 a (.ins C dx (putF "before" (.ref b) (putF "after" (.ref f) (putF "depths" (.ref d) (putF "edges" (.ref e) (putF "heights" (.ref Hh) (putF "into" (.ref I) [])))))))) := KeepB.trans kp_18 KeepB.at
    have ha_19 : (upd G18 a (.ins C dx (putF "before" (.ref b) (putF "after" (.ref f) (putF "depths" (.ref d) (putF "edges" (.ref e) (putF "heights" (.ref Hh) (putF "into" (.ref I) [])))))))) a = some (.ins C dx (putF "before" (.ref b) (putF "after" (.ref f) (putF "depths" (.ref d) (putF "edges" (.ref e) (putF "heights" (.ref Hh) (putF "into" (.ref I) []))))))) := upd_same
    have xI_19 : (upd G18 a (.ins C dx (putF "before" (.ref b) (putF "after" (.ref f) (putF "depths" (.ref d) (putF "edges" (.ref e) (putF "heights" (.ref Hh) (putF "into" (.ref I) [])))))))) I = some (.lst [.ref J]) := (upd_ne (fun z => by have q := xI_18; rw [z, ha_18] at q; cases q)).trans xI_18
    have xZ_19 : (upd G18 a (.ins C dx (putF "before" (.ref b) (putF "after" (.ref f) (putF "depths" (.ref d) (putF "edges" (.ref e) (putF "heights" (.ref Hh) (putF "into" (.ref I) [])))))))) Z = some (.lst [.int 0]) := (upd_ne (fun z => by have q := xZ_18; rw [z, ha_18] at q; cases q)).trans xZ_18
    have xHh_19 : (upd G18 a (.ins C dx (putF "before" (.ref b) (putF "after" (.ref f) (putF "depths" (.ref d) (putF "edges" (.ref e) (putF "heights" (.ref Hh) (putF "into" (.ref I) [])))))))) Hh = some (.lst [.int 0]) := (upd_ne naHh).trans xHh_18
    have xu1_19 : (upd G18 a (.ins C dx (putF "before" (.ref b) (putF "after" (.ref f) (putF "depths" (.ref d) (putF "edges" (.ref e) (putF "heights" (.ref Hh) (putF "into" (.ref I) [])))))))) u1 = some (.lst [.non]) := (upd_ne nau1).trans xu1_18
    have xe_19 : (upd G18 a (.ins C dx (putF "before" (.ref b) (putF "after" (.ref f) (putF "depths" (.ref d) (putF "edges" (.ref e) (putF "heights" (.ref Hh) (putF "into" (.ref I) [])))))))) e = some (.lst [.non]) := (upd_ne nae).trans xe_18
    have xu2_19 : (upd G18 a (.ins C dx (putF "before" (.ref b) (putF "after" (.ref f) (putF "depths" (.ref d) (putF "edges" (.ref e) (putF "heights" (.ref Hh) (putF "into" (.ref I) [])))))))) u2 = some (.lst [.int 1]) := (upd_ne nau2).trans xu2_18
    have xu3_19 : (upd G18 a (.ins C dx (putF "before" (.ref b) (putF "after" (.ref f) (putF "depths" (.ref d) (putF "edges" (.ref e) (putF "heights" (.ref Hh) (putF "into" (.ref I) [])))))))) u3 = some (.lst [.int 1]) := (upd_ne nau3).trans xu3_18
    have xu4_19 : (upd G18 a (.ins C dx (putF "before" (.ref b) (putF "after" (.ref f) (putF "depths" (.ref d) (putF "edges" (.ref e) (putF "heights" (.ref Hh) (putF "into" (.ref I) [])))))))) u4 = some (.lst [.int 0]) := (upd_ne nau4).trans xu4_18
    have xd_19 : (upd G18 a (.ins C dx (putF "before" (.ref b) (putF "after" (.ref f) (putF "depths" (.ref d) (putF "edges" (.ref e) (putF "heights" (.ref Hh) (putF "into" (.ref I) [])))))))) d = some (.lst [.int 1, .int 0]) := (upd_ne nad).trans xd_18
    have xu5_19 : (upd G18 a (.ins C dx (putF "before" (.ref b) (putF "after" (.ref f) (putF "depths" (.ref d) (putF "edges" (.ref e) (putF "heights" (.ref Hh) (putF "into" (.ref I) [])))))))) u5 = some (.lst (rgV 1 2)) := (upd_ne nau5).trans xu5_18
    have xu6_19 : (upd G18 a (.ins C dx (putF "before" (.ref b) (putF "after" (.ref f) (putF "depths" (.ref d) (putF "edges" (.ref e) (putF "heights" (.ref Hh) (putF "into" (.ref I) [])))))))) u6 = some (.lst [.int 0]) := (upd_ne nau6).trans xu6_18
    have xf_19 : (upd G18 a (.ins C dx (putF "before" (.ref b) (putF "after" (.ref f) (putF "depths" (.ref d) (putF "edges" (.ref e) (putF "heights" (.ref Hh) (putF "into" (.ref I) [])))))))) f = some (.lst ((rgV 1 2) ++ [.int 0])) := (upd_ne naf).trans xf_18
    have xu7_19 : (upd G18 a (.ins C dx (putF "before" (.ref b) (putF "after" (.ref f) (putF "depths" (.ref d) (putF "edges" (.ref e) (putF "heights" (.ref Hh) (putF "into" (.ref I) [])))))))) u7 = some (.lst [.int 1]) := (upd_ne nau7).trans xu7_18
    have xu8_19 : (upd G18 a (.ins C dx (putF "before" (.ref b) (putF "after" (.ref f) (putF "depths" (.ref d) (putF "edges" (.ref e) (putF "heights" (.ref Hh) (putF "into" (.ref I) [])))))))) u8 = some (.lst (rgV 0 1)) := (upd_ne nau8).trans xu8_18
    have xb_19 : (upd G18 a (.ins C dx (putF "before" (.ref b) (putF "after" (.ref f) (putF "depths" (.ref d) (putF "edges" (.ref e) (putF "heights" (.ref Hh) (putF "into" (.ref I) [])))))))) b = some (.lst ([.int 1] ++ rgV 0 1)) := (upd_ne nab).trans xb_18
    obtain ⟨G19, eG19⟩ : ∃ G, upd G18 a (.ins C dx (putF "before" (.ref b) (putF "after" (.ref f) (putF "depths" (.ref d) (putF "edges" (.ref e) (putF "heights" (.ref Hh) (putF "into" (.ref I) []))))))) = G := ⟨_, rfl⟩
    rw [eG19] at kp_19 ha_19 xI_19 xZ_19 xHh_19 xu1_19 xe_19 xu2_19 xu3_19 xu4_19 xd_19 xu5_19 xu6_19 xf_19 xu7_19 xu8_19 xb_19 ⊢
    refine ⟨le_sz (Nat.le_of_ble_eq_true rfl), fun u9 hu9 => ?_⟩
    have s20 := new_same (o := .lst [.bl false]) hu9
    have xu9_20 : (upd G19 u9 (.lst [.bl false])) u9 = some (.lst [.bl false]) := upd_same
    have nau9 : u9 ≠ a := fun z => by rw [z, ha_19] at hu9; cases hu9
    have ne_u9_I : u9 ≠ I := fun z => by have q := xI_19; rw [← z, hu9] at q; cases q
    have ne_u9_Z : u9 ≠ Z := fun z => by have q := xZ_19; rw [← z, hu9] at q; cases q
    have ne_u9_Hh : u9 ≠ Hh := fun z => by have q := xHh_19; rw [← z, hu9] at q; cases q
    have ne_u9_u1 : u9 ≠ u1 := fun z => by have q := xu1_19; rw [← z, hu9] at q; cases q
    have ne_u9_e : u9 ≠ e := fun z => by have q := xe_19; rw [← z, hu9] at q; cases q
    have ne_u9_u2 : u9 ≠ u2 := fun z => by have q := xu2_19; rw [← z, hu9] at q; cases q
    have ne_u9_u3 : u9 ≠ u3 := fun z => by have q := xu3_19; rw [← z, hu9] at q; cases q
    have ne_u9_u4 : u9 ≠ u4 := fun z => by have q := xu4_19; rw [← z, hu9] at q; cases q
    have ne_u9_d : u9 ≠ d := fun z => by have q := xd_19; rw [← z, hu9] at q; cases q
    have ne_u9_u5 : u9 ≠ u5 := fun z => by have q := xu5_19; rw [← z, hu9] at q; cases q
    have ne_u9_u6 : u9 ≠ u6 := fun z => by have q := xu6_19; rw [← z, hu9] at q; cases q
    have ne_u9_f : u9 ≠ f := fun z => by have q := xf_19; rw [← z, hu9] at q; cases q
    have ne_u9_u7 : u9 ≠ u7 := fun z => by have q := xu7_19; rw [← z, hu9] at q; cases q
    have ne_u9_u8 : u9 ≠ u8 := fun z => by have q := xu8_19; rw [← z, hu9] at q; cases q
    have ne_u9_b : u9 ≠ b := fun z => by have q := xb_19; rw [← z, hu9] at q; cases q
    have fru9 : H u9 = none := KeepB.free kp_19 nau9 hu9
    obtain ⟨G20, eG20⟩ : ∃ G, upd G19 u9 (.lst [.bl false]) = G := ⟨_, rfl⟩
    rw [eG20] at s20 xu9_20 ⊢
    have xI_20 := s20 _ _ xI_19
    have xZ_20 := s20 _ _ xZ_19
    have xHh_20 := s20 _ _ xHh_19
    have xu1_20 := s20 _ _ xu1_19
    have xe_20 := s20 _ _ xe_19
    have xu2_20 := s20 _ _ xu2_19
    have xu3_20 := s20 _ _ xu3_19
    have xu4_20 := s20 _ _ xu4_19
    have xd_20 := s20 _ _ xd_19
    have xu5_20 := s20 _ _ xu5_19
    have xu6_20 := s20 _ _ xu6_19
    have xf_20 := s20 _ _ xf_19
    have xu7_20 := s20 _ _ xu7_19
    have xu8_20 := s20 _ _ xu8_19
    have xb_20 := s20 _ _ xb_19
    have ha_20 := s20 _ _ ha_19
    have kp_20 : KeepB a H G20 := KeepB.trans kp_19 (KeepB.of s20)
    refine ⟨_, rfl, u9, 1, [.bl false], rfl, rfl, xu9_20, by decide, by decide, (by rw [sizeLine_eq]; show 1 * 1 ≤ 16777216; decide), fun W hW => ?_⟩
    have s21 := new_same (o := .lst (List.replicate (Int.toNat 1) [V.bl false]).flatten) hW
    have xW_21 : (upd G20 W (.lst (List.replicate (Int.toNat 1) [V.bl false]).flatten)) W = some (.lst [.bl false]) := upd_same
    have naW : W ≠ a := fun z => by rw [z, ha_20] at hW; cases hW
    have ne_W_I : W ≠ I := fun z => by have q := xI_20; rw [← z, hW] at q; cases q
    have ne_W_Z : W ≠ Z := fun z => by have q := xZ_20; rw [← z, hW] at q; cases q
    have ne_W_Hh : W ≠ Hh := fun z => by have q := xHh_20; rw [← z, hW] at q; cases q
    have ne_W_u1 : W ≠ u1 := fun z => by have q := xu1_20; rw [← z, hW] at q; cases q
    have ne_W_e : W ≠ e := fun z => by have q := xe_20; rw [← z, hW] at q; cases q
    have ne_W_u2 : W ≠ u2 := fun z => by have q := xu2_20; rw [← z, hW] at q; cases q
    have ne_W_u3 : W ≠ u3 := fun z => by have q := xu3_20; rw [← z, hW] at q; cases q
    have ne_W_u4 : W ≠ u4 := fun z => by have q := xu4_20; rw [← z, hW] at q; cases q
    have ne_W_d : W ≠ d := fun z => by have q := xd_20; rw [← z, hW] at q; cases q
    have ne_W_u5 : W ≠ u5 := fun z => by have q := xu5_20; rw [← z, hW] at q; cases q
    have ne_W_u6 : W ≠ u6 := fun z => by have q := xu6_20; rw [← z, hW] at q; cases q
    have ne_W_f : W ≠ f := fun z => by have q := xf_20; rw [← z, hW] at q; cases q
    have ne_W_u7 : W ≠ u7 := fun z => by have q := xu7_20; rw [← z, hW] at q; cases q
    have ne_W_u8 : W ≠ u8 := fun z => by have q := xu8_20; rw [← z, hW] at q; cases q
    have ne_W_b : W ≠ b := fun z => by have q := xb_20; rw [← z, hW] at q; cases q
    have ne_W_u9 : W ≠ u9 := fun z => by have q := xu9_20; rw [← z, hW] at q; cases q
    have frW : H W = none := KeepB.free kp_20 naW hW
    obtain ⟨G21, eG21⟩ : ∃ G, upd G20 W (.lst (List.replicate (Int.toNat 1) [V.bl false]).flatten) = G := ⟨_, rfl⟩
    rw [eG21] at s21 xW_21 ⊢
    have xI_21 := s21 _ _ xI_20
    have xZ_21 := s21 _ _ xZ_20
    have xHh_21 := s21 _ _ xHh_20
    have xu1_21 := s21 _ _ xu1_20
    have xe_21 := s21 _ _ xe_20
    have xu2_21 := s21 _ _ xu2_20
    have xu3_21 := s21 _ _ xu3_20
    have xu4_21 := s21 _ _ xu4_20
    have xd_21 := s21 _ _ xd_20
    have xu5_21 := s21 _ _ xu5_20
    have xu6_21 := s21 _ _ xu6_20
    have xf_21 := s21 _ _ xf_20
    have xu7_21 := s21 _ _ xu7_20
    have xu8_21 := s21 _ _ xu8_20
    have xb_21 := s21 _ _ xb_20
    have xu9_21 := s21 _ _ xu9_20
    have ha_21 := s21 _ _ ha_20
    have kp_21 : KeepB a H G21 := KeepB.trans kp_20 (KeepB.of s21)
    refine ⟨_, rfl, a, C, dx, _, rfl, ha_21, cls, n_waits, (by show 6 < 1000; decide), ?_⟩
    have kp_22 : KeepB a H (upd G21 a (.ins C dx (putF "waits" (.ref W) (putF "before" (.ref b) (putF "after" (.ref f) (putF "depths" (.ref d) (putF "edges" (.ref e) (putF "heights" (.ref Hh) (putF "into" (.ref I) []))))))))) := KeepB.trans kp_21 KeepB.at
    have ha_22 : (upd G21 a (.ins C dx (putF "waits" (.ref W) (putF "before" (.ref b) (putF "after" (.ref f) (putF "depths" (.ref d) (putF "edges" (.ref e) (putF "heights" (.ref Hh) (putF "into" (.ref I) []))))))))) a = some (.ins C dx (putF "waits" (.ref W) (putF "before" (.ref b) (putF "after" (.ref f) (putF "depths" (.ref d) (putF "edges" (.ref e) (putF "heights" (.ref Hh) (putF "into" (.ref I) [])))))))) := upd_same
    have xI_22 : (upd G21 a (.ins C dx (putF "waits" (.ref W) (putF "before" (.ref b) (putF "after" (.ref f) (putF "depths" (.ref d) (putF "edges" (.ref e) (putF "heights" (.ref Hh) (putF "into" (.ref I) []))))))))) I = some (.lst [.ref J]) := (upd_ne (fun z => by have q := xI_21; rw [z, ha_21] at q; cases q)).trans xI_21
    have xZ_22 : (upd G21 a (.ins C dx (putF "waits" (.ref W) (putF "before" (.ref b) (putF "after" (.ref f) (putF "depths" (.ref d) (putF "edges" (.ref e) (putF "heights" (.ref Hh) (putF "into" (.ref I) []))))))))) Z = some (.lst [.int 0]) := (upd_ne (fun z => by have q := xZ_21; rw [z, ha_21] at q; cases q)).trans xZ_21
    have xHh_22 : (upd G21 a (.ins C dx (putF "waits" (.ref W) (putF "before" (.ref b) (putF "after" (.ref f) (putF "depths" (.ref d) (putF "edges" (.ref e) (putF "heights" (.ref Hh) (putF "into" (.ref I) []))))))))) Hh = some (.lst [.int 0]) := (upd_ne naHh).trans xHh_21
    have xu1_22 : (upd G21 a (.ins C dx (putF "waits" (.ref W) (putF "before" (.ref b) (putF "after" (.ref f) (putF "depths" (.ref d) (putF "edges" (.ref e) (putF "heights" (.ref Hh) (putF "into" (.ref I) []))))))))) u1 = some (.lst [.non]) := (upd_ne nau1).trans xu1_21
    have xe_22 : (upd G21 a (.ins C dx (putF "waits" (.ref W) (putF "before" (.ref b) (putF "after" (.ref f) (putF "depths" (.ref d) (putF "edges" (.ref e) (putF "heights" (.ref Hh) (putF "into" (.ref I) []))))))))) e = some (.lst [.non]) := (upd_ne nae).trans xe_21
    have xu2_22 : (upd G21 a (.ins C dx (putF "waits" (.ref W) (putF "before" (.ref b) (putF "after" (.ref f) (putF "depths" (.ref d) (putF "edges" (.ref e) (putF "heights" (.ref Hh) (putF "into" (.ref I) []))))))))) u2 = some (.lst [.int 1]) := (upd_ne nau2).trans xu2_21
    have xu3_22 : (upd G21 a (.ins C dx (putF "waits" (.ref W) (putF "before" (.ref b) (putF "after" (.ref f) (putF "depths" (.ref d) (putF "edges" (.ref e) (putF "heights" (.ref Hh) (putF "into" (.ref I) []))))))))) u3 = some (.lst [.int 1]) := (upd_ne nau3).trans xu3_21
    have xu4_22 : (upd G21 a (.ins C dx (putF "waits" (.ref W) (putF "before" (.ref b) (putF "after" (.ref f) (putF "depths" (.ref d) (putF "edges" (.ref e) (putF "heights" (.ref Hh) (putF "into" (.ref I) []))))))))) u4 = some (.lst [.int 0]) := (upd_ne nau4).trans xu4_21
    have xd_22 : (upd G21 a (.ins C dx (putF "waits" (.ref W) (putF "before" (.ref b) (putF "after" (.ref f) (putF "depths" (.ref d) (putF "edges" (.ref e) (putF "heights" (.ref Hh) (putF "into" (.ref I) []))))))))) d = some (.lst [.int 1, .int 0]) := (upd_ne nad).trans xd_21
    have xu5_22 : (upd G21 a (.ins C dx (putF "waits" (.ref W) (putF "before" (.ref b) (putF "after" (.ref f) (putF "depths" (.ref d) (putF "edges" (.ref e) (putF "heights" (.ref Hh) (putF "into" (.ref I) []))))))))) u5 = some (.lst (rgV 1 2)) := (upd_ne nau5).trans xu5_21
    have xu6_22 : (upd G21 a (.ins C dx (putF "waits" (.ref W) (putF "before" (.ref b) (putF "after" (.ref f) (putF "depths" (.ref d) (putF "edges" (.ref e) (putF "heights" (.ref Hh) (putF "into" (.ref I) []))))))))) u6 = some (.lst [.int 0]) := (upd_ne nau6).trans xu6_21
    have xf_22 : (upd G21 a (.ins C dx (putF "waits" (.ref W) (putF "before" (.ref b) (putF "after" (.ref f) (putF "depths" (.ref d) (putF "edges" (.ref e) (putF "heights" (.ref Hh) (putF "into" (.ref I) []))))))))) f = some (.lst ((rgV 1 2) ++ [.int 0])) := (upd_ne naf).trans xf_21
    have xu7_22 : (upd G21 a (.ins C dx (putF "waits" (.ref W) (putF "before" (.ref b) (putF "after" (.ref f) (putF "depths" (.ref d) (putF "edges" (.ref e) (putF "heights" (.ref Hh) (putF "into" (.ref I) []))))))))) u7 = some (.lst [.int 1]) := (upd_ne nau7).trans xu7_21
    have xu8_22 : (upd G21 a (.ins C dx (putF "waits" (.ref W) (putF "before" (.ref b) (putF "after" (.ref f) (putF "depths" (.ref d) (putF "edges" (.ref e) (putF "heights" (.ref Hh) (putF "into" (.ref I) []))))))))) u8 = some (.lst (rgV 0 1)) := (upd_ne nau8).trans xu8_21
    have xb_22 : (upd G21 a (.ins C dx (putF "waits" (.ref W) (putF "before" (.ref b) (putF "after" (.ref f) (putF "depths" (.ref d) (putF "edges" (.ref e) (putF "heights" (.ref Hh) (putF "into" (.ref I) []))))))))) b = some (.lst ([.int 1] ++ rgV 0 1)) := (upd_ne nab).trans xb_21
    have xu9_22 : (upd G21 a (.ins C dx (putF "waits" (.ref W) (putF "before" (.ref b) (putF "after" (.ref f) (putF "depths" (.ref d) (putF "edges" (.ref e) (putF "heights" (.ref Hh) (putF "into" (.ref I) []))))))))) u9 = some (.lst [.bl false]) := (upd_ne nau9).trans xu9_21
    have xW_22 : (upd G21 a (.ins C dx (putF "waits" (.ref W) (putF "before" (.ref b) (putF "after" (.ref f) (putF "depths" (.ref d) (putF "edges" (.ref e) (putF "heights" (.ref Hh) (putF "into" (.ref I) []))))))))) W = some (.lst [.bl false]) := (upd_ne naW).trans xW_21
    obtain ⟨G22, eG22⟩ : ∃ G, upd G21 a (.ins C dx (putF "waits" (.ref W) (putF "before" (.ref b) (putF "after" (.ref f) (putF "depths" (.ref d) (putF "edges" (.ref e) (putF "heights" (.ref Hh) (putF "into" (.ref I) [])))))))) = G := ⟨_, rfl⟩
    rw [eG22] at kp_22 ha_22 xI_22 xZ_22 xHh_22 xu1_22 xe_22 xu2_22 xu3_22 xu4_22 xd_22 xu5_22 xu6_22 xf_22 xu7_22 xu8_22 xb_22 xu9_22 xW_22 ⊢
    refine ⟨le_sz (Nat.le_of_ble_eq_true rfl), fun La hLa => ?_⟩
    have s23 := new_same (o := .lst []) hLa
    have xLa_23 : (upd G22 La (.lst [])) La = some (.lst []) := upd_same
    have naLa : La ≠ a := fun z => by rw [z, ha_22] at hLa; cases hLa
    have ne_La_I : La ≠ I := fun z => by have q := xI_22; rw [← z, hLa] at q; cases q
    have ne_La_Z : La ≠ Z := fun z => by have q := xZ_22; rw [← z, hLa] at q; cases q
    have ne_La_Hh : La ≠ Hh := fun z => by have q := xHh_22; rw [← z, hLa] at q; cases q
    have ne_La_u1 : La ≠ u1 := fun z => by have q := xu1_22; rw [← z, hLa] at q; cases q
    have ne_La_e : La ≠ e := fun z => by have q := xe_22; rw [← z, hLa] at q; cases q
    have ne_La_u2 : La ≠ u2 := fun z => by have q := xu2_22; rw [← z, hLa] at q; cases q
    have ne_La_u3 : La ≠ u3 := fun z => by have q := xu3_22; rw [← z, hLa] at q; cases q
    have ne_La_u4 : La ≠ u4 := fun z => by have q := xu4_22; rw [← z, hLa] at q; cases q
    have ne_La_d : La ≠ d := fun z => by have q := xd_22; rw [← z, hLa] at q; cases q
    have ne_La_u5 : La ≠ u5 := fun z => by have q := xu5_22; rw [← z, hLa] at q; cases q
    have ne_La_u6 : La ≠ u6 := fun z => by have q := xu6_22; rw [← z, hLa] at q; cases q
    have ne_La_f : La ≠ f := fun z => by have q := xf_22; rw [← z, hLa] at q; cases q
    have ne_La_u7 : La ≠ u7 := fun z => by have q := xu7_22; rw [← z, hLa] at q; cases q
    have ne_La_u8 : La ≠ u8 := fun z => by have q := xu8_22; rw [← z, hLa] at q; cases q
    have ne_La_b : La ≠ b := fun z => by have q := xb_22; rw [← z, hLa] at q; cases q
    have ne_La_u9 : La ≠ u9 := fun z => by have q := xu9_22; rw [← z, hLa] at q; cases q
    have ne_La_W : La ≠ W := fun z => by have q := xW_22; rw [← z, hLa] at q; cases q
    have frLa : H La = none := KeepB.free kp_22 naLa hLa
    obtain ⟨G23, eG23⟩ : ∃ G, upd G22 La (.lst []) = G := ⟨_, rfl⟩
    rw [eG23] at s23 xLa_23 ⊢
    have xI_23 := s23 _ _ xI_22
    have xZ_23 := s23 _ _ xZ_22
    have xHh_23 := s23 _ _ xHh_22
    have xu1_23 := s23 _ _ xu1_22
    have xe_23 := s23 _ _ xe_22
    have xu2_23 := s23 _ _ xu2_22
    have xu3_23 := s23 _ _ xu3_22
    have xu4_23 := s23 _ _ xu4_22
    have xd_23 := s23 _ _ xd_22
    have xu5_23 := s23 _ _ xu5_22
    have xu6_23 := s23 _ _ xu6_22
    have xf_23 := s23 _ _ xf_22
    have xu7_23 := s23 _ _ xu7_22
    have xu8_23 := s23 _ _ xu8_22
    have xb_23 := s23 _ _ xb_22
    have xu9_23 := s23 _ _ xu9_22
    have xW_23 := s23 _ _ xW_22
    have ha_23 := s23 _ _ ha_22
    have kp_23 : KeepB a H G23 := KeepB.trans kp_22 (KeepB.of s23)
    refine ⟨_, rfl, a, C, dx, _, rfl, ha_23, cls, n_later, (by show 7 < 1000; decide), ?_⟩
    have kp_24 : KeepB a H (upd G23 a (.ins C dx (putF "later" (.ref La) (putF "waits" (.ref W) (putF "before" (.ref b) (putF "after" (.ref f) (putF "depths" (.ref d) (putF "edges" (.ref e) (putF "heights" (.ref Hh) (putF "into" (.ref I) [])))))))))) := KeepB.trans kp_23 KeepB.at
    have ha_24 : (upd G23 a (.ins C dx (putF "later" (.ref La) (putF "waits" (.ref W) (putF "before" (.ref b) (putF "after" (.ref f) (putF "depths" (.ref d) (putF "edges" (.ref e) (putF "heights" (.ref Hh) (putF "into" (.ref I) [])))))))))) a = some (.ins C dx (putF "later" (.ref La) (putF "waits" (.ref W) (putF "before" (.ref b) (putF "after" (.ref f) (putF "depths" (.ref d) (putF "edges" (.ref e) (putF "heights" (.ref Hh) (putF "into" (.ref I) []))))))))) := upd_same
    have xI_24 : (upd G23 a (.ins C dx (putF "later" (.ref La) (putF "waits" (.ref W) (putF "before" (.ref b) (putF "after" (.ref f) (putF "depths" (.ref d) (putF "edges" (.ref e) (putF "heights" (.ref Hh) (putF "into" (.ref I) [])))))))))) I = some (.lst [.ref J]) := (upd_ne (fun z => by have q := xI_23; rw [z, ha_23] at q; cases q)).trans xI_23
    have xZ_24 : (upd G23 a (.ins C dx (putF "later" (.ref La) (putF "waits" (.ref W) (putF "before" (.ref b) (putF "after" (.ref f) (putF "depths" (.ref d) (putF "edges" (.ref e) (putF "heights" (.ref Hh) (putF "into" (.ref I) [])))))))))) Z = some (.lst [.int 0]) := (upd_ne (fun z => by have q := xZ_23; rw [z, ha_23] at q; cases q)).trans xZ_23
    have xHh_24 : (upd G23 a (.ins C dx (putF "later" (.ref La) (putF "waits" (.ref W) (putF "before" (.ref b) (putF "after" (.ref f) (putF "depths" (.ref d) (putF "edges" (.ref e) (putF "heights" (.ref Hh) (putF "into" (.ref I) [])))))))))) Hh = some (.lst [.int 0]) := (upd_ne naHh).trans xHh_23
    have xu1_24 : (upd G23 a (.ins C dx (putF "later" (.ref La) (putF "waits" (.ref W) (putF "before" (.ref b) (putF "after" (.ref f) (putF "depths" (.ref d) (putF "edges" (.ref e) (putF "heights" (.ref Hh) (putF "into" (.ref I) [])))))))))) u1 = some (.lst [.non]) := (upd_ne nau1).trans xu1_23
    have xe_24 : (upd G23 a (.ins C dx (putF "later" (.ref La) (putF "waits" (.ref W) (putF "before" (.ref b) (putF "after" (.ref f) (putF "depths" (.ref d) (putF "edges" (.ref e) (putF "heights" (.ref Hh) (putF "into" (.ref I) [])))))))))) e = some (.lst [.non]) := (upd_ne nae).trans xe_23
    have xu2_24 : (upd G23 a (.ins C dx (putF "later" (.ref La) (putF "waits" (.ref W) (putF "before" (.ref b) (putF "after" (.ref f) (putF "depths" (.ref d) (putF "edges" (.ref e) (putF "heights" (.ref Hh) (putF "into" (.ref I) [])))))))))) u2 = some (.lst [.int 1]) := (upd_ne nau2).trans xu2_23
    have xu3_24 : (upd G23 a (.ins C dx (putF "later" (.ref La) (putF "waits" (.ref W) (putF "before" (.ref b) (putF "after" (.ref f) (putF "depths" (.ref d) (putF "edges" (.ref e) (putF "heights" (.ref Hh) (putF "into" (.ref I) [])))))))))) u3 = some (.lst [.int 1]) := (upd_ne nau3).trans xu3_23
    have xu4_24 : (upd G23 a (.ins C dx (putF "later" (.ref La) (putF "waits" (.ref W) (putF "before" (.ref b) (putF "after" (.ref f) (putF "depths" (.ref d) (putF "edges" (.ref e) (putF "heights" (.ref Hh) (putF "into" (.ref I) [])))))))))) u4 = some (.lst [.int 0]) := (upd_ne nau4).trans xu4_23
    have xd_24 : (upd G23 a (.ins C dx (putF "later" (.ref La) (putF "waits" (.ref W) (putF "before" (.ref b) (putF "after" (.ref f) (putF "depths" (.ref d) (putF "edges" (.ref e) (putF "heights" (.ref Hh) (putF "into" (.ref I) [])))))))))) d = some (.lst [.int 1, .int 0]) := (upd_ne nad).trans xd_23
    have xu5_24 : (upd G23 a (.ins C dx (putF "later" (.ref La) (putF "waits" (.ref W) (putF "before" (.ref b) (putF "after" (.ref f) (putF "depths" (.ref d) (putF "edges" (.ref e) (putF "heights" (.ref Hh) (putF "into" (.ref I) [])))))))))) u5 = some (.lst (rgV 1 2)) := (upd_ne nau5).trans xu5_23
    have xu6_24 : (upd G23 a (.ins C dx (putF "later" (.ref La) (putF "waits" (.ref W) (putF "before" (.ref b) (putF "after" (.ref f) (putF "depths" (.ref d) (putF "edges" (.ref e) (putF "heights" (.ref Hh) (putF "into" (.ref I) [])))))))))) u6 = some (.lst [.int 0]) := (upd_ne nau6).trans xu6_23
    have xf_24 : (upd G23 a (.ins C dx (putF "later" (.ref La) (putF "waits" (.ref W) (putF "before" (.ref b) (putF "after" (.ref f) (putF "depths" (.ref d) (putF "edges" (.ref e) (putF "heights" (.ref Hh) (putF "into" (.ref I) [])))))))))) f = some (.lst ((rgV 1 2) ++ [.int 0])) := (upd_ne naf).trans xf_23
    have xu7_24 : (upd G23 a (.ins C dx (putF "later" (.ref La) (putF "waits" (.ref W) (putF "before" (.ref b) (putF "after" (.ref f) (putF "depths" (.ref d) (putF "edges" (.ref e) (putF "heights" (.ref Hh) (putF "into" (.ref I) [])))))))))) u7 = some (.lst [.int 1]) := (upd_ne nau7).trans xu7_23
    have xu8_24 : (upd G23 a (.ins C dx (putF "later" (.ref La) (putF "waits" (.ref W) (putF "before" (.ref b) (putF "after" (.ref f) (putF "depths" (.ref d) (putF "edges" (.ref e) (putF "heights" (.ref Hh) (putF "into" (.ref I) [])))))))))) u8 = some (.lst (rgV 0 1)) := (upd_ne nau8).trans xu8_23
    have xb_24 : (upd G23 a (.ins C dx (putF "later" (.ref La) (putF "waits" (.ref W) (putF "before" (.ref b) (putF "after" (.ref f) (putF "depths" (.ref d) (putF "edges" (.ref e) (putF "heights" (.ref Hh) (putF "into" (.ref I) [])))))))))) b = some (.lst ([.int 1] ++ rgV 0 1)) := (upd_ne nab).trans xb_23
    have xu9_24 : (upd G23 a (.ins C dx (putF "later" (.ref La) (putF "waits" (.ref W) (putF "before" (.ref b) (putF "after" (.ref f) (putF "depths" (.ref d) (putF "edges" (.ref e) (putF "heights" (.ref Hh) (putF "into" (.ref I) [])))))))))) u9 = some (.lst [.bl false]) := (upd_ne nau9).trans xu9_23
    have xW_24 : (upd G23 a (.ins C dx (putF "later" (.ref La) (putF "waits" (.ref W) (putF "before" (.ref b) (putF "after" (.ref f) (putF "depths" (.ref d) (putF "edges" (.ref e) (putF "heights" (.ref Hh) (putF "into" (.ref I) [])))))))))) W = some (.lst [.bl false]) := (upd_ne naW).trans xW_23
    have xLa_24 : (upd G23 a (.ins C dx (putF "later" (.ref La) (putF "waits" (.ref W) (putF "before" (.ref b) (putF "after" (.ref f) (putF "depths" (.ref d) (putF "edges" (.ref e) (putF "heights" (.ref Hh) (putF "into" (.ref I) [])))))))))) La = some (.lst []) := (upd_ne naLa).trans xLa_23
    obtain ⟨G24, eG24⟩ : ∃ G, upd G23 a (.ins C dx (putF "later" (.ref La) (putF "waits" (.ref W) (putF "before" (.ref b) (putF "after" (.ref f) (putF "depths" (.ref d) (putF "edges" (.ref e) (putF "heights" (.ref Hh) (putF "into" (.ref I) []))))))))) = G := ⟨_, rfl⟩
    rw [eG24] at kp_24 ha_24 xI_24 xZ_24 xHh_24 xu1_24 xe_24 xu2_24 xu3_24 xu4_24 xd_24 xu5_24 xu6_24 xf_24 xu7_24 xu8_24 xb_24 xu9_24 xW_24 xLa_24 ⊢
    refine ⟨le_sz (Nat.le_of_ble_eq_true rfl), fun Hu hHu => ?_⟩
    have s25 := new_same (o := .lst []) hHu
    have xHu_25 : (upd G24 Hu (.lst [])) Hu = some (.lst []) := upd_same
    have naHu : Hu ≠ a := fun z => by rw [z, ha_24] at hHu; cases hHu
    have ne_Hu_I : Hu ≠ I := fun z => by have q := xI_24; rw [← z, hHu] at q; cases q
    have ne_Hu_Z : Hu ≠ Z := fun z => by have q := xZ_24; rw [← z, hHu] at q; cases q
    have ne_Hu_Hh : Hu ≠ Hh := fun z => by have q := xHh_24; rw [← z, hHu] at q; cases q
    have ne_Hu_u1 : Hu ≠ u1 := fun z => by have q := xu1_24; rw [← z, hHu] at q; cases q
    have ne_Hu_e : Hu ≠ e := fun z => by have q := xe_24; rw [← z, hHu] at q; cases q
    have ne_Hu_u2 : Hu ≠ u2 := fun z => by have q := xu2_24; rw [← z, hHu] at q; cases q
    have ne_Hu_u3 : Hu ≠ u3 := fun z => by have q := xu3_24; rw [← z, hHu] at q; cases q
    have ne_Hu_u4 : Hu ≠ u4 := fun z => by have q := xu4_24; rw [← z, hHu] at q; cases q
    have ne_Hu_d : Hu ≠ d := fun z => by have q := xd_24; rw [← z, hHu] at q; cases q
    have ne_Hu_u5 : Hu ≠ u5 := fun z => by have q := xu5_24; rw [← z, hHu] at q; cases q
    have ne_Hu_u6 : Hu ≠ u6 := fun z => by have q := xu6_24; rw [← z, hHu] at q; cases q
    have ne_Hu_f : Hu ≠ f := fun z => by have q := xf_24; rw [← z, hHu] at q; cases q
    have ne_Hu_u7 : Hu ≠ u7 := fun z => by have q := xu7_24; rw [← z, hHu] at q; cases q
    have ne_Hu_u8 : Hu ≠ u8 := fun z => by have q := xu8_24; rw [← z, hHu] at q; cases q
    have ne_Hu_b : Hu ≠ b := fun z => by have q := xb_24; rw [← z, hHu] at q; cases q
    have ne_Hu_u9 : Hu ≠ u9 := fun z => by have q := xu9_24; rw [← z, hHu] at q; cases q
    have ne_Hu_W : Hu ≠ W := fun z => by have q := xW_24; rw [← z, hHu] at q; cases q
    have ne_Hu_La : Hu ≠ La := fun z => by have q := xLa_24; rw [← z, hHu] at q; cases q
    have frHu : H Hu = none := KeepB.free kp_24 naHu hHu
    obtain ⟨G25, eG25⟩ : ∃ G, upd G24 Hu (.lst []) = G := ⟨_, rfl⟩
    rw [eG25] at s25 xHu_25 ⊢
    have xI_25 := s25 _ _ xI_24
    have xZ_25 := s25 _ _ xZ_24
    have xHh_25 := s25 _ _ xHh_24
    have xu1_25 := s25 _ _ xu1_24
    have xe_25 := s25 _ _ xe_24
    have xu2_25 := s25 _ _ xu2_24
    have xu3_25 := s25 _ _ xu3_24
    have xu4_25 := s25 _ _ xu4_24
    have xd_25 := s25 _ _ xd_24
    have xu5_25 := s25 _ _ xu5_24
    have xu6_25 := s25 _ _ xu6_24
    have xf_25 := s25 _ _ xf_24
    have xu7_25 := s25 _ _ xu7_24
    have xu8_25 := s25 _ _ xu8_24
    have xb_25 := s25 _ _ xb_24
    have xu9_25 := s25 _ _ xu9_24
    have xW_25 := s25 _ _ xW_24
    have xLa_25 := s25 _ _ xLa_24
    have ha_25 := s25 _ _ ha_24
    have kp_25 : KeepB a H G25 := KeepB.trans kp_24 (KeepB.of s25)
    refine ⟨_, rfl, a, C, dx, _, rfl, ha_25, cls, n_hubs, (by show 8 < 1000; decide), ?_⟩
    have kp_26 : KeepB a H (upd G25 a (.ins C dx (putF "hubs" (.ref Hu) (putF "later" (.ref La) (putF "waits" (.ref W) (putF "before" (.ref b) (putF "after" (.ref f) (putF "depths" (.ref d) (putF "edges" (.ref e) (putF "heights" (.ref Hh) (putF "into" (.ref I) []))))))))))) := KeepB.trans kp_25 KeepB.at
    have ha_26 : (upd G25 a (.ins C dx (putF "hubs" (.ref Hu) (putF "later" (.ref La) (putF "waits" (.ref W) (putF "before" (.ref b) (putF "after" (.ref f) (putF "depths" (.ref d) (putF "edges" (.ref e) (putF "heights" (.ref Hh) (putF "into" (.ref I) []))))))))))) a = some (.ins C dx (putF "hubs" (.ref Hu) (putF "later" (.ref La) (putF "waits" (.ref W) (putF "before" (.ref b) (putF "after" (.ref f) (putF "depths" (.ref d) (putF "edges" (.ref e) (putF "heights" (.ref Hh) (putF "into" (.ref I) [])))))))))) := upd_same
    have xI_26 : (upd G25 a (.ins C dx (putF "hubs" (.ref Hu) (putF "later" (.ref La) (putF "waits" (.ref W) (putF "before" (.ref b) (putF "after" (.ref f) (putF "depths" (.ref d) (putF "edges" (.ref e) (putF "heights" (.ref Hh) (putF "into" (.ref I) []))))))))))) I = some (.lst [.ref J]) := (upd_ne (fun z => by have q := xI_25; rw [z, ha_25] at q; cases q)).trans xI_25
    have xZ_26 : (upd G25 a (.ins C dx (putF "hubs" (.ref Hu) (putF "later" (.ref La) (putF "waits" (.ref W) (putF "before" (.ref b) (putF "after" (.ref f) (putF "depths" (.ref d) (putF "edges" (.ref e) (putF "heights" (.ref Hh) (putF "into" (.ref I) []))))))))))) Z = some (.lst [.int 0]) := (upd_ne (fun z => by have q := xZ_25; rw [z, ha_25] at q; cases q)).trans xZ_25
    have xHh_26 : (upd G25 a (.ins C dx (putF "hubs" (.ref Hu) (putF "later" (.ref La) (putF "waits" (.ref W) (putF "before" (.ref b) (putF "after" (.ref f) (putF "depths" (.ref d) (putF "edges" (.ref e) (putF "heights" (.ref Hh) (putF "into" (.ref I) []))))))))))) Hh = some (.lst [.int 0]) := (upd_ne naHh).trans xHh_25
    have xu1_26 : (upd G25 a (.ins C dx (putF "hubs" (.ref Hu) (putF "later" (.ref La) (putF "waits" (.ref W) (putF "before" (.ref b) (putF "after" (.ref f) (putF "depths" (.ref d) (putF "edges" (.ref e) (putF "heights" (.ref Hh) (putF "into" (.ref I) []))))))))))) u1 = some (.lst [.non]) := (upd_ne nau1).trans xu1_25
    have xe_26 : (upd G25 a (.ins C dx (putF "hubs" (.ref Hu) (putF "later" (.ref La) (putF "waits" (.ref W) (putF "before" (.ref b) (putF "after" (.ref f) (putF "depths" (.ref d) (putF "edges" (.ref e) (putF "heights" (.ref Hh) (putF "into" (.ref I) []))))))))))) e = some (.lst [.non]) := (upd_ne nae).trans xe_25
    have xu2_26 : (upd G25 a (.ins C dx (putF "hubs" (.ref Hu) (putF "later" (.ref La) (putF "waits" (.ref W) (putF "before" (.ref b) (putF "after" (.ref f) (putF "depths" (.ref d) (putF "edges" (.ref e) (putF "heights" (.ref Hh) (putF "into" (.ref I) []))))))))))) u2 = some (.lst [.int 1]) := (upd_ne nau2).trans xu2_25
    have xu3_26 : (upd G25 a (.ins C dx (putF "hubs" (.ref Hu) (putF "later" (.ref La) (putF "waits" (.ref W) (putF "before" (.ref b) (putF "after" (.ref f) (putF "depths" (.ref d) (putF "edges" (.ref e) (putF "heights" (.ref Hh) (putF "into" (.ref I) []))))))))))) u3 = some (.lst [.int 1]) := (upd_ne nau3).trans xu3_25
    have xu4_26 : (upd G25 a (.ins C dx (putF "hubs" (.ref Hu) (putF "later" (.ref La) (putF "waits" (.ref W) (putF "before" (.ref b) (putF "after" (.ref f) (putF "depths" (.ref d) (putF "edges" (.ref e) (putF "heights" (.ref Hh) (putF "into" (.ref I) []))))))))))) u4 = some (.lst [.int 0]) := (upd_ne nau4).trans xu4_25
    have xd_26 : (upd G25 a (.ins C dx (putF "hubs" (.ref Hu) (putF "later" (.ref La) (putF "waits" (.ref W) (putF "before" (.ref b) (putF "after" (.ref f) (putF "depths" (.ref d) (putF "edges" (.ref e) (putF "heights" (.ref Hh) (putF "into" (.ref I) []))))))))))) d = some (.lst [.int 1, .int 0]) := (upd_ne nad).trans xd_25
    have xu5_26 : (upd G25 a (.ins C dx (putF "hubs" (.ref Hu) (putF "later" (.ref La) (putF "waits" (.ref W) (putF "before" (.ref b) (putF "after" (.ref f) (putF "depths" (.ref d) (putF "edges" (.ref e) (putF "heights" (.ref Hh) (putF "into" (.ref I) []))))))))))) u5 = some (.lst (rgV 1 2)) := (upd_ne nau5).trans xu5_25
    have xu6_26 : (upd G25 a (.ins C dx (putF "hubs" (.ref Hu) (putF "later" (.ref La) (putF "waits" (.ref W) (putF "before" (.ref b) (putF "after" (.ref f) (putF "depths" (.ref d) (putF "edges" (.ref e) (putF "heights" (.ref Hh) (putF "into" (.ref I) []))))))))))) u6 = some (.lst [.int 0]) := (upd_ne nau6).trans xu6_25
    have xf_26 : (upd G25 a (.ins C dx (putF "hubs" (.ref Hu) (putF "later" (.ref La) (putF "waits" (.ref W) (putF "before" (.ref b) (putF "after" (.ref f) (putF "depths" (.ref d) (putF "edges" (.ref e) (putF "heights" (.ref Hh) (putF "into" (.ref I) []))))))))))) f = some (.lst ((rgV 1 2) ++ [.int 0])) := (upd_ne naf).trans xf_25
    have xu7_26 : (upd G25 a (.ins C dx (putF "hubs" (.ref Hu) (putF "later" (.ref La) (putF "waits" (.ref W) (putF "before" (.ref b) (putF "after" (.ref f) (putF "depths" (.ref d) (putF "edges" (.ref e) (putF "heights" (.ref Hh) (putF "into" (.ref I) []))))))))))) u7 = some (.lst [.int 1]) := (upd_ne nau7).trans xu7_25
    have xu8_26 : (upd G25 a (.ins C dx (putF "hubs" (.ref Hu) (putF "later" (.ref La) (putF "waits" (.ref W) (putF "before" (.ref b) (putF "after" (.ref f) (putF "depths" (.ref d) (putF "edges" (.ref e) (putF "heights" (.ref Hh) (putF "into" (.ref I) []))))))))))) u8 = some (.lst (rgV 0 1)) := (upd_ne nau8).trans xu8_25
    have xb_26 : (upd G25 a (.ins C dx (putF "hubs" (.ref Hu) (putF "later" (.ref La) (putF "waits" (.ref W) (putF "before" (.ref b) (putF "after" (.ref f) (putF "depths" (.ref d) (putF "edges" (.ref e) (putF "heights" (.ref Hh) (putF "into" (.ref I) []))))))))))) b = some (.lst ([.int 1] ++ rgV 0 1)) := (upd_ne nab).trans xb_25
    have xu9_26 : (upd G25 a (.ins C dx (putF "hubs" (.ref Hu) (putF "later" (.ref La) (putF "waits" (.ref W) (putF "before" (.ref b) (putF "after" (.ref f) (putF "depths" (.ref d) (putF "edges" (.ref e) (putF "heights" (.ref Hh) (putF "into" (.ref I) []))))))))))) u9 = some (.lst [.bl false]) := (upd_ne nau9).trans xu9_25
    have xW_26 : (upd G25 a (.ins C dx (putF "hubs" (.ref Hu) (putF "later" (.ref La) (putF "waits" (.ref W) (putF "before" (.ref b) (putF "after" (.ref f) (putF "depths" (.ref d) (putF "edges" (.ref e) (putF "heights" (.ref Hh) (putF "into" (.ref I) []))))))))))) W = some (.lst [.bl false]) := (upd_ne naW).trans xW_25
    have xLa_26 : (upd G25 a (.ins C dx (putF "hubs" (.ref Hu) (putF "later" (.ref La) (putF "waits" (.ref W) (putF "before" (.ref b) (putF "after" (.ref f) (putF "depths" (.ref d) (putF "edges" (.ref e) (putF "heights" (.ref Hh) (putF "into" (.ref I) []))))))))))) La = some (.lst []) := (upd_ne naLa).trans xLa_25
    have xHu_26 : (upd G25 a (.ins C dx (putF "hubs" (.ref Hu) (putF "later" (.ref La) (putF "waits" (.ref W) (putF "before" (.ref b) (putF "after" (.ref f) (putF "depths" (.ref d) (putF "edges" (.ref e) (putF "heights" (.ref Hh) (putF "into" (.ref I) []))))))))))) Hu = some (.lst []) := (upd_ne naHu).trans xHu_25
    obtain ⟨G26, eG26⟩ : ∃ G, upd G25 a (.ins C dx (putF "hubs" (.ref Hu) (putF "later" (.ref La) (putF "waits" (.ref W) (putF "before" (.ref b) (putF "after" (.ref f) (putF "depths" (.ref d) (putF "edges" (.ref e) (putF "heights" (.ref Hh) (putF "into" (.ref I) [])))))))))) = G := ⟨_, rfl⟩
    rw [eG26] at kp_26 ha_26 xI_26 xZ_26 xHh_26 xu1_26 xe_26 xu2_26 xu3_26 xu4_26 xd_26 xu5_26 xu6_26 xf_26 xu7_26 xu8_26 xb_26 xu9_26 xW_26 xLa_26 xHu_26 ⊢
    exact go Hh e d f b W La Hu G26 ⟨ha_26, xHh_26, xW_26, xLa_26, xHu_26, kp_26, frHh, frW, frLa, frHu, ne_W_Hh, ne_La_W, ne_La_Hh, ne_Hu_W, ne_Hu_La⟩
end
end Kx
set_option linter.all false
namespace Kx
open PySem L2 PySem.Spec PyProof.Rows
abbrev nSet : List Str := ["self", "nodes", "node", "row", "ring"]
def spSet (K : PySem.W.Frag) (C : Addr) : Sp := fun vs H Q _ => ∃ (a dx I J Nd Hh e d f b W La Hu : Addr), vs = [.ref a, .ref Nd] ∧ H a = some (.ins C dx (fs9 I Hh e d f b W La Hu)) ∧ H Hh = some (.lst [.int 0]) ∧ H W = some (.lst [.bl false]) ∧ H La = some (.lst []) ∧ H Hu = some (.lst []) ∧ H I = some (.lst [.ref J]) ∧ H J = some (.lst []) ∧ H Nd = some (.lst [.int 0]) ∧
  W ≠ Hh ∧ La ≠ W ∧ La ≠ Hh ∧ Hu ≠ W ∧ Hu ≠ La ∧ W ≠ I ∧ W ≠ J ∧ W ≠ Nd ∧ La ≠ I ∧ La ≠ J ∧ La ≠ Nd ∧
  ∀ La2 H', H' a = some (.ins C dx (fs9 I Hh e d f b W La2 Hu)) → (∀ x u, H x = some u → x ≠ a → x ≠ W → x ≠ La → H' x = some u) → Q .non H'
structure SbM (K : PySem.W.Frag) (C fW fS : Addr) (fdW fdS : FuncData) : Prop where
  S : Sb K C
  mW : Meth K C "_wait" fW
  Wt : Fun K "_wait" "Settler._wait" sWait fW fdW
  bW : Binds K fdW ["self", "node"] []
  mS : Meth K C "_scan" fS
  Sc : Fun K "_scan" "Settler._scan" sScan fS fdS
  bS : Binds K fdS ["self", "node"] []
section
variable {P : Program} {w : World} {K : PySem.W.Frag} {mg : PySem.Str → Option Value} {base : Heap} {C fW fS : Addr} {fdW fdS : FuncData}
theorem scSet : FnScope nSet ["self", "nodes"] (defScope sSet) := ⟨rfl, rfl, rfl, by decide +kernel, rfl, by decide +kernel, by decide +kernel⟩
theorem ok_set {fw : Addr} {fd : FuncData} (F : Fun K "settle" "Settler.settle" sSet fw fd) (M : SbM K C fW fS fdW fdS) (T : Bx mg) (hub : ∃ k, mg "HUB" = some (.int 100 k)) : FnOk P w K mg base CX0 2 fw fd ["self", "nodes"] (spSet K C) := by
  have GW : FnOk P w K mg base CX0 1 fW fdW ["self", "node"] (spWait K C) := ok_wait M.Wt M.S T hub
  have GS : FnOk P w K mg base CX0 1 fS fdS ["self", "node"] (spScan K C) := ok_scan M.Sc M.S
  refine F.ok scSet (fun vs H Q E h => ?_) (fun cdv A outer s H vs Q E hr h => ?_)
  · obtain ⟨a, dx, I, J, Nd, Hh, e, d, f, b, W, La, Hu, rfl, _⟩ := h
    rfl
  · obtain ⟨a, dx, I, J, Nd, Hh, e, d, f, b, W, La, Hu, rfl, ha, hH, hW, hLa, hHu, hI, hJ, hNd, n1, n2, n3, n4, n5, n6, n7, n8, n9, n10, n11, go⟩ := h
    have cls := M.S.cls
    have nW := M.S.no "waits" (by simp)
    have nL := M.S.no "later" (by simp)
    have nU := M.S.no "hubs" (by simp)
    refine ⟨_, pss_cons (ps_for PassesOwn.never rfl (pi_list (pv 1)) (pg_name (i := 2) scSet.nd rfl (Or.inl rfl)) (pss_one (ps_expr (pe_meth (pv 0) cls M.mW GW hr M.bW .nil pass0 (pa_cons (pv 2) pa_nil)))))
      (pss_cons (ps_while PassesOwn.never (PW.pt (pw_or (pt_truth (pe_fld (pv 0) (by rfl)) (fun _ => rfl)) (pw_or1 (pt_truth (pe_fld (pv 0) (by rfl)) (fun _ => rfl)))))
        (pss_cons (ps_set (i := 3) scSet.nd rfl (Or.inl rfl) (pe_callTy call_list_of (by rfl) T.list (by decide +kernel) (pa_cons (pe_orT (pe_fld (pv 0) (by rfl)) (pe_one (pe_fld (pv 0) (by rfl)))) pa_nil)))
        (pss_cons (ps_if (pt_truth (pe_fld (pv 0) (by rfl)) (fun _ => rfl)) (pss_one (ps_fld (pv 0) (pe_lst pa_nil) (by rfl))) (pss_one ps_dead))
        (pss_one (ps_for PassesOwn.never rfl (pi_list (pv 3)) (pg_name (i := 2) scSet.nd rfl (Or.inl rfl)) (pss_cons (ps_set (i := 4) scSet.nd rfl (Or.inl rfl) (pe_ifExp (pt_val (pe_ix ix_list (pe_fld (pv 0) (by rfl)) (pv 2) (fun _ _ => rfl))) (pe_meth (pv 0) cls M.mS GS hr M.bS .nil pass0 (pa_cons (pv 2) pa_nil)) pe_non))
          (pss_one (ps_if (pt_cmpR op_notN (pv 4) pe_non (nomark _)) (pss_one ps_dead) pss_nil))))))))
      (pss_one (ps_ret pe_non))), ?_⟩
    have aW : a ≠ W := fun z => by rw [z, hW] at ha; cases ha
    have aL : a ≠ La := fun z => by rw [z, hLa] at ha; cases ha
    have aI : I ≠ a := fun z => by rw [z, ha] at hI; cases hI
    have aJ : J ≠ a := fun z => by rw [z, ha] at hJ; cases hJ
    have aH : Hh ≠ a := fun z => by rw [z, ha] at hH; cases hH
    have aU : Hu ≠ a := fun z => by rw [z, ha] at hHu; cases hHu
    obtain ⟨HA, eA⟩ : ∃ G, upd (upd H W (.lst [.bl true])) La (.lst [.int 0]) = G := ⟨_, rfl⟩
    have kA : ∀ x u, H x = some u → x ≠ W → x ≠ La → HA x = some u := fun x u hx z1 z2 => by rw [← eA, upd_ne z2, upd_ne z1]; exact hx
    have haA := kA _ _ ha aW aL
    have hWA : HA W = some (.lst [.bl true]) := by rw [← eA, upd_ne (Ne.symm n2)]; exact upd_same
    have hLA : HA La = some (.lst [.int 0]) := by rw [← eA]; exact upd_same
    have hHA := kA _ _ hH (Ne.symm n1) (Ne.symm n3)
    have hUA := kA _ _ hHu n4 n5
    have hIA := kA _ _ hI (Ne.symm n6) (Ne.symm n9)
    have hJA := kA _ _ hJ (Ne.symm n7) (Ne.symm n10)
    have hNA := kA _ _ hNd (Ne.symm n8) (Ne.symm n11)
    refine ⟨_, rfl, Nd, rfl, ⟨_, SqL.of hNd⟩, ?_⟩
    refine for_list (K := K) (a := Nd) (xs := [V.int 0]) (fun i σ H1 => (∃ o2 : Option V, σ = [some (.ref a), some (.ref Nd), o2, none, none]) ∧ ((i = 0 ∧ H1 = H) ∨ (i = 1 ∧ H1 = HA))) ⟨⟨_, rfl⟩, .inl ⟨rfl, rfl⟩⟩ (fun i σ H1 _ ⟨_, h⟩ => by rcases h with ⟨_, rfl⟩ | ⟨_, rfl⟩; exact SqL.of hNd; exact SqL.of hNA) ?_ ?_
    · rintro i x σ H1 hx ⟨⟨o2, rfl⟩, h⟩
      rcases h with ⟨rfl, rfl⟩ | ⟨rfl, _⟩
      · cases hx
        refine ⟨_, rfl, a, dx, _, rfl, ha, rfl, _, rfl, a, dx, I, J, Hh, e, d, f, b, W, La, Hu, rfl, ha, hW, hLa, hI, hJ, ?_⟩
        exact ⟨⟨_, rfl⟩, .inr ⟨rfl, eA⟩⟩
      · cases hx
    rintro σ H1 ⟨⟨o2, rfl⟩, h⟩
    rcases h with ⟨z, _⟩ | ⟨_, e1⟩
    · cases z
    subst H1
    refine ⟨fun m σ H2 => (∃ o2 o3 o4 : Option V, σ = [some (.ref a), some (.ref Nd), o2, o3, o4]) ∧ ((m = 1 ∧ H2 = HA) ∨ (m = 0 ∧ ∃ La2, H2 a = some (.ins C dx (fs9 I Hh e d f b W La2 Hu)) ∧ H2 La2 = some (.lst []) ∧ H2 Hu = some (.lst []) ∧ ∀ x u, H x = some u → x ≠ a → x ≠ W → x ≠ La → H2 x = some u)), ⟨1, ⟨_, _, _, rfl⟩, .inl ⟨rfl, rfl⟩⟩, ?_⟩
    rintro m σ H2 ⟨⟨o2, o3, o4, rfl⟩, h⟩
    rcases h with ⟨rfl, e2⟩ | ⟨rfl, La2, ha2, hL2, hU2, kp2⟩
    · subst H2
      refine ⟨_, rfl, a, C, dx, _, .ref La, rfl, haA, cls, nL, rfl, true, .inl ⟨_, SqL.of hLA, rfl⟩, iteT (iteT ⟨fun σ' H' => (∃ o2 o3 o4 : Option V, σ' = [some (.ref a), some (.ref Nd), o2, o3, o4]) ∧ ∃ La2, H' a = some (.ins C dx (fs9 I Hh e d f b W La2 Hu)) ∧ H' La2 = some (.lst []) ∧ H' Hu = some (.lst []) ∧ ∀ x u, H x = some u → x ≠ a → x ≠ W → x ≠ La → H' x = some u, fun σ' H' z => ⟨0, by decide, z.1, .inr ⟨rfl, z.2⟩⟩, ?_⟩)⟩
      refine ⟨_, rfl, a, C, dx, _, .ref La, rfl, haA, cls, nL, rfl, true, .inl ⟨_, SqL.of hLA, rfl⟩, iteT ⟨La, _, rfl, .inl (SqL.of hLA), fun r hr' => ?_⟩⟩
      have s1 := new_same (o := .lst [V.int 0]) hr'
      have gr : (upd HA r (.lst [V.int 0])) r = some (.lst [V.int 0]) := upd_same
      have ra : r ≠ a := fun z => by rw [z, haA] at hr'; cases hr'
      have rW : r ≠ W := fun z => by rw [z, hWA] at hr'; cases hr'
      obtain ⟨HB, eB⟩ : ∃ G, upd HA r (.lst [V.int 0]) = G := ⟨_, rfl⟩
      rw [eB] at s1 gr ⊢
      refine ⟨_, rfl, a, C, dx, _, .ref La, rfl, s1 _ _ haA, cls, nL, rfl, true, .inl ⟨_, SqL.of (s1 _ _ hLA), rfl⟩, iteT ?_⟩
      refine ⟨le_sz (Nat.le_of_ble_eq_true rfl), fun La2 hL2 => ⟨_, rfl, a, C, dx, _, rfl, new_same hL2 _ _ (s1 _ _ haA), cls, nL, (by show 9 < 1000; decide), ?_⟩⟩
      have s2 := s1.trans (new_same (o := .lst []) hL2)
      have l2a : La2 ≠ a := fun z => by rw [z, s1 _ _ haA] at hL2; cases hL2
      have l2W : La2 ≠ W := fun z => by rw [z, s1 _ _ hWA] at hL2; cases hL2
      have l2r : La2 ≠ r := fun z => by rw [z, gr] at hL2; cases hL2
      have haC : (upd (upd HB La2 (.lst [])) a (.ins C dx (fs9 I Hh e d f b W La2 Hu))) a = some (.ins C dx (fs9 I Hh e d f b W La2 Hu)) := upd_same
      have kC : ∀ x u, HA x = some u → x ≠ a → (upd (upd HB La2 (.lst [])) a (.ins C dx (fs9 I Hh e d f b W La2 Hu))) x = some u := fun x u hx z => (upd_ne z).trans (s2 _ _ hx)
      have grC : (upd (upd HB La2 (.lst [])) a (.ins C dx (fs9 I Hh e d f b W La2 Hu))) r = some (.lst [V.int 0]) := (upd_ne ra).trans ((upd_ne (Ne.symm l2r)).trans gr)
      have gLC : (upd (upd HB La2 (.lst [])) a (.ins C dx (fs9 I Hh e d f b W La2 Hu))) La2 = some (.lst []) := (upd_ne l2a).trans upd_same
      rw [show putF "later" (.ref La2) (fs9 I Hh e d f b W La Hu) = fs9 I Hh e d f b W La2 Hu from rfl]
      obtain ⟨HC, eC⟩ : ∃ G, upd (upd HB La2 (.lst [])) a (.ins C dx (fs9 I Hh e d f b W La2 Hu)) = G := ⟨_, rfl⟩
      rw [eC] at haC kC grC gLC ⊢
      have Wa : W ≠ a := Ne.symm aW
      have hWC := kC _ _ hWA Wa
      have hHC := kC _ _ hHA aH
      have hIC := kC _ _ hIA aI
      have hJC := kC _ _ hJA aJ
      have hUC := kC _ _ hUA aU
      obtain ⟨HD, eD⟩ : ∃ G, upd HC W (.lst [.bl false]) = G := ⟨_, rfl⟩
      have kD : ∀ x u, HC x = some u → x ≠ W → HD x = some u := fun x u hx z => by rw [← eD, upd_ne z]; exact hx
      refine ⟨_, rfl, r, rfl, ⟨_, SqL.of grC⟩, ?_⟩
      refine for_list (K := K) (a := r) (xs := [V.int 0]) (fun i σ H3 => (∃ o2 o4 : Option V, σ = [some (.ref a), some (.ref Nd), o2, some (.ref r), o4]) ∧ ((i = 0 ∧ H3 = HC) ∨ (i = 1 ∧ H3 = HD))) ⟨⟨_, _, rfl⟩, .inl ⟨rfl, rfl⟩⟩ (fun i σ H3 _ ⟨_, h⟩ => by rcases h with ⟨_, rfl⟩ | ⟨_, rfl⟩; exact SqL.of grC; exact SqL.of (kD _ _ grC rW)) ?_ ?_
      · rintro i x σ H3 hx ⟨⟨o2, o4, rfl⟩, h⟩
        rcases h with ⟨rfl, rfl⟩ | ⟨rfl, _⟩
        · cases hx
          refine ⟨_, rfl, a, C, dx, _, .ref W, rfl, haC, cls, nW, rfl, _, rfl, W, _, 0, .bl true, rfl, rfl, SqL.of hWC, rfl, _, rfl, iteT ?_⟩
          refine ⟨_, rfl, a, dx, _, rfl, haC, rfl, _, rfl, a, dx, I, J, Hh, e, d, f, b, W, La2, Hu, rfl, haC, hWC, hHC, hIC, hJC, n6, n7, n1, ?_⟩
          refine ⟨_, rfl, rfl, _, rfl, iteF ?_⟩
          exact ⟨⟨_, _, rfl⟩, .inr ⟨rfl, eD⟩⟩
        · cases hx
      · rintro σ H3 ⟨⟨o2, o4, rfl⟩, h⟩
        rcases h with ⟨z, _⟩ | ⟨_, rfl⟩
        · cases z
        refine ⟨⟨_, _, _, rfl⟩, La2, kD _ _ haC aW, kD _ _ gLC l2W, kD _ _ hUC n4, fun x u hx z1 z2 z3 => kD _ _ (kC _ _ (kA _ _ hx z2 z3) z1) z2⟩
    · refine ⟨_, rfl, a, C, dx, _, .ref La2, rfl, ha2, cls, nL, rfl, false, .inl ⟨_, SqL.of hL2, rfl⟩, iteF ⟨_, rfl, a, C, dx, _, .ref Hu, rfl, ha2, cls, nU, rfl, false, .inl ⟨_, SqL.of hU2, rfl⟩, iteF ?_⟩⟩
      exact go La2 H2 ha2 kp2
end
end Kx
set_option linter.all false
namespace Kx
open PySem L2 PySem.Spec PyProof.Rows
theorem pt_dead {X : Cx} {e : Expr} : PT X e (fun _ _ _ => False) := ⟨fun _ _ _ _ _ _ h => h.elim⟩
abbrev sRin : Stmt := inClass (top 9) 0
abbrev sSrc : Stmt := inClass (top 22) 5
abbrev sNmd : Stmt := inClass (top 22) 9
structure Rb (K : PySem.W.Frag) (C : Addr) : Prop where
  cls : Cls K C
  no : ∀ x ∈ ([("into" : Str), "heights", "wanted", "lengths", "edges", "known"] : List Str), NoAttr K C x
def spRin (K : PySem.W.Frag) (C : Addr) : Sp := fun vs H Q _ => ∃ (a dx : Addr) (x y z : V), vs = [.ref a, x, y, z] ∧ H a = some (.ins C dx []) ∧ ∀ H', KeepB a H H' → Q .non H'
def spSrc (K : PySem.W.Frag) (C : Addr) : Sp := fun vs H Q _ => ∃ (a dx L Nn Ch I J : Addr) (n : Nat), vs = [.ref a] ∧ Pok K H n a C dx L Nn Ch I J ∧ ∀ p, H p = none → Q (.ref p) (upd H p (.dK []))
def spNmd (K : PySem.W.Frag) (C : Addr) : Sp := fun vs H Q _ => ∃ (a dx L Nn Ch I J Hh : Addr) (n : Nat), vs = [.ref a, .ref Hh] ∧ Pok K H n a C dx L Nn Ch I J ∧ H Hh = some (.lst [.int 0]) ∧ ∀ u H', Q u H'
section
variable {P : Program} {w : World} {K : PySem.W.Frag} {mg : PySem.Str → Option Value} {base : Heap} {C : Addr}
theorem scRin : FnScope ["self", "into", "heights", "wanted"] ["self", "into", "heights", "wanted"] (defScope sRin) := ⟨rfl, rfl, rfl, by decide +kernel, rfl, by decide +kernel, by decide +kernel⟩
theorem ok_rin {fw : Addr} {fd : FuncData} (F : Fun K "__init__" "Roads.__init__" sRin fw fd) (M : Rb K C) : FnOk P w K mg base CX0 1 fw fd ["self", "into", "heights", "wanted"] (spRin K C) := by
  refine F.ok scRin (fun vs H Q E h => ?_) (fun cdv A outer s H vs Q E hr h => ?_)
  · obtain ⟨a, dx, x, y, z, rfl, _⟩ := h
    rfl
  · obtain ⟨a, dx, x, y, z, rfl, ha, q⟩ := h
    have cls := M.cls
    have n0 := M.no "into" (by simp)
    have n1 := M.no "heights" (by simp)
    have n2 := M.no "wanted" (by simp)
    have n3 := M.no "lengths" (by simp)
    have n4 := M.no "edges" (by simp)
    have n5 := M.no "known" (by simp)
    refine ⟨_, pss_cons (ps_fld (pv 0) (pv 1) (by rfl)) (pss_cons (ps_fld (pv 0) (pv 2) (by rfl)) (pss_cons (ps_fld (pv 0) (pv 3) (by rfl)) (pss_cons (ps_fld (pv 0) pe_dnewK (by rfl)) (pss_cons (ps_fld (pv 0) pe_dnewK (by rfl)) (pss_one (ps_fld (pv 0) pe_dnewK (by rfl))))))), ?_⟩
    refine ⟨_, rfl, _, rfl, a, C, dx, _, rfl, ha, cls, n0, (by show 0 < 1000; decide), ?_⟩
    refine ⟨_, rfl, _, rfl, a, C, dx, _, rfl, upd_same, cls, n1, (by show 1 < 1000; decide), ?_⟩
    refine ⟨_, rfl, _, rfl, a, C, dx, _, rfl, upd_same, cls, n2, (by show 2 < 1000; decide), fun u1 h1 => ?_⟩
    refine ⟨_, rfl, a, C, dx, _, rfl, new_same h1 _ _ upd_same, cls, n3, (by show 3 < 1000; decide), fun u2 h2 => ?_⟩
    refine ⟨_, rfl, a, C, dx, _, rfl, new_same h2 _ _ upd_same, cls, n4, (by show 4 < 1000; decide), fun u3 h3 => ?_⟩
    refine ⟨_, rfl, a, C, dx, _, rfl, new_same h3 _ _ upd_same, cls, n5, (by show 5 < 1000; decide), ?_⟩
    exact q _ ((((((KeepB.at.trans KeepB.at).trans KeepB.at).trans (KeepB.of (new_same h1))).trans KeepB.at).trans ((KeepB.of (new_same h2)).trans KeepB.at)).trans ((KeepB.of (new_same h3)).trans KeepB.at))
theorem scSrc : FnScope ["self", "found", "index", "_", "right"] ["self"] (defScope sSrc) := ⟨rfl, rfl, rfl, by decide +kernel, rfl, by decide +kernel, by decide +kernel⟩
theorem ok_src {fw : Addr} {fd : FuncData} (F : Fun K "_sources" "Problem._sources" sSrc fw fd) (M : Pb K C) : FnOk P w K mg base CX0 1 fw fd ["self"] (spSrc K C) := by
  refine F.ok scSrc (fun vs H Q E h => ?_) (fun cdv A outer s H vs Q E hr h => ?_)
  · obtain ⟨a, dx, L, Nn, Ch, I, J, n, rfl, _⟩ := h
    rfl
  · obtain ⟨a, dx, L, Nn, Ch, I, J, n, rfl, h, q⟩ := h
    refine ⟨_, pss_cons (ps_set (i := 1) scSrc.nd rfl (Or.inl rfl) pe_dnewK) (pss_cons (ps_for PassesOwn.never rfl (pi_list (pe_fld (pv 0) (by rfl))) (pg_name (i := 2) scSrc.nd rfl (Or.inl rfl)) (pss_one ps_dead)) (pss_one (ps_ret (pv 1)))), ?_⟩
    refine fun p hp => ?_
    have s := new_same (o := .dK []) hp
    have hC := s _ _ h.hC
    refine ⟨_, rfl, a, C, dx, _, .ref Ch, rfl, s _ _ h.ha, M.cls, M.no "choices" (by simp), rfl, Ch, rfl, ⟨_, SqL.of hC⟩, ?_⟩
    refine for_list (K := K) (a := Ch) (xs := []) (tb := fun _ _ _ => False) (fun i σ H2 => σ = [some (.ref a), some (.ref p), none, none, none] ∧ H2 = upd H p (.dK [])) ⟨rfl, rfl⟩ (fun i σ H2 _ h => by rw [h.2]; exact SqL.of hC) ?_ ?_
    · rintro i x σ H2 hx _
      cases hx
    · rintro σ H2 ⟨rfl, rfl⟩
      exact ⟨_, rfl, q p hp⟩
abbrev nNmd : List Str := ["self", "heights", "low", "term", "node"]
theorem scNmd : FnScope nNmd ["self", "heights"] (defScope sNmd) := ⟨rfl, rfl, rfl, by decide +kernel, rfl, by decide +kernel, by decide +kernel⟩
theorem ok_nmd {fw : Addr} {fd : FuncData} (F : Fun K "_named" "Problem._named" sNmd fw fd) (M : Pb K C) : FnOk P w K mg base CX0 1 fw fd ["self", "heights"] (spNmd K C) := by
  refine F.ok scNmd (fun vs H Q E h => ?_) (fun cdv A outer s H vs Q E hr h => ?_)
  · obtain ⟨a, dx, L, Nn, Ch, I, J, Hh, n, rfl, _⟩ := h
    rfl
  · obtain ⟨a, dx, L, Nn, Ch, I, J, Hh, n, rfl, h, hH, q⟩ := h
    have hu : (cxOf CX0 P w K mg base nNmd "Problem._named" (defScope sNmd) fw cdv A outer s H E).nox.A.units + 1 < cLine := hu_of hr
    refine ⟨_, pss_cons (ps_set (i := 2) scNmd.nd rfl (Or.inr rfl) (pe_ifExp (pt_cmp (pc_din hu pe_str (pe_fld (pv 0) (by rfl))) (by with_unfolding_all rfl)) pe_dead pe_int))
      (pss_one (ps_ret (pe_lock (pe_dc (own := [("term", 3), ("node", 4)]) (g := gTup K 2 (gCons (gName 3) (gCons (gName 4) gNil))) (tt := tTest (tOp rNe (tVar 3) (tC (.str "")))) (tk := tVar 3) (tv := tOp (rI0 fun i j => V.int (i - j)) (tOp (rIxL K) (tVar 1) (tVar 4)) (tVar 2)) rfl scNmd.nd (pi_items (pe_fld (pv 0) (by rfl))) (blkOk_by (N := nNmd) (sc := defScope sNmd) (by decide +kernel))
        (fun _ _ _ _ _ => pg_tup rfl (pgs_cons (pg_name (i := 3) scNmd.nd rfl (Or.inl rfl)) (pgs_cons (pg_name (i := 4) scNmd.nd rfl (Or.inl rfl)) pgs_nil)))
        (fun _ _ _ _ _ => pts_one (pt_cmpR op_ne (pv 3) pe_str (nomark _))) (fun _ _ _ _ _ => pv 3) (fun _ _ _ _ _ => pe_op op_sub (pe_ix ix_list (pv 1) (pv 4) (fun _ _ => rfl)) (pv 2)))))), ?_⟩
    have nn := M.no "nodes" (by simp)
    have dg : DGet H Nn (.str "") none := DGet.k (k := .inr "") h.hN
    refine ⟨_, rfl, a, C, dx, _, .ref Nn, rfl, h.ha, M.cls, nn, rfl, Nn, none, rfl, dg, _, rfl, iteF ?_⟩
    refine ⟨Nn, _, h.hN, trivial, fun od => ?_⟩
    have naN : a ≠ Nn := fun z => by have := h.ha; rw [z, h.hN] at this; cases this
    have nHN : Hh ≠ Nn := fun z => by rw [z, h.hN] at hH; cases hH
    have hN6 : (upd H Nn (.frz od (.dK nx0))) Nn = some (.frz od (.dK nx0)) := upd_same
    have ha6 : (upd H Nn (.frz od (.dK nx0))) a = some (.ins C dx (fs4 L Nn Ch I)) := (upd_ne naN).trans h.ha
    have hH6 : (upd H Nn (.frz od (.dK nx0))) Hh = some (.lst [.int 0]) := (upd_ne nHN).trans hH
    obtain ⟨H6, eH6⟩ : ∃ G, upd H Nn (.frz od (.dK nx0)) = G := ⟨_, rfl⟩
    rw [eH6] at hN6 ha6 hH6 ⊢
    refine ⟨_, rfl, a, C, dx, _, .ref Nn, rfl, ha6, M.cls, nn, rfl, Nn, od, nx0, rfl, hN6, fun D hD => ?_⟩
    have nND : Nn ≠ D := fun z => by rw [← z, hN6] at hD; cases hD
    have nHD : Hh ≠ D := fun z => by rw [← z, hH6] at hD; cases hD
    refine ⟨fun i m H7 => (H7 Nn = some (.frz od (.dK nx0)) ∧ H7 Hh = some (.lst [.int 0]) ∧ H7 D = some (.dK (if i = 0 then [] else nx0))) ∧ i ≤ 1 ∧ m = 1 - i, ⟨1, ⟨(upd_ne nND).trans hN6, (upd_ne nHD).trans hH6, upd_same⟩, by decide, rfl⟩, ?_⟩
    rintro i m H7 ⟨⟨g1, g2, g3⟩, hi, rfl⟩
    rcases Nat.lt_or_eq_of_le hi with hi | rfl
    · have i0 : i = 0 := by omega
      subst i0
      refine .inr ⟨⟨g1, by decide⟩, fun H8 => (H8 Nn = some (.frz od (.dK nx0)) ∧ H8 Hh = some (.lst [.int 0]) ∧ H8 D = some (.dK nx0)), fun H8 z => ⟨0, by decide, z, by decide, rfl⟩, ?_⟩
      rintro x H8 ⟨T, k, v, hk, rfl, hT, rfl⟩
      cases hk
      have s8 := new_same (o := .tup [V.str "x", .int 0]) hT
      refine ⟨T, _, rfl, SqT.of upd_same, rfl, _, _, rfl, _, _, rfl, rfl, rfl, ?_⟩
      refine ⟨_, rfl, rfl, _, rfl, ?_⟩
      have g2' := s8 _ _ g2
      have g3' := s8 _ _ g3
      refine iteT ⟨_, rfl, _, rfl, _, rfl, Hh, _, 0, .int 0, rfl, rfl, SqL.of g2', rfl, _, rfl, _, _, rfl, rfl, [], .inr "x", rfl, g3', (by rw [sizeLine_eq]; decide), ?_⟩
      exact ⟨(upd_ne nND).trans (s8 _ _ g1), (upd_ne nHD).trans g2', upd_same⟩
    · exact .inl ⟨⟨g1, by decide⟩, g1, q _ _⟩
end
end Kx
set_option linter.all false
namespace Kx
open PySem L2 PySem.Spec PyProof.Rows
abbrev sCho : Stmt := inClass (top 22) 4
abbrev sAns : Stmt := inClass (top 22) 3
abbrev sDec : Stmt := top 28
abbrev nCho : List Str := ["self", "settled", "roads", "looked", "heights", "wrong", "search", "picked", "index"]
theorem same_make {x dx C : Addr} {H H' : Hp} (nx : H x = none) (ndx : H dx = none) (k : KeepB x (upd (upd H dx (.own x)) x (.ins C dx [])) H') : Same H H' := fun b u e => by
  have hb : b ≠ x := fun z => by rw [z, nx] at e; cases e
  have hd : b ≠ dx := fun z => by rw [z, ndx] at e; cases e
  exact k b u hb (by rw [upd_ne hb, upd_ne hd]; exact e)
theorem Pok.same {K : PySem.W.Frag} {H H' : Hp} {n : Nat} {a C dx L Nn Ch I J : Addr} (s : Same H H') (h : Pok K H n a C dx L Nn Ch I J) : Pok K H' n a C dx L Nn Ch I J := ⟨s _ _ h.ha, s _ _ h.hN, s _ _ h.hC, s _ _ h.hI, s _ _ h.hJ⟩
/-- the classes and methods on the way -/
structure Way (K : PySem.W.Frag) (mg : PySem.Str → Option Value) (C CS CR fE fP fW fS : Addr) (fdE fdP fdW fdS : FuncData) : Prop where
  P : PbM K C fE fP fdE fdP
  S : SbM K CS fW fS fdW fdS
  R : Rb K CR
  T : Bx mg
  rng : mg "range" = none
  hub : ∃ k, mg "HUB" = some (.int 100 k)
  gP : mg "Problem" = some (.ref C)
  gS : mg "Settler" = some (.ref CS)
  gR : mg "Roads" = some (.ref CR)
  iP : ∃ f fd, Mk K C f ∧ Fun K "__init__" "Problem.__init__" sPin f fd ∧ Binds K fd ["self", "clauses"] []
  iS : ∃ f fd, Mk K CS f ∧ Fun K "__init__" "Settler.__init__" sSin f fd ∧ Binds K fd ["self", "into", "heights"] []
  iR : ∃ f fd, Mk K CR f ∧ Fun K "__init__" "Roads.__init__" sRin f fd ∧ Binds K fd ["self", "into", "heights", "wanted"] []
  set : ∃ f fd, Meth K CS "settle" f ∧ Fun K "settle" "Settler.settle" sSet f fd ∧ Binds K fd ["self", "nodes"] []
  src : ∃ f fd, Meth K C "_sources" f ∧ Fun K "_sources" "Problem._sources" sSrc f fd ∧ Binds K fd ["self"] []
  nmd : ∃ f fd, Meth K C "_named" f ∧ Fun K "_named" "Problem._named" sNmd f fd ∧ Binds K fd ["self", "heights"] []
  cho : ∃ f fd, Meth K C "_choose" f ∧ Fun K "_choose" "Problem._choose" sCho f fd ∧ Binds K fd ["self", "settled"] []
  ans : ∃ f fd, Meth K C "answer" f ∧ Fun K "answer" "Problem.answer" sAns f fd ∧ Binds K fd ["self"] []
def spAns (K : PySem.W.Frag) (C : Addr) : Sp := fun vs H Q _ => ∃ (a dx L Nn Ch I J : Addr) (n : Nat), vs = [.ref a] ∧ Pok K H n a C dx L Nn Ch I J ∧ ∀ u H', Q u H'
section
variable {P : Program} {w : World} {K : PySem.W.Frag} {mg : PySem.Str → Option Value} {base : Heap} {C CS CR fE fP fW fS : Addr} {fdE fdP fdW fdS : FuncData}
theorem scCho : FnScope nCho ["self", "settled"] (defScope sCho) := ⟨rfl, rfl, rfl, by decide +kernel, rfl, by decide +kernel, by decide +kernel⟩
theorem ok_cho {fw : Addr} {fd : FuncData} (F : Fun K "_choose" "Problem._choose" sCho fw fd) (M : Way K mg C CS CR fE fP fW fS fdE fdP fdW fdS) : FnOk P w K mg base CX0 3 fw fd ["self", "settled"] (spNmd K C) := by
  obtain ⟨fr, fdr, mkR, FR, bR⟩ := M.iR
  obtain ⟨fs, fds, mS, FS, bS⟩ := M.src
  obtain ⟨fn, fdn, mN, FN, bN⟩ := M.nmd
  have GR : FnOk P w K mg base CX0 1 fr fdr ["self", "into", "heights", "wanted"] (spRin K CR) := ok_rin FR M.R
  have GS : FnOk P w K mg base CX0 1 fs fds ["self"] (spSrc K C) := ok_src FS M.P.P
  have GN : FnOk P w K mg base CX0 1 fn fdn ["self", "heights"] (spNmd K C) := ok_nmd FN M.P.P
  refine F.ok scCho (fun vs H Q E h => ?_) (fun cdv A outer s H vs Q E hr h => ?_)
  · obtain ⟨a, dx, L, Nn, Ch, I, J, Hh, n, rfl, _⟩ := h
    rfl
  · obtain ⟨a, dx, L, Nn, Ch, I, J, Hh, n, rfl, h, hH, q⟩ := h
    have hr1 : Room 1 (A.deeper (envOfC "Problem._choose" (defScope sCho) s.heap.objs.size fw cdv)) := hr.mono (by decide)
    have cls := M.P.P.cls
    have ni := M.P.P.no "into" (by simp)
    have nch := M.P.P.no "choices" (by simp)
    refine ⟨_, pss_cons (ps_set (i := 2) scCho.nd rfl (Or.inl rfl) (pe_make mkR GR hr (by rfl) M.gR bR .nil pass0 (pa_cons (pe_fld (pv 0) (by rfl)) (pa_cons (pv 1) (pa_cons (pe_meth0 (pv 0) cls mS GS hr1 bS .nil pass0) pa_nil)))))
      (pss_cons (ps_set (i := 3) scCho.nd rfl (Or.inl rfl) (pe_lst pa_nil)) (pss_cons (ps_set (i := 4) scCho.nd rfl (Or.inr rfl) (pv 1))
      (pss_one (ps_while PassesOwn.never (pt_val pe_bl) (pss_cons (ps_setLc (i := 5) (own := [("index", 8)]) (g := gName 8) (tt := fun _ _ _ => False) (te := fun _ _ _ => False) rfl scCho.nd rfl rfl (sw_true rfl rfl rfl rfl) (pi_list (pe_fld (pv 0) (by rfl))) (blkOk_by (N := nCho) (sc := defScope sCho) (by decide +kernel)) (fun _ _ _ _ _ => pg_name (i := 8) scCho.nd rfl (Or.inl rfl)) (fun _ _ _ _ _ => pts_one pt_dead) (fun _ _ _ _ _ => pe_dead))
        (pss_cons (ps_if (pt_not (pt_truth (pv 5) (fun _ => rfl))) (pss_one (ps_ret (pe_tup (pa_cons pe_str (pa_cons (pe_meth (pv 0) cls mN GN hr1 bN .nil pass0 (pa_cons (pv 4) pa_nil)) pa_nil))))) pss_nil)
        (pss_cons ps_dead (pss_cons ps_dead (pss_cons ps_dead (pss_cons ps_dead (pss_one ps_dead))))))))))), ?_⟩
    refine ⟨_, rfl, a, C, dx, _, .ref I, rfl, h.ha, cls, ni, rfl, _, rfl, _, rfl, a, dx, _, rfl, h.ha, rfl, a, dx, L, Nn, Ch, I, J, n, rfl, h, fun p hp => fun x dx' nx ndx nex => ?_⟩
    refine ⟨x, dx', .ref I, .ref Hh, .ref p, rfl, upd_same, fun H2 k2 => ⟨rfl, ?_⟩⟩
    have s2 : Same H H2 := (new_same hp).trans (same_make nx ndx k2)
    refine ⟨le_sz (Nat.le_of_ble_eq_true rfl), fun lk hlk => ⟨_, rfl, ?_⟩⟩
    have s3 := s2.trans (new_same (o := .lst []) hlk)
    have h3 := h.same s3
    have hH3 := s3 _ _ hH
    obtain ⟨H3, eH3⟩ : ∃ G, upd H2 lk (.lst []) = G := ⟨_, rfl⟩
    rw [eH3] at h3 hH3 ⊢
    refine ⟨fun m σ H4 => σ = [some (.ref a), some (.ref Hh), some (.ref x), some (.ref lk), some (.ref Hh), none, none, none, none] ∧ H4 = H3, ⟨0, rfl, rfl⟩, ?_⟩
    rintro m σ H4 ⟨rfl, rfl⟩
    refine ⟨_, rfl, iteT ⟨fun _ _ => False, fun _ _ z => z.elim, ?_⟩⟩
    refine ⟨_, rfl, a, C, dx, _, .ref Ch, rfl, h3.ha, cls, nch, rfl, Ch, rfl, ⟨_, SqL.of h3.hC⟩, fun D hD => ?_⟩
    refine lc_it (g := gName 8) (vs := [8]) (σ := [some (.ref a), some (.ref Hh), some (.ref x), some (.ref lk), some (.ref Hh), none, none, none, none]) (tt := fun _ _ _ => False) (te := fun _ _ _ => False) (walk_list (K := K) (a := Ch) (xs := [])) (fun i H5 => H5 = upd H4 D (.lst [])) rfl (fun i H5 _ e => by rw [e]; exact SqL.of (new_same hD _ _ h3.hC)) ?_ ?_
    · rintro i x H5 H6 hi _ _
      exact absurd hi (Nat.not_lt_zero i)
    · rintro H5 rfl
      have s5 := new_same (o := .lst []) hD
      refine ⟨_, rfl, false, .inl ⟨_, SqL.of upd_same, rfl⟩, iteT ?_⟩
      refine ⟨_, rfl, a, dx, _, rfl, s5 _ _ h3.ha, rfl, _, rfl, a, dx, L, Nn, Ch, I, J, Hh, n, rfl, h3.same s5, s5 _ _ hH3, fun u H6 => ⟨le_sz (Nat.le_of_ble_eq_true rfl), fun t ht => q _ _⟩⟩
theorem scAns : FnScope ["self", "settler", "ring"] ["self"] (defScope sAns) := ⟨rfl, rfl, rfl, by decide +kernel, rfl, by decide +kernel, by decide +kernel⟩
theorem ok_ans {fw : Addr} {fd : FuncData} (F : Fun K "answer" "Problem.answer" sAns fw fd) (M : Way K mg C CS CR fE fP fW fS fdE fdP fdW fdS) : FnOk P w K mg base CX0 4 fw fd ["self"] (spAns K C) := by
  obtain ⟨fi, fdi, mkS, FI, bI⟩ := M.iS
  obtain ⟨fs, fds, mS, FS, bS⟩ := M.set
  obtain ⟨fn, fdn, mN, FN, bN⟩ := M.cho
  have T := M.T
  have GI : FnOk P w K mg base CX0 1 fi fdi ["self", "into", "heights"] (spSin K CS) := ok_sin FI M.S.S T M.rng
  have GS : FnOk P w K mg base CX0 2 fs fds ["self", "nodes"] (spSet K CS) := ok_set FS M.S T M.hub
  have GN : FnOk P w K mg base CX0 3 fn fdn ["self", "settled"] (spNmd K C) := ok_cho FN M
  refine F.ok scAns (fun vs H Q E h => ?_) (fun cdv A outer s H vs Q E hr h => ?_)
  · obtain ⟨a, dx, L, Nn, Ch, I, J, n, rfl, _⟩ := h
    rfl
  · obtain ⟨a, dx, L, Nn, Ch, I, J, n, rfl, h, q⟩ := h
    have hr2 : Room 2 (A.deeper (envOfC "Problem.answer" (defScope sAns) s.heap.objs.size fw cdv)) := hr.mono (by decide)
    have cls := M.P.P.cls
    have ni := M.P.P.no "into" (by simp)
    have clsS := M.S.S.cls
    have nh := M.S.S.no "heights" (by simp)
    refine ⟨_, pss_cons (ps_set (i := 1) scAns.nd rfl (Or.inl rfl) (pe_make mkS GI hr2 (by rfl) M.gS bI .nil pass0 (pa_cons (pe_fld (pv 0) (by rfl)) (pa_cons (pe_op op_rep (pe_lst (pa_cons pe_int pa_nil)) (pe_callB call_len_seq (by rfl) T.len PySem.boot_len (pa_cons (pe_fld (pv 0) (by rfl)) pa_nil))) pa_nil))))
      (pss_cons (ps_set (i := 2) scAns.nd rfl (Or.inl rfl) (pe_meth (pv 1) clsS mS GS hr2 bS .nil pass0 (pa_cons (pe_listRg rfl (by rfl) T.list (prg_1 (by rfl) M.rng (pe_callB call_len_seq (by rfl) T.len PySem.boot_len (pa_cons (pe_fld (pv 0) (by rfl)) pa_nil)))) pa_nil)))
      (pss_cons (ps_if (pt_cmpR op_notN (pv 2) pe_non (nomark _)) (pss_one ps_dead) pss_nil)
      (pss_one (ps_ret (pe_meth (pv 0) cls mN GN hr bN .nil pass0 (pa_cons (pe_fld (pv 1) (by rfl)) pa_nil)))))), ?_⟩
    refine ⟨_, rfl, a, C, dx, _, .ref I, rfl, h.ha, cls, ni, rfl, le_sz (Nat.le_of_ble_eq_true rfl), fun u1 hu1 => ?_⟩
    have s1 := new_same (o := .lst [V.int 0]) hu1
    have g1 : (upd H u1 (.lst [V.int 0])) u1 = some (.lst [V.int 0]) := upd_same
    obtain ⟨H1, eH1⟩ : ∃ G, upd H u1 (.lst [V.int 0]) = G := ⟨_, rfl⟩
    rw [eH1] at s1 g1 ⊢
    have h1 := h.same s1
    refine ⟨_, rfl, a, C, dx, _, .ref I, rfl, h1.ha, cls, ni, rfl, I, _, rfl, .inl (SqL.of h1.hI), u1, 1, [.int 0], rfl, rfl, g1, by decide, by decide, (by rw [sizeLine_eq]; show 1 * 1 ≤ 16777216; decide), fun Z hZ => fun x dx' nx ndx nex => ?_⟩
    have s2 := new_same (o := .lst [V.int 0]) hZ
    have gZ : (upd H1 Z (.lst [V.int 0])) Z = some (.lst [V.int 0]) := upd_same
    have eZ : upd H1 Z (.lst (List.replicate (Int.toNat 1) [V.int 0]).flatten) = upd H1 Z (.lst [V.int 0]) := rfl
    rw [eZ] at nx ndx ⊢
    have h2 := h1.same s2
    obtain ⟨H2, eH2⟩ : ∃ G, upd H1 Z (.lst [V.int 0]) = G := ⟨_, rfl⟩
    rw [eH2] at s2 gZ h2 nx ndx ⊢
    have sm : Same H2 (upd (upd H2 dx' (.own x)) x (.ins CS dx' [])) := same_make nx ndx fun _ _ _ z => z
    refine ⟨x, dx', I, J, Z, rfl, upd_same, sm _ _ h2.hI, sm _ _ gZ, fun Hh e d f b W La Hu H5 sk => ⟨rfl, ?_⟩⟩
    have s5 : Same H2 H5 := same_make nx ndx sk.kp
    have h5 := h2.same s5
    refine ⟨_, rfl, x, dx', _, rfl, sk.ha, rfl, _, rfl, a, C, dx, _, .ref I, rfl, h5.ha, cls, ni, rfl, I, _, rfl, .inl (SqL.of h5.hI), 1, rfl, RgOk.of_le (by decide) (by decide) (by decide) (by decide), fun Nd hNd => ?_⟩
    have s6 := new_same (o := .lst (rgV 0 1)) hNd
    have h6 := h5.same s6
    have gNd : (upd H5 Nd (.lst (rgV 0 1))) Nd = some (.lst [.int 0]) := upd_same
    have neN : ∀ {y : Addr} {o : HO}, H5 y = some o → y ≠ Nd := fun {y o} e z => by rw [z, hNd] at e; cases e
    have frW : ∀ {y : Addr} {o : HO}, H2 y = some o → y ≠ W := fun {y o} e z => by have := sm _ _ e; rw [z, sk.nW] at this; cases this
    have frL : ∀ {y : Addr} {o : HO}, H2 y = some o → y ≠ La := fun {y o} e z => by have := sm _ _ e; rw [z, sk.nL] at this; cases this
    have frx : ∀ {y : Addr} {o : HO}, H2 y = some o → y ≠ x := fun {y o} e z => by rw [z, nx] at e; cases e
    refine ⟨x, dx', I, J, Nd, Hh, e, d, f, b, W, La, Hu, rfl, s6 _ _ sk.ha, s6 _ _ sk.hH, s6 _ _ sk.hW, s6 _ _ sk.hL, s6 _ _ sk.hU, h6.hI, h6.hJ, gNd, sk.WH, sk.LW, sk.LH, sk.UW, sk.UL, (frW h2.hI).symm, (frW h2.hJ).symm, neN sk.hW, (frL h2.hI).symm, (frL h2.hJ).symm, neN sk.hL, fun La2 H7 ha7 k7 => ?_⟩
    have s7 : Same H2 H7 := fun y u z => k7 y u (s6 _ _ (s5 _ _ z)) (frx z) (frW z) (frL z)
    have h7 := h2.same s7
    have xH : Hh ≠ x := fun z => by have := sk.hH; rw [z, sk.ha] at this; cases this
    have hH7 := k7 _ _ (s6 _ _ sk.hH) xH (Ne.symm sk.WH) (Ne.symm sk.LH)
    refine ⟨_, rfl, rfl, _, rfl, iteF ?_⟩
    exact ⟨_, rfl, a, dx, _, rfl, h7.ha, rfl, _, rfl, x, CS, dx', _, .ref Hh, rfl, ha7, clsS, nh, rfl, a, dx, L, Nn, Ch, I, J, Hh, n, rfl, h7, hH7, q⟩
/-- decide: refused, or the twenty thousand equal ones -/
def spDec (K : PySem.W.Frag) (CB : Addr) : Sp := fun vs H Q E => ∃ v : V, vs = [v] ∧ ((∃ i, Refd K H v i ∧ ∀ H', Same H H' → refusal CB E H' i) ∨ (∃ (L c t : Addr) (n : Nat), v = .ref L ∧ 0 < n ∧ n ≤ 20000 ∧ H L = some (.lst (List.replicate n (.ref c))) ∧ SqT K H c [.ref t] ∧ SqT K H t [.str "x", .str "x", .int 0] ∧ Short "x" ∧ ∀ u H', Q u H'))
theorem scDec : FnScope ["clauses"] ["clauses"] (defScope sDec) := ⟨rfl, rfl, rfl, by decide +kernel, rfl, by decide +kernel, by decide +kernel⟩
theorem isAll_rep {K : PySem.W.Frag} {H : Hp} {x : V} {d : Sh} (h : Is K H x d) : ∀ n, IsAll K H (List.replicate n x) (List.replicate n d)
  | 0 => .nil
  | n + 1 => .cons h (isAll_rep h n)
theorem ok_dec {B CB fB fw fK : Addr} {fdB fd fdK : FuncData} (F : Fs K mg "decide" sDec ["clauses"] fw fd) (dK : Fs K mg "_check_clauses" sChk ["clauses"] fK fdK) (Fmm : Fm K mg) (Wb : Bad K mg B CB fB fdB) (M : Way K mg C CS CR fE fP fW fS fdE fdP fdW fdS) : FnOk P w K mg base (L2N.CX P w) 5 fw fd ["clauses"] (spDec K CB) := by
  have GK : FnOk P w K mg base (L2N.CX P w) 4 fK fdK ["clauses"] (spChk K CB) := ok_chk dK Fmm Wb
  obtain ⟨fi, fdi, mkP, FI, bI⟩ := M.iP
  obtain ⟨fa, fda, mA, FA, bA⟩ := M.ans
  have GI : FnOk P w K mg base CX0 3 fi fdi ["self", "clauses"] (spPin K C) := ok_pin FI M.P M.T
  have GA : FnOk P w K mg base CX0 4 fa fda ["self"] (spAns K C) := ok_ans FA M
  obtain ⟨oc, od, kV, doc, pm, an, cdv, ct, osl, rfl, lk, hcd⟩ := F.F.ex
  refine fn_of lk hcd scDec (fun vs H Q E h => ?_) fun A outer s H vs Q E hr h => ?_
  · obtain ⟨v, rfl, _⟩ := h
    rfl
  · obtain ⟨v, rfl, hv⟩ := h
    have tk : L2N.Takes (cxOf (L2N.CX P w) P w K mg base ["clauses"] "decide" (defScope sDec) fw cdv A outer s H E) (fun cls d _ H => E cls d H) := L2N.takes_of rfl rfl rfl rfl
    have hx : Passes (L2N.CX P w) (cxOf (L2N.CX P w) P w K mg base ["clauses"] "decide" (defScope sDec) fw cdv A outer s H E) E := L2N.passes_call tk (fun _ _ _ _ z => z)
    refine ⟨_, pss_cons (ps_expr (pe_call GK hr (by rfl) dK.m dK.F.kp dK.b .nil hx (pa_cons (pv 0) pa_nil)))
      (pss_one (ps_ret (pe_meth0 (pe_make mkP GI hr (by rfl) M.gP bI .nil pass0 (pa_cons (pv 0) pa_nil)) M.P.P.cls mA GA hr bA .nil pass0))), ?_⟩
    rcases hv with ⟨i, hv, q⟩ | ⟨L, c, t, n, rfl, n0, nL, hL, hc, ht, hx', q⟩
    · exact ⟨_, rfl, refd_chk hv q⟩
    · have ic : IsC K H (.ref c) [("x", "x", 0)] := ⟨c, [.ref t], rfl, hc, .cons ⟨t, rfl, ht⟩ .nil, by show 1 ≤ 1; decide, by show 1 ≤ 1000; decide⟩
      have ii : Is K H (.ref c) (clS [("x", "x", 0)]) := cl_is ic fun l hl => by rw [List.mem_singleton.mp hl]; exact ⟨hx', hx'⟩
      have hok : isClS 6 (clS [("x", "x", 0)]) = true := clS_ok (by show 1 ≤ 1; decide) (by show 1 ≤ 6; decide)
      have none : firstBad (List.replicate n (clS [("x", "x", 0)])) = none := fb_none fun e he => by rw [List.eq_of_mem_replicate he]; exact hok
      refine ⟨_, rfl, .ref L, rfl, .inr (.inr ⟨_, _, ⟨L, rfl, .inl (SqL.of hL)⟩, isAll_rep ii n, by rw [List.length_replicate]; exact nL, fun i e => ?_, fun _ H1 s1 => ?_⟩)⟩
      · rw [none] at e
        cases e
      refine ⟨_, rfl, fun x dx nx ndx nex => ?_⟩
      have sm : Same H1 (upd (upd H1 dx (.own x)) x (.ins C dx [])) := same_make nx ndx fun _ _ _ z => z
      refine ⟨x, dx, L, c, t, n, rfl, n0, nL, upd_same, sm _ _ (s1 _ _ hL), SqT.same (s1.trans sm) hc, SqT.same (s1.trans sm) ht, fun H2 Nn Ch I J pok => ⟨rfl, ?_⟩⟩
      exact ⟨x, dx, _, rfl, pok.ha, rfl, x, dx, L, Nn, Ch, I, J, n, rfl, pok, q⟩
end
end Kx
set_option linter.all false
namespace Kx
open PySem L2 PySem.Spec PyProof.Rows
/-! tables, and what stands beside them -/
theorem SqT.ext {K : PySem.W.Frag} {H H' : Hp} {b : Addr} {xs : List V} (e : LamX.ExtN H H') (h : SqT K H b xs) : SqT K H' b xs := by
  rcases h with (h | ⟨o, h⟩) | h
  · exact .inl (.inl (e _ _ h fun _ z => nomatch z))
  · exact .inl (.inr ⟨o, e _ _ h fun _ z => nomatch z⟩)
  · exact .inr h
theorem SqL.extN {K : PySem.W.Frag} {H H' : Hp} {b : Addr} {xs : List V} (e : LamX.ExtN H H') (h : SqL K H b xs) : SqL K H' b xs := by
  rcases h with (h | ⟨o, h⟩) | h
  · exact .inl (.inl (e _ _ h fun _ z => nomatch z))
  · exact .inl (.inr ⟨o, e _ _ h fun _ z => nomatch z⟩)
  · exact .inr h
theorem WellAt.ext {H H' : Hp} {p : Addr} {n : Int} (h : WellAt H p n) (e : LamX.ExtN H H') : WellAt H' p n := let ⟨a, b, c, g, r⟩ := h; ⟨a, b, c, e _ _ g (fun _ z => nomatch z), r⟩
theorem Tabs.same {T : List (Addr × Str)} {H H' : Hp} (t : LamX.Tabs T H) (s : Same H H') : LamX.Tabs T H' := t.ext s
theorem Tabs.keep {T : List (Addr × Str)} {H H' : Hp} {p : Addr} {ms : List V} (hp : H p = some (.lst ms)) (t : LamX.Tabs T H) (k : KeepB p H H') : LamX.Tabs T H' := fun x hx => by
  obtain ⟨ps, h1, h2, h3⟩ := t x hx
  refine ⟨ps, k _ _ (fun z => by rw [z, hp] at h1; cases h1) h1, h2, fun pos cv hc => ?_⟩
  obtain ⟨c, e, g⟩ := h3 pos cv hc
  exact ⟨c, e, k _ _ (fun z => by rw [z, hp] at g; cases g) g⟩
theorem IsLit.extN {K : PySem.W.Frag} {H H' : Hp} {x : V} {l : Lit} (e : LamX.ExtN H H') (h : IsLit K H x l) : IsLit K H' x l := let ⟨a, r, q⟩ := h; ⟨a, r, SqT.ext e q⟩
theorem IsC.extN {K : PySem.W.Frag} {H H' : Hp} {x : V} {c : List Lit} (e : LamX.ExtN H H') (h : IsC K H x c) : IsC K H' x c := let ⟨a, ys, r, q⟩ := h; ⟨a, ys, r, ⟨SqT.ext e q.sq, L2.Paired.mapP q.p fun _ _ z => IsLit.extN e z, q.l1, q.l2⟩⟩
mutual
theorem Is.ext {K : PySem.W.Frag} {H H' : Hp} (e : LamX.ExtN H H') : ∀ {v : V} {d : Sh}, Is K H v d → Is K H' v d
  | _, _, .non => .non
  | _, _, .lst h => .lst (let ⟨xs, z⟩ := h; ⟨xs, SqL.extN e z⟩)
  | _, _, .dic h => .dic (let ⟨kvs, z⟩ := h; ⟨kvs, e _ _ z fun _ z => nomatch z⟩)
  | _, _, .bl b => .bl b
  | _, _, .int i => .int i
  | _, _, .str x h => .str x h
  | _, _, .tup h p n => .tup (SqT.ext e h) (IsAll.ext e p) n
theorem IsAll.ext {K : PySem.W.Frag} {H H' : Hp} (e : LamX.ExtN H H') : ∀ {xs : List V} {l : List Sh}, IsAll K H xs l → IsAll K H' xs l
  | _, _, .nil => .nil
  | _, _, .cons h t => .cons (Is.ext e h) (IsAll.ext e t)
end
/-- a list of clauses as drawn -/
def RowC (K : PySem.W.Frag) (H : Hp) (xs : List V) : Prop := ∀ x ∈ xs, ∃ t c, x = V.ref t ∧ IsC K H (.ref t) c ∧ c.length ≤ 6 ∧ shortC1 c
theorem RowC.same {K : PySem.W.Frag} {H H' : Hp} {xs : List V} (s : Same H H') (h : RowC K H xs) : RowC K H' xs := fun x hx => let ⟨t, c, e, q, r⟩ := h x hx; ⟨t, c, e, IsC.same s q, r⟩
theorem RowC.keepB {K : PySem.W.Frag} {H H' : Hp} {p : Addr} {ms xs : List V} (hp : H p = some (.lst ms)) (k : KeepB p H H') (h : RowC K H xs) : RowC K H' xs := fun x hx => let ⟨t, c, e, q, r⟩ := h x hx; ⟨t, c, e, IsC.keepB hp k q, r⟩
theorem RowC.extN {K : PySem.W.Frag} {H H' : Hp} {xs : List V} (s : LamX.ExtN H H') (h : RowC K H xs) : RowC K H' xs := fun x hx => let ⟨t, c, e, q, r⟩ := h x hx; ⟨t, c, e, IsC.extN s q, r⟩
theorem cut_mem {xs : List V} {lo hi : Option Int} : ∀ v ∈ cutV xs lo hi, v ∈ xs := fun v h => List.mem_of_mem_drop (List.mem_of_mem_take h)
theorem flat1 {x : V} : ∀ n : Nat, (List.replicate n [x]).flatten = List.replicate n x
  | 0 => rfl
  | n + 1 => by rw [List.replicate_succ, List.replicate_succ, List.flatten_cons, flat1 n]; rfl
theorem le_sz2 {x : V} : [x].length * Int.toNat 20000 ≤ sizeLine := by
  rw [sizeLine_eq]
  show 1 * 20000 ≤ 16777216
  decide
/-! what the def that catches makes of each call -/
section
variable {K : PySem.W.Frag} {CB : Addr} {H : Hp} {Q : VK} {v : V} {i : Int} {σ : L2.St}
theorem said_neg {d : Sh} (hv : σ[6]? = some (some v)) (h : Is K H v d) (hb : isClS 6 d = false) (q : ∀ H', Same H H' → Q (.str (toString (0 : Int))) H') : TSaid CB (fun E H' Q' => tCall (spNeg K CB) [] E (tCons (tVar 6) tNil) σ H' Q') H Q := by
  refine ⟨v, hv, v, rfl, .inl ⟨d, h, hb, fun H1 s1 dd H2 s2 hd => ⟨rfl, dd, 0, rfl, hd, by decide, q _ (s1.trans s2)⟩⟩⟩
theorem said_dec (hv : σ[10]? = some (some v)) (h : Refd K H v i) (hi : i.natAbs.log2 < 1920) (q : ∀ H', Same H H' → Q (.str (toString i)) H') : TSaid CB (fun E H' Q' => tCall (spDec K CB) [] E (tCons (tVar 10) tNil) σ H' Q') H Q := by
  refine ⟨v, hv, v, rfl, .inl ⟨i, h, fun H1 s1 dd H2 s2 hd => ⟨rfl, dd, i, rfl, hd, hi, q _ (s1.trans s2)⟩⟩⟩
theorem said_clo {t : V} (hv : σ[10]? = some (some v)) (ht : σ[9]? = some (some t)) (h : Refd K H v i) (hi : i.natAbs.log2 < 1920) (q : ∀ H', Same H H' → Q (.str (toString i)) H') : TSaid CB (fun E H' Q' => tCall (spClo K CB) [] E (tCons (tVar 10) (tCons (tVar 9) tNil)) σ H' Q') H Q := by
  refine ⟨v, hv, t, ht, v, t, i, rfl, h, fun H1 s1 dd H2 s2 hd => ⟨rfl, dd, i, rfl, hd, hi, q _ (s1.trans s2)⟩⟩
end
/-! what negated gives, as data -/
abbrev cl0 : Nat → OCls := fun _ => ⟨0, 0, [], 0⟩
abbrev S0 : Nat → List OD → Prop := fun _ _ => False
theorem oc0 {K : PySem.W.Frag} : OwnCls K cl0 S0 := ⟨fun _ ⟨_, h⟩ => h.elim, fun _ ⟨_, h⟩ => h.elim, fun _ _ ⟨_, h⟩ => h.elim, fun _ _ ⟨_, h⟩ => h.elim, fun _ ⟨_, h⟩ => h.elim⟩
theorem og0 {X : Cx} : OwnGives X cl0 S0 := fun _ _ h => h.elim
abbrev negO (l : Lit) : OD := .tup [.tup [.fl (.str l.2.1), .fl (.str l.1), .fl (.int (-l.2.2 - 1))]]
theorem negs_oh {K : PySem.W.Frag} {H : Hp} : ∀ {zs : List V} {c : List Lit}, Paired (fun z l => IsC K H z [neg l]) zs c → OhAll K cl0 H (c.map negO) zs
  | _, _, .nil => rfl
  | _, _, .cons h t => by
    obtain ⟨a, ys, rfl, q⟩ := h
    obtain ⟨y, rfl, hy⟩ : ∃ y, ys = [y] ∧ IsLit K H y (neg _) := by
      cases q.p with
      | cons h1 h2 =>
        cases h2
        exact ⟨_, rfl, h1⟩
    obtain ⟨b, rfl, hb⟩ := hy
    exact ⟨_, _, rfl, ⟨a, _, rfl, q.sq, _, _, rfl, ⟨b, _, rfl, hb, _, _, rfl, ⟨rfl, rfl⟩, _, _, rfl, ⟨rfl, rfl⟩, _, _, rfl, ⟨rfl, rfl⟩, rfl⟩, rfl⟩, negs_oh t⟩
theorem negs_ok : ∀ c : List Lit, okAll S0 (c.map negO) ∧ needAll cl0 (c.map negO) ≤ 2 ∧ eqoAll (c.map negO) (c.map negO) = true
  | [] => ⟨trivial, by decide, rfl⟩
  | l :: c => by
    obtain ⟨h1, h2, h3⟩ := negs_ok c
    refine ⟨⟨⟨⟨trivial, trivial, trivial, trivial⟩, trivial⟩, h1⟩, Nat.max_le.mpr ⟨by show max (max 0 (max 0 (max 0 0)) + 1) 0 + 1 ≤ 2; decide, h2⟩, ?_⟩
    show (((eqV (.str l.2.1) (.str l.2.1) && (eqV (.str l.1) (.str l.1) && (eqV (.int (-l.2.2 - 1)) (.int (-l.2.2 - 1)) && true))) && true) && eqoAll (c.map negO) (c.map negO)) = true
    rw [h3]
    simp [eqV]
/-- negated(clause) != the one due: no -/
theorem neg_ne {K : PySem.W.Frag} {H : Hp} {r d : Addr} {zs us : List V} {c : List Lit} {Q : VK} (h1 : SqT K H r zs) (h2 : Paired (fun z l => IsC K H z [neg l]) zs c) (h3 : SqT K H d us) (h4 : Paired (fun z l => IsC K H z [neg l]) us c)
    (q : ∀ H', Same H H' → Q (.bl false) H') : rNeOT K cl0 S0 3 (.ref r) (.ref d) H Q := by
  obtain ⟨o1, o2, o3⟩ := negs_ok c
  refine ⟨_, _, ⟨r, zs, rfl, h1, negs_oh h2⟩, ⟨d, us, rfl, h3, negs_oh h4⟩, o1, o1, by omega, by omega, fun H' e => ?_⟩
  rw [o3]
  exact q H' e
end Kx
set_option linter.all false
namespace Kx
open PySem L2 PySem.Spec PyProof.Rows
theorem cut_lo {xs : List V} {r : Int} (h0 : 0 ≤ r) (h : r ≤ xs.length) : cutV xs none (some r) = xs.take r.toNat := by
  obtain ⟨k, rfl⟩ := Int.eq_ofNat_of_zero_le h0
  have hk : k ≤ xs.length := by omega
  unfold cutV
  rw [HT.sIx_nat, HT.sIx_none, List.drop_zero, Nat.sub_zero, Nat.min_eq_left hk, Int.toNat_natCast]
theorem cut_hi {xs : List V} {r : Int} (h0 : 0 ≤ r) (h : r ≤ xs.length) : cutV xs (some r) none = xs.drop r.toNat := by
  obtain ⟨k, rfl⟩ := Int.eq_ofNat_of_zero_le h0
  have hk : k ≤ xs.length := by omega
  unfold cutV
  rw [HT.sIx_nat, HT.sIx_none, Nat.min_eq_left hk, Int.toNat_natCast, List.take_of_length_le]
  rw [List.length_drop]
  omega
theorem rowc_is {K : PySem.W.Frag} {H : Hp} : ∀ {xs : List V}, RowC K H xs → ∃ ds : List Sh, IsAll K H xs ds ∧ ds.length = xs.length ∧ ∀ e ∈ ds, isClS 6 e = true
  | [], _ => ⟨[], .nil, rfl, fun _ h => nomatch h⟩
  | x :: xs, h => by
    obtain ⟨t, c, rfl, ic, h6, hs⟩ := h _ List.mem_cons_self
    obtain ⟨ds, h1, h2, h3⟩ := rowc_is (xs := xs) fun y hy => h y (List.mem_cons_of_mem _ hy)
    have hl : 1 ≤ c.length := by
      obtain ⟨a, ys, _, q⟩ := ic
      exact q.l1
    refine ⟨clS c :: ds, .cons (cl_is ic hs) h1, by rw [List.length_cons, List.length_cons, h2], fun e he => ?_⟩
    rcases List.mem_cons.mp he with z | z
    · rw [z]
      exact clS_ok hl h6
    · exact h3 e z
theorem fb_app : ∀ {ds es : List Sh} {d : Sh}, (∀ e ∈ ds, isClS 6 e = true) → isClS 6 d = false → firstBad (ds ++ d :: es) = some ds.length
  | [], es, d, _, h => by
    show (if isClS 6 d = true then _ else some 0) = some 0
    rw [h]
    rfl
  | x :: ds, es, d, hd, h => by
    show (if isClS 6 x = true then (firstBad (ds ++ d :: es)).map (· + 1) else some 0) = some (ds.length + 1)
    rw [if_pos (hd x List.mem_cons_self), fb_app (fun e he => hd e (List.mem_cons_of_mem _ he)) h]
    rfl
/-- the rows with one that is none within, and one more at the end: refused at the first -/
theorem rows_ref {K : PySem.W.Frag} {H : Hp} {xs : List V} {u v : V} {d e : Sh} {r : Int} {w : V} (h : RowC K H xs) (hl : xs.length ≤ 100) (h0 : 0 ≤ r) (hr : r ≤ xs.length) (hu : Is K H u d) (hd : isClS 6 d = false) (hv : Is K H v e)
    (hw : Seq K H w (((cutV xs none (some r) ++ [u]) ++ cutV xs (some r) none) ++ [v])) : Refd K H w r := by
  rw [cut_lo h0 hr, cut_hi h0 hr] at hw
  obtain ⟨ds, a1, a2, a3⟩ := rowc_is (xs := xs.take r.toNat) fun y hy => h y (List.mem_of_mem_take hy)
  obtain ⟨es, b1, b2, b3⟩ := rowc_is (xs := xs.drop r.toNat) fun y hy => h y (List.mem_of_mem_drop hy)
  refine .inr (.inr ⟨_, ((ds ++ [d]) ++ es) ++ [e], r.toNat, hw, IsAll.app (IsAll.app (IsAll.app a1 (.cons hu .nil)) b1) (.cons hv .nil), ?_, ?_, ?_⟩)
  · rw [List.length_append, List.length_append, List.length_append, List.length_take, List.length_drop]
    show min r.toNat xs.length + 1 + (xs.length - r.toNat) + 1 ≤ 20000
    omega
  · rw [List.append_assoc, List.append_assoc, List.singleton_append, fb_app a3 hd, a2, List.length_take]
    congr 1
    omega
  · omega
end Kx
set_option linter.all false
namespace Kx
open PySem L2 PySem.Spec PyProof.Rows
section
variable {K : PySem.W.Frag} {H : Hp}
theorem refd_non : Refd K H V.non (-1) := .inl ⟨⟨"NoneType", fun H' s => .base .non, (by show kitB "NoneType" "list" = some false; decide +kernel), (by show kitB "NoneType" "tuple" = some false; decide +kernel)⟩, rfl⟩
theorem refd_str (x : PySem.Str) : Refd K H (.str x) (-1) := .inl ⟨⟨"str", fun H' s => .base (.str x), (by show kitB "str" "list" = some false; decide +kernel), (by show kitB "str" "tuple" = some false; decide +kernel)⟩, rfl⟩
theorem refd_int (i : Int) : Refd K H (.int i) (-1) := .inl ⟨⟨"int", fun H' s => .base (.int i), (by show kitB "int" "list" = some false; decide +kernel), (by show kitB "int" "tuple" = some false; decide +kernel)⟩, rfl⟩
theorem refd_dic {a : Addr} {kvs : List (Key × V)} (h : H a = some (.dK kvs)) : Refd K H (.ref a) (-1) := .inl ⟨⟨"dict", fun H' s => .base (.dK (s _ _ h)), (by show kitB "dict" "list" = some false; decide +kernel), (by show kitB "dict" "tuple" = some false; decide +kernel)⟩, rfl⟩
/-- refused as too long -/
theorem refd_long {v : V} {xs : List V} (h : Seq K H v xs) (h1 : 20000 < xs.length) (h2 : xs.length ≤ 30000) : Refd K H v (-1) := .inr (.inl ⟨xs, h, h1, h2, rfl⟩)
theorem refd_rep {L : Addr} {x : V} {n : Nat} (h1 : 20000 < n) (h2 : n ≤ 30000) (h : SqL K H L (List.replicate n x)) : Refd K H (.ref L) (-1) := refd_long ⟨L, rfl, .inl h⟩ (by rw [List.length_replicate]; exact h1) (by rw [List.length_replicate]; exact h2)
theorem refd_repT {L : Addr} {x : V} {n : Nat} (h1 : 20000 < n) (h2 : n ≤ 30000) (h : SqT K H L (List.replicate n x)) : Refd K H (.ref L) (-1) := refd_long ⟨L, rfl, .inr h⟩ (by rw [List.length_replicate]; exact h1) (by rw [List.length_replicate]; exact h2)
end
end Kx
set_option linter.all false
namespace Kx
open PySem L2 PySem.Spec PyProof.Rows
abbrev sLaw : Stmt := top 42
abbrev nL : List PySem.Str := ["_law_script", "_law_cell", "_law_well_here", "_law_some", "_law_clause_here", "_law_due", "_law_odd_here", "_law_at", "_law_rows", "_law_tree", "_law_row", "_law_k", "_law_left", "_law_right", "_law_number"]
theorem scL : FnScope nL ["_law_script"] (defScope sLaw) := ⟨rfl, rfl, rfl, by decide +kernel, rfl, by decide +kernel, by decide +kernel⟩
structure LawOf (K : PySem.W.Frag) (mg : PySem.Str → Option Value) (B CB fB fD fS C CS CR fE fP fW fT : Addr) (fdB fdD fdS fdE fdP fdW fdT : FuncData) : Prop where
  T : Bx mg
  W : Bad K mg B CB fB fdB
  G : Gt K B
  gB : mg "ContractError" = some (.ref B)
  rp : mg "repr" = none
  rng : mg "range" = none
  Fm : Fm K mg
  Way : Way K mg C CS CR fE fP fW fT fdE fdP fdW fdT
  D : Drw K mg
  chk : ∃ f fd, Fs K mg "_check_clauses" sChk ["clauses"] f fd
  neg : ∃ f fd, Fs K mg "negated" sNeg ["clause"] f fd
  clo : ∃ f fd, Fs K mg "closes" sClo ["clauses", "tree"] f fd
  dec : Fs K mg "decide" sDec ["clauses"] fD fdD
  cl : ∃ f fd, Fs K mg "_law_clause" sClD ["_law_well_here"] f fd
  odd : ∃ f fd, Fs K mg "_law_odd" sOdd ["_law_well_here", "_law_clause_here"] f fd
  said : Fs K mg "_law_said" sSaid ["_law_ask"] fS fdS
section
variable {P : Program} {w : World} {K : PySem.W.Frag} {mg : PySem.Str → Option Value} {base : Heap} {B CB fB fD fS C CS CR fE fP fW fT c0 PT : Addr} {fdB fdD fdS fdE fdP fdW fdT : FuncData}
theorem law_read (M : LawOf K mg B CB fB fD fS C CS CR fE fP fW fT fdB fdD fdS fdE fdP fdW fdT) (TB : LamX.TabB base mg c0 PT) (f : Addr) (A : Around) (outer : List Env) (s : Shared) (H : Hp) (E : XK) (hr : Room 7 (A.deeper (envOfC "law" (defScope sLaw) s.heap.objs.size f (.ref c0)))) :
    ∃ t, PSs (cxOf CX0 P w K mg base nL "law" (defScope sLaw) f (.ref c0) A outer s H E).nox (defBody sLaw) t := by
  obtain ⟨_, _, dK⟩ := M.chk
  obtain ⟨_, _, dN⟩ := M.neg
  obtain ⟨_, _, dC⟩ := M.clo
  have dQ := M.dec
  obtain ⟨_, _, dL⟩ := M.cl
  obtain ⟨_, _, dX⟩ := M.odd
  obtain ⟨_, _, dW⟩ := M.D.well
  obtain ⟨_, _, dO⟩ := M.D.one
  obtain ⟨_, _, dD⟩ := M.D.draw
  have dS := M.said
  obtain ⟨ocS, odS, kVS, docS, pmS, anS, cdvS, ctS, oslS, eS, lkS, hcS⟩ := dS.F.ex
  have bS := dS.b
  rw [eS] at bS lkS
  have GW : FnOk P w K mg base CX0 1 _ _ ["_law_cell"] spWell := ok_well dW.F M.D.T
  have GD : FnOk P w K mg base CX0 1 _ _ ["_law_well_here", "_law_base"] spDraw := ok_draw dD.F M.D.T
  have GO : FnOk P w K mg base CX0 2 _ _ ["_law_well_here", "_law_some"] (spOne K) := ok_one dO.F M.D.T dD.F dD.b dD.m
  have GL : FnOk P w K mg base CX0 3 _ _ ["_law_well_here"] (spClD K) := ok_clD dL M.D M.T M.rng
  have GX : FnOk P w K mg base CX0 3 _ _ ["_law_well_here", "_law_clause_here"] (spOdd K) := ok_odd dX M.D M.T
  have GN : FnOk P w K mg base (L2N.CX P w) 5 _ _ ["clause"] (spNeg K CB) := ok_neg dN dK M.Fm M.W
  have GC : FnOk P w K mg base (L2N.CX P w) 5 _ _ ["clauses", "tree"] (spClo K CB) := ok_clo dC dK M.Fm M.W
  have GQ : FnOk P w K mg base (L2N.CX P w) 5 fD fdD ["clauses"] (spDec K CB) := ok_dec dQ dK M.Fm M.W M.Way
  have hr1 : Room 1 _ := hr.mono (by decide)
  have hr2 : Room 2 _ := hr.mono (by decide)
  have hr3 : Room 3 _ := hr.mono (by decide)
  have hr5 : Room 5 _ := hr.mono (by decide)
  have hu : (cxOf CX0 P w K mg base nL "law" (defScope sLaw) f (.ref c0) A outer s H E).nox.A.units + 64 < cLine := hr.units
  exact ⟨_, (pss_cons (ps_for PassesOwn.never rfl (pi_list (pe_op op_cat (pe_slice sl_list (pv 0) po_none (po_some pe_int)) (pe_lst (pa_cons pe_int pa_nil)))) (pg_name (i := 1) scL.nd rfl (Or.inl rfl)) (pss_cons (ps_set (i := 2) scL.nd rfl (Or.inr rfl) (pe_call GW hr1 (by rfl) dW.m dW.F.kp dW.b .nil pass0 (pa_cons (pv 1) pa_nil))) (pss_cons (ps_setLc (i := 3) (own := [("_law_k", 11)]) (g := gName 11) (tt := tYes) (te := tCall (spClD K) [] E0 (tCons (tVar 2) tNil)) rfl scL.nd rfl rfl (sw_true rfl rfl rfl rfl) (pi_range1 rfl M.rng (pa_cons (pe_op op_add pe_int (pe_call GD hr1 (by rfl) dD.m dD.F.kp dD.b .nil pass0 (pa_cons (pv 2) (pa_cons pe_int pa_nil)))) pa_nil)) (blkOk_by (N := nL) (sc := defScope sLaw) (by decide +kernel)) (fun _ _ _ _ _ => (pg_name (i := 11) scL.nd rfl (Or.inl rfl))) (fun _ _ _ _ _ => pts_nil) (fun _ _ _ _ _ => (pe_call GL hr3 (by rfl) dL.m dL.F.kp dL.b .nil pass0 (pa_cons (pv 2) pa_nil)))) (pss_cons (ps_for PassesOwn.never rfl (pi_list (pv 3)) (pg_name (i := 4) scL.nd rfl (Or.inl rfl)) (pss_cons (ps_set (i := 5) scL.nd rfl (Or.inl rfl) (pe_tupleOf (by rfl) M.T.tuple (pe_lc (own := [("_law_left", 12), ("_law_right", 13), ("_law_number", 14)]) (g := gTup K 3 (gCons (gName 12) (gCons (gName 13) (gCons (gName 14) gNil)))) (tt := tYes) rfl scL.nd (pi_tup (pv 4)) (blkOk_by (N := nL) (sc := defScope sLaw) (by decide +kernel)) (fun _ _ _ _ _ => pg_tup rfl (pgs_cons (pg_name (i := 12) scL.nd rfl (Or.inl rfl)) (pgs_cons (pg_name (i := 13) scL.nd rfl (Or.inl rfl)) (pgs_cons (pg_name (i := 14) scL.nd rfl (Or.inl rfl)) pgs_nil)))) (fun _ _ _ _ _ => pts_nil) (fun _ _ _ _ _ => (pe_tup (pa_cons (pe_tup (pa_cons (pv 13) (pa_cons (pv 12) (pa_cons (pe_op op_sub (pe_un un_neg (pv 14)) pe_int) pa_nil)))) pa_nil)))))) (pss_one (ps_if (PW.pt (pw_or (pt_cmpR (op_neOT (cl := cl0) (S := S0) (n := 3) oc0 og0 hr3) (pe_call GN hr5 (by rfl) dN.m dN.F.kp dN.b .nil passN (pa_cons (pv 4) pa_nil)) (pv 5) (nomark _)) (pw_or1 (pt_not (pt_val (pe_callB call_isi (by rfl) M.T.isi boot_isinstance (pa_cons (pe_call GN hr5 (by rfl) dN.m dN.F.kp dN.b .nil passN (pa_cons (pv 4) pa_nil)) (pa_cons (pe_bltn (v := .ty "tuple") (by rfl) M.T.tuple (by decide +kernel) rfl) pa_nil)))))))) (pss_one (ps_ret pe_bl)) pss_nil)))) (pss_cons (ps_asg (pe_tup (pa_cons (pe_call GX hr3 (by rfl) dX.m dX.F.kp dX.b .nil pass0 (pa_cons (pv 2) (pa_cons (pe_ix ix_list (pv 3) pe_int (fun _ _ => rfl)) pa_nil))) (pa_cons (pe_call GD hr1 (by rfl) dD.m dD.F.kp dD.b .nil pass0 (pa_cons (pv 2) (pa_cons (pe_op op_add (pe_callB call_len_seq (by rfl) M.T.len PySem.boot_len (pa_cons (pv 3) pa_nil)) pe_int) pa_nil))) pa_nil))) (pg_tup rfl (pgs_cons (pg_name (i := 6) scL.nd rfl (Or.inr rfl)) (pgs_cons (pg_name (i := 7) scL.nd rfl (Or.inl rfl)) pgs_nil)))) (pss_cons (ps_if (pt_cmpR op_ne (LamX.pe_lamcall (T := [(PT, "law.<locals>.<lambda>")]) (TT := TSaid CB) (t := fun E => tCall (spNeg K CB) [] E (tCons (tVar 6) tNil)) (k := 5) (by rfl) dS.m dS.F.kp lkS hcS bS scSd rfl (Or.inl rfl) (said_gives M.W M.G M.gB M.T.isi M.rp) TB rfl (by simp; rfl) (fun p hp _ => by (rw [List.mem_singleton.mp hp]; rfl)) hr (LamX.lamS_by (by show LamX.lamSB (defScope sLaw) _ = true; decide +kernel)) rfl (fun _ _ _ _ _ => rfl) (fun A outer s H E f c' hr => (pe_call GN hr (by rfl) dN.m dN.F.kp dN.b .nil lam_pass (pa_cons (pv 6) pa_nil)))) pe_str (by with_unfolding_all rfl)) (pss_one (ps_ret pe_bl)) pss_nil) (pss_cons (ps_set (i := 8) scL.nd rfl (Or.inl rfl) (pe_op op_cat (pe_op op_cat (pe_op op_cat (pe_slice sl_list (pv 3) po_none (po_some (pv 7))) (pe_lst (pa_cons (pv 6) pa_nil))) (pe_slice sl_list (pv 3) (po_some (pv 7)) po_none)) (pe_lst (pa_cons (pe_call GX hr3 (by rfl) dX.m dX.F.kp dX.b .nil pass0 (pa_cons (pv 2) (pa_cons (pe_ix ix_list (pv 3) pe_int (fun _ _ => rfl)) pa_nil))) pa_nil)))) (pss_cons (ps_set (i := 9) scL.nd rfl (Or.inr rfl) (pe_call GO hr2 (by rfl) dO.m dO.F.kp dO.b .nil pass0 (pa_cons (pv 2) (pa_cons (pe_lst (pa_cons pe_non (pa_cons (pe_tup (pa_cons pe_str (pa_cons (pe_tup (pa_cons (pe_tup (pa_cons pe_int (pa_cons pe_int pa_nil))) pa_nil)) pa_nil))) (pa_cons (pe_lst pa_nil) pa_nil)))) pa_nil)))) (pss_cons (ps_for PassesOwn.never rfl (pi_list (pe_lst (pa_cons (pv 8) (pa_cons (pe_tupleOf (by rfl) M.T.tuple (pv 8)) pa_nil)))) (pg_name (i := 10) scL.nd rfl (Or.inr rfl)) (pss_cons (ps_if (pt_cmpR op_ne (LamX.pe_lamcall (T := [(PT, "law.<locals>.<lambda>")]) (TT := TSaid CB) (t := fun E => tCall (spDec K CB) [] E (tCons (tVar 10) tNil)) (k := 5) (by rfl) dS.m dS.F.kp lkS hcS bS scSd rfl (Or.inl rfl) (said_gives M.W M.G M.gB M.T.isi M.rp) TB rfl (by simp; rfl) (fun p hp _ => by (rw [List.mem_singleton.mp hp]; rfl)) hr (LamX.lamS_by (by show LamX.lamSB (defScope sLaw) _ = true; decide +kernel)) rfl (fun _ _ _ _ _ => rfl) (fun A outer s H E f c' hr => (pe_call GQ hr (by rfl) dQ.m dQ.F.kp dQ.b .nil lam_pass (pa_cons (pv 10) pa_nil)))) (pe_callTy call_str_int (by rfl) M.T.str (by decide +kernel) (pa_cons (pv 7) pa_nil)) (by with_unfolding_all rfl)) (pss_one (ps_ret pe_bl)) pss_nil) (pss_one (ps_if (pt_cmpR op_ne (LamX.pe_lamcall (T := [(PT, "law.<locals>.<lambda>")]) (TT := TSaid CB) (t := fun E => tCall (spClo K CB) [] E (tCons (tVar 10) (tCons (tVar 9) tNil))) (k := 5) (by rfl) dS.m dS.F.kp lkS hcS bS scSd rfl (Or.inl rfl) (said_gives M.W M.G M.gB M.T.isi M.rp) TB rfl (by simp; rfl) (fun p hp _ => by (rw [List.mem_singleton.mp hp]; rfl)) hr (LamX.lamS_by (by show LamX.lamSB (defScope sLaw) _ = true; decide +kernel)) rfl (fun _ _ _ _ _ => rfl) (fun A outer s H E f c' hr => (pe_call GC hr (by rfl) dC.m dC.F.kp dC.b .nil lam_pass (pa_cons (pv 10) (pa_cons (pv 9) pa_nil))))) (pe_callTy call_str_int (by rfl) M.T.str (by decide +kernel) (pa_cons (pv 7) pa_nil)) (by with_unfolding_all rfl)) (pss_one (ps_ret pe_bl)) pss_nil)))) (pss_cons (ps_set (i := 10) scL.nd rfl (Or.inr rfl) (pe_call GO hr2 (by rfl) dO.m dO.F.kp dO.b .nil pass0 (pa_cons (pv 2) (pa_cons (pe_lst (pa_cons pe_non (pa_cons pe_dnewK (pa_cons pe_str (pa_cons pe_int (pa_cons (pe_disp (pps_cons pe_str pe_int pps_nil) rfl rfl (by simp) (by simp)) (pa_cons (pe_op op_rep (pe_lst (pa_cons (pe_tup (pa_cons (pe_tup (pa_cons pe_str (pa_cons pe_str (pa_cons pe_int pa_nil)))) pa_nil)) pa_nil)) pe_int) (pa_cons (pe_op op_repM (pe_tup (pa_cons (pe_tup (pa_cons pe_non pa_nil)) pa_nil)) pe_int) (pa_cons pe_int pa_nil))))))))) pa_nil)))) (pss_cons (ps_if (pt_cmpR op_ne (LamX.pe_lamcall (T := [(PT, "law.<locals>.<lambda>")]) (TT := TSaid CB) (t := fun E => tCall (spDec K CB) [] E (tCons (tVar 10) tNil)) (k := 5) (by rfl) dS.m dS.F.kp lkS hcS bS scSd rfl (Or.inl rfl) (said_gives M.W M.G M.gB M.T.isi M.rp) TB rfl (by simp; rfl) (fun p hp _ => by (rw [List.mem_singleton.mp hp]; rfl)) hr (LamX.lamS_by (by show LamX.lamSB (defScope sLaw) _ = true; decide +kernel)) rfl (fun _ _ _ _ _ => rfl) (fun A outer s H E f c' hr => (pe_call GQ hr (by rfl) dQ.m dQ.F.kp dQ.b .nil lam_pass (pa_cons (pv 10) pa_nil)))) pe_str (by with_unfolding_all rfl)) (pss_one (ps_ret pe_bl)) pss_nil) (pss_one (ps_if (pt_cmpR op_ne (LamX.pe_lamcall (T := [(PT, "law.<locals>.<lambda>")]) (TT := TSaid CB) (t := fun E => tCall (spClo K CB) [] E (tCons (tVar 10) (tCons (tVar 9) tNil))) (k := 5) (by rfl) dS.m dS.F.kp lkS hcS bS scSd rfl (Or.inl rfl) (said_gives M.W M.G M.gB M.T.isi M.rp) TB rfl (by simp; rfl) (fun p hp _ => by (rw [List.mem_singleton.mp hp]; rfl)) hr (LamX.lamS_by (by show LamX.lamSB (defScope sLaw) _ = true; decide +kernel)) rfl (fun _ _ _ _ _ => rfl) (fun A outer s H E f c' hr => (pe_call GC hr (by rfl) dC.m dC.F.kp dC.b .nil lam_pass (pa_cons (pv 10) (pa_cons (pv 9) pa_nil))))) pe_str (by with_unfolding_all rfl)) (pss_one (ps_ret pe_bl)) pss_nil))))))))))))) (pss_one (ps_ret (pe_cmpR op_eq (LamX.pe_lamcall (T := [(PT, "law.<locals>.<lambda>")]) (TT := TSaid CB) (k := 5) (by rfl) dS.m dS.F.kp lkS hcS bS scSd rfl (Or.inl rfl) (said_gives M.W M.G M.gB M.T.isi M.rp) TB rfl (by simp; rfl) (fun p hp _ => by (rw [List.mem_singleton.mp hp]; rfl)) hr (LamX.lamS_by (by show LamX.lamSB (defScope sLaw) _ = true; decide +kernel)) rfl (fun _ _ _ _ _ => rfl) (fun A outer s H E f c' hr => (pe_call GQ hr (by rfl) dQ.m dQ.F.kp dQ.b .nil lam_pass (pa_cons (pe_op op_rep (pe_lst (pa_cons (pe_tup (pa_cons (pe_tup (pa_cons pe_str (pa_cons pe_str (pa_cons pe_int pa_nil)))) pa_nil)) pa_nil)) pe_int) pa_nil)))) pe_str (by with_unfolding_all rfl)))))⟩
end
end Kx
set_option linter.all false
namespace Kx
open PySem L2 PySem.Spec PyProof.Rows
section
variable {P : Program} {w : World} {K : PySem.W.Frag} {mg : PySem.Str → Option Value} {base : Heap} {B CB fB fD fS C CS CR fE fP fW fT c0 PT : Addr} {fdB fdD fdS fdE fdP fdW fdT : FuncData}
theorem law_body {a : Addr} {ns : List Int} (M : LawOf K mg B CB fB fD fS C CS CR fE fP fW fT fdB fdD fdS fdE fdP fdW fdT) (TB : LamX.TabB base mg c0 PT) (f : Addr) (A : Around) (outer : List Env) (s : Shared) (H : Hp) (E : XK) {Q0 : VK} (q0 : ∀ H', Q0 (V.bl true) H') (hr : Room 7 (A.deeper (envOfC "law" (defScope sLaw) s.heap.objs.size f (.ref c0))))
    (hS : SqL K H a (ns.map V.int)) (hn : ns.length ≤ 63) (hT : H PT = some (.tbl #[])) : ∃ t, PSs (cxOf CX0 P w K mg base nL "law" (defScope sLaw) f (.ref c0) A outer s H E).nox (defBody sLaw) t ∧ t { nx := fun _ H' => Q0 V.non H', rt := Q0 } (start nL [.ref a]) H := by
  obtain ⟨_, _, dK⟩ := M.chk
  obtain ⟨_, _, dN⟩ := M.neg
  obtain ⟨_, _, dC⟩ := M.clo
  have dQ := M.dec
  obtain ⟨_, _, dL⟩ := M.cl
  obtain ⟨_, _, dX⟩ := M.odd
  obtain ⟨_, _, dW⟩ := M.D.well
  obtain ⟨_, _, dO⟩ := M.D.one
  obtain ⟨_, _, dD⟩ := M.D.draw
  have dS := M.said
  obtain ⟨ocS, odS, kVS, docS, pmS, anS, cdvS, ctS, oslS, eS, lkS, hcS⟩ := dS.F.ex
  have bS := dS.b
  rw [eS] at bS lkS
  have GW : FnOk P w K mg base CX0 1 _ _ ["_law_cell"] spWell := ok_well dW.F M.D.T
  have GD : FnOk P w K mg base CX0 1 _ _ ["_law_well_here", "_law_base"] spDraw := ok_draw dD.F M.D.T
  have GO : FnOk P w K mg base CX0 2 _ _ ["_law_well_here", "_law_some"] (spOne K) := ok_one dO.F M.D.T dD.F dD.b dD.m
  have GL : FnOk P w K mg base CX0 3 _ _ ["_law_well_here"] (spClD K) := ok_clD dL M.D M.T M.rng
  have GX : FnOk P w K mg base CX0 3 _ _ ["_law_well_here", "_law_clause_here"] (spOdd K) := ok_odd dX M.D M.T
  have GN : FnOk P w K mg base (L2N.CX P w) 5 _ _ ["clause"] (spNeg K CB) := ok_neg dN dK M.Fm M.W
  have GC : FnOk P w K mg base (L2N.CX P w) 5 _ _ ["clauses", "tree"] (spClo K CB) := ok_clo dC dK M.Fm M.W
  have GQ : FnOk P w K mg base (L2N.CX P w) 5 fD fdD ["clauses"] (spDec K CB) := ok_dec dQ dK M.Fm M.W M.Way
  have hr1 : Room 1 _ := hr.mono (by decide)
  have hr2 : Room 2 _ := hr.mono (by decide)
  have hr3 : Room 3 _ := hr.mono (by decide)
  have hr5 : Room 5 _ := hr.mono (by decide)
  have hu : (cxOf CX0 P w K mg base nL "law" (defScope sLaw) f (.ref c0) A outer s H E).nox.A.units + 64 < cLine := hr.units
  refine ⟨_, (pss_cons (ps_for PassesOwn.never rfl (pi_list (pe_op op_cat (pe_slice sl_list (pv 0) po_none (po_some pe_int)) (pe_lst (pa_cons pe_int pa_nil)))) (pg_name (i := 1) scL.nd rfl (Or.inl rfl)) (pss_cons (ps_set (i := 2) scL.nd rfl (Or.inr rfl) (pe_call GW hr1 (by rfl) dW.m dW.F.kp dW.b .nil pass0 (pa_cons (pv 1) pa_nil))) (pss_cons (ps_setLc (i := 3) (own := [("_law_k", 11)]) (g := gName 11) (tt := tYes) (te := tCall (spClD K) [] E0 (tCons (tVar 2) tNil)) rfl scL.nd rfl rfl (sw_true rfl rfl rfl rfl) (pi_range1 rfl M.rng (pa_cons (pe_op op_add pe_int (pe_call GD hr1 (by rfl) dD.m dD.F.kp dD.b .nil pass0 (pa_cons (pv 2) (pa_cons pe_int pa_nil)))) pa_nil)) (blkOk_by (N := nL) (sc := defScope sLaw) (by decide +kernel)) (fun _ _ _ _ _ => (pg_name (i := 11) scL.nd rfl (Or.inl rfl))) (fun _ _ _ _ _ => pts_nil) (fun _ _ _ _ _ => (pe_call GL hr3 (by rfl) dL.m dL.F.kp dL.b .nil pass0 (pa_cons (pv 2) pa_nil)))) (pss_cons (ps_for PassesOwn.never rfl (pi_list (pv 3)) (pg_name (i := 4) scL.nd rfl (Or.inl rfl)) (pss_cons (ps_set (i := 5) scL.nd rfl (Or.inl rfl) (pe_tupleOf (by rfl) M.T.tuple (pe_lc (own := [("_law_left", 12), ("_law_right", 13), ("_law_number", 14)]) (g := gTup K 3 (gCons (gName 12) (gCons (gName 13) (gCons (gName 14) gNil)))) (tt := tYes) rfl scL.nd (pi_tup (pv 4)) (blkOk_by (N := nL) (sc := defScope sLaw) (by decide +kernel)) (fun _ _ _ _ _ => pg_tup rfl (pgs_cons (pg_name (i := 12) scL.nd rfl (Or.inl rfl)) (pgs_cons (pg_name (i := 13) scL.nd rfl (Or.inl rfl)) (pgs_cons (pg_name (i := 14) scL.nd rfl (Or.inl rfl)) pgs_nil)))) (fun _ _ _ _ _ => pts_nil) (fun _ _ _ _ _ => (pe_tup (pa_cons (pe_tup (pa_cons (pv 13) (pa_cons (pv 12) (pa_cons (pe_op op_sub (pe_un un_neg (pv 14)) pe_int) pa_nil)))) pa_nil)))))) (pss_one (ps_if (PW.pt (pw_or (pt_cmpR (op_neOT (cl := cl0) (S := S0) (n := 3) oc0 og0 hr3) (pe_call GN hr5 (by rfl) dN.m dN.F.kp dN.b .nil passN (pa_cons (pv 4) pa_nil)) (pv 5) (nomark _)) (pw_or1 (pt_not (pt_val (pe_callB call_isi (by rfl) M.T.isi boot_isinstance (pa_cons (pe_call GN hr5 (by rfl) dN.m dN.F.kp dN.b .nil passN (pa_cons (pv 4) pa_nil)) (pa_cons (pe_bltn (v := .ty "tuple") (by rfl) M.T.tuple (by decide +kernel) rfl) pa_nil)))))))) (pss_one (ps_ret pe_bl)) pss_nil)))) (pss_cons (ps_asg (pe_tup (pa_cons (pe_call GX hr3 (by rfl) dX.m dX.F.kp dX.b .nil pass0 (pa_cons (pv 2) (pa_cons (pe_ix ix_list (pv 3) pe_int (fun _ _ => rfl)) pa_nil))) (pa_cons (pe_call GD hr1 (by rfl) dD.m dD.F.kp dD.b .nil pass0 (pa_cons (pv 2) (pa_cons (pe_op op_add (pe_callB call_len_seq (by rfl) M.T.len PySem.boot_len (pa_cons (pv 3) pa_nil)) pe_int) pa_nil))) pa_nil))) (pg_tup rfl (pgs_cons (pg_name (i := 6) scL.nd rfl (Or.inr rfl)) (pgs_cons (pg_name (i := 7) scL.nd rfl (Or.inl rfl)) pgs_nil)))) (pss_cons (ps_if (pt_cmpR op_ne (LamX.pe_lamcall (T := [(PT, "law.<locals>.<lambda>")]) (TT := TSaid CB) (t := fun E => tCall (spNeg K CB) [] E (tCons (tVar 6) tNil)) (k := 5) (by rfl) dS.m dS.F.kp lkS hcS bS scSd rfl (Or.inl rfl) (said_gives M.W M.G M.gB M.T.isi M.rp) TB rfl (by simp; rfl) (fun p hp _ => by (rw [List.mem_singleton.mp hp]; rfl)) hr (LamX.lamS_by (by show LamX.lamSB (defScope sLaw) _ = true; decide +kernel)) rfl (fun _ _ _ _ _ => rfl) (fun A outer s H E f c' hr => (pe_call GN hr (by rfl) dN.m dN.F.kp dN.b .nil lam_pass (pa_cons (pv 6) pa_nil)))) pe_str (by with_unfolding_all rfl)) (pss_one (ps_ret pe_bl)) pss_nil) (pss_cons (ps_set (i := 8) scL.nd rfl (Or.inl rfl) (pe_op op_cat (pe_op op_cat (pe_op op_cat (pe_slice sl_list (pv 3) po_none (po_some (pv 7))) (pe_lst (pa_cons (pv 6) pa_nil))) (pe_slice sl_list (pv 3) (po_some (pv 7)) po_none)) (pe_lst (pa_cons (pe_call GX hr3 (by rfl) dX.m dX.F.kp dX.b .nil pass0 (pa_cons (pv 2) (pa_cons (pe_ix ix_list (pv 3) pe_int (fun _ _ => rfl)) pa_nil))) pa_nil)))) (pss_cons (ps_set (i := 9) scL.nd rfl (Or.inr rfl) (pe_call GO hr2 (by rfl) dO.m dO.F.kp dO.b .nil pass0 (pa_cons (pv 2) (pa_cons (pe_lst (pa_cons pe_non (pa_cons (pe_tup (pa_cons pe_str (pa_cons (pe_tup (pa_cons (pe_tup (pa_cons pe_int (pa_cons pe_int pa_nil))) pa_nil)) pa_nil))) (pa_cons (pe_lst pa_nil) pa_nil)))) pa_nil)))) (pss_cons (ps_for PassesOwn.never rfl (pi_list (pe_lst (pa_cons (pv 8) (pa_cons (pe_tupleOf (by rfl) M.T.tuple (pv 8)) pa_nil)))) (pg_name (i := 10) scL.nd rfl (Or.inr rfl)) (pss_cons (ps_if (pt_cmpR op_ne (LamX.pe_lamcall (T := [(PT, "law.<locals>.<lambda>")]) (TT := TSaid CB) (t := fun E => tCall (spDec K CB) [] E (tCons (tVar 10) tNil)) (k := 5) (by rfl) dS.m dS.F.kp lkS hcS bS scSd rfl (Or.inl rfl) (said_gives M.W M.G M.gB M.T.isi M.rp) TB rfl (by simp; rfl) (fun p hp _ => by (rw [List.mem_singleton.mp hp]; rfl)) hr (LamX.lamS_by (by show LamX.lamSB (defScope sLaw) _ = true; decide +kernel)) rfl (fun _ _ _ _ _ => rfl) (fun A outer s H E f c' hr => (pe_call GQ hr (by rfl) dQ.m dQ.F.kp dQ.b .nil lam_pass (pa_cons (pv 10) pa_nil)))) (pe_callTy call_str_int (by rfl) M.T.str (by decide +kernel) (pa_cons (pv 7) pa_nil)) (by with_unfolding_all rfl)) (pss_one (ps_ret pe_bl)) pss_nil) (pss_one (ps_if (pt_cmpR op_ne (LamX.pe_lamcall (T := [(PT, "law.<locals>.<lambda>")]) (TT := TSaid CB) (t := fun E => tCall (spClo K CB) [] E (tCons (tVar 10) (tCons (tVar 9) tNil))) (k := 5) (by rfl) dS.m dS.F.kp lkS hcS bS scSd rfl (Or.inl rfl) (said_gives M.W M.G M.gB M.T.isi M.rp) TB rfl (by simp; rfl) (fun p hp _ => by (rw [List.mem_singleton.mp hp]; rfl)) hr (LamX.lamS_by (by show LamX.lamSB (defScope sLaw) _ = true; decide +kernel)) rfl (fun _ _ _ _ _ => rfl) (fun A outer s H E f c' hr => (pe_call GC hr (by rfl) dC.m dC.F.kp dC.b .nil lam_pass (pa_cons (pv 10) (pa_cons (pv 9) pa_nil))))) (pe_callTy call_str_int (by rfl) M.T.str (by decide +kernel) (pa_cons (pv 7) pa_nil)) (by with_unfolding_all rfl)) (pss_one (ps_ret pe_bl)) pss_nil)))) (pss_cons (ps_set (i := 10) scL.nd rfl (Or.inr rfl) (pe_call GO hr2 (by rfl) dO.m dO.F.kp dO.b .nil pass0 (pa_cons (pv 2) (pa_cons (pe_lst (pa_cons pe_non (pa_cons pe_dnewK (pa_cons pe_str (pa_cons pe_int (pa_cons (pe_disp (pps_cons pe_str pe_int pps_nil) rfl rfl (by simp) (by simp)) (pa_cons (pe_op op_rep (pe_lst (pa_cons (pe_tup (pa_cons (pe_tup (pa_cons pe_str (pa_cons pe_str (pa_cons pe_int pa_nil)))) pa_nil)) pa_nil)) pe_int) (pa_cons (pe_op op_repM (pe_tup (pa_cons (pe_tup (pa_cons pe_non pa_nil)) pa_nil)) pe_int) (pa_cons pe_int pa_nil))))))))) pa_nil)))) (pss_cons (ps_if (pt_cmpR op_ne (LamX.pe_lamcall (T := [(PT, "law.<locals>.<lambda>")]) (TT := TSaid CB) (t := fun E => tCall (spDec K CB) [] E (tCons (tVar 10) tNil)) (k := 5) (by rfl) dS.m dS.F.kp lkS hcS bS scSd rfl (Or.inl rfl) (said_gives M.W M.G M.gB M.T.isi M.rp) TB rfl (by simp; rfl) (fun p hp _ => by (rw [List.mem_singleton.mp hp]; rfl)) hr (LamX.lamS_by (by show LamX.lamSB (defScope sLaw) _ = true; decide +kernel)) rfl (fun _ _ _ _ _ => rfl) (fun A outer s H E f c' hr => (pe_call GQ hr (by rfl) dQ.m dQ.F.kp dQ.b .nil lam_pass (pa_cons (pv 10) pa_nil)))) pe_str (by with_unfolding_all rfl)) (pss_one (ps_ret pe_bl)) pss_nil) (pss_one (ps_if (pt_cmpR op_ne (LamX.pe_lamcall (T := [(PT, "law.<locals>.<lambda>")]) (TT := TSaid CB) (t := fun E => tCall (spClo K CB) [] E (tCons (tVar 10) (tCons (tVar 9) tNil))) (k := 5) (by rfl) dS.m dS.F.kp lkS hcS bS scSd rfl (Or.inl rfl) (said_gives M.W M.G M.gB M.T.isi M.rp) TB rfl (by simp; rfl) (fun p hp _ => by (rw [List.mem_singleton.mp hp]; rfl)) hr (LamX.lamS_by (by show LamX.lamSB (defScope sLaw) _ = true; decide +kernel)) rfl (fun _ _ _ _ _ => rfl) (fun A outer s H E f c' hr => (pe_call GC hr (by rfl) dC.m dC.F.kp dC.b .nil lam_pass (pa_cons (pv 10) (pa_cons (pv 9) pa_nil))))) pe_str (by with_unfolding_all rfl)) (pss_one (ps_ret pe_bl)) pss_nil))))))))))))) (pss_one (ps_ret (pe_cmpR op_eq (LamX.pe_lamcall (T := [(PT, "law.<locals>.<lambda>")]) (TT := TSaid CB) (k := 5) (by rfl) dS.m dS.F.kp lkS hcS bS scSd rfl (Or.inl rfl) (said_gives M.W M.G M.gB M.T.isi M.rp) TB rfl (by simp; rfl) (fun p hp _ => by (rw [List.mem_singleton.mp hp]; rfl)) hr (LamX.lamS_by (by show LamX.lamSB (defScope sLaw) _ = true; decide +kernel)) rfl (fun _ _ _ _ _ => rfl) (fun A outer s H E f c' hr => (pe_call GQ hr (by rfl) dQ.m dQ.F.kp dQ.b .nil lam_pass (pa_cons (pe_op op_rep (pe_lst (pa_cons (pe_tup (pa_cons (pe_tup (pa_cons pe_str (pa_cons pe_str (pa_cons pe_int pa_nil)))) pa_nil)) pa_nil)) pe_int) pa_nil)))) pe_str (by with_unfolding_all rfl))))), ?_⟩
  have hc : ∀ v ∈ cutV (ns.map V.int) none (some 10) ++ [V.int 0], ∃ c, v = V.int c := by
    intro v hv
    rcases List.mem_append.mp hv with h | h
    · obtain ⟨c, _, e⟩ := List.mem_map.mp (cut_mem v h)
      exact ⟨c, e.symm⟩
    · exact ⟨0, by simpa using h⟩
  have hcl : (cutV (ns.map V.int) none (some 10)).length ≤ 63 := Nat.le_trans (cutV_length _ _ _) (by rw [List.length_map]; exact hn)
  have hT0 : LamX.Tabs [(PT, "law.<locals>.<lambda>")] H := fun p hp => by
    rw [List.mem_singleton.mp hp]
    exact LamX.TabS.nil hT
  refine ⟨_, rfl, _, rfl, a, _, rfl, hS, fun l0 n0 => ?_⟩
  refine ⟨by show 1 ≤ sizeLine; decide, fun l1 n1 => ?_⟩
  have e01 : l0 ≠ l1 := ne_of_none (o := .lst (cutV (ns.map V.int) none (some 10))) upd_same n1
  refine ⟨l0, l1, _, _, rfl, rfl, (by rw [upd_ne e01]; exact upd_same), upd_same, (Nat.le_of_lt (small1000 (by show _ + 1 ≤ 1000; omega))), fun l2 n2 => ?_⟩
  refine ⟨l2, rfl, ⟨_, SqL.of upd_same⟩, ?_⟩
  refine for_list (K := K) (a := l2) (xs := cutV (ns.map V.int) none (some 10) ++ [V.int 0])
    (fun i σ H2 => ∃ o1 o2 o3 o4 o5 o6 o7 o8 o9 o10 : Option V, σ = [some (.ref a), o1, o2, o3, o4, o5, o6, o7, o8, o9, o10, none, none, none, none] ∧ H2 l2 = some (.lst (cutV (ns.map V.int) none (some 10) ++ [V.int 0])) ∧ LamX.Tabs [(PT, "law.<locals>.<lambda>")] H2)
    ⟨none, none, none, none, none, none, none, none, none, none, rfl, upd_same, Tabs.same hT0 fun b u z => new_same n2 _ _ (new_same n1 _ _ (new_same n0 _ _ z))⟩ (fun i σ H2 _ ⟨_, _, _, _, _, _, _, _, _, _, _, h2, _⟩ => SqL.of h2) ?_ ?_
  · rintro i y σ H2 hi ⟨o1, o2, o3, o4, o5, o6, o7, o8, o9, o10, rfl, h2, t2⟩
    obtain ⟨c, rfl⟩ := hc y (List.mem_of_getElem? hi)
    refine ⟨_, rfl, c, rfl, fun wl H3 nw s3 hW => ?_⟩
    have nl2 : l2 ≠ wl := ne_of_none h2 nw
    have h23 := s3 _ _ h2
    have t3 := Tabs.same t2 s3
    refine ⟨_, rfl, wl, 4, 0, rfl, hW, by decide, by decide, by decide, fun k xs4 k0 k4 W4 => ⟨_, _, rfl, rfl, ?_⟩⟩
    obtain ⟨ms3, hw3⟩ := hW.lst
    have k34 : KeepB wl H3 (upd H3 wl (.lst xs4)) := KeepB.at
    obtain ⟨H4, eH4⟩ : ∃ G, upd H3 wl (.lst xs4) = G := ⟨_, rfl⟩
    rw [eH4] at W4 k34 ⊢
    have t4 := Tabs.keep hw3 t3 k34
    have h24 := k34 _ _ nl2 h23
    refine ⟨_, rfl, by omega, by omega, fun D hD => ?_⟩
    have nDw : D ≠ wl := W4.ne hD
    have nD2 : l2 ≠ D := fun z => by rw [← z, h24] at hD; cases hD
    refine lc_range (lo := 0) (n := (1 + k).toNat) (fun i H5 => KeepB wl H4 H5 ∧ WellAt H5 wl (1 + 50 * i) ∧ ∃ xs, H5 D = some (.lst xs) ∧ xs.length = i ∧ RowC K H5 xs)
      ⟨KeepB.of (new_same hD), (W4.same (new_same hD)).mono (by omega), [], upd_same, rfl, fun x hx => nomatch hx⟩ ?_ ?_
    · rintro i H5 hi ⟨k5, W5, xs, gD, hxl, hrow⟩
      refine ⟨rfl, yes_of ⟨_, rfl, wl, _, rfl, W5, by omega, fun t cc H6 ic h6 hs k6 W6 => ?_⟩⟩
      have gD6 := k6 D _ nDw gD
      obtain ⟨ms, hw5⟩ := W5.lst
      refine ⟨xs, gD6, small1000 (by omega), (k5.trans k6).updN hD, (W6.updN nDw).mono (by omega), _, upd_same, by rw [List.length_append, hxl]; rfl, fun x hx => ?_⟩
      rcases List.mem_append.mp hx with h | h
      · exact (RowC.keepB gD6 KeepB.at (RowC.keepB hw5 k6 hrow)) x h
      · rw [List.mem_singleton.mp h]
        exact ⟨t, cc, rfl, IsC.keepB gD6 KeepB.at ic, h6, hs⟩
    rintro H5 ⟨k5, W5, xs, gD, hxl, hrow⟩
    have h25 := k5 _ _ nl2 h24
    obtain ⟨ms4, hw4⟩ := W4.lst
    have t5 := Tabs.keep hw4 t4 k5
    refine ⟨_, rfl, D, rfl, ⟨_, SqL.of gD⟩, ?_⟩
    refine for_list (K := K) (a := D) (xs := xs) (fun i σ H6 => (∃ o4 o5, σ = [some (.ref a), some (.int c), some (.ref wl), some (.ref D), o4, o5, o6, o7, o8, o9, o10, none, none, none, none]) ∧ Same H5 H6) ⟨⟨_, _, rfl⟩, fun _ _ z => z⟩ (fun i σ H6 _ h => SqL.of (h.2 _ _ gD)) ?_ ?_
    · rintro i x σ H6 hx ⟨⟨o4, o5, rfl⟩, s6⟩
      obtain ⟨t, cc, rfl, hc1, h6, hs⟩ := (RowC.same s6 hrow) _ (List.mem_of_getElem? hx)
      obtain ⟨ta, ys, et, hcl1⟩ := id hc1
      cases et
      have hyl := hcl1.len
      refine ⟨_, rfl, t, rfl, ⟨_, hcl1.sq⟩, fun D2 hD2 => ?_⟩
      refine lc_it (walk_tup (xs := ys)) (fun i H7 => Same H6 H7 ∧ ∃ zs, H7 D2 = some (.lst zs) ∧ Paired (fun z l => IsC K H7 z [neg l]) zs (cc.take i)) ⟨new_same hD2, [], upd_same, .nil⟩ (fun i H7 _ h => SqT.same h.1 hcl1.sq) ?_ ?_
      · rintro i x H7 H8 hi ⟨s3, zs, gD2, hp⟩ ⟨rfl, hx'⟩
        obtain ⟨lt, hcl', hx2⟩ := paired_get hcl1.p hx'
        obtain ⟨b, rfl, hb⟩ := IsLit.same s3 hx2
        refine ⟨b, _, rfl, hb, rfl, _, _, rfl, _, _, rfl, _, _, rfl, rfl, ?_⟩
        refine ⟨rfl, yes_of ?_⟩
        refine ⟨_, rfl, _, rfl, _, rfl, _, rfl, _, _, rfl, rfl, le_sz (Nat.le_of_ble_eq_true rfl), fun t1 h1 => ⟨le_sz (Nat.le_of_ble_eq_true rfl), fun t2 h2 => ?_⟩⟩
        have sA := new_same (o := .tup [V.str lt.2.1, .str lt.1, .int (-lt.2.2 - 1)]) h1
        have sB := sA.trans (new_same (o := .tup [V.ref t1]) h2)
        have iC : IsC K (upd (upd H8 t1 (.tup [V.str lt.2.1, .str lt.1, .int (-lt.2.2 - 1)])) t2 (.tup [V.ref t1])) (.ref t2) [neg lt] := ⟨t2, [.ref t1], rfl, SqT.of upd_same, .cons ⟨t1, rfl, SqT.same (new_same h2) (SqT.of upd_same)⟩ .nil, by show 1 ≤ 1; decide, by show 1 ≤ 1000; decide⟩
        have hzl : zs.length = (cc.take i).length := Paired.length hp
        have gD3 := sB _ _ gD2
        refine ⟨zs, gD3, small1000 (by rw [hzl, List.length_take]; have := hcl1.len; omega), same_upd hD2 (s3.trans sB), zs ++ [.ref t2], upd_same, ?_⟩
        rw [List.take_add_one, hcl']
        exact paired_app (L2.Paired.mapP hp fun _ _ z => IsC.lst gD3 (IsC.same sB z)) (.cons (IsC.lst gD3 iC) .nil)
      · rintro H7 ⟨s7, zs, gD2, hp⟩
        rw [hyl, List.take_of_length_le (Nat.le_refl _)] at hp
        have hzl : zs.length = cc.length := Paired.length hp
        refine .inl ⟨D2, zs, rfl, SqL.of gD2, fun r hr' => ?_⟩
        have s8 := new_same (o := .tup zs) hr'
        have p8 := L2.Paired.mapP hp fun _ _ z => IsC.same s8 z
        have g8 : (upd H7 r (.tup zs)) r = some (.tup zs) := upd_same
        have s68 := s7.trans s8
        obtain ⟨H8, eH8⟩ : ∃ G, upd H7 r (.tup zs) = G := ⟨_, rfl⟩
        rw [eH8] at p8 g8 s68 ⊢
        have hc8 := IsC.same s68 hc1
        refine ⟨_, rfl, .ref t, rfl, .inr ⟨cc, hc8, h6, hs, fun r2 zs2 H9 q9 p9 s9 => ?_⟩⟩
        refine ⟨_, rfl, neg_ne q9 p9 (SqT.same s9 (SqT.of g8)) (L2.Paired.mapP p8 fun _ _ z => IsC.same s9 z) fun H10 s10 => ?_⟩
        have hc10 := IsC.same (s9.trans s10) hc8
        refine ⟨false, rfl, iteF ⟨_, rfl, .ref t, rfl, .inr ⟨cc, hc10, h6, hs, fun r3 zs3 H11 q11 p11 s11 => ?_⟩⟩⟩
        have s611 := ((s68.trans s9).trans s10).trans s11
        exact ⟨.ref r3, .ty "tuple", _, _, true, rfl, .ty _, tyT q11, kit_ty (by show kitB "tuple" "tuple" = some true; decide +kernel), _, rfl, iteF ⟨⟨_, _, rfl⟩, s6.trans s611⟩⟩
    rintro σ H6 ⟨⟨o4, o5, rfl⟩, s6⟩
    have gD6 := s6 _ _ gD
    have h26 := s6 _ _ h25
    have W6 := W5.same s6
    have t6 := Tabs.same t5 s6
    have hrow6 := RowC.same s6 hrow
    obtain ⟨x0, xr, rfl⟩ : ∃ x0 xr, xs = x0 :: xr := by
      cases xs with
      | nil => exact absurd hxl (by show (0 : Nat) ≠ _; omega)
      | cons x y => exact ⟨x, y, rfl⟩
    obtain ⟨tt, cc, rfl, ic, h6, hs⟩ := hrow6 _ List.mem_cons_self
    refine ⟨_, rfl, _, rfl, D, _, 0, _, rfl, rfl, SqL.of gD6, at0, wl, _, .ref tt, cc, rfl, W6, by omega, ic, h6, hs, fun od d H7 hod hbad k7 W7 => ?_⟩
    have gD7 := k7 _ _ nDw gD6
    have hlen : (((V.ref tt :: xr).length : Nat) : Int) = 1 + k := by rw [hxl]; omega
    refine ⟨_, rfl, _, rfl, D, _, rfl, .inl (SqL.of gD7), _, _, rfl, rfl, wl, _, _, rfl, W7, by omega, by omega, by omega, fun r zs r0 r1 W8 => ?_⟩
    refine ⟨le_sz (Nat.le_of_ble_eq_true rfl), fun u hu => ⟨u, _, rfl, SqT.of upd_same, rfl, _, _, rfl, _, _, rfl, rfl, ?_⟩⟩
    have k78 : KeepB wl H7 (upd H7 wl (.lst zs)) := KeepB.at
    obtain ⟨ms6, hw6⟩ := W6.lst
    obtain ⟨ms7, hw7⟩ := W7.lst
    have hw8 : (upd H7 wl (.lst zs)) wl = some (.lst zs) := upd_same
    have od8 : Is K (upd H7 wl (.lst zs)) od d := Is.keepL hw7 hw8 k78 hod
    have t8 := Tabs.keep hw7 (Tabs.keep hw6 t6 k7) k78
    have h28 := k78 _ _ nl2 (k7 _ _ nl2 h26)
    have gD8 := k78 _ _ nDw gD7
    have row8 := RowC.keepB hw7 k78 (RowC.keepB hw6 k7 hrow6)
    obtain ⟨H8, eH8⟩ : ∃ G, upd H7 wl (.lst zs) = G := ⟨_, rfl⟩
    rw [eH8] at od8 t8 h28 gD8 row8 W8 hu ⊢
    have s9 := new_same (o := .tup [od, V.int r]) hu
    have od9 := od8.same s9
    have t9 := Tabs.same t8 s9
    have h29 := s9 _ _ h28
    have gD9 := s9 _ _ gD8
    have row9 := RowC.same s9 row8
    have W9 := W8.same s9
    obtain ⟨H9, eH9⟩ : ∃ G, upd H8 u (.tup [od, V.int r]) = G := ⟨_, rfl⟩
    rw [eH9] at od9 t9 h29 gD9 row9 W9 ⊢
    refine ⟨t9, fun H10 e10 t10 => ?_⟩
    have od10 := Is.ext e10 od9
    have h210 := e10 _ _ h29 fun _ z => nomatch z
    have gD10 := e10 _ _ gD9 fun _ z => nomatch z
    have row10 := RowC.extN e10 row9
    have W10 := WellAt.ext W9 e10
    refine said_neg (v := od) rfl od10 hbad fun H11 s11 => ?_
    refine ⟨rfl, _, rfl, iteF ?_⟩
    have od11 := od10.same s11
    have t11 := Tabs.same t10 s11
    have h211 := s11 _ _ h210
    have gD11 := s11 _ _ gD10
    have row11 := RowC.same s11 row10
    have W11 := W10.same s11
    clear od8 od9 od10 t8 t9 t10 h28 h29 h210 gD8 gD9 gD10 row8 row9 row10 W8 W9 W10
    refine ⟨_, rfl, _, rfl, _, rfl, D, _, rfl, SqL.of gD11, fun p1 n1 => ?_⟩
    have g1 : (upd H11 p1 (.lst (cutV (V.ref tt :: xr) none (some r)))) p1 = some (.lst (cutV (V.ref tt :: xr) none (some r))) := upd_same
    have s12 := new_same (o := .lst (cutV (V.ref tt :: xr) none (some r))) n1
    obtain ⟨H12, eH12⟩ : ∃ G, upd H11 p1 (.lst (cutV (V.ref tt :: xr) none (some r))) = G := ⟨_, rfl⟩
    rw [eH12] at g1 s12 ⊢
    refine ⟨_, rfl, le_sz (Nat.le_of_ble_eq_true rfl), fun p2 n2' => ?_⟩
    have g2 : (upd H12 p2 (.lst [od])) p2 = some (.lst [od]) := upd_same
    have s13 := new_same (o := .lst [od]) n2'
    have g12 := s13 _ _ g1
    obtain ⟨H13, eH13⟩ : ∃ G, upd H12 p2 (.lst [od]) = G := ⟨_, rfl⟩
    rw [eH13] at g2 g12 s13 ⊢
    have cl1 := cutV_length (V.ref tt :: xr) none (some r)
    have cl2 := cutV_length (V.ref tt :: xr) (some r) none
    have lx : (V.ref tt :: xr).length ≤ 5 := by omega
    refine ⟨p1, p2, _, _, rfl, rfl, g12, g2, le_sz (by show _ + 1 ≤ 100; omega), fun p3 n3 => ?_⟩
    obtain ⟨A1, eA1⟩ : ∃ z, cutV (V.ref tt :: xr) none (some r) = z := ⟨_, rfl⟩
    obtain ⟨A2, eA2⟩ : ∃ z, cutV (V.ref tt :: xr) (some r) none = z := ⟨_, rfl⟩
    rw [eA1] at g1 g12 cl1 ⊢
    rw [eA2] at cl2
    have g3 : (upd H13 p3 (.lst (A1 ++ [od]))) p3 = some (.lst (A1 ++ [od])) := upd_same
    have s14 := new_same (o := .lst (A1 ++ [od])) n3
    obtain ⟨H14, eH14⟩ : ∃ G, upd H13 p3 (.lst (A1 ++ [od])) = G := ⟨_, rfl⟩
    rw [eH14] at g3 s14 ⊢
    have s114 := (s12.trans s13).trans s14
    refine ⟨_, rfl, _, rfl, _, rfl, D, _, rfl, SqL.of (s114 _ _ gD11), fun p4 n4 => ?_⟩
    rw [eA2]
    have g4 : (upd H14 p4 (.lst A2)) p4 = some (.lst A2) := upd_same
    have s15 := new_same (o := .lst A2) n4
    obtain ⟨H15, eH15⟩ : ∃ G, upd H14 p4 (.lst A2) = G := ⟨_, rfl⟩
    rw [eH15] at g4 s15 ⊢
    refine ⟨p3, p4, _, _, rfl, rfl, s15 _ _ g3, g4, le_sz (by rw [List.length_append]; show _ + 1 + _ ≤ 100; omega), fun p5 n5 => ?_⟩
    have g5 : (upd H15 p5 (.lst ((A1 ++ [od]) ++ A2))) p5 = some (.lst ((A1 ++ [od]) ++ A2)) := upd_same
    have s16 := new_same (o := .lst ((A1 ++ [od]) ++ A2)) n5
    obtain ⟨H16, eH16⟩ : ∃ G, upd H15 p5 (.lst ((A1 ++ [od]) ++ A2)) = G := ⟨_, rfl⟩
    rw [eH16] at g5 s16 ⊢
    have s116 := (s114.trans s15).trans s16
    have W16 := W11.same s116
    have row16 := RowC.same s116 row11
    have od16 := od11.same s116
    have t16 := Tabs.same t11 s116
    have h216 := s116 _ _ h211
    have gD16 := s116 _ _ gD11
    obtain ⟨tt', cc', ett, ic', h6', hs'⟩ := row16 _ List.mem_cons_self
    cases ett
    refine ⟨_, rfl, _, rfl, D, _, 0, _, rfl, rfl, SqL.of gD16, at0, wl, _, .ref tt, cc', rfl, W16, by omega, ic', h6', hs', fun ob d2 H17 hob hbad2 k17 W17 => ?_⟩
    obtain ⟨ms16, hw16⟩ := W16.lst
    obtain ⟨ms17, hw17⟩ := W17.lst
    have n5w : p5 ≠ wl := (W11.same (s114.trans s15)).ne n5
    have g57 := k17 _ _ n5w g5
    have od17 : Is K H17 od d := Is.keepL hw16 hw17 k17 od16
    have t17 := Tabs.keep hw16 t16 k17
    have h217 := k17 _ _ nl2 h216
    have row17 := RowC.keepB hw16 k17 row16
    refine ⟨le_sz (Nat.le_of_ble_eq_true rfl), fun p6 n6 => ?_⟩
    have g6 : (upd H17 p6 (.lst [ob])) p6 = some (.lst [ob]) := upd_same
    have s18 := new_same (o := .lst [ob]) n6
    obtain ⟨H18, eH18⟩ : ∃ G, upd H17 p6 (.lst [ob]) = G := ⟨_, rfl⟩
    rw [eH18] at g6 s18 ⊢
    refine ⟨p5, p6, _, _, rfl, rfl, s18 _ _ g57, g6, le_sz (by rw [List.length_append, List.length_append]; show _ + 1 + _ + 1 ≤ 100; omega), fun p7 n7 => ?_⟩
    have g7 : (upd H18 p7 (.lst (((A1 ++ [od]) ++ A2) ++ [ob]))) p7 = some (.lst (((A1 ++ [od]) ++ A2) ++ [ob])) := upd_same
    have s19 := new_same (o := .lst (((A1 ++ [od]) ++ A2) ++ [ob])) n7
    obtain ⟨H19, eH19⟩ : ∃ G, upd H18 p7 (.lst (((A1 ++ [od]) ++ A2) ++ [ob])) = G := ⟨_, rfl⟩
    rw [eH19] at g7 s19 ⊢
    have s179 := s18.trans s19
    have od19 := od17.same s179
    have ob19 := hob.same s179
    have t19 := Tabs.same t17 s179
    have h219 := s179 _ _ h217
    have row19 := RowC.same s179 row17
    have W19 := W17.same s179
    have s18x := s18
    clear s12 s13 s14 s15 s16 s114 s116 s18 s19 g1 g2 g12 g3 g4 g5 g57 g6 od11 od16 t11 t16 t17 h211 h216 h217 row11 row16 row17
    refine ⟨_, rfl, le_sz (Nat.le_of_ble_eq_true rfl), fun u1 h1 => ⟨le_sz (Nat.le_of_ble_eq_true rfl), fun u2 h2 => ⟨le_sz (Nat.le_of_ble_eq_true rfl), fun u3 h3 => ⟨le_sz (Nat.le_of_ble_eq_true rfl), fun u4 h4 => ⟨le_sz (Nat.le_of_ble_eq_true rfl), fun q hq => ?_⟩⟩⟩⟩⟩
    have sN := (((new_same (o := .tup [V.int 0, .int 0]) h1).trans (new_same (o := .tup [V.ref u1]) h2)).trans (new_same (o := .tup [V.str "cycle", .ref u2]) h3)).trans (new_same (o := .lst []) h4)
    have WN := W19.same sN
    have sQ := sN.trans (new_same (o := .lst [V.non, .ref u3, .ref u4]) hq)
    refine ⟨wl, q, _, _, rfl, W19.same sQ, by omega, (WN.ne hq).symm, SqL.of upd_same, Nat.le_of_ble_eq_true rfl, Nat.le_of_ble_eq_true rfl, fun k2 tv xs5 htv W20 => ?_⟩
    obtain ⟨ms19, hw19⟩ := W19.lst
    have n7w : p7 ≠ wl := fun z => by
      have := W17.same s18x
      exact (this.ne n7) z
    have k20 : KeepB wl H19 (upd (upd (upd (upd (upd (upd H19 u1 (.tup [V.int 0, .int 0])) u2 (.tup [V.ref u1])) u3 (.tup [V.str "cycle", .ref u2])) u4 (.lst [])) q (.lst [V.non, .ref u3, .ref u4])) wl (.lst xs5)) := (KeepB.of sQ).trans KeepB.at
    obtain ⟨H20, eH20⟩ : ∃ G, upd (upd (upd (upd (upd (upd H19 u1 (.tup [V.int 0, .int 0])) u2 (.tup [V.ref u1])) u3 (.tup [V.str "cycle", .ref u2])) u4 (.lst [])) q (.lst [V.non, .ref u3, .ref u4])) wl (.lst xs5) = G := ⟨_, rfl⟩
    rw [eH20] at W20 k20 ⊢
    obtain ⟨ms20, hw20⟩ := W20.lst
    have od20 : Is K H20 od d := Is.keepL hw19 hw20 k20 od19
    have ob20 : Is K H20 ob d2 := Is.keepL hw19 hw20 k20 ob19
    have t20 := Tabs.keep hw19 t19 k20
    have h220 := k20 _ _ nl2 h219
    have row20 := RowC.keepB hw19 k20 row19
    have g720 := k20 _ _ n7w g7
    have bad20 : ∀ {w : V} {G : Hp}, RowC K G (V.ref tt :: xr) → Is K G od d → Is K G ob d2 → Seq K G w (((A1 ++ [od]) ++ A2) ++ [ob]) → Refd K G w r := fun {w G} h1 h2 h3 hw => by
      rw [← eA1, ← eA2] at hw
      exact rows_ref h1 (by omega) r0 (by omega) h2 hbad h3 hw
    clear W16 W17 W19 WN sN sQ od19 ob19 t19 h219 row19 g7 k17 k20 hw16 hw17
    refine ⟨_, rfl, _, rfl, .inl ⟨p7, _, rfl, SqL.of g720, fun tu htu => ⟨le_sz (Nat.le_of_ble_eq_true rfl), fun ll hll => ⟨ll, rfl, ⟨_, SqL.of upd_same⟩, ?_⟩⟩⟩⟩
    have s21 := (new_same (o := .tup (((A1 ++ [od]) ++ A2) ++ [ob])) htu).trans (new_same (o := .lst [V.ref p7, .ref tu]) hll)
    have gtu : (upd (upd H20 tu (.tup (((A1 ++ [od]) ++ A2) ++ [ob]))) ll (.lst [V.ref p7, .ref tu])) tu = some (.tup (((A1 ++ [od]) ++ A2) ++ [ob])) := new_same hll _ _ upd_same
    have gll : (upd (upd H20 tu (.tup (((A1 ++ [od]) ++ A2) ++ [ob]))) ll (.lst [V.ref p7, .ref tu])) ll = some (.lst [V.ref p7, .ref tu]) := upd_same
    obtain ⟨HB, eHB⟩ : ∃ G, upd (upd H20 tu (.tup (((A1 ++ [od]) ++ A2) ++ [ob]))) ll (.lst [V.ref p7, .ref tu]) = G := ⟨_, rfl⟩
    rw [eHB] at s21 gtu gll ⊢
    have hlog : r.natAbs.log2 < 1920 := by
      have h : ∀ r : Int, 0 ≤ r → r ≤ 5 → r.natAbs.log2 < 1920 := fun r h0 h1 => by
        rcases (by omega : r = 0 ∨ r = 1 ∨ r = 2 ∨ r = 3 ∨ r = 4 ∨ r = 5) with rfl | rfl | rfl | rfl | rfl | rfl <;> decide
      exact h r r0 (by omega)
    have badB : ∀ {w : V} {G : Hp}, LamX.ExtN HB G → w ∈ [V.ref p7, .ref tu] → Refd K G w r := fun {w G} e hw => by
      refine bad20 (RowC.extN e (RowC.same s21 row20)) (Is.ext e (od20.same s21)) (Is.ext e (ob20.same s21)) ?_
      rcases List.mem_cons.mp hw with z | z
      · exact ⟨p7, z, .inl (SqL.extN e (SqL.of (s21 _ _ g720)))⟩
      · exact ⟨tu, List.mem_singleton.mp z, .inr (SqT.ext e (SqT.of gtu))⟩
    refine for_list (K := K) (a := ll) (xs := [V.ref p7, .ref tu]) (fun i σ H21 => (∃ o10, σ = [some (.ref a), some (.int c), some (.ref wl), some (.ref D), o4, o5, some od, some (.int r), some (.ref p7), some tv, o10, none, none, none, none]) ∧ LamX.ExtN HB H21 ∧ LamX.Tabs [(PT, "law.<locals>.<lambda>")] H21)
      ⟨⟨_, rfl⟩, LamX.ExtN.refl _, Tabs.same t20 s21⟩ (fun i σ H21 _ h => SqL.extN h.2.1 (SqL.of gll)) ?_ ?_
    · rintro i x σ H21 hx ⟨⟨o10', rfl⟩, e21, t21⟩
      have hm := List.mem_of_getElem? hx
      refine ⟨t21, fun H22 e22 t22 => ?_⟩
      refine said_dec (v := x) rfl (badB (e21.trans e22) hm) hlog fun H23 s23 => ?_
      refine ⟨_, rfl, r, rfl, hlog, rfl, _, rfl, ?_⟩
      rw [decide_eq_true rfl]
      refine iteF ⟨Tabs.same t22 s23, fun H24 e24 t24 => ?_⟩
      have e2 := (e21.trans e22).trans ((LamX.ExtN.of s23).trans e24)
      refine said_clo (v := x) (t := tv) rfl rfl (badB e2 hm) hlog fun H25 s25 => ?_
      refine ⟨_, rfl, r, rfl, hlog, rfl, _, rfl, ?_⟩
      rw [decide_eq_true rfl]
      exact iteF ⟨⟨_, rfl⟩, e2.trans (LamX.ExtN.of s25), Tabs.same t24 s25⟩
    rintro σ H21 ⟨⟨o10', rfl⟩, e21, t21⟩
    have h221 := e21 _ _ (s21 _ _ h220) fun _ z => nomatch z
    have W21 := WellAt.ext (W20.same s21) e21
    refine ⟨_, rfl, fun d1 g1 => fun d2 g2 => ⟨upd_same, [(.inr "x", .int 1)], rfl, Nat.le_of_ble_eq_true rfl, ?_⟩⟩
    refine ⟨le_sz (Nat.le_of_ble_eq_true rfl), fun u1 h1 => ⟨le_sz (Nat.le_of_ble_eq_true rfl), fun u2 h2 => ⟨le_sz (Nat.le_of_ble_eq_true rfl), fun u3 h3 => ?_⟩⟩⟩
    have sD1 := new_same (o := .dK []) g1
    have gd1 : (upd H21 d1 (.dK [])) d1 = some (.dK []) := upd_same
    have sD2 : Same (upd H21 d1 (.dK [])) (upd (upd (upd H21 d1 (.dK [])) d2 (.dK [])) d2 (.dK (mergeK [] [(.inr "x", .int 1)]))) := same_upd g2 (new_same g2)
    have gd2 : (upd (upd (upd H21 d1 (.dK [])) d2 (.dK [])) d2 (.dK (mergeK [] [(.inr "x", .int 1)]))) d2 = some (.dK (mergeK [] [(.inr "x", .int 1)])) := upd_same
    have sU := ((new_same (o := .tup [V.str "x", .str "x", .int 0]) h1).trans (new_same (o := .tup [V.ref u1]) h2)).trans (new_same (o := .lst [V.ref u2]) h3)
    obtain ⟨k1, hk1, k1a, k1b⟩ : ∃ n : Nat, Int.toNat 20001 = n ∧ 20000 < n ∧ n ≤ 30000 := ⟨20001, rfl, by decide, by decide⟩
    obtain ⟨k2', hk2, k2a, k2b⟩ : ∃ n : Nat, Int.toNat 20002 = n ∧ 20000 < n ∧ n ≤ 30000 := ⟨20002, rfl, by decide, by decide⟩
    refine ⟨u3, 20001, [.ref u2], rfl, rfl, upd_same, by decide, by decide, (by rw [sizeLine_eq]; show 1 * 20001 ≤ 16777216; decide), fun L hL => ?_⟩
    rw [hk1, flat1] at *
    have gL : ∀ {G : Hp}, (upd G L (.lst (List.replicate k1 (V.ref u2)))) L = some (.lst (List.replicate k1 (V.ref u2))) := upd_same
    have sL := new_same (o := .lst (List.replicate k1 (V.ref u2))) hL
    refine ⟨le_sz (Nat.le_of_ble_eq_true rfl), fun u4 h4 => ⟨le_sz (Nat.le_of_ble_eq_true rfl), fun u5 h5 => ?_⟩⟩
    have sV := (new_same (o := .tup [V.non]) h4).trans (new_same (o := .tup [V.ref u4]) h5)
    refine ⟨u5, 20002, [.ref u4], rfl, rfl, SqT.of upd_same, (fun e => by cases e), by decide, by decide, (by show 1 ≤ 9; decide), fun M hM => ?_⟩
    rw [hk2, flat1] at *
    have sM := new_same (o := .tup (List.replicate k2' (V.ref u4))) hM
    have sAll := ((((sD1.trans sD2).trans sU).trans sL).trans sV).trans sM
    have WM := W21.same sAll
    have nd1 := W21.ne g1
    have nd2 := (W21.same sD1).ne g2
    have nL := (W21.same ((sD1.trans sD2).trans sU)).ne hL
    have nM := (W21.same ((((sD1.trans sD2).trans sU).trans sL).trans sV)).ne hM
    refine ⟨le_sz (Nat.le_of_ble_eq_true rfl), fun q hq => ?_⟩
    have sQ := new_same (o := .lst [V.non, .ref d1, .str "", .int 5, .ref d2, .ref L, .ref M, .int 7]) hq
    refine ⟨wl, q, _, _, rfl, WM.same sQ, by omega, (WM.ne hq).symm, SqL.of upd_same, Nat.le_of_ble_eq_true rfl, Nat.le_of_ble_eq_true rfl, fun k3 rv xs6 hrv W22 => ?_⟩
    have KZ := (KeepB.of (p := wl) (sAll.trans sQ)).trans (KeepB.at (p := wl) (o := .lst xs6))
    obtain ⟨ms21, hw21⟩ := W21.lst
    have tZ := Tabs.keep hw21 t21 KZ
    have h2Z := KZ _ _ nl2 h221
    have sE := ((sL.trans sV).trans sM).trans sQ
    have gZ1 := (KeepB.at (p := wl) (o := .lst xs6)) _ _ nd1 (sE _ _ (sU _ _ (sD2 _ _ gd1)))
    have gZ2 := (KeepB.at (p := wl) (o := .lst xs6)) _ _ nd2 (sE _ _ (sU _ _ gd2))
    have gZL := (KeepB.at (p := wl) (o := .lst xs6)) _ _ nL ((sV.trans sM).trans sQ _ _ gL)
    have gZM := (KeepB.at (p := wl) (o := .lst xs6)) _ _ nM (sQ _ _ upd_same)
    refine ⟨tZ, fun H23 e23 t23 => ?_⟩
    have b1 := e23 _ _ gZ1 fun _ z => nomatch z
    have b2 := e23 _ _ gZ2 fun _ z => nomatch z
    have bL := e23 _ _ gZL fun _ z => nomatch z
    have bM := e23 _ _ gZM fun _ z => nomatch z
    have bad : ∀ {G : Hp}, LamX.ExtN H23 G → Refd K G rv (-1) := fun {G} e => by
      have hrv' : [V.non, .ref d1, .str "", .int 5, .ref d2, .ref L, .ref M, .int 7][k3]? = some rv := hrv
      have hm := List.mem_of_getElem? hrv'
      simp only [List.mem_cons, List.not_mem_nil, or_false] at hm
      rcases hm with rfl | rfl | rfl | rfl | rfl | rfl | rfl | rfl
      · exact refd_non
      · exact refd_dic (e _ _ b1 fun _ z => nomatch z)
      · exact refd_str _
      · exact refd_int _
      · exact refd_dic (e _ _ b2 fun _ z => nomatch z)
      · exact refd_rep k1a k1b (SqL.of (e _ _ bL fun _ z => nomatch z))
      · exact refd_repT k2a k2b (SqT.of (e _ _ bM fun _ z => nomatch z))
      · exact refd_int _
    refine said_dec (v := rv) rfl (bad (LamX.ExtN.refl _)) (by decide) fun H24 s24 => ?_
    refine ⟨rfl, _, rfl, iteF ⟨Tabs.same t23 s24, fun H25 e25 t25 => ?_⟩⟩
    refine said_clo (v := rv) (t := tv) rfl rfl (bad ((LamX.ExtN.of s24).trans e25)) (by decide) fun H26 s26 => ?_
    exact ⟨rfl, _, rfl, iteF ⟨_, _, _, _, _, _, _, _, _, _, rfl, s26 _ _ (e25 _ _ (s24 _ _ (e23 _ _ h2Z fun _ z => nomatch z)) fun _ z => nomatch z), Tabs.same t25 s26⟩⟩
  · rintro σ H2 ⟨o1, o2, o3, o4, o5, o6, o7, o8, o9, o10, rfl, h2, t2⟩
    refine ⟨t2, fun H3 e3 t3 => ?_⟩
    refine ⟨le_sz (Nat.le_of_ble_eq_true rfl), fun u1 h1 => ⟨le_sz (Nat.le_of_ble_eq_true rfl), fun u2 h2 => ⟨le_sz (Nat.le_of_ble_eq_true rfl), fun u3 h3 => ?_⟩⟩⟩
    have g1 : (upd H3 u1 (.tup [V.str "x", .str "x", .int 0])) u1 = some (.tup [V.str "x", .str "x", .int 0]) := upd_same
    obtain ⟨G1, eG1⟩ : ∃ G, upd H3 u1 (.tup [V.str "x", .str "x", .int 0]) = G := ⟨_, rfl⟩
    have eG1' := eG1
    have sG2 := new_same (o := .tup [V.ref u1]) h2
    have gu2 : (upd (upd H3 u1 (.tup [V.str "x", .str "x", .int 0])) u2 (.tup [V.ref u1])) u2 = some (.tup [V.ref u1]) := upd_same
    have g12 := sG2 _ _ g1
    have sG3 := new_same (o := .lst [V.ref u2]) h3
    have g13 := sG3 _ _ g12
    have g23 := sG3 _ _ gu2
    refine ⟨u3, 20000, [.ref u2], rfl, rfl, upd_same, by decide, by decide, le_sz2, fun L hL => ?_⟩
    have s4 := new_same (o := .lst (List.replicate (Int.toNat 20000) [V.ref u2]).flatten) hL
    have g14 := s4 _ _ g13
    have g24 := s4 _ _ g23
    refine ⟨_, rfl, .inr ⟨L, u2, u1, Int.toNat 20000, rfl, by decide, by decide, ?_, SqT.of g24, SqT.of g14, ⟨by decide +kernel, by decide +kernel, by decide +kernel⟩, fun u H' => ⟨rfl, ?_⟩⟩⟩
    · rw [upd_same]
      exact congrArg (fun z => some (HO.lst z)) (flat1 _)
    · exact q0 _
end
end Kx
set_option linter.all false
namespace Kx
open PySem L2 PySem.Spec PyProof.Rows
/-! what the top has left, and the law's head -/
structure Law (K : PySem.W.Frag) (mg : Str → Option Value) (fa : Addr) : Prop where
  ex : ∃ (B CB fB fD fS C CS CR fE fP fW fT c0 PT : Addr) (fdB fdD fdS fdE fdP fdW fdT : FuncData), LawOf K mg B CB fB fD fS C CS CR fE fP fW fT fdB fdD fdS fdE fdP fdW fdT ∧
    PySem.W.tabIn K "law" = some (c0, PT) ∧ K.lookup PT = none ∧ ∃ (oc kV doc pm ct : Value) (od an : Option Addr) (osl : Array (Option Value)), K.lookup fa = some ⟨oc, od, .func (PySem.W.fnOf "law" "law" (defArgs sLaw) (defBody sLaw) (defScope sLaw) .none kV doc pm an (.ref c0) ct), osl⟩ ∧ PySem.W.codeIn K (.ref c0) "law" = true
def spLaw (K : PySem.W.Frag) (PT : Addr) : Sp := fun vs H Q _ => ∃ (a : Addr) (ns : List Int), vs = [.ref a] ∧ SqL K H a (ns.map V.int) ∧ ns.length ≤ 63 ∧ H PT = some (.tbl #[]) ∧ ∀ H', Q (.bl true) H'
theorem walk {l : PySem.W.OpenLaw} {q : Program} {loose : List Str} {XP : (Str → Option Value) → Heap → Prop} {YP : World → Heap → Prop} {d : DefRec} {K : Params → PySem.W.Frag} (hn : l.most = some 63) (hdf : d.params.defaults = []) (hq : (recsOf q).find? (fun e => e.name == (Str.ofString "law")) = some d)
    (hY : ∀ (w : World) (h : Heap), YP w h → (K w.params).In h)
    (F : ∀ (w : World) (mg : Str → Option Value) (fa : Addr) (h : Heap), (K w.params).In h → h.Ns mainGlobals mg → mg d.name = some (.ref fa) → Law (K w.params) mg fa) :
    PySem.W.WalkO q loose XP YP l.row.toRowW d [] (fun f vs => PySem.call f vs) := by
  refine Att.attach_call hn hdf fun w s₀ s₁ mg mb fa o pm cd doc a vs ns G Y ho hd hcd hmg hobj hints hlen hg => ?_
  have KX := hY w _ Y
  obtain ⟨B, CB, fB, fD, fS, C, CS, CR, fE, fP, fW, fT, c0, PT, fdB, fdD, fdS, fdE, fdP, fdW, fdT, M, ht, nP, oc, kV, dc, pm', ct, od, an, osl, lk, hc⟩ := (F w mg fa _ KX G.T.g hmg).ex
  obtain ⟨t1, t2⟩ := PySem.W.tab_of G.T KX hq ht
  have one : ∀ {p : Addr × Addr}, p ∈ [(c0, PT)] → p = (c0, PT) := fun hp => List.mem_singleton.mp hp
  refine LamX.law_callTs (CX := CX0) (k := 8) (cs := [(c0, PT)]) (x := "_law_script") (fd := PySem.W.fnOf "law" "law" (defArgs sLaw) (defBody sLaw) (defScope sLaw) .none kV dc pm' an (.ref c0) ct) (sp := spLaw (K w.params) PT) KX G.T.g G.T.b G.T.builtins G.T.nolimit hg (fun p hp => by rw [one hp]; exact t2) (fun p hp => by rw [one hp]; exact nP) (fun p hp => by rw [one hp]; exact t1) G.T.bmain hobj hints
    (Nat.le_of_lt (small1000 (by omega))) ⟨rfl, by decide, by decide⟩ (fun base KB NB TB => ?_) (fun s u => .of_eq rfl) (fun H hH hS => ⟨a, ns, rfl, hS, hlen, hH _ List.mem_cons_self, fun _ => rfl⟩) (fun _ _ _ h => h)
  have TB0 := TB _ List.mem_cons_self
  refine fn_of lk hc scL (fun vs H Q E h => ?_) fun A outer s H vs Q E hr h => ?_
  · obtain ⟨a, ns, rfl, _⟩ := h
    rfl
  · obtain ⟨a, ns, rfl, hS, hl, hT, q⟩ := h
    obtain ⟨t, h1, h2⟩ := law_body (P := l.prog) (w := w) M TB0 fa A outer s H E q hr hS hl hT
    exact ⟨t, h1.nox, h2⟩
end Kx
set_option linter.all false
namespace Kx
open PySem L2 PySem.Spec PyProof.Rows

section
variable {K : PySem.W.Frag} {mg : Str → Option Value} {h : Heap} {B C : Addr}
theorem ct_mk {nm q : Str} {N : Addr} {bs : List Value} {sn : List Str} {sub : List Value} {ab : Bool} {col : Option Bool} {dd : Option Addr} {k0 k1 k2 k3 k5 : Option Value}
    (x : K.lookup C = some (excClassObj nm q C N bs (.ref B :: veL) true sn sub ab col dd k0 k1 k2 k3 k5 "ValueError.__new__")) (sa : PySem.W.findIn K (.ref C) "__setattr__" = some (some (.builtin "object.__setattr__")))
    (ga : PySem.W.findIn K (.ref C) "__getattribute__" = some (some (.builtin "BaseException.__getattribute__"))) (gg : PySem.W.findIn K (.ref C) "__getattr__" = some none) (tyC : PySem.W.typeIn K (.ref C) = some (.type "type")) (kC : PySem.W.keepIn K (.ref C) = true)
    (hdC : PySem.W.hasDictIn K C = true) (ha : PySem.W.findIn K (.ref C) "__class__" = some (some (.builtin "object.__class__"))) : Ct K B C := ⟨⟨nm, q, N, bs, sn, sub, ab, col, dd, k0, k1, k2, k3, k5, x⟩, sa, ga, gg, tyC, kC, hdC, ha⟩
theorem def_mk {x : Str} {st : Stmt} {ps : List Str} {f : Addr} {oc : Value} {od an : Option Addr} {osl : Array (Option Value)} {kV doc pm cdv ct : Value} (X : K.In h) (G : h.Ns mainGlobals mg) (m : PySem.W.nsIn K mainGlobals x = some (some (.ref f)))
    (l : K.lookup f = some ⟨oc, od, .func (PySem.W.fnOf x x (defArgs st) (defBody st) (defScope st) .none kV doc pm an cdv ct), osl⟩) (c : PySem.W.codeIn K cdv x = true) (k : PySem.W.keepIn K (.ref f) = true)
    (b : ∀ (kV doc pm : Value) (an : Option Addr) (cdv ct : Value) (us : List Value), us.length = ps.length → bindArgs (PySem.W.fnOf x x (defArgs st) (defBody st) (defScope st) .none kV doc pm an cdv ct) ⟨us, []⟩ = pure (ps.zip us)) :
    ∃ f fd, Fs K mg x st ps f fd := ⟨f, _, fun_mk l c k, (fun_mk (st := st) l c k).binds b, PySem.W.mg_of X G m⟩

theorem bad_mk {CB f : Addr} {oc : Value} {od an : Option Addr} {osl : Array (Option Value)} {kV doc pm cdv ct : Value} (T : Ct K B CB) (iC : PySem.W.findIn K (.ref CB) "__init__" = some (some (.ref f))) (tI : PySem.W.typeIn K (.ref f) = some (.type "function"))
    (l : K.lookup f = some ⟨oc, od, .func (PySem.W.fnOf "__init__" "NoClauses.__init__" (defArgs (inClass (top 3) 0)) (defBody (inClass (top 3) 0)) (defScope (inClass (top 3) 0)) .none kV doc pm an cdv ct), osl⟩) (c : PySem.W.codeIn K cdv "NoClauses.__init__" = true) (k : PySem.W.keepIn K (.ref f) = true)
    (no : ∀ x ∈ ([("at" : Str)] : List Str), PySem.W.findIn K (.ref CB) x = some none) (gm : mg "NoClauses" = some (.ref CB)) : ∃ fd, Bad K mg B CB f fd :=
  ⟨_, T, no, iC, tI, fun_mk l c k, (fun_mk (st := inClass (top 3) 0) l c k).binds (fun _ _ _ _ _ _ us hl => match us, hl with | [_, _], _ => rfl), gm⟩

theorem fun_bind {x q : Str} {st : Stmt} {ps : List Str} {f : Addr} {oc : Value} {od an : Option Addr} {osl : Array (Option Value)} {kV doc pm cdv ct : Value}
    (l : K.lookup f = some ⟨oc, od, .func (PySem.W.fnOf x q (defArgs st) (defBody st) (defScope st) .none kV doc pm an cdv ct), osl⟩) (c : PySem.W.codeIn K cdv q = true) (k : PySem.W.keepIn K (.ref f) = true)
    (b : ∀ (kV doc pm : Value) (an : Option Addr) (cdv ct : Value) (us : List Value), us.length = ps.length → bindArgs (PySem.W.fnOf x q (defArgs st) (defBody st) (defScope st) .none kV doc pm an cdv ct) ⟨us, []⟩ = pure (ps.zip us)) :
    ∃ fd, Fun K x q st f fd ∧ Binds K fd ps [] := ⟨_, fun_mk l c k, (fun_mk (st := st) l c k).binds fun kV' doc' pm' an' cdv' ct' us hl => b _ _ _ _ _ _ us hl⟩
end
theorem all_mk {K : PySem.W.Frag} {mg : Str → Option Value} {h : Heap} {B CB fB C CS CR iC iCS iCR fE fP fW fT gSet gSrc gNmd gCho gAns fa fl c0 PT : Addr} {t1 t2 t3 : Tok} {oc kV doc pm cdv ct : Value} {od an0 : Option Addr} {osl : Array (Option Value)} (X : K.In h) (G : h.Ns mainGlobals mg)
    (mC : PySem.W.nsIn K mainGlobals "Problem" = some (some (.ref C)))
    (mCS : PySem.W.nsIn K mainGlobals "Settler" = some (some (.ref CS)))
    (mCR : PySem.W.nsIn K mainGlobals "Roads" = some (some (.ref CR)))
    (mCB : PySem.W.nsIn K mainGlobals "NoClauses" = some (some (.ref CB)))
    (mB : PySem.W.nsIn K mainGlobals "ContractError" = some (some (.ref B)))
    (mML : PySem.W.nsIn K mainGlobals "MOST_LITERALS" = some (some (.int 6 t1)))
    (mMC : PySem.W.nsIn K mainGlobals "MOST_CLAUSES" = some (some (.int 20000 t2)))
    (mHub : PySem.W.nsIn K mainGlobals "HUB" = some (some (.int 100 t3)))
    (z_isinstance : PySem.W.nsIn K mainGlobals "isinstance" = some none)
    (z_int : PySem.W.nsIn K mainGlobals "int" = some none)
    (z_bool : PySem.W.nsIn K mainGlobals "bool" = some none)
    (z_str : PySem.W.nsIn K mainGlobals "str" = some none)
    (z_tuple : PySem.W.nsIn K mainGlobals "tuple" = some none)
    (z_list : PySem.W.nsIn K mainGlobals "list" = some none)
    (z_len : PySem.W.nsIn K mainGlobals "len" = some none)
    (z_all : PySem.W.nsIn K mainGlobals "all" = some none)
    (z_enumerate : PySem.W.nsIn K mainGlobals "enumerate" = some none)
    (z_repr : PySem.W.nsIn K mainGlobals "repr" = some none)
    (z_range : PySem.W.nsIn K mainGlobals "range" = some none)
    (c1C : PySem.W.plainGet K C Str.empty = true)
    (c2C : PySem.W.hasDictIn K C = true)
    (c3C : PySem.W.plainOver K C = true)
    (c4C : PySem.W.findIn K (.ref C) "__setattr__" = some (some (.builtin "object.__setattr__")))
    (k1C : PySem.W.makesIn K C = true)
    (k2C : PySem.W.findIn K (.ref C) "__init__" = some (some (.ref iC)))
    (k3C : PySem.W.isFn K (.ref iC) = true)
    (k4C : PySem.W.keepIn K (.ref C) = true)
    (nC_clauses : PySem.W.findIn K (.ref C) "clauses" = some none)
    (nC_nodes : PySem.W.findIn K (.ref C) "nodes" = some none)
    (nC_choices : PySem.W.findIn K (.ref C) "choices" = some none)
    (nC_into : PySem.W.findIn K (.ref C) "into" = some none)
    (c1CS : PySem.W.plainGet K CS Str.empty = true)
    (c2CS : PySem.W.hasDictIn K CS = true)
    (c3CS : PySem.W.plainOver K CS = true)
    (c4CS : PySem.W.findIn K (.ref CS) "__setattr__" = some (some (.builtin "object.__setattr__")))
    (k1CS : PySem.W.makesIn K CS = true)
    (k2CS : PySem.W.findIn K (.ref CS) "__init__" = some (some (.ref iCS)))
    (k3CS : PySem.W.isFn K (.ref iCS) = true)
    (k4CS : PySem.W.keepIn K (.ref CS) = true)
    (nCS_into : PySem.W.findIn K (.ref CS) "into" = some none)
    (nCS_heights : PySem.W.findIn K (.ref CS) "heights" = some none)
    (nCS_edges : PySem.W.findIn K (.ref CS) "edges" = some none)
    (nCS_depths : PySem.W.findIn K (.ref CS) "depths" = some none)
    (nCS_after : PySem.W.findIn K (.ref CS) "after" = some none)
    (nCS_before : PySem.W.findIn K (.ref CS) "before" = some none)
    (nCS_waits : PySem.W.findIn K (.ref CS) "waits" = some none)
    (nCS_later : PySem.W.findIn K (.ref CS) "later" = some none)
    (nCS_hubs : PySem.W.findIn K (.ref CS) "hubs" = some none)
    (c1CR : PySem.W.plainGet K CR Str.empty = true)
    (c2CR : PySem.W.hasDictIn K CR = true)
    (c3CR : PySem.W.plainOver K CR = true)
    (c4CR : PySem.W.findIn K (.ref CR) "__setattr__" = some (some (.builtin "object.__setattr__")))
    (k1CR : PySem.W.makesIn K CR = true)
    (k2CR : PySem.W.findIn K (.ref CR) "__init__" = some (some (.ref iCR)))
    (k3CR : PySem.W.isFn K (.ref iCR) = true)
    (k4CR : PySem.W.keepIn K (.ref CR) = true)
    (nCR_into : PySem.W.findIn K (.ref CR) "into" = some none)
    (nCR_heights : PySem.W.findIn K (.ref CR) "heights" = some none)
    (nCR_wanted : PySem.W.findIn K (.ref CR) "wanted" = some none)
    (nCR_lengths : PySem.W.findIn K (.ref CR) "lengths" = some none)
    (nCR_edges : PySem.W.findIn K (.ref CR) "edges" = some none)
    (nCR_known : PySem.W.findIn K (.ref CR) "known" = some none)
    (afE : PySem.W.findIn K (.ref C) "_edge" = some (some (.ref fE)))
    (ifE : PySem.W.isFn K (.ref fE) = true)
    (kfE : PySem.W.keepIn K (.ref fE) = true)
    (afP : PySem.W.findIn K (.ref C) "_put" = some (some (.ref fP)))
    (ifP : PySem.W.isFn K (.ref fP) = true)
    (kfP : PySem.W.keepIn K (.ref fP) = true)
    (afW : PySem.W.findIn K (.ref CS) "_wait" = some (some (.ref fW)))
    (ifW : PySem.W.isFn K (.ref fW) = true)
    (kfW : PySem.W.keepIn K (.ref fW) = true)
    (afT : PySem.W.findIn K (.ref CS) "_scan" = some (some (.ref fT)))
    (ifT : PySem.W.isFn K (.ref fT) = true)
    (kfT : PySem.W.keepIn K (.ref fT) = true)
    (agSet : PySem.W.findIn K (.ref CS) "settle" = some (some (.ref gSet)))
    (igSet : PySem.W.isFn K (.ref gSet) = true)
    (kgSet : PySem.W.keepIn K (.ref gSet) = true)
    (agSrc : PySem.W.findIn K (.ref C) "_sources" = some (some (.ref gSrc)))
    (igSrc : PySem.W.isFn K (.ref gSrc) = true)
    (kgSrc : PySem.W.keepIn K (.ref gSrc) = true)
    (agNmd : PySem.W.findIn K (.ref C) "_named" = some (some (.ref gNmd)))
    (igNmd : PySem.W.isFn K (.ref gNmd) = true)
    (kgNmd : PySem.W.keepIn K (.ref gNmd) = true)
    (agCho : PySem.W.findIn K (.ref C) "_choose" = some (some (.ref gCho)))
    (igCho : PySem.W.isFn K (.ref gCho) = true)
    (kgCho : PySem.W.keepIn K (.ref gCho) = true)
    (agAns : PySem.W.findIn K (.ref C) "answer" = some (some (.ref gAns)))
    (igAns : PySem.W.isFn K (.ref gAns) = true)
    (kgAns : PySem.W.keepIn K (.ref gAns) = true)
    (y2 : PySem.W.specialIn K (.builtin "object.__class__") "__get__" = some (some (.builtin "getset_descriptor.__get__")))
    (y3 : PySem.W.takesIn K (.builtin "object.__class__") = some true)
    (g3 : PySem.W.isClsIn K B = true)
    (g4 : PySem.W.typeIn K (.ref B) = some (.type "type"))
    (g5 : PySem.W.subIn K (.ref B) (.type "BaseException") = some true)
    (g6 : PySem.W.hasDictIn K B = true)
    (bad : mg "NoClauses" = some (.ref CB) → ∃ fd, Bad K mg B CB fB fd)
    (fiC : ∃ fd, Fun K "__init__" "Problem.__init__" sPin iC fd ∧ Binds K fd ["self", "clauses"] [])
    (fiCS : ∃ fd, Fun K "__init__" "Settler.__init__" sSin iCS fd ∧ Binds K fd ["self", "into", "heights"] [])
    (fiCR : ∃ fd, Fun K "__init__" "Roads.__init__" sRin iCR fd ∧ Binds K fd ["self", "into", "heights", "wanted"] [])
    (fmfE : ∃ fd, Fun K "_edge" "Problem._edge" sEdge fE fd ∧ Binds K fd ["self", "index", "j"] [])
    (fmfP : ∃ fd, Fun K "_put" "Problem._put" sPut fP fd ∧ Binds K fd ["self", "into", "edge"] [])
    (fmfW : ∃ fd, Fun K "_wait" "Settler._wait" sWait fW fd ∧ Binds K fd ["self", "node"] [])
    (fmfT : ∃ fd, Fun K "_scan" "Settler._scan" sScan fT fd ∧ Binds K fd ["self", "node"] [])
    (fmgSet : ∃ fd, Fun K "settle" "Settler.settle" sSet gSet fd ∧ Binds K fd ["self", "nodes"] [])
    (fmgSrc : ∃ fd, Fun K "_sources" "Problem._sources" sSrc gSrc fd ∧ Binds K fd ["self"] [])
    (fmgNmd : ∃ fd, Fun K "_named" "Problem._named" sNmd gNmd fd ∧ Binds K fd ["self", "heights"] [])
    (fmgCho : ∃ fd, Fun K "_choose" "Problem._choose" sCho gCho fd ∧ Binds K fd ["self", "settled"] [])
    (fmgAns : ∃ fd, Fun K "answer" "Problem.answer" sAns gAns fd ∧ Binds K fd ["self"] [])
    (d_int : ∃ f fd, Fs K mg "is_integer" sIsInt ["thing"] f fd)
    (d_lit : ∃ f fd, Fs K mg "is_literal" sIsLit ["thing"] f fd)
    (d_cl : ∃ f fd, Fs K mg "is_clause" sIsCl ["thing", "most"] f fd)
    (d_chk : ∃ f fd, Fs K mg "_check_clauses" sChk ["clauses"] f fd)
    (d_neg : ∃ f fd, Fs K mg "negated" sNeg ["clause"] f fd)
    (d_clo : ∃ f fd, Fs K mg "closes" sClo ["clauses", "tree"] f fd)
    (d_dec : ∃ f fd, Fs K mg "decide" sDec ["clauses"] f fd)
    (d_well : ∃ f fd, Fs K mg "_law_well" sWell ["_law_cell"] f fd)
    (d_draw : ∃ f fd, Fs K mg "_law_draw" sDraw ["_law_well_here", "_law_base"] f fd)
    (d_one : ∃ f fd, Fs K mg "_law_one" sOne ["_law_well_here", "_law_some"] f fd)
    (d_clD : ∃ f fd, Fs K mg "_law_clause" sClD ["_law_well_here"] f fd)
    (d_odd : ∃ f fd, Fs K mg "_law_odd" sOdd ["_law_well_here", "_law_clause_here"] f fd)
    (d_said : ∃ f fd, Fs K mg "_law_said" sSaid ["_law_ask"] f fd)
    (hfa : mg "law" = some (.ref fa)) (mL : PySem.W.nsIn K mainGlobals "law" = some (some (.ref fl))) (lL : K.lookup fl = some ⟨oc, od, .func (PySem.W.fnOf "law" "law" (defArgs sLaw) (defBody sLaw) (defScope sLaw) .none kV doc pm an0 cdv ct), osl⟩) (cL : PySem.W.codeIn K cdv "law" = true) (tcd : cdv = .ref c0) (tb1 : K.lookup c0 = some ⟨xc1, xc2, .fields xvs, xc4⟩) (tb2 : (xvs[11]? : Option Value) = some (.ref PT)) (nPT : (K.lookup PT).isNone = true) : Law K mg fa := by
  have e := hfa.symm.trans (PySem.W.mg_of X G mL)
  cases e
  obtain ⟨fdB, bad⟩ := bad (PySem.W.mg_of X G mCB)
  have T : Bx mg := ⟨PySem.W.mg_none_of X G z_isinstance, PySem.W.mg_none_of X G z_int, PySem.W.mg_none_of X G z_bool, PySem.W.mg_none_of X G z_str, PySem.W.mg_none_of X G z_tuple, PySem.W.mg_none_of X G z_list, PySem.W.mg_none_of X G z_len, PySem.W.mg_none_of X G z_all, PySem.W.mg_none_of X G z_enumerate⟩
  have gt : Gt K B := ⟨y2, y3, by unfold PySem.W.isClsIn at g3; exact g3, g4, g5, g6⟩
  obtain ⟨fdIC, fiC, biC⟩ := fiC
  obtain ⟨fdICS, fiCS, biCS⟩ := fiCS
  obtain ⟨fdICR, fiCR, biCR⟩ := fiCR
  obtain ⟨fdfE, fmfE, bmfE⟩ := fmfE
  obtain ⟨fdfP, fmfP, bmfP⟩ := fmfP
  obtain ⟨fdfW, fmfW, bmfW⟩ := fmfW
  obtain ⟨fdfT, fmfT, bmfT⟩ := fmfT
  obtain ⟨fdgSet, fmgSet, bmgSet⟩ := fmgSet
  obtain ⟨fdgSrc, fmgSrc, bmgSrc⟩ := fmgSrc
  obtain ⟨fdgNmd, fmgNmd, bmgNmd⟩ := fmgNmd
  obtain ⟨fdgCho, fmgCho, bmgCho⟩ := fmgCho
  obtain ⟨fdgAns, fmgAns, bmgAns⟩ := fmgAns
  obtain ⟨fD, fdD, d_dec⟩ := d_dec
  obtain ⟨fS, fdS, d_said⟩ := d_said
  have noC : Pb K C := by
    refine ⟨⟨c1C, c2C, c3C, c4C⟩, fun x hx => ?_⟩
    have hx : x ∈ (["clauses", "nodes", "choices", "into"] : List Str) := hx
    simp only [List.mem_cons, List.not_mem_nil, or_false] at hx
    rcases hx with rfl | rfl | rfl | rfl
    · exact nC_clauses
    · exact nC_nodes
    · exact nC_choices
    · exact nC_into
  have noCS : Sb K CS := by
    refine ⟨⟨c1CS, c2CS, c3CS, c4CS⟩, fun x hx => ?_⟩
    have hx : x ∈ (["into", "heights", "edges", "depths", "after", "before", "waits", "later", "hubs"] : List Str) := hx
    simp only [List.mem_cons, List.not_mem_nil, or_false] at hx
    rcases hx with rfl | rfl | rfl | rfl | rfl | rfl | rfl | rfl | rfl
    · exact nCS_into
    · exact nCS_heights
    · exact nCS_edges
    · exact nCS_depths
    · exact nCS_after
    · exact nCS_before
    · exact nCS_waits
    · exact nCS_later
    · exact nCS_hubs
  have noCR : Rb K CR := by
    refine ⟨⟨c1CR, c2CR, c3CR, c4CR⟩, fun x hx => ?_⟩
    have hx : x ∈ (["into", "heights", "wanted", "lengths", "edges", "known"] : List Str) := hx
    simp only [List.mem_cons, List.not_mem_nil, or_false] at hx
    rcases hx with rfl | rfl | rfl | rfl | rfl | rfl
    · exact nCR_into
    · exact nCR_heights
    · exact nCR_wanted
    · exact nCR_lengths
    · exact nCR_edges
    · exact nCR_known
  have W : Way K mg C CS CR fE fP fW fT fdfE fdfP fdfW fdfT := ⟨⟨noC, ⟨afE, ifE, kfE⟩, fmfE, bmfE, ⟨afP, ifP, kfP⟩, fmfP, bmfP⟩, ⟨noCS, ⟨afW, ifW, kfW⟩, fmfW, bmfW, ⟨afT, ifT, kfT⟩, fmfT, bmfT⟩, noCR, T, PySem.W.mg_none_of X G z_range, ⟨_, PySem.W.mg_of X G mHub⟩, PySem.W.mg_of X G mC, PySem.W.mg_of X G mCS, PySem.W.mg_of X G mCR,
    ⟨_, _, ⟨k1C, k2C, k3C, k4C⟩, fiC, biC⟩, ⟨_, _, ⟨k1CS, k2CS, k3CS, k4CS⟩, fiCS, biCS⟩, ⟨_, _, ⟨k1CR, k2CR, k3CR, k4CR⟩, fiCR, biCR⟩,
    ⟨_, _, ⟨agSet, igSet, kgSet⟩, fmgSet, bmgSet⟩, ⟨_, _, ⟨agSrc, igSrc, kgSrc⟩, fmgSrc, bmgSrc⟩, ⟨_, _, ⟨agNmd, igNmd, kgNmd⟩, fmgNmd, bmgNmd⟩, ⟨_, _, ⟨agCho, igCho, kgCho⟩, fmgCho, bmgCho⟩, ⟨_, _, ⟨agAns, igAns, kgAns⟩, fmgAns, bmgAns⟩⟩
  have FM : Fm K mg := ⟨T, ⟨_, PySem.W.mg_of X G mMC⟩, ⟨_, PySem.W.mg_of X G mML⟩, d_int, d_lit, d_cl⟩
  have D : Drw K mg := ⟨⟨PySem.W.mg_none_of X G z_int, PySem.W.mg_none_of X G z_len⟩, d_well, d_draw, d_one⟩
  have tb : PySem.W.tabIn K "law" = some (c0, PT) := by
    unfold PySem.W.tabIn
    rw [mL]
    dsimp only
    rw [lL]
    show (match cdv with | .ref c => _ | _ => none) = _
    rw [tcd]
    dsimp only
    rw [tb1]
    dsimp only
    rw [tb2]
  subst tcd
  exact ⟨⟨B, CB, fB, fD, fS, C, CS, CR, fE, fP, fW, fT, c0, PT, fdB, fdD, fdS, fdfE, fdfP, fdfW, fdfT, ⟨T, bad, gt, PySem.W.mg_of X G mB, PySem.W.mg_none_of X G z_repr, PySem.W.mg_none_of X G z_range, FM, W, D, d_chk, d_neg, d_clo, d_dec, d_clD, d_odd, d_said⟩, tb, Option.isNone_iff_eq_none.mp nPT, oc, kV, doc, pm, ct, od, an0, osl, lL, cL⟩⟩
end Kx
open PySem PySem.W PyProof.Rows
set_option maxRecDepth 100000 in
set_option maxHeartbeats 0 in
theorem PySem.Challenge.cw_contractheirs_k08_clauses_negated_and_re_holds : PySem.Challenge.rw_contractheirs_k08_clauses_negated_and_re.Holds := by
  w_on; o_law; k_head; (case hw => w_witness2)
  k_fill
  refine Kx.walk (l := PySem.Challenge.rw_contractheirs_k08_clauses_negated_and_re) rfl rfl rfl (fun w h Y => PySem.W.km_in_of Y) ?F
  case F =>
    intro w mg fa h KX G hmg
    refine' Kx.all_mk KX G ?h_mC ?h_mCS ?h_mCR ?h_mCB ?h_mB ?h_mML ?h_mMC ?h_mHub ?h_z_isinstance ?h_z_int ?h_z_bool ?h_z_str ?h_z_tuple ?h_z_list ?h_z_len ?h_z_all ?h_z_enumerate ?h_z_repr ?h_z_range ?h_c1C ?h_c2C ?h_c3C ?h_c4C ?h_k1C ?h_k2C ?h_k3C ?h_k4C ?h_nC_clauses ?h_nC_nodes ?h_nC_choices ?h_nC_into ?h_c1CS ?h_c2CS ?h_c3CS ?h_c4CS ?h_k1CS ?h_k2CS ?h_k3CS ?h_k4CS ?h_nCS_into ?h_nCS_heights ?h_nCS_edges ?h_nCS_depths ?h_nCS_after ?h_nCS_before ?h_nCS_waits ?h_nCS_later ?h_nCS_hubs ?h_c1CR ?h_c2CR ?h_c3CR ?h_c4CR ?h_k1CR ?h_k2CR ?h_k3CR ?h_k4CR ?h_nCR_into ?h_nCR_heights ?h_nCR_wanted ?h_nCR_lengths ?h_nCR_edges ?h_nCR_known ?h_afE ?h_ifE ?h_kfE ?h_afP ?h_ifP ?h_kfP ?h_afW ?h_ifW ?h_kfW ?h_afT ?h_ifT ?h_kfT ?h_agSet ?h_igSet ?h_kgSet ?h_agSrc ?h_igSrc ?h_kgSrc ?h_agNmd ?h_igNmd ?h_kgNmd ?h_agCho ?h_igCho ?h_kgCho ?h_agAns ?h_igAns ?h_kgAns ?h_y2 ?h_y3 ?h_g3 ?h_g4 ?h_g5 ?h_g6 (fun gm => Kx.bad_mk (Kx.ct_mk ?ux ?ua ?ub ?uc ?ue ?uf ?ug ?uh) ?ui ?uj ?uk ?ul ?um ?uo gm) (Kx.fun_bind ?giCa ?giCb ?giCc (fun _ _ _ _ _ _ us hl => match us, hl with | [_, _], _ => rfl)) (Kx.fun_bind ?giCSa ?giCSb ?giCSc (fun _ _ _ _ _ _ us hl => match us, hl with | [_, _, _], _ => rfl)) (Kx.fun_bind ?giCRa ?giCRb ?giCRc (fun _ _ _ _ _ _ us hl => match us, hl with | [_, _, _, _], _ => rfl)) (Kx.fun_bind ?gmfEa ?gmfEb ?gmfEc (fun _ _ _ _ _ _ us hl => match us, hl with | [_, _, _], _ => rfl)) (Kx.fun_bind ?gmfPa ?gmfPb ?gmfPc (fun _ _ _ _ _ _ us hl => match us, hl with | [_, _, _], _ => rfl)) (Kx.fun_bind ?gmfWa ?gmfWb ?gmfWc (fun _ _ _ _ _ _ us hl => match us, hl with | [_, _], _ => rfl)) (Kx.fun_bind ?gmfTa ?gmfTb ?gmfTc (fun _ _ _ _ _ _ us hl => match us, hl with | [_, _], _ => rfl)) (Kx.fun_bind ?gmgSeta ?gmgSetb ?gmgSetc (fun _ _ _ _ _ _ us hl => match us, hl with | [_, _], _ => rfl)) (Kx.fun_bind ?gmgSrca ?gmgSrcb ?gmgSrcc (fun _ _ _ _ _ _ us hl => match us, hl with | [_], _ => rfl)) (Kx.fun_bind ?gmgNmda ?gmgNmdb ?gmgNmdc (fun _ _ _ _ _ _ us hl => match us, hl with | [_, _], _ => rfl)) (Kx.fun_bind ?gmgChoa ?gmgChob ?gmgChoc (fun _ _ _ _ _ _ us hl => match us, hl with | [_, _], _ => rfl)) (Kx.fun_bind ?gmgAnsa ?gmgAnsb ?gmgAnsc (fun _ _ _ _ _ _ us hl => match us, hl with | [_], _ => rfl)) (Kx.def_mk KX G ?uda0 ?udb0 ?udc0 ?udd0 (fun _ _ _ _ _ _ us hl => match us, hl with | [_], _ => rfl)) (Kx.def_mk KX G ?uda1 ?udb1 ?udc1 ?udd1 (fun _ _ _ _ _ _ us hl => match us, hl with | [_], _ => rfl)) (Kx.def_mk KX G ?uda2 ?udb2 ?udc2 ?udd2 (fun _ _ _ _ _ _ us hl => match us, hl with | [_, _], _ => rfl)) (Kx.def_mk KX G ?uda3 ?udb3 ?udc3 ?udd3 (fun _ _ _ _ _ _ us hl => match us, hl with | [_], _ => rfl)) (Kx.def_mk KX G ?uda4 ?udb4 ?udc4 ?udd4 (fun _ _ _ _ _ _ us hl => match us, hl with | [_], _ => rfl)) (Kx.def_mk KX G ?uda5 ?udb5 ?udc5 ?udd5 (fun _ _ _ _ _ _ us hl => match us, hl with | [_, _], _ => rfl)) (Kx.def_mk KX G ?uda6 ?udb6 ?udc6 ?udd6 (fun _ _ _ _ _ _ us hl => match us, hl with | [_], _ => rfl)) (Kx.def_mk KX G ?uda7 ?udb7 ?udc7 ?udd7 (fun _ _ _ _ _ _ us hl => match us, hl with | [_], _ => rfl)) (Kx.def_mk KX G ?uda8 ?udb8 ?udc8 ?udd8 (fun _ _ _ _ _ _ us hl => match us, hl with | [_, _], _ => rfl)) (Kx.def_mk KX G ?uda9 ?udb9 ?udc9 ?udd9 (fun _ _ _ _ _ _ us hl => match us, hl with | [_, _], _ => rfl)) (Kx.def_mk KX G ?uda10 ?udb10 ?udc10 ?udd10 (fun _ _ _ _ _ _ us hl => match us, hl with | [_], _ => rfl)) (Kx.def_mk KX G ?uda11 ?udb11 ?udc11 ?udd11 (fun _ _ _ _ _ _ us hl => match us, hl with | [_, _], _ => rfl)) (Kx.def_mk KX G ?uda12 ?udb12 ?udc12 ?udd12 (fun _ _ _ _ _ _ us hl => match us, hl with | [_], _ => rfl)) hmg ?umL ?ulL ?ucL ?utcd ?utb1 ?utb2 ?unPT
    (case h_mC => k_is)
    (case h_mCS => k_is)
    (case h_mCR => k_is)
    (case h_mCB => k_is)
    (case h_mB => k_is)
    (case h_mML => k_is)
    (case h_mMC => k_is)
    (case h_mHub => k_is)
    (case h_z_isinstance => k_is)
    (case h_z_int => k_is)
    (case h_z_bool => k_is)
    (case h_z_str => k_is)
    (case h_z_tuple => k_is)
    (case h_z_list => k_is)
    (case h_z_len => k_is)
    (case h_z_all => k_is)
    (case h_z_enumerate => k_is)
    (case h_z_repr => k_is)
    (case h_z_range => k_is)
    (case h_c1C => k_is)
    (case h_c2C => k_is)
    (case h_c3C => k_is)
    (case h_c4C => k_is)
    (case h_k1C => k_is)
    (case h_k2C => k_is)
    (case h_k3C => k_is)
    (case h_k4C => k_is)
    (case h_nC_clauses => k_is)
    (case h_nC_nodes => k_is)
    (case h_nC_choices => k_is)
    (case h_nC_into => k_is)
    (case h_c1CS => k_is)
    (case h_c2CS => k_is)
    (case h_c3CS => k_is)
    (case h_c4CS => k_is)
    (case h_k1CS => k_is)
    (case h_k2CS => k_is)
    (case h_k3CS => k_is)
    (case h_k4CS => k_is)
    (case h_nCS_into => k_is)
    (case h_nCS_heights => k_is)
    (case h_nCS_edges => k_is)
    (case h_nCS_depths => k_is)
    (case h_nCS_after => k_is)
    (case h_nCS_before => k_is)
    (case h_nCS_waits => k_is)
    (case h_nCS_later => k_is)
    (case h_nCS_hubs => k_is)
    (case h_c1CR => k_is)
    (case h_c2CR => k_is)
    (case h_c3CR => k_is)
    (case h_c4CR => k_is)
    (case h_k1CR => k_is)
    (case h_k2CR => k_is)
    (case h_k3CR => k_is)
    (case h_k4CR => k_is)
    (case h_nCR_into => k_is)
    (case h_nCR_heights => k_is)
    (case h_nCR_wanted => k_is)
    (case h_nCR_lengths => k_is)
    (case h_nCR_edges => k_is)
    (case h_nCR_known => k_is)
    (case h_afE => k_is)
    (case h_ifE => k_is)
    (case h_kfE => k_is)
    (case h_afP => k_is)
    (case h_ifP => k_is)
    (case h_kfP => k_is)
    (case h_afW => k_is)
    (case h_ifW => k_is)
    (case h_kfW => k_is)
    (case h_afT => k_is)
    (case h_ifT => k_is)
    (case h_kfT => k_is)
    (case h_agSet => k_is)
    (case h_igSet => k_is)
    (case h_kgSet => k_is)
    (case h_agSrc => k_is)
    (case h_igSrc => k_is)
    (case h_kgSrc => k_is)
    (case h_agNmd => k_is)
    (case h_igNmd => k_is)
    (case h_kgNmd => k_is)
    (case h_agCho => k_is)
    (case h_igCho => k_is)
    (case h_kgCho => k_is)
    (case h_agAns => k_is)
    (case h_igAns => k_is)
    (case h_kgAns => k_is)
    (case h_y2 => k_is)
    (case h_y3 => k_is)
    (case h_g3 => k_is)
    (case h_g4 => k_is)
    (case h_g5 => k_is)
    (case h_g6 => k_is)
    (case ux => k_is)
    (case ua => k_is)
    (case ub => k_is)
    (case uc => k_is)
    (case ue => k_is)
    (case uf => k_is)
    (case ug => k_is)
    (case uh => k_is)
    (case ui => k_is)
    (case uj => k_is)
    (case uk => k_is)
    (case ul => k_is)
    (case um => k_is)
    (case uo => (intro x hx; cases List.mem_singleton.mp hx; k_is))
    (case giCa => k_is)
    (case giCb => k_is)
    (case giCc => k_is)
    (case giCSa => k_is)
    (case giCSb => k_is)
    (case giCSc => k_is)
    (case giCRa => k_is)
    (case giCRb => k_is)
    (case giCRc => k_is)
    (case gmfEa => k_is)
    (case gmfEb => k_is)
    (case gmfEc => k_is)
    (case gmfPa => k_is)
    (case gmfPb => k_is)
    (case gmfPc => k_is)
    (case gmfWa => k_is)
    (case gmfWb => k_is)
    (case gmfWc => k_is)
    (case gmfTa => k_is)
    (case gmfTb => k_is)
    (case gmfTc => k_is)
    (case gmgSeta => k_is)
    (case gmgSetb => k_is)
    (case gmgSetc => k_is)
    (case gmgSrca => k_is)
    (case gmgSrcb => k_is)
    (case gmgSrcc => k_is)
    (case gmgNmda => k_is)
    (case gmgNmdb => k_is)
    (case gmgNmdc => k_is)
    (case gmgChoa => k_is)
    (case gmgChob => k_is)
    (case gmgChoc => k_is)
    (case gmgAnsa => k_is)
    (case gmgAnsb => k_is)
    (case gmgAnsc => k_is)
    (case uda0 => k_is)
    (case udb0 => k_is)
    (case udc0 => k_is)
    (case udd0 => k_is)
    (case uda1 => k_is)
    (case udb1 => k_is)
    (case udc1 => k_is)
    (case udd1 => k_is)
    (case uda2 => k_is)
    (case udb2 => k_is)
    (case udc2 => k_is)
    (case udd2 => k_is)
    (case uda3 => k_is)
    (case udb3 => k_is)
    (case udc3 => k_is)
    (case udd3 => k_is)
    (case uda4 => k_is)
    (case udb4 => k_is)
    (case udc4 => k_is)
    (case udd4 => k_is)
    (case uda5 => k_is)
    (case udb5 => k_is)
    (case udc5 => k_is)
    (case udd5 => k_is)
    (case uda6 => k_is)
    (case udb6 => k_is)
    (case udc6 => k_is)
    (case udd6 => k_is)
    (case uda7 => k_is)
    (case udb7 => k_is)
    (case udc7 => k_is)
    (case udd7 => k_is)
    (case uda8 => k_is)
    (case udb8 => k_is)
    (case udc8 => k_is)
    (case udd8 => k_is)
    (case uda9 => k_is)
    (case udb9 => k_is)
    (case udc9 => k_is)
    (case udd9 => k_is)
    (case uda10 => k_is)
    (case udb10 => k_is)
    (case udc10 => k_is)
    (case udd10 => k_is)
    (case uda11 => k_is)
    (case udb11 => k_is)
    (case udc11 => k_is)
    (case udd11 => k_is)
    (case uda12 => k_is)
    (case udb12 => k_is)
    (case udc12 => k_is)
    (case udd12 => k_is)
    (case umL => k_is)
    (case ulL => k_is)
    (case ucL => k_is)
    (case utcd => rfl)
    (case utb1 => k_is)
    (case utb2 => rfl)
    (case unPT => first | rfl | with_unfolding_all rfl | decide +kernel)
